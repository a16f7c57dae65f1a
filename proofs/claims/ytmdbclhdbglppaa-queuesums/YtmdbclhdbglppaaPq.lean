/- Contract of the program's Put, whatever it answers. -/
import Derived.Test.YtmdbclhdbglppaaPe
import Derived.Test.YtmdbclhdbglppaaPg
import Derived.Test.YtmdbclhdbglppaaRd
namespace Go.Proofs.Ytmdbclhdbglppaa
open Go.RowKit Go.PlainAid

theorem putQ (p : Addr) (S : Nat → Prop) (n : Nat) (L : List Wt) (ls : List Nat) (k : Int) (K : Nat → Prop) (ab : Option Addr) (nb cb : Nat) (b : List Int) (w : World) (H : PQ w p S n L ls) (_ : L.length ≤ 50000) (hs : ∀ j : Nat, ls[j]?.getD 0 ≤ 1000000) (hb : By w K ab nb cb b) (hnb : nb ≤ 140737488355328) :
    Calls Try.prog 16 #[.pointer (some p), .int .i64 k, .slice ab nb cb] w fun e w' => e = .returned (.int .i64 (pE n L k)) ∧ (∃ S', PQ w' p S' n (pL n L k b) (pG n L ls k) ∧ ∀ i, S' i → S i ∨ w.heap.size ≤ i) ∧ Chg S w w' := by
  rcases Bool.eq_false_or_eq_true (isC k) with hc | hc
  · obtain ⟨g, T, SV, rfl, HX⟩ := H
    obtain ⟨q, rfl, hq⟩ := isC_nat hc
    by_cases hf : n ≤ cnt L q
    · have e := pE_full hc hf
      refine (putQ_full g T S n SV L ls q ab nb cb w HX hq hf (hs q)).mono ?_
      rintro e1 w1 ⟨h1, h2, h3⟩
      refine ⟨by rw [e]; exact h1, ⟨S, ⟨g, T, SV, rfl, ?_⟩, fun i hi => Or.inl hi⟩, h3⟩
      rw [pL, pG, e]
      exact h2
    · have e := pE_ok hc hf
      refine (putQ_ok g T S n SV L ls q ab nb cb b w K HX hq hf hb hnb).mono ?_
      rintro e1 w1 ⟨h1, ⟨T', S', SV', h2, h3⟩, h4⟩
      refine ⟨by rw [e]; exact h1, ⟨S', ⟨g, T', SV', rfl, ?_⟩, h3⟩, h4⟩
      rw [pL, pG, e]
      exact h2
  · have e := pE_out (n := n) (L := L) hc
    refine (putQ_out p k ab nb cb w hc).mono ?_
    rintro e1 w1 ⟨h1, rfl⟩
    refine ⟨by rw [e]; exact h1, ⟨S, ?_, fun i hi => Or.inl hi⟩, Chg.refl _ _⟩
    rw [pL, pG, e]
    exact H
end Go.Proofs.Ytmdbclhdbglppaa
