/- The program's journal in memory; contracts of place, Last, New. -/
import Derived.Test.YtjlmheecefobaaaC3
import Derived.Laws.MakeOwn
namespace Go.Proofs.Ytjlmheecefobaaa
open Go.RowKit Go.PlainAid

/-- All changes of a journal of n places: the numbers are those of the order; the places hold the last ones. -/
structure Jw (n : Nat) (pl cs : List Ch) : Prop where
  n1 : 1 ≤ n
  n2 : n ≤ 1000
  len : pl.length = n
  sq : ∀ (i : Nat) (c : Ch), cs[i]? = some c → c.q = ((i + 1 : Nat) : Int)
  at_ : ∀ (i : Nat) (c : Ch), cs[i]? = some c → cs.length ≤ i + n → pl[(i + 1) % n]? = some c
def jcl (h n s : Nat) : List Value := [.slice (some ⟨h, 0, none⟩) n n, .int .i64 s]
structure PJ (w : World) (h n : Nat) (pl cs : List Ch) : Prop where
  bx : Box w (h + 1) (jcl h n cs.length)
  pb : Box w h (chs pl)
  wf : Jw n pl cs
theorem PJ.keep {w w1 : World} {h n : Nat} {pl cs : List Ch} (H : PJ w h n pl cs) (e : ∀ k, h ≤ k → k < h + 2 → w1.heap[k]? = w.heap[k]?) : PJ w1 h n pl cs :=
  ⟨H.bx.block (e _ (by omega) (by omega)), H.pb.block (e _ (by omega) (by omega)), H.wf⟩
theorem PJ.lt {w : World} {h n : Nat} {pl cs : List Ch} (H : PJ w h n pl cs) : h + 2 ≤ w.heap.size := by have := H.bx.lt; omega
theorem PJ.below {w w1 : World} {h n g : Nat} {pl cs : List Ch} (H : PJ w h n pl cs) (hb : Below g w w1) (hg : h + 2 ≤ g) : PJ w1 h n pl cs := H.keep (fun k _ h2 => hb.block k (by omega))
theorem PJ.on {w w1 : World} {h n : Nat} {pl cs : List Ch} (H : PJ w h n pl cs) (hb : Below w.heap.size w w1) : PJ w1 h n pl cs := H.below hb H.lt
theorem PJ.mid {w w1 : World} {h n N M : Nat} {pl cs : List Ch} (H : PJ w h n pl cs) (hb : Mid N M w w1) (hd : h + 2 ≤ N ∨ M ≤ h) : PJ w1 h n pl cs := by
  have hl := H.lt
  exact H.keep (fun k h1 h2 => hb.block k (by omega) (by omega))
theorem PJ.drewN {w : World} {h n : Nat} {pl cs : List Ch} (H : PJ w h n pl cs) (q : Nat) : PJ (w.drewN q) h n pl cs := H.keep (fun _ _ _ => rfl)
theorem jw_zero (n : Nat) (h1 : 1 ≤ n) (h2 : n ≤ 1000) : Jw n (List.replicate n zC) [] :=
  ⟨h1, h2, List.length_replicate, fun i c h => by simp at h, fun i c h => by simp at h⟩
/-- One more. -/
theorem jw_put {n : Nat} {pl cs : List Ch} (H : Jw n pl cs) (x : En) (g : Bool) : Jw n (pl.set ((cs.length + 1) % n) ⟨((cs.length + 1 : Nat) : Int), x, g⟩) (cs ++ [⟨((cs.length + 1 : Nat) : Int), x, g⟩]) := by
  have hn := H.n1
  have hlt : (cs.length + 1) % n < n := Nat.mod_lt _ (by omega)
  refine ⟨H.n1, H.n2, by rw [List.length_set]; exact H.len, fun i c hi => ?_, fun i c hi hl => ?_⟩
  · by_cases h : i < cs.length
    · rw [List.getElem?_append_left h] at hi
      exact H.sq i c hi
    · have := (List.getElem?_eq_some_iff.1 hi).1
      simp at this
      obtain rfl : i = cs.length := by omega
      rw [List.getElem?_append_right (by omega)] at hi
      simp at hi
      subst hi; rfl
  · rw [List.length_append] at hl
    simp at hl
    by_cases h : i < cs.length
    · rw [List.getElem?_append_left h] at hi
      have h1 := H.at_ i c hi (by omega)
      have hne : (cs.length + 1) % n ≠ (i + 1) % n := fun e => by
        have h3 : ((cs.length + 1) - (i + 1)) % n = 0 := Nat.sub_mod_eq_zero_of_mod_eq e
        have h4 : (cs.length + 1) - (i + 1) < n := by omega
        rw [Nat.mod_eq_of_lt h4] at h3
        omega
      rw [List.getElem?_set_ne hne]
      exact h1
    · have := (List.getElem?_eq_some_iff.1 hi).1
      simp at this
      obtain rfl : i = cs.length := by omega
      rw [List.getElem?_append_right (by omega)] at hi
      simp at hi
      subst hi
      rw [List.getElem?_set_self (by rw [H.len]; exact hlt)]; simp
set_option maxRecDepth 100000 in
set_option maxHeartbeats 1000000 in
theorem place31 (h n s k : Nat) (w : World) (H : Box w (h + 1) (jcl h n s)) (h1 : 1 ≤ n) (h2 : n ≤ 1000) (hk : k ≤ 1073741824) :
    Calls Try.prog 31 #[.pointer (some ⟨h + 1, 0, none⟩), .int .i64 k] w fun e w' => e = .returned (.pointer (some ⟨h, (k % n) * 12, none⟩)) ∧ Below w.heap.size w w' := by
  have c0 := H.cell 0 _ rfl
  have hn0 : ¬ (n : Int) = 0 := by omega
  have em : IntKind.i64.wrap ((k : Int).tmod (n : Int)) = ((k % n : Nat) : Int) := by
    rw [Int.tmod_eq_emod_of_nonneg (by omega), ← Int.natCast_emod]
    have := Nat.mod_lt k (show n > 0 by omega)
    exact IntWalk.i64_in _ (by omega)
  have em2 : (k : Int).tmod (n : Int) = ((k % n : Nat) : Int) := by
    rw [Int.tmod_eq_emod_of_nonneg (by omega), ← Int.natCast_emod]
  have hlt : ((k % n : Nat) : Int) < (n : Int) := by
    have := Nat.mod_lt k (show n > 0 by omega)
    omega
  obtain ⟨r, hr⟩ : ∃ r, r = k % n := ⟨_, rfl⟩
  rw [← hr] at em em2 hlt ⊢
  clear hr H
  go_enter Try.func31, Try.ntmps31
  go_wp2_with fail
  go_quiet (fail)
  go_wp2
  go_ret
  exact ⟨rfl, ⟨rfl, rfl, rfl, Nat.le_refl _, fun _ _ => rfl⟩⟩
end Go.Proofs.Ytjlmheecefobaaa
