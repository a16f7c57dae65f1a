/- Contract of the program's Clear. -/
import Derived.Test.YtmdbclhdbglppaaPc
namespace Go.Proofs.Ytmdbclhdbglppaa
open Go.RowKit Go.PlainAid

/-- Those of the classes from q on. -/
def fr (L : List Wt) (q : Nat) : List Wt := L.filter (fun x => decide ((q : Int) ≤ x.c))
theorem cl_fr (L : List Wt) (q k : Nat) : cl (fr L q) k = if q ≤ k then cl L k else [] := by
  unfold cl fr
  rw [List.filter_filter]
  split
  · next c =>
    congr 1
    refine List.filter_congr fun x _ => ?_
    by_cases e : x.c = k
    · simp [e]; omega
    · simp [e]
  · next c =>
    rw [List.map_eq_nil_iff, List.filter_eq_nil_iff]
    intro x _ e
    simp at e
    omega
theorem fr_len (q : Nat) : ∀ L : List Wt, (fr L q).length = cnt L q + (fr L (q + 1)).length
  | [] => rfl
  | x :: L => by
    have ih := fr_len q L
    unfold cnt at *
    rw [cl_cons]
    unfold fr at *
    rw [List.filter_cons, List.filter_cons]
    by_cases h1 : x.c = q
    · rw [if_pos (by simp [h1]), if_pos h1, if_neg (by simp [h1]; omega)]
      simp only [List.length_cons]; omega
    · by_cases h2 : (q : Int) ≤ x.c
      · rw [if_pos (by simpa using h2), if_neg h1, if_pos (by simp; omega)]
        simp only [List.length_cons]; omega
      · rw [if_neg (by simpa using h2), if_neg h1, if_neg (by simp; omega)]
        exact ih
theorem fr_zero {L : List Wt} (h : ∀ x ∈ L, isC x.c = true) : fr L 0 = L := List.filter_eq_self.2 fun x hx => by
  have := (isC_iff.1 (h x hx)).1
  simpa using this
theorem fr_all {L : List Wt} (h : ∀ x ∈ L, isC x.c = true) : fr L 8 = [] := List.filter_eq_nil_iff.2 fun x hx e => by
  have := (isC_iff.1 (h x hx)).2
  simp at e; omega
theorem fr_mem {L : List Wt} {q : Nat} {x : Wt} (h : x ∈ fr L q) : x ∈ L := (List.mem_filter.1 h).1
theorem cnt_nat {n : Nat} {L : List Wt} (h : ∀ x ∈ L, isC x.c = true) (g : ∀ k : Nat, cnt L k ≤ n) : ∀ k : Int, cnt L k ≤ n := fun k => by
  by_cases hk : 0 ≤ k
  · obtain ⟨q, rfl⟩ := Int.eq_ofNat_of_zero_le hk
    exact g q
  · rw [cnt_out h (by rw [Bool.eq_false_iff]; exact fun e => hk (isC_iff.1 e).1)]
    exact Nat.zero_le _
theorem PX.clear1 {w : World} {h : Nat} {T S : Nat → Prop} {n : Nat} {SV : List Sv} {L : List Wt} {ls : List Nat} {q : Nat} (H : PX w h T S n SV (fr L q) ls) (hq : q < 8) (hc : ∀ x ∈ L, isC x.c = true) (hr : ∀ k, cnt L k ≤ n) :
    (∃ S' SV', PX (w.setCell ⟨h, 1 + q, none⟩ (.slice none 0 0)) h T S' n SV' (fr L (q + 1)) ls ∧ ∀ i, S' i → S i ∨ w.heap.size ≤ i) ∧ Chg S w (w.setCell ⟨h, 1 + q, none⟩ (.slice none 0 0)) := by
  obtain ⟨x, hx, -⟩ := H.at_ hq
  have e0 : cl (fr L (q + 1)) (q : Int) = [] := by rw [cl_fr, if_neg (by omega)]
  obtain ⟨h1, h2⟩ := H.turn (x' := zS) hx (Chg.refl _ w) (fun _ hi => hi) (fun _ hi => Or.inl hi) (L' := fr L (q + 1)) (by rw [e0]; exact ck_nil _ _) (fun i hi => by obtain ⟨a, ha, _⟩ := hi; cases ha) (fun k' hk => by
    rw [cl_fr, cl_fr]
    by_cases c : q ≤ k'
    · rw [if_pos (by omega), if_pos c]
    · rw [if_neg (by omega), if_neg c]) (fun y hy => hc y (fr_mem hy)) (cnt_nat (fun y hy => hc y (fr_mem hy)) fun k => by
    have := hr k
    unfold cnt at *
    rw [cl_fr]
    split
    · exact this
    · exact Nat.zero_le _)
  exact ⟨⟨_, _, h1, fun i hi => hi.imp id (fun e => e.1)⟩, h2⟩
set_option maxRecDepth 100000 in
set_option maxHeartbeats 2000000 in
theorem clearQ (p : Addr) (S : Nat → Prop) (n : Nat) (L : List Wt) (ls : List Nat) (w : World) (H : PQ w p S n L ls) (hL : L.length ≤ 50000) :
    Calls Try.prog 18 #[.pointer (some p)] w fun e w' => e = .returned (.int .i64 L.length) ∧ (∃ S', PQ w' p S' n [] ls ∧ ∀ i, S' i → S i ∨ w.heap.size ≤ i) ∧ Chg S w w' := by
  obtain ⟨h, T, SV, rfl, H⟩ := H
  have HC := hide H.cls
  have HR := hide H.room
  have HL := hide hL
  have H0 : Hid (PX w h T S n SV (fr L 0) ls) := hide (by rw [fr_zero H.cls]; exact H)
  clear H hL
  go_enter Try.func18, Try.ntmps18
  go_wp2
  go_loopw [3, 5] (fun s i wr => ∃ q y : Nat, q ≤ 8 ∧ i = .int .i64 q ∧ s = .int .i64 y ∧ y + (fr L q).length = L.length ∧ (∃ S' SV', PX wr h T S' n SV' (fr L q) ls ∧ (∀ i, S' i → S i ∨ w.heap.size ≤ i)) ∧ Chg S w wr) (fun _ i _ => 8 - (intOf i).toNat)
  case atStart => exact ⟨0, 0, Nat.zero_le _, rfl, rfl, by rw [fr_zero HC.out]; omega, ⟨S, SV, H0.out, fun i hi => Or.inl hi⟩, Chg.refl _ _⟩
  case round =>
    obtain ⟨q, y, hq, rfl, rfl, hy, ⟨S', SV', hX, hS⟩, hC⟩ := hrel
    clear H0
    have HX := hide hX
    have HS := hide hS
    have HCC := hide hC
    have HY := hide hy
    by_cases hc : q < 8
    · obtain ⟨⟨xa, xn, xp⟩, -, c1, f1, hn⟩ := hX.at_ hc
      unfold sv at c1
      have hn2 : xn = cnt L q := by
        have e : xn = cnt (fr L q) q := hn
        rw [e]; unfold cnt; rw [cl_fr, if_pos (Nat.le_refl _)]
      have hfl := fr_len q L
      have T2 := hide (hX.clear1 hc HC.out HR.out)
      have HK := hide hc
      have h1 : (q : Int) < 8 := by omega
      have e1 : IntKind.i64.wrap ((q : Int) + 1) = (q : Int) + 1 := IntWalk.i64_in _ (by omega)
      have e2 : IntKind.i64.wrap ((y : Int) + xn) = (y : Int) + xn := IntWalk.i64_in _ (by have := HL.out; omega)
      have HN : Hid (y + xn + (fr L (q + 1)).length = L.length) := hide (by omega)
      clear hX hS hC hy hn hn2 hfl
      go_wp2
      go_roundw
      case rel =>
        refine ⟨q + 1, y + xn, by have := HK.out; omega, by go_num, by go_num, HN.out, ?_, HCC.out.trans_of T2.out.2 HS.out⟩
        obtain ⟨S2, SV2, k1, k2⟩ := T2.out.1
        refine ⟨S2, SV2, k1, fun i hi => ?_⟩
        rcases k2 i hi with e | e
        · exact HS.out i e
        · exact Or.inr (by have := HCC.out.size; omega)
      case measure => simp [intOf]; omega
    · obtain rfl : q = 8 := by omega
      have h1 : ¬ ((8 : Nat) : Int) < 8 := by omega
      rw [fr_all HC.out] at hy HX
      have e : y = L.length := by simpa using hy
      subst e
      clear hX hS hC hy
      go_wp2
      go_ret
      exact ⟨rfl, ⟨S', ⟨h, T, SV', rfl, HX.out⟩, HS.out⟩, HCC.out⟩
end Go.Proofs.Ytmdbclhdbglppaa
