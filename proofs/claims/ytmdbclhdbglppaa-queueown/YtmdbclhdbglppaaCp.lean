/- Plain: what waits, by all classes; a queue that was cleared. -/
import Derived.Test.YtmdbclhdbglppaaTw
namespace Go.Proofs.Ytmdbclhdbglppaa

/-- How many wait of the first q classes. -/
def sm (L : List Wt) : Nat → Nat
  | 0 => 0
  | q + 1 => sm L q + cnt L q
theorem sm_cons (x : Wt) (L : List Wt) : ∀ q : Nat, sm (x :: L) q = sm L q + if 0 ≤ x.c ∧ x.c < q then 1 else 0
  | 0 => by unfold sm; rw [if_neg (by omega)]
  | q + 1 => by
    unfold sm
    rw [sm_cons x L q]
    unfold cnt
    rw [cl_cons]
    by_cases h : x.c = (q : Int)
    · rw [if_pos h, if_neg (by omega), if_pos (by omega), List.length_cons]; omega
    · rw [if_neg h]
      by_cases h2 : 0 ≤ x.c ∧ x.c < (q : Int)
      · rw [if_pos h2, if_pos (by omega)]; omega
      · rw [if_neg h2, if_neg (by omega)]; omega
theorem sm_nil : ∀ q : Nat, sm [] q = 0
  | 0 => rfl
  | q + 1 => by unfold sm; rw [sm_nil q]; rfl
theorem sm_all : ∀ {L : List Wt}, (∀ x ∈ L, isC x.c = true) → sm L 8 = L.length
  | [], _ => sm_nil 8
  | x :: L, h => by
    have hx := isC_iff.1 (h x (by simp))
    rw [sm_cons, sm_all (fun y hy => h y (by simp [hy])), if_pos ⟨hx.1, by omega⟩]; rfl
theorem sm_le (L : List Wt) (h : ∀ x ∈ L, isC x.c = true) : ∀ {q : Nat}, q ≤ 8 → sm L q ≤ L.length := by
  have mono : ∀ a d : Nat, sm L a ≤ sm L (a + d) := fun a d => by
    induction d with
    | zero => exact Nat.le_refl _
    | succ d ih =>
      have e : sm L (a + (d + 1)) = sm L (a + d) + cnt L ((a + d : Nat) : Int) := rfl
      omega
  intro q hq
  have := mono q (8 - q)
  rw [show q + (8 - q) = 8 by omega, sm_all h] at this
  exact this
/-- So many of one class, nothing else. -/
structure Only (L : List Wt) (z : Int) (i : Nat) : Prop where
  len : L.length = i
  at_ : cnt L z = i
theorem only_nil (z : Int) : Only [] z 0 := ⟨rfl, rfl⟩
theorem Only.add {L : List Wt} {z : Int} {i n : Nat} (h : Only L z i) (hz : isC z = true) (hi : i < n) (b : List Int) : pE n L z = 0 ∧ Only (pL n L z b) z (i + 1) := by
  have e : pE n L z = 0 := by unfold pE; rw [hz, if_pos rfl, if_neg (by rw [h.at_]; omega)]
  refine ⟨e, ?_⟩
  unfold pL
  rw [if_pos e]
  refine ⟨by simp [h.len], ?_⟩
  unfold cnt
  rw [cl_add, if_pos rfl, List.length_append]
  have := h.at_
  unfold cnt at this
  rw [this]; rfl
theorem Only.full {L : List Wt} {z : Int} {i n : Nat} (h : Only L z i) (hz : isC z = true) (hi : n ≤ i) (b : List Int) (ls : List Nat) : pE n L z = 3 ∧ pL n L z b = L ∧ pG n L ls z = up1 ls z.toNat := by
  have e : pE n L z = 3 := by unfold pE; rw [hz, if_pos rfl, if_pos (by rw [h.at_]; exact hi)]
  refine ⟨e, ?_, ?_⟩
  · unfold pL; rw [e, if_neg (by decide)]
  · unfold pG; rw [e, if_pos rfl]
theorem Only.same {L : List Wt} {z : Int} {i n : Nat} (h : Only L z i) (hz : isC z = true) (hi : i < n) (ls : List Nat) : pG n L ls z = ls := by
  have e : pE n L z = 0 := by unfold pE; rw [hz, if_pos rfl, if_neg (by rw [h.at_]; omega)]
  unfold pG; rw [e, if_neg (by decide)]
theorem lost_up {ls : List Nat} {z : Int} (hz : isC z = true) (hl : ls.length = 8) : lost (up1 ls z.toNat) z = lost ls z + 1 := by
  have := isC_iff.1 hz
  unfold lost up1
  rw [hz, if_pos rfl, if_pos rfl, List.getElem?_set_self (by omega)]; rfl
end Go.Proofs.Ytmdbclhdbglppaa
