/- Contracts: the document's Members; SameInts. -/
import Derived.Test.YtgpdjfaklcmoiaaDoorM02
namespace Go.Proofs.YtgpdjfaklcmoiaaDoor
open Go.RowKit Go.PlainAid

theorem drewB {N : Nat} {w w1 : World} (h : Below N w w1) (q : Nat) : Below N w (w1.drewN q) := by
  induction q with
  | zero => exact h
  | succ q ih => exact ih.drew
theorem eq_of_all {xs ys : List Int} {n : Nat} (h1 : xs.length = n) (h2 : ys.length = n) (h : ∀ j, j < n → xs.getD j 0 = ys.getD j 0) : xs = ys := by
  apply List.ext_getElem?
  intro j
  by_cases hj : j < n
  · have := h j hj
    rw [List.getD_eq_getElem?_getD, List.getD_eq_getElem?_getD, List.getElem?_eq_getElem (by omega), List.getElem?_eq_getElem (by omega)] at this
    rw [List.getElem?_eq_getElem (by omega), List.getElem?_eq_getElem (by omega)]
    simpa using this
  · rw [List.getElem?_eq_none (by omega), List.getElem?_eq_none (by omega)]
end Go.Proofs.YtgpdjfaklcmoiaaDoor
