/- Contracts: Sort and Compact of numbers, over a slice of the call's own. -/
import Derived.Test.YtelinahpneikiaaSh
import Derived.Test.YtelinahpneikiaaA1
import Derived.Sort.OwnSortedInts
import Derived.Lib.OwnBridge
namespace Go.Proofs.Ytelinahpneikiaa
open Go.RowKit Go.Sort

theorem sort31 (base : Nat) (v : Value) (k : Nat) (zs : List Int) (w : World) (hr : IRow w base v k zs) (hk : k ≤ 100000) :
    Calls Try.prog 31 #[v] w fun e w' => e = .returned (.tuple #[]) ∧ IRow w' base v k (zs.mergeSort fun x y => decide (x ≤ y)) ∧ w.grownBy w' v.ownBlock := by
  have hl : zs.length = k := by have := hr.1; simpa using this
  rcases hr.2 with ⟨rfl, rfl⟩ | ⟨g, cap, cur, rfl, hb, hg, hn, hm, hs, ht⟩
  · obtain rfl : zs = [] := List.eq_nil_of_length_eq_zero hl
    refine (Try.slices_Sort_int_none none 0 w).mono ?_
    rintro e w' ⟨rfl, rfl⟩
    exact ⟨rfl, by simpa using hr, World.grownBy.refl _ _⟩
  · subst hl
    have hlt : g < w.heap.size := (Array.getElem?_eq_some_iff.1 hg).1
    refine (Try.slices_Sort_int g 0 cap zs w (holds_of_blockI hg (by simpa using ht)) hlt (by omega)).mono ?_
    rintro e w' ⟨rfl, n, os, rfl⟩
    have hlen : (zs.mergeSort fun x y => decide (x ≤ y)).length = zs.length := by simp
    exact ⟨rfl, ownsRow_sortedI hlen hb hg hn hm hs, grownBy_sortedI _⟩
theorem grown_putRow {w : World} {g q : Nat} (d : Array Int) : w.grownBy (putRow (Value.int .i64) (Sort.ahead w q) g 0 d) (some g) := by
  refine ⟨rfl, rfl, rfl, by simp, fun k hk hne => ?_⟩
  have : g ≠ k := fun e => hne (by rw [e])
  simp [putRow, mapBlock, Sort.ahead, Array.getElem?_modify, this]
theorem compact32 (base : Nat) (v : Value) (k : Nat) (zs : List Int) (w : World) (hr : IRow w base v k zs) (hk : k ≤ 100000) :
    Calls Try.prog 32 #[v] w fun e w' => ∃ v', e = .returned v' ∧ IRow w' base v' (Lib.compact zs).length (Lib.compact zs) ∧ w.grownBy w' v.ownBlock := by
  have hl : zs.length = k := by have := hr.1; simpa using this
  have hr0 := hr
  unfold IRow at hr0
  rcases hr.2 with ⟨rfl, rfl⟩ | ⟨g, cap, cur, rfl, hb, hg, hn, hm, hs, ht⟩
  · obtain rfl : zs = [] := List.eq_nil_of_length_eq_zero hl
    refine (Try.slices_Compact_int_empty none 0 w).mono ?_
    rintro e w' ⟨rfl, rfl⟩
    exact ⟨_, rfl, hr, World.grownBy.refl _ _⟩
  · subst hl
    refine (Try.slices_Compact_int g 0 cap zs w (holds_of_blockI hg (by simpa using ht)) (by omega) hn).mono ?_
    rintro e w' ⟨rfl, q, rfl⟩
    have hle := Lib.compact_length_le zs
    refine ⟨_, rfl, ?_, grown_putRow _⟩
    have h := Lib.ownsRow_putRow (q := q) (k := (Lib.compact zs).length) (ys := Lib.compact zs ++ List.replicate (zs.length - (Lib.compact zs).length) 0) hr0 (by simp; omega) hle
    rw [List.take_left] at h
    exact h
end Go.Proofs.Ytelinahpneikiaa
