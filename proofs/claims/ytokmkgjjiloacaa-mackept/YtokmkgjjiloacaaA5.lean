/- The contract of awake: it answers true. -/
import Derived.Test.YtokmkgjjiloacaaA3
import Derived.Test.YtokmkgjjiloacaaA4
namespace Go.Proofs.Ytokmkgjjiloacaa
open Go.RowKit

theorem b6c : B6 1 128 194 0 0 14 := by constructor <;> decide

set_option maxRecDepth 100000 in
set_option maxHeartbeats 1000000 in
theorem awake10 (w : World) : Calls Try.prog 10 #[] w fun e w' => e = .returned (.bool true) ∧ Below w.heap.size w w' := by
  have hq : ((bs (textL 1 128 194 0 0 14)).toList == [48, 49, 58, 56, 48, 58, 99, 50, 58, 48, 48, 58, 48, 48, 58, 48, 101]) = true := by rw [bs_toList]; decide
  have hr : rsv 1 128 194 0 0 14 = true := by decide
  have hn : (num 1 128 194 0 0 14 == 1652522221582) = true := by decide
  go_enter Try.func10, Try.ntmps10
  go_wp2_with fail
  refine (text11 _ _ _ _ _ _ _ b6c).mono ?_
  rintro e w1 ⟨rfl, hb1⟩
  obtain ⟨hc1, hf1⟩ := bcell hb1
  have hz1 : w.heap.size < w1.heap.size := by have := hb1.size; simp at this; omega
  go_wp2_with fail
  refine (res17 _ _ _ _ _ _ _ b6c).mono ?_
  rintro e w2 ⟨rfl, hb2⟩
  obtain ⟨hc2, hf2⟩ := bcell hb2
  have hz2 : w.heap.size < w2.heap.size := by have := hb2.size; omega
  go_wp2_with fail
  refine (group15 _ _ _ _ _ _ _ b6c).mono ?_
  rintro e w3 ⟨rfl, hb3⟩
  obtain ⟨hc3, hf3⟩ := bcell hb3
  have hz3 : w.heap.size < w3.heap.size := by have := hb3.size; omega
  go_wp2_with fail
  refine (num13 _ _ _ _ _ _ _ b6c).mono ?_
  rintro e w4 ⟨rfl, hb4⟩
  have hB : Below w.heap.size w w4 := belowOn (belowOn (belowOn (belowOn ((Below.refl _ _).alloc (Nat.le_refl _) _) hb1) hb2) hb3) hb4
  clear hc1 hc2 hc3 hf1 hf2 hf3
  go_wp2
  go_ret
  exact ⟨rfl, hB⟩
end Go.Proofs.Ytokmkgjjiloacaa
