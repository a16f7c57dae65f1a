/- The contract of Text, as the program has it. -/
import Derived.Test.YtokmkgjjiloacaaA2
namespace Go.Proofs.Ytokmkgjjiloacaa
open Go.RowKit

set_option maxRecDepth 100000 in
set_option maxHeartbeats 2000000 in
theorem text11 (a0 a1 a2 a3 a4 a5 : Int) (w : World) (h : B6 a0 a1 a2 a3 a4 a5) :
    Calls Try.prog 11 #[.agg #[.int .u8 a0, .int .u8 a1, .int .u8 a2, .int .u8 a3, .int .u8 a4, .int .u8 a5]] w fun e w' => e = .returned (.string (bs (textL a0 a1 a2 a3 a4 a5))) ∧ Below w.heap.size w w' := by
  have hmk := make17
  go_enter Try.func11, Try.ntmps11
  go_wp2
  clear hmk
  go_loopw [3, 6] (fun t i wr => ∃ k : Nat, k ≤ 6 ∧ i = .int .i64 k ∧ t = .slice (some ⟨w.heap.size + 1, 0, none⟩) (3 * k - 1) 17 ∧ TI w wr a0 a1 a2 a3 a4 a5 (3 * k - 1)) (fun _ i _ => 6 - (intOf i).toNat)
  case atStart =>
    refine ⟨0, by omega, rfl, rfl, by go_grown, by simp, by simp, by simp, by simp, by simp, by simp, by simp, fun j hj => by omega, ?_, ?_⟩
    · intro j hj
      have hk : j = 0 ∨ j = 1 ∨ j = 2 ∨ j = 3 ∨ j = 4 ∨ j = 5 ∨ j = 6 ∨ j = 7 ∨ j = 8 ∨ j = 9 ∨ j = 10 ∨ j = 11 ∨ j = 12 ∨ j = 13 ∨ j = 14 ∨ j = 15 ∨ j = 16 := by omega
      rcases hk with e | e | e | e | e | e | e | e | e | e | e | e | e | e | e | e | e <;> (subst e; simp)
    · intro j hj
      simp
  case round =>
    obtain ⟨k, hk, rfl, rfl, hI⟩ := hrel
    have hS := hI.size
    have hS' : w.heap.size < wr.heap.size := by omega
    have hk7 : k = 0 ∨ k = 1 ∨ k = 2 ∨ k = 3 ∨ k = 4 ∨ k = 5 ∨ k = 6 := by omega
    rcases hk7 with e | e | e | e | e | e | e <;> subst e
    · have q := u8_and15 a0 h.l0 (show a0 < 256 by have := h.u0; omega)
      have i0 := hexIndex (a0 / 16) (by have := h.l0; omega) (by have := h.u0; omega)
      have j0 := hexIndex (a0 % 16) (by omega) (by omega)
      have l0 := h.l0
      have u0 := h.u0
      have c := hI.c0
      obtain ⟨v0, r0⟩ := hI.room 0 (by omega)
      have f0 := hI.free 0 (by omega)
      obtain ⟨v1, r1⟩ := hI.room 1 (by omega)
      have f1 := hI.free 1 (by omega)
      go_wp2
      go_region
      go_wp2
      go_roundw
      case rel => exact ⟨1, by omega, rfl, rfl, (((hI.set (by omega) (v := _) rfl).set (by omega) (v := _) rfl).alloc _).drew⟩
      case measure => simp [intOf]
    · have q := u8_and15 a1 h.l1 (show a1 < 256 by have := h.u1; omega)
      have i0 := hexIndex (a1 / 16) (by have := h.l1; omega) (by have := h.u1; omega)
      have j0 := hexIndex (a1 % 16) (by omega) (by omega)
      have l0 := h.l1
      have u0 := h.u1
      have c := hI.c1
      obtain ⟨v0, r0⟩ := hI.room 2 (by omega)
      have f0 := hI.free 2 (by omega)
      obtain ⟨v1, r1⟩ := hI.room 3 (by omega)
      have f1 := hI.free 3 (by omega)
      obtain ⟨v2, r2⟩ := hI.room 4 (by omega)
      have f2 := hI.free 4 (by omega)
      go_wp2
      go_region
      go_wp2
      go_roundw
      case rel => exact ⟨2, by omega, rfl, rfl, (((((hI.set (by omega) (v := _) rfl).set (by omega) (v := _) rfl).set (by omega) (v := _) rfl).alloc _).alloc _).drew⟩
      case measure => simp [intOf]
    · have q := u8_and15 a2 h.l2 (show a2 < 256 by have := h.u2; omega)
      have i0 := hexIndex (a2 / 16) (by have := h.l2; omega) (by have := h.u2; omega)
      have j0 := hexIndex (a2 % 16) (by omega) (by omega)
      have l0 := h.l2
      have u0 := h.u2
      have c := hI.c2
      obtain ⟨v0, r0⟩ := hI.room 5 (by omega)
      have f0 := hI.free 5 (by omega)
      obtain ⟨v1, r1⟩ := hI.room 6 (by omega)
      have f1 := hI.free 6 (by omega)
      obtain ⟨v2, r2⟩ := hI.room 7 (by omega)
      have f2 := hI.free 7 (by omega)
      go_wp2
      go_region
      go_wp2
      go_roundw
      case rel => exact ⟨3, by omega, rfl, rfl, (((((hI.set (by omega) (v := _) rfl).set (by omega) (v := _) rfl).set (by omega) (v := _) rfl).alloc _).alloc _).drew⟩
      case measure => simp [intOf]
    · have q := u8_and15 a3 h.l3 (show a3 < 256 by have := h.u3; omega)
      have i0 := hexIndex (a3 / 16) (by have := h.l3; omega) (by have := h.u3; omega)
      have j0 := hexIndex (a3 % 16) (by omega) (by omega)
      have l0 := h.l3
      have u0 := h.u3
      have c := hI.c3
      obtain ⟨v0, r0⟩ := hI.room 8 (by omega)
      have f0 := hI.free 8 (by omega)
      obtain ⟨v1, r1⟩ := hI.room 9 (by omega)
      have f1 := hI.free 9 (by omega)
      obtain ⟨v2, r2⟩ := hI.room 10 (by omega)
      have f2 := hI.free 10 (by omega)
      go_wp2
      go_region
      go_wp2
      go_roundw
      case rel => exact ⟨4, by omega, rfl, rfl, (((((hI.set (by omega) (v := _) rfl).set (by omega) (v := _) rfl).set (by omega) (v := _) rfl).alloc _).alloc _).drew⟩
      case measure => simp [intOf]
    · have q := u8_and15 a4 h.l4 (show a4 < 256 by have := h.u4; omega)
      have i0 := hexIndex (a4 / 16) (by have := h.l4; omega) (by have := h.u4; omega)
      have j0 := hexIndex (a4 % 16) (by omega) (by omega)
      have l0 := h.l4
      have u0 := h.u4
      have c := hI.c4
      obtain ⟨v0, r0⟩ := hI.room 11 (by omega)
      have f0 := hI.free 11 (by omega)
      obtain ⟨v1, r1⟩ := hI.room 12 (by omega)
      have f1 := hI.free 12 (by omega)
      obtain ⟨v2, r2⟩ := hI.room 13 (by omega)
      have f2 := hI.free 13 (by omega)
      go_wp2
      go_region
      go_wp2
      go_roundw
      case rel => exact ⟨5, by omega, rfl, rfl, (((((hI.set (by omega) (v := _) rfl).set (by omega) (v := _) rfl).set (by omega) (v := _) rfl).alloc _).alloc _).drew⟩
      case measure => simp [intOf]
    · have q := u8_and15 a5 h.l5 (show a5 < 256 by have := h.u5; omega)
      have i0 := hexIndex (a5 / 16) (by have := h.l5; omega) (by have := h.u5; omega)
      have j0 := hexIndex (a5 % 16) (by omega) (by omega)
      have l0 := h.l5
      have u0 := h.u5
      have c := hI.c5
      obtain ⟨v0, r0⟩ := hI.room 14 (by omega)
      have f0 := hI.free 14 (by omega)
      obtain ⟨v1, r1⟩ := hI.room 15 (by omega)
      have f1 := hI.free 15 (by omega)
      obtain ⟨v2, r2⟩ := hI.room 16 (by omega)
      have f2 := hI.free 16 (by omega)
      go_wp2
      go_region
      go_wp2
      go_roundw
      case rel => exact ⟨6, by omega, rfl, rfl, (((((hI.set (by omega) (v := _) rfl).set (by omega) (v := _) rfl).set (by omega) (v := _) rfl).alloc _).alloc _).drew⟩
      case measure => simp [intOf]
    · have hcv : (convert 39 9 (.slice (some ⟨w.heap.size + 1, 0, none⟩) 17 17)).run Try.prog wr = .ok (.string (bs (textL a0 a1 a2 a3 a4 a5))) wr := bytesString wr _ 17 (textL a0 a1 a2 a3 a4 a5) hI.text
      go_wp2
      go_ret
      exact ⟨rfl, hI.below⟩
end Go.Proofs.Ytokmkgjjiloacaa
