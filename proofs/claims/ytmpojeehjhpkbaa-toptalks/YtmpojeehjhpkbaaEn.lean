/- Contract of readFrame: a frame without a tag. -/
import Derived.Test.YtmpojeehjhpkbaaEl
namespace Go.Proofs.Ytmpojeehjhpkbaa
open Go.RowKit

set_option maxRecDepth 100000 in
set_option maxHeartbeats 4000000 in
theorem rf_plain (x0 x1 x2 x3 x4 x5 x6 x7 x8 x9 x10 x11 x12 x13 : Int) (q : List Int) (r : Nat) (ao : Option Addr) (n c : Nat) (w : World) (h : Rd w r ao n c (x0 :: x1 :: x2 :: x3 :: x4 :: x5 :: x6 :: x7 :: x8 :: x9 :: x10 :: x11 :: x12 :: x13 :: q)) (ht : ¬ x12 * 256 + x13 = 33024) :
    Calls Try.prog 30 #[.pointer (some ⟨r, 0, none⟩)] w fun e w' => ∃ ao' n' c', e = .returned (.agg #[.int .u8 (⟨x0, x1, x2, x3, x4, x5, x6, x7, x8, x9, x10, x11, false, 0, 0, x12 * 256 + x13, q⟩ : Fd).d0, .int .u8 (⟨x0, x1, x2, x3, x4, x5, x6, x7, x8, x9, x10, x11, false, 0, 0, x12 * 256 + x13, q⟩ : Fd).d1, .int .u8 (⟨x0, x1, x2, x3, x4, x5, x6, x7, x8, x9, x10, x11, false, 0, 0, x12 * 256 + x13, q⟩ : Fd).d2, .int .u8 (⟨x0, x1, x2, x3, x4, x5, x6, x7, x8, x9, x10, x11, false, 0, 0, x12 * 256 + x13, q⟩ : Fd).d3, .int .u8 (⟨x0, x1, x2, x3, x4, x5, x6, x7, x8, x9, x10, x11, false, 0, 0, x12 * 256 + x13, q⟩ : Fd).d4, .int .u8 (⟨x0, x1, x2, x3, x4, x5, x6, x7, x8, x9, x10, x11, false, 0, 0, x12 * 256 + x13, q⟩ : Fd).d5, .int .u8 (⟨x0, x1, x2, x3, x4, x5, x6, x7, x8, x9, x10, x11, false, 0, 0, x12 * 256 + x13, q⟩ : Fd).s0, .int .u8 (⟨x0, x1, x2, x3, x4, x5, x6, x7, x8, x9, x10, x11, false, 0, 0, x12 * 256 + x13, q⟩ : Fd).s1, .int .u8 (⟨x0, x1, x2, x3, x4, x5, x6, x7, x8, x9, x10, x11, false, 0, 0, x12 * 256 + x13, q⟩ : Fd).s2, .int .u8 (⟨x0, x1, x2, x3, x4, x5, x6, x7, x8, x9, x10, x11, false, 0, 0, x12 * 256 + x13, q⟩ : Fd).s3, .int .u8 (⟨x0, x1, x2, x3, x4, x5, x6, x7, x8, x9, x10, x11, false, 0, 0, x12 * 256 + x13, q⟩ : Fd).s4, .int .u8 (⟨x0, x1, x2, x3, x4, x5, x6, x7, x8, x9, x10, x11, false, 0, 0, x12 * 256 + x13, q⟩ : Fd).s5, .bool (⟨x0, x1, x2, x3, x4, x5, x6, x7, x8, x9, x10, x11, false, 0, 0, x12 * 256 + x13, q⟩ : Fd).tg, .int .i64 (⟨x0, x1, x2, x3, x4, x5, x6, x7, x8, x9, x10, x11, false, 0, 0, x12 * 256 + x13, q⟩ : Fd).vl, .int .i64 (⟨x0, x1, x2, x3, x4, x5, x6, x7, x8, x9, x10, x11, false, 0, 0, x12 * 256 + x13, q⟩ : Fd).pr, .int .i64 (⟨x0, x1, x2, x3, x4, x5, x6, x7, x8, x9, x10, x11, false, 0, 0, x12 * 256 + x13, q⟩ : Fd).ty, (.slice ao' n' c')]) ∧ Byt w' ao' n' c' q ∧ link ao ao' ∧ w.grownBy w' (some r) := by
  have hq : (x12 * 256 + x13 == 33024) = false := by simp [ht]
  clear ht
  have hpos : 0 < n := by have := h.byt.len; simp at this; omega
  have W0 : w.grownBy (w.alloc (.cells #[.int .u8 0, .int .u8 0, .int .u8 0, .int .u8 0, .int .u8 0, .int .u8 0, .int .u8 0, .int .u8 0, .int .u8 0, .int .u8 0, .int .u8 0, .int .u8 0, .bool false, .int .i64 0, .int .i64 0, .int .i64 0, .slice none 0 0] 26)) (some r) := World.grownBy_alloc w _ _
  have hrl : r < w.heap.size := h.lt
  have R0 := h.on (below_alloc w (.cells #[.int .u8 0, .int .u8 0, .int .u8 0, .int .u8 0, .int .u8 0, .int .u8 0, .int .u8 0, .int .u8 0, .int .u8 0, .int .u8 0, .int .u8 0, .int .u8 0, .bool false, .int .i64 0, .int .i64 0, .int .i64 0, .slice none 0 0] 26))
  have HLT : Hid (∀ b o, ao = some ⟨b, o, none⟩ → 0 < n → b < w.heap.size) := hide h.byt.lt
  have T0 : (w.alloc (.cells #[.int .u8 0, .int .u8 0, .int .u8 0, .int .u8 0, .int .u8 0, .int .u8 0, .int .u8 0, .int .u8 0, .int .u8 0, .int .u8 0, .int .u8 0, .int .u8 0, .bool false, .int .i64 0, .int .i64 0, .int .i64 0, .slice none 0 0] 26)).there w.heap.size 0 17 := there_new w #[.int .u8 0, .int .u8 0, .int .u8 0, .int .u8 0, .int .u8 0, .int .u8 0, .int .u8 0, .int .u8 0, .int .u8 0, .int .u8 0, .int .u8 0, .int .u8 0, .bool false, .int .i64 0, .int .i64 0, .int .i64 0, .slice none 0 0] 26
  have L0 : w.heap.size < (w.alloc (.cells #[.int .u8 0, .int .u8 0, .int .u8 0, .int .u8 0, .int .u8 0, .int .u8 0, .int .u8 0, .int .u8 0, .int .u8 0, .int .u8 0, .int .u8 0, .int .u8 0, .bool false, .int .i64 0, .int .i64 0, .int .i64 0, .slice none 0 0] 26)).heap.size := by simp
  have hne : w.heap.size ≠ r := by omega
  have K0 : link ao ao := fun b' o' e => ⟨o', e⟩
  clear h
  go_enter Try.func30, Try.ntmps30
  go_wp2_with fail
  refine (macX x0 x1 x2 x3 x4 x5 _ r ao n c _ R0).mono ?_
  rintro e w1 ⟨rfl, a1, R1, k1, G1⟩
  replace T0 := there_kept T0 L0 hne G1
  replace L0 : w.heap.size < w1.heap.size := Nat.lt_of_lt_of_le L0 G1.size
  replace W0 := grown_trans W0 G1
  replace K0 := K0.trans k1
  clear G1 k1 R0
  go_wp2_with fail
  refine (macX x6 x7 x8 x9 x10 x11 _ r a1 (n - 6) (c - 6) _ R1).mono ?_
  rintro e w2 ⟨rfl, a2, R2, k1, G2⟩
  replace T0 := there_kept T0 L0 hne G2
  replace L0 : w.heap.size < w2.heap.size := Nat.lt_of_lt_of_le L0 G2.size
  replace W0 := grown_trans W0 G2
  replace K0 := K0.trans k1
  clear G2 k1 R1
  go_wp2_with fail
  refine (pairX x12 x13 _ r a2 (n - 6 - 6) (c - 6 - 6) _ R2).mono ?_
  rintro e w3 ⟨rfl, a3, R3, k1, G3⟩
  replace T0 := there_kept T0 L0 hne G3
  replace L0 : w.heap.size < w3.heap.size := Nat.lt_of_lt_of_le L0 G3.size
  replace W0 := grown_trans W0 G3
  replace K0 := K0.trans k1
  clear G3 k1 R2
  have T1 : (w3.alloc (.cells #[.int .u8 0, .int .u8 0, .int .u8 0, .int .u8 0, .int .u8 0, .int .u8 0, .int .u8 0, .int .u8 0, .int .u8 0, .int .u8 0, .int .u8 0, .int .u8 0, .bool false, .int .i64 0, .int .i64 0, .int .i64 0, .slice none 0 0] 26)).there w3.heap.size 0 17 := there_new w3 #[.int .u8 0, .int .u8 0, .int .u8 0, .int .u8 0, .int .u8 0, .int .u8 0, .int .u8 0, .int .u8 0, .int .u8 0, .int .u8 0, .int .u8 0, .int .u8 0, .bool false, .int .i64 0, .int .i64 0, .int .i64 0, .slice none 0 0] 26
  have tk1 : True := trivial
  have hzz : w.heap.size < w3.heap.size := L0
  have tk2 : True := trivial
  have tk3 : True := trivial
  go_wp2_with (first | (have _t := tk1; refine wpl_put ⟨x0, x1, x2, x3, x4, x5, x6, x7, x8, x9, x10, x11, false, 0, 0, x12 * 256 + x13, []⟩ none 0 0 (.tmp 3) (.tmp 11) rfl T1 ?_ ?_ ?_ ?_; rfl; rfl; rfl; clear tk1; intro w4 A4 T4 G4; have hK : w3.heap.size ≠ r := (by omega); have hK' : r ≠ w3.heap.size := (by omega); have G34 : w3.grownBy w4 (some r) := put_grown G4; have B4 := put_below G4; have R4 := R3.on B4; replace T0 := there_on T0 L0 B4; replace L0 : w.heap.size < w4.heap.size := Nat.lt_of_lt_of_le L0 B4.size; replace W0 := grown_trans W0 G34; have L4 : w3.heap.size < w4.heap.size := A4.lt; have p15 := A4.c15; clear T1 G4 G34 B4 R3; have hl3 : ∀ b o, a3 = some ⟨b, o, none⟩ → b < w.heap.size := fun b o e => (by obtain ⟨o2, e2⟩ := K0 b o e; exact HLT.out b o2 e2 hpos); have HL3 := hide hl3; have p16 := A4.c16; have f16 : w4.frozen? ⟨w3.heap.size, 16, none⟩ = false := (T4 16 (by omega)).2; have pr := R4.at_; have A5 := A4.set16 (.slice a3 (n - 6 - 6 - 2) (c - 6 - 6 - 2)); have G5 := setCell_grown w4 w3.heap.size 16 (.slice a3 (n - 6 - 6 - 2) (c - 6 - 6 - 2)); have Y5 := R4.byt.kept (k := w3.heap.size) (fun b o e => by have := hl3 b o e; omega) G5; have T5 := there_kept T0 L0 (by omega) G5; have W5 := grown_new W0 G5 (by omega); clear A4 T4 R4 hl3 G5 T0 W0) | (have _t := tk2; refine wpl_frame (.tmp 3) rfl A5 ?_ ?_ ?_; rfl; rfl; clear tk2) | (have _t := tk3; refine wpl_put (⟨x0, x1, x2, x3, x4, x5, x6, x7, x8, x9, x10, x11, false, 0, 0, x12 * 256 + x13, q⟩ : Fd) a3 (n - 6 - 6 - 2) (c - 6 - 6 - 2) (.tmp 2) (.tmp 32) rfl T5 ?_ ?_ ?_ ?_; rfl; rfl; rfl; clear tk3; intro w6 A6 T6 G6))
  refine bodyPost_ret (res_frame rfl rfl A6) rfl ⟨a3, n - 6 - 6 - 2, c - 6 - 6 - 2, rfl, Y5.kept (fun b o e => by have := HL3.out b o e; omega) G6, K0, grown_new W5 G6 (Nat.le_refl _)⟩

end Go.Proofs.Ytmpojeehjhpkbaa
