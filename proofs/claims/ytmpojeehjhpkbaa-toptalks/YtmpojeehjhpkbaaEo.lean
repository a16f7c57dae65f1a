/- Contract of readFrame: a frame with a tag. -/
import Derived.Test.YtmpojeehjhpkbaaEl
namespace Go.Proofs.Ytmpojeehjhpkbaa
open Go.RowKit

set_option maxRecDepth 100000 in
set_option maxHeartbeats 4000000 in
theorem rf_tag (x0 x1 x2 x3 x4 x5 x6 x7 x8 x9 x10 x11 x12 x13 x14 x15 x16 x17 : Int) (q : List Int) (r : Nat) (ao : Option Addr) (n c : Nat) (w : World) (h : Rd w r ao n c (x0 :: x1 :: x2 :: x3 :: x4 :: x5 :: x6 :: x7 :: x8 :: x9 :: x10 :: x11 :: x12 :: x13 :: x14 :: x15 :: x16 :: x17 :: q)) (ht : x12 * 256 + x13 = 33024) :
    Calls Try.prog 30 #[.pointer (some ⟨r, 0, none⟩)] w fun e w' => ∃ ao' n' c', e = .returned (.agg #[.int .u8 (⟨x0, x1, x2, x3, x4, x5, x6, x7, x8, x9, x10, x11, true, (x14 * 256 + x15) % 8192, (x14 * 256 + x15) / 8192, x16 * 256 + x17, q⟩ : Fd).d0, .int .u8 (⟨x0, x1, x2, x3, x4, x5, x6, x7, x8, x9, x10, x11, true, (x14 * 256 + x15) % 8192, (x14 * 256 + x15) / 8192, x16 * 256 + x17, q⟩ : Fd).d1, .int .u8 (⟨x0, x1, x2, x3, x4, x5, x6, x7, x8, x9, x10, x11, true, (x14 * 256 + x15) % 8192, (x14 * 256 + x15) / 8192, x16 * 256 + x17, q⟩ : Fd).d2, .int .u8 (⟨x0, x1, x2, x3, x4, x5, x6, x7, x8, x9, x10, x11, true, (x14 * 256 + x15) % 8192, (x14 * 256 + x15) / 8192, x16 * 256 + x17, q⟩ : Fd).d3, .int .u8 (⟨x0, x1, x2, x3, x4, x5, x6, x7, x8, x9, x10, x11, true, (x14 * 256 + x15) % 8192, (x14 * 256 + x15) / 8192, x16 * 256 + x17, q⟩ : Fd).d4, .int .u8 (⟨x0, x1, x2, x3, x4, x5, x6, x7, x8, x9, x10, x11, true, (x14 * 256 + x15) % 8192, (x14 * 256 + x15) / 8192, x16 * 256 + x17, q⟩ : Fd).d5, .int .u8 (⟨x0, x1, x2, x3, x4, x5, x6, x7, x8, x9, x10, x11, true, (x14 * 256 + x15) % 8192, (x14 * 256 + x15) / 8192, x16 * 256 + x17, q⟩ : Fd).s0, .int .u8 (⟨x0, x1, x2, x3, x4, x5, x6, x7, x8, x9, x10, x11, true, (x14 * 256 + x15) % 8192, (x14 * 256 + x15) / 8192, x16 * 256 + x17, q⟩ : Fd).s1, .int .u8 (⟨x0, x1, x2, x3, x4, x5, x6, x7, x8, x9, x10, x11, true, (x14 * 256 + x15) % 8192, (x14 * 256 + x15) / 8192, x16 * 256 + x17, q⟩ : Fd).s2, .int .u8 (⟨x0, x1, x2, x3, x4, x5, x6, x7, x8, x9, x10, x11, true, (x14 * 256 + x15) % 8192, (x14 * 256 + x15) / 8192, x16 * 256 + x17, q⟩ : Fd).s3, .int .u8 (⟨x0, x1, x2, x3, x4, x5, x6, x7, x8, x9, x10, x11, true, (x14 * 256 + x15) % 8192, (x14 * 256 + x15) / 8192, x16 * 256 + x17, q⟩ : Fd).s4, .int .u8 (⟨x0, x1, x2, x3, x4, x5, x6, x7, x8, x9, x10, x11, true, (x14 * 256 + x15) % 8192, (x14 * 256 + x15) / 8192, x16 * 256 + x17, q⟩ : Fd).s5, .bool (⟨x0, x1, x2, x3, x4, x5, x6, x7, x8, x9, x10, x11, true, (x14 * 256 + x15) % 8192, (x14 * 256 + x15) / 8192, x16 * 256 + x17, q⟩ : Fd).tg, .int .i64 (⟨x0, x1, x2, x3, x4, x5, x6, x7, x8, x9, x10, x11, true, (x14 * 256 + x15) % 8192, (x14 * 256 + x15) / 8192, x16 * 256 + x17, q⟩ : Fd).vl, .int .i64 (⟨x0, x1, x2, x3, x4, x5, x6, x7, x8, x9, x10, x11, true, (x14 * 256 + x15) % 8192, (x14 * 256 + x15) / 8192, x16 * 256 + x17, q⟩ : Fd).pr, .int .i64 (⟨x0, x1, x2, x3, x4, x5, x6, x7, x8, x9, x10, x11, true, (x14 * 256 + x15) % 8192, (x14 * 256 + x15) / 8192, x16 * 256 + x17, q⟩ : Fd).ty, (.slice ao' n' c')]) ∧ Byt w' ao' n' c' q ∧ link ao ao' ∧ w.grownBy w' (some r) := by
  have hq : (x12 * 256 + x13 == 33024) = true := by simp [ht]
  clear ht
  have hpos : 0 < n := by have := h.byt.len; simp at this; omega
  obtain ⟨g0, g1⟩ := h.byt.rng x14 (by simp)
  obtain ⟨g2, g3⟩ := h.byt.rng x15 (by simp)
  have W0 : w.grownBy (w.alloc (.cells #[.int .u8 0, .int .u8 0, .int .u8 0, .int .u8 0, .int .u8 0, .int .u8 0, .int .u8 0, .int .u8 0, .int .u8 0, .int .u8 0, .int .u8 0, .int .u8 0, .bool false, .int .i64 0, .int .i64 0, .int .i64 0, .slice none 0 0] 26)) (some r) := World.grownBy_alloc w _ _
  have hrl : r < w.heap.size := h.lt
  have R0 := h.on (below_alloc w (.cells #[.int .u8 0, .int .u8 0, .int .u8 0, .int .u8 0, .int .u8 0, .int .u8 0, .int .u8 0, .int .u8 0, .int .u8 0, .int .u8 0, .int .u8 0, .int .u8 0, .bool false, .int .i64 0, .int .i64 0, .int .i64 0, .slice none 0 0] 26))
  have HLT : Hid (∀ b o, ao = some ⟨b, o, none⟩ → 0 < n → b < w.heap.size) := hide h.byt.lt
  have T0 : (w.alloc (.cells #[.int .u8 0, .int .u8 0, .int .u8 0, .int .u8 0, .int .u8 0, .int .u8 0, .int .u8 0, .int .u8 0, .int .u8 0, .int .u8 0, .int .u8 0, .int .u8 0, .bool false, .int .i64 0, .int .i64 0, .int .i64 0, .slice none 0 0] 26)).there w.heap.size 0 17 := there_new w #[.int .u8 0, .int .u8 0, .int .u8 0, .int .u8 0, .int .u8 0, .int .u8 0, .int .u8 0, .int .u8 0, .int .u8 0, .int .u8 0, .int .u8 0, .int .u8 0, .bool false, .int .i64 0, .int .i64 0, .int .i64 0, .slice none 0 0] 26
  have L0 : w.heap.size < (w.alloc (.cells #[.int .u8 0, .int .u8 0, .int .u8 0, .int .u8 0, .int .u8 0, .int .u8 0, .int .u8 0, .int .u8 0, .int .u8 0, .int .u8 0, .int .u8 0, .int .u8 0, .bool false, .int .i64 0, .int .i64 0, .int .i64 0, .slice none 0 0] 26)).heap.size := by simp
  have hne : w.heap.size ≠ r := by omega
  have K0 : link ao ao := fun b' o' e => ⟨o', e⟩
  clear h
  go_enter Try.func30, Try.ntmps30
  go_wp2_with fail
  refine (macX x0 x1 x2 x3 x4 x5 _ r ao n c _ R0).mono ?_
  rintro e w1 ⟨rfl, a1, R1, k1, G1⟩
  replace T0 := there_kept T0 L0 hne G1
  replace L0 : w.heap.size < w1.heap.size := Nat.lt_of_lt_of_le L0 G1.size
  replace W0 := grown_trans W0 G1
  replace K0 := K0.trans k1
  clear G1 k1 R0
  go_wp2_with fail
  refine (macX x6 x7 x8 x9 x10 x11 _ r a1 (n - 6) (c - 6) _ R1).mono ?_
  rintro e w2 ⟨rfl, a2, R2, k1, G2⟩
  replace T0 := there_kept T0 L0 hne G2
  replace L0 : w.heap.size < w2.heap.size := Nat.lt_of_lt_of_le L0 G2.size
  replace W0 := grown_trans W0 G2
  replace K0 := K0.trans k1
  clear G2 k1 R1
  go_wp2_with fail
  refine (pairX x12 x13 _ r a2 (n - 6 - 6) (c - 6 - 6) _ R2).mono ?_
  rintro e w3 ⟨rfl, a3, R3, k1, G3⟩
  replace T0 := there_kept T0 L0 hne G3
  replace L0 : w.heap.size < w3.heap.size := Nat.lt_of_lt_of_le L0 G3.size
  replace W0 := grown_trans W0 G3
  replace K0 := K0.trans k1
  clear G3 k1 R2
  have T1 : (w3.alloc (.cells #[.int .u8 0, .int .u8 0, .int .u8 0, .int .u8 0, .int .u8 0, .int .u8 0, .int .u8 0, .int .u8 0, .int .u8 0, .int .u8 0, .int .u8 0, .int .u8 0, .bool false, .int .i64 0, .int .i64 0, .int .i64 0, .slice none 0 0] 26)).there w3.heap.size 0 17 := there_new w3 #[.int .u8 0, .int .u8 0, .int .u8 0, .int .u8 0, .int .u8 0, .int .u8 0, .int .u8 0, .int .u8 0, .int .u8 0, .int .u8 0, .int .u8 0, .int .u8 0, .bool false, .int .i64 0, .int .i64 0, .int .i64 0, .slice none 0 0] 26
  have tk1 : True := trivial
  have hzz : w.heap.size < w3.heap.size := L0
  go_wp2_with (first | (have _t := tk1; refine wpl_put ⟨x0, x1, x2, x3, x4, x5, x6, x7, x8, x9, x10, x11, false, 0, 0, x12 * 256 + x13, []⟩ none 0 0 (.tmp 3) (.tmp 11) rfl T1 ?_ ?_ ?_ ?_; rfl; rfl; rfl; clear tk1; intro w4 A4 T4 G4; have hK : w3.heap.size ≠ r := (by omega); have hK' : r ≠ w3.heap.size := (by omega); have G34 : w3.grownBy w4 (some r) := put_grown G4; have B4 := put_below G4; have R4 := R3.on B4; replace T0 := there_on T0 L0 B4; replace L0 : w.heap.size < w4.heap.size := Nat.lt_of_lt_of_le L0 B4.size; replace W0 := grown_trans W0 G34; have L4 : w3.heap.size < w4.heap.size := A4.lt; have p15 := A4.c15; clear T1 G4 G34 B4 R3))
  refine (pairX x14 x15 _ r a3 (n - 6 - 6 - 2) (c - 6 - 6 - 2) _ R4).mono ?_
  rintro e w5 ⟨rfl, a5, R5, k1, G5⟩
  have A5 := A4.kept hK G5
  have T5 := there_kept T4 L4 hK G5
  replace T0 := there_kept T0 L0 hne G5
  replace W0 := grown_trans W0 G5
  replace K0 := K0.trans k1
  have hl5 : ∀ b o, a5 = some ⟨b, o, none⟩ → b < w.heap.size := fun b o e => by
    obtain ⟨o2, e2⟩ := K0 b o e
    exact HLT.out b o2 e2 hpos
  have HL5 := hide hl5
  have q12 := A5.c12
  have q13 := A5.c13
  have q14 := A5.c14
  have f12 : w5.frozen? ⟨w3.heap.size, 12, none⟩ = false := (T5 12 (by omega)).2
  have f13 : w5.frozen? ⟨w3.heap.size, 13, none⟩ = false := (T5 13 (by omega)).2
  have f14 : w5.frozen? ⟨w3.heap.size, 14, none⟩ = false := (T5 14 (by omega)).2
  have G6 : w5.grownBy (((w5.setCell ⟨w3.heap.size, 12, none⟩ (.bool true)).setCell ⟨w3.heap.size, 14, none⟩ (.int .i64 ((x14 * 256 + x15) / 8192))).setCell ⟨w3.heap.size, 13, none⟩ (.int .i64 ((x14 * 256 + x15) % 8192))) (some w3.heap.size) := grown_trans (grown_trans (setCell_grown _ _ _ _) (setCell_grown _ _ _ _)) (setCell_grown _ _ _ _)
  have R6 := R5.kept hK' (fun b o e => by have := hl5 b o e; omega) G6
  have L5 : w.heap.size < w5.heap.size := Nat.lt_of_lt_of_le L0 G5.size
  have L5' : w3.heap.size < w5.heap.size := Nat.lt_of_lt_of_le L4 G5.size
  have HG := hide G6
  clear A4 T4 R4 R5 G5 k1 L0 L4 p15 G6 hl5
  go_wp2_with fail
  refine (pairX x16 x17 _ r a5 (n - 6 - 6 - 2 - 2) (c - 6 - 6 - 2 - 2) _ R6).mono ?_
  rintro e w7 ⟨rfl, a7, R7, k1, G7⟩
  have A7 := (((A5.set12 true).set14 ((x14 * 256 + x15) / 8192)).set13 ((x14 * 256 + x15) % 8192)).kept hK G7
  have T6 : World.there (((w5.setCell ⟨w3.heap.size, 12, none⟩ (.bool true)).setCell ⟨w3.heap.size, 14, none⟩ (.int .i64 ((x14 * 256 + x15) / 8192))).setCell ⟨w3.heap.size, 13, none⟩ (.int .i64 ((x14 * 256 + x15) % 8192))) w3.heap.size 0 17 := World.there_setCells (World.there_setCells (World.there_setCells T5 w3.heap.size 12 [.bool true]) w3.heap.size 14 [.int .i64 ((x14 * 256 + x15) / 8192)]) w3.heap.size 13 [.int .i64 ((x14 * 256 + x15) % 8192)]
  have T7 := there_kept T6 (Nat.lt_of_lt_of_le L5' HG.out.size) hK G7
  have U6 := there_kept T0 L5 (by omega) HG.out
  have U7 := there_kept U6 (Nat.lt_of_lt_of_le L5 HG.out.size) hne G7
  have V7 := grown_trans (grown_new W0 HG.out (by omega)) G7
  have L7 : w.heap.size < w7.heap.size := Nat.lt_of_lt_of_le (Nat.lt_of_lt_of_le L5 HG.out.size) G7.size
  replace K0 := K0.trans k1
  have hl7 : ∀ b o, a7 = some ⟨b, o, none⟩ → b < w.heap.size := fun b o e => by
    obtain ⟨o2, e2⟩ := K0 b o e
    exact HLT.out b o2 e2 hpos
  have q15 := A7.c15
  have q16 := A7.c16
  have f15 : w7.frozen? ⟨w3.heap.size, 15, none⟩ = false := (T7 15 (by omega)).2
  have f16 : w7.frozen? ⟨w3.heap.size, 16, none⟩ = false := (T7 16 (by omega)).2
  have pr := R7.at_
  have A8 := (A7.set15 (x16 * 256 + x17)).set16 (.slice a7 (n - 6 - 6 - 2 - 2 - 2) (c - 6 - 6 - 2 - 2 - 2))
  have G8 : w7.grownBy ((w7.setCell ⟨w3.heap.size, 15, none⟩ (.int .i64 (x16 * 256 + x17))).setCell ⟨w3.heap.size, 16, none⟩ (.slice a7 (n - 6 - 6 - 2 - 2 - 2) (c - 6 - 6 - 2 - 2 - 2))) (some w3.heap.size) := grown_trans (setCell_grown _ _ _ _) (setCell_grown _ _ _ _)
  have Y8 := R7.byt.kept (k := w3.heap.size) (fun b o e => by have := hl7 b o e; omega) G8
  have T8 := there_kept U7 L7 (by omega) G8
  have V8 := grown_new V7 G8 (by omega)
  have HL7 := hide hl7
  have tk2 : True := trivial
  have tk3 : True := trivial
  clear A5 A7 T5 T6 T7 U6 U7 V7 T0 W0 R6 R7 k1 G7 G8 hl7 q12 q13 q14 f12 f13 f14 HG
  go_wp2_with (first | (have _t := tk2; refine wpl_frame (.tmp 3) rfl A8 ?_ ?_ ?_; rfl; rfl; clear tk2) | (have _t := tk3; refine wpl_put (⟨x0, x1, x2, x3, x4, x5, x6, x7, x8, x9, x10, x11, true, (x14 * 256 + x15) % 8192, (x14 * 256 + x15) / 8192, x16 * 256 + x17, q⟩ : Fd) a7 (n - 6 - 6 - 2 - 2 - 2) (c - 6 - 6 - 2 - 2 - 2) (.tmp 2) (.tmp 32) rfl T8 ?_ ?_ ?_ ?_; rfl; rfl; rfl; clear tk3; intro w9 A9 T9 G9))
  refine bodyPost_ret (res_frame rfl rfl A9) rfl ⟨a7, n - 6 - 6 - 2 - 2 - 2, c - 6 - 6 - 2 - 2 - 2, rfl, Y8.kept (fun b o e => by have := HL7.out b o e; omega) G9, K0, grown_new V8 G9 (Nat.le_refl _)⟩

end Go.Proofs.Ytmpojeehjhpkbaa
