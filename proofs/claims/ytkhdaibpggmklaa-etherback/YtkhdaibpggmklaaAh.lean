/- Contracts of Tag, as the program and as the document has it. -/
import Derived.Test.YtkhdaibpggmklaaAg
namespace Go.Proofs.Ytkhdaibpggmklaa
open Go.RowKit

/-- What Tag answers. -/
def tF (f : Fd) (v p : Int) : Fd := if rt (tgf f v p) then tgf f v p else zero
def tC (f : Fd) (v p : Int) : Int := if rt (tgf f v p) then 0 else 1
theorem tF_yes {f : Fd} {v p : Int} (h : rt (tgf f v p) = true) : tF f v p = tgf f v p := by simp [tF, h]
theorem tF_no {f : Fd} {v p : Int} (h : rt (tgf f v p) = false) : tF f v p = zero := by simp [tF, h]
theorem tC_yes {f : Fd} {v p : Int} (h : rt (tgf f v p) = true) : tC f v p = 0 := by simp [tC, h]
theorem tC_no {f : Fd} {v p : Int} (h : rt (tgf f v p) = false) : tC f v p = 1 := by simp [tC, h]
set_option maxRecDepth 100000 in
set_option maxHeartbeats 2000000 in
theorem tag17_no (f : Fd) (ao : Option Addr) (n c : Nat) (v p : Int) (w : World) (hb : Byt w ao n c f.bs) (hr : rt (tgf f v p) = false) :
    Calls Try.prog 17 #[.agg #[.int .u8 f.d0, .int .u8 f.d1, .int .u8 f.d2, .int .u8 f.d3, .int .u8 f.d4, .int .u8 f.d5, .int .u8 f.s0, .int .u8 f.s1, .int .u8 f.s2, .int .u8 f.s3, .int .u8 f.s4, .int .u8 f.s5, .bool f.tg, .int .i64 f.vl, .int .i64 f.pr, .int .i64 f.ty, (.slice ao n c)], .int .i64 v, .int .i64 p] w fun e w' => e = .returned (.tuple #[.agg #[.int .u8 zero.d0, .int .u8 zero.d1, .int .u8 zero.d2, .int .u8 zero.d3, .int .u8 zero.d4, .int .u8 zero.d5, .int .u8 zero.s0, .int .u8 zero.s1, .int .u8 zero.s2, .int .u8 zero.s3, .int .u8 zero.s4, .int .u8 zero.s5, .bool zero.tg, .int .i64 zero.vl, .int .i64 zero.pr, .int .i64 zero.ty, (.slice none 0 0)], .int .i64 1]) ∧ Below w.heap.size w w' := by
  have A0 : AtF ((w.alloc (.cells #[.int .u8 f.d0, .int .u8 f.d1, .int .u8 f.d2, .int .u8 f.d3, .int .u8 f.d4, .int .u8 f.d5, .int .u8 f.s0, .int .u8 f.s1, .int .u8 f.s2, .int .u8 f.s3, .int .u8 f.s4, .int .u8 f.s5, .bool true, .int .i64 v, .int .i64 p, .int .i64 f.ty, (.slice ao n c)] 26)).alloc (.cells #[.int .u8 0, .int .u8 0, .int .u8 0, .int .u8 0, .int .u8 0, .int .u8 0, .int .u8 0, .int .u8 0, .int .u8 0, .int .u8 0, .int .u8 0, .int .u8 0, .bool false, .int .i64 0, .int .i64 0, .int .i64 0, .slice none 0 0] 26)) w.heap.size (tgf f v p) (.slice ao n c) := (AtF.new w (tgf f v p) (.slice ao n c)).alloc (.cells #[.int .u8 0, .int .u8 0, .int .u8 0, .int .u8 0, .int .u8 0, .int .u8 0, .int .u8 0, .int .u8 0, .int .u8 0, .int .u8 0, .int .u8 0, .int .u8 0, .bool false, .int .i64 0, .int .i64 0, .int .i64 0, .slice none 0 0] 26)
  have Y0 : Byt ((w.alloc (.cells #[.int .u8 f.d0, .int .u8 f.d1, .int .u8 f.d2, .int .u8 f.d3, .int .u8 f.d4, .int .u8 f.d5, .int .u8 f.s0, .int .u8 f.s1, .int .u8 f.s2, .int .u8 f.s3, .int .u8 f.s4, .int .u8 f.s5, .bool true, .int .i64 v, .int .i64 p, .int .i64 f.ty, (.slice ao n c)] 26)).alloc (.cells #[.int .u8 0, .int .u8 0, .int .u8 0, .int .u8 0, .int .u8 0, .int .u8 0, .int .u8 0, .int .u8 0, .int .u8 0, .int .u8 0, .int .u8 0, .int .u8 0, .bool false, .int .i64 0, .int .i64 0, .int .i64 0, .slice none 0 0] 26)) ao n c f.bs := (hb.alloc _).alloc _
  have W0 : Below w.heap.size w ((w.alloc (.cells #[.int .u8 f.d0, .int .u8 f.d1, .int .u8 f.d2, .int .u8 f.d3, .int .u8 f.d4, .int .u8 f.d5, .int .u8 f.s0, .int .u8 f.s1, .int .u8 f.s2, .int .u8 f.s3, .int .u8 f.s4, .int .u8 f.s5, .bool true, .int .i64 v, .int .i64 p, .int .i64 f.ty, (.slice ao n c)] 26)).alloc (.cells #[.int .u8 0, .int .u8 0, .int .u8 0, .int .u8 0, .int .u8 0, .int .u8 0, .int .u8 0, .int .u8 0, .int .u8 0, .int .u8 0, .int .u8 0, .int .u8 0, .bool false, .int .i64 0, .int .i64 0, .int .i64 0, .slice none 0 0] 26)) := by go_grown
  have T0 : World.there ((w.alloc (.cells #[.int .u8 f.d0, .int .u8 f.d1, .int .u8 f.d2, .int .u8 f.d3, .int .u8 f.d4, .int .u8 f.d5, .int .u8 f.s0, .int .u8 f.s1, .int .u8 f.s2, .int .u8 f.s3, .int .u8 f.s4, .int .u8 f.s5, .bool true, .int .i64 v, .int .i64 p, .int .i64 f.ty, (.slice ao n c)] 26)).alloc (.cells #[.int .u8 0, .int .u8 0, .int .u8 0, .int .u8 0, .int .u8 0, .int .u8 0, .int .u8 0, .int .u8 0, .int .u8 0, .int .u8 0, .int .u8 0, .int .u8 0, .bool false, .int .i64 0, .int .i64 0, .int .i64 0, .slice none 0 0] 26)) (w.heap.size + 1) 0 17 := by
    have h := there_new (w.alloc (.cells #[.int .u8 f.d0, .int .u8 f.d1, .int .u8 f.d2, .int .u8 f.d3, .int .u8 f.d4, .int .u8 f.d5, .int .u8 f.s0, .int .u8 f.s1, .int .u8 f.s2, .int .u8 f.s3, .int .u8 f.s4, .int .u8 f.s5, .bool true, .int .i64 v, .int .i64 p, .int .i64 f.ty, (.slice ao n c)] 26)) #[.int .u8 0, .int .u8 0, .int .u8 0, .int .u8 0, .int .u8 0, .int .u8 0, .int .u8 0, .int .u8 0, .int .u8 0, .int .u8 0, .int .u8 0, .int .u8 0, .bool false, .int .i64 0, .int .i64 0, .int .i64 0, .slice none 0 0] 26
    rw [World.size_alloc] at h
    exact h
  have F0 : World.frozen? ((w.alloc (.cells #[.int .u8 f.d0, .int .u8 f.d1, .int .u8 f.d2, .int .u8 f.d3, .int .u8 f.d4, .int .u8 f.d5, .int .u8 f.s0, .int .u8 f.s1, .int .u8 f.s2, .int .u8 f.s3, .int .u8 f.s4, .int .u8 f.s5, .bool true, .int .i64 v, .int .i64 p, .int .i64 f.ty, (.slice ao n c)] 26)).alloc (.cells #[.int .u8 0, .int .u8 0, .int .u8 0, .int .u8 0, .int .u8 0, .int .u8 0, .int .u8 0, .int .u8 0, .int .u8 0, .int .u8 0, .int .u8 0, .int .u8 0, .bool false, .int .i64 0, .int .i64 0, .int .i64 0, .slice none 0 0] 26)) ⟨w.heap.size, 16, none⟩ = false := by simp
  have L0 : w.heap.size + 1 < (((w.alloc (.cells #[.int .u8 f.d0, .int .u8 f.d1, .int .u8 f.d2, .int .u8 f.d3, .int .u8 f.d4, .int .u8 f.d5, .int .u8 f.s0, .int .u8 f.s1, .int .u8 f.s2, .int .u8 f.s3, .int .u8 f.s4, .int .u8 f.s5, .bool true, .int .i64 v, .int .i64 p, .int .i64 f.ty, (.slice ao n c)] 26)).alloc (.cells #[.int .u8 0, .int .u8 0, .int .u8 0, .int .u8 0, .int .u8 0, .int .u8 0, .int .u8 0, .int .u8 0, .int .u8 0, .int .u8 0, .int .u8 0, .int .u8 0, .bool false, .int .i64 0, .int .i64 0, .int .i64 0, .slice none 0 0] 26))).heap.size := by simp
  have HN : Hid ((tgf f v p).bs.length = n) := hide hb.len
  have HL := hide hb.lt
  clear hb
  have tk1 : True := trivial
  go_enter Try.func17, Try.ntmps17
  go_wp2_with (have _t := tk1; refine wpl_frame (.tmp 3) rfl A0 ?_ ?_ ?_; rfl; rfl; clear tk1)
  refine (right12 (tgf f v p) ao n c _ HN.out).mono ?_
  rintro e w1 ⟨rfl, hb1⟩
  replace A0 := A0.on hb1; replace Y0 := Y0.on hb1; replace T0 := there_on T0 L0 hb1
  replace F0 : w1.frozen? ⟨w.heap.size, 16, none⟩ = false := (hb1.frozen (p := ⟨w.heap.size, 16, none⟩) (Nat.lt_trans (Nat.lt_succ_self _) L0)).trans F0
  replace W0 := belowOn W0 hb1
  replace L0 : w.heap.size + 1 < w1.heap.size := Nat.lt_of_lt_of_le L0 hb1.size
  clear hb1
  have tk2 : True := trivial
  clear A0 F0 Y0
  go_wp2_with (have _t := tk2; refine wpl_put zero none 0 0 (.tmp 6) (.tmp 16) rfl T0 ?_ ?_ ?_ ?_; rfl; rfl; rfl; clear tk2; intro w2 A3 T3 G3)
  refine bodyPost_ret (res_frame_tmp rfl rfl A3) rfl ⟨rfl, below_grown W0 G3 (by omega) (by omega)⟩

set_option maxRecDepth 100000 in
set_option maxHeartbeats 2000000 in
theorem tag18_no (f : Fd) (ao : Option Addr) (n c : Nat) (v p : Int) (w : World) (hb : Byt w ao n c f.bs) (hr : rt (tgf f v p) = false) :
    Calls Try.prog 18 #[.agg #[.int .u8 f.d0, .int .u8 f.d1, .int .u8 f.d2, .int .u8 f.d3, .int .u8 f.d4, .int .u8 f.d5, .int .u8 f.s0, .int .u8 f.s1, .int .u8 f.s2, .int .u8 f.s3, .int .u8 f.s4, .int .u8 f.s5, .bool f.tg, .int .i64 f.vl, .int .i64 f.pr, .int .i64 f.ty, (.slice ao n c)], .int .i64 v, .int .i64 p] w fun e w' => e = .returned (.tuple #[.agg #[.int .u8 zero.d0, .int .u8 zero.d1, .int .u8 zero.d2, .int .u8 zero.d3, .int .u8 zero.d4, .int .u8 zero.d5, .int .u8 zero.s0, .int .u8 zero.s1, .int .u8 zero.s2, .int .u8 zero.s3, .int .u8 zero.s4, .int .u8 zero.s5, .bool zero.tg, .int .i64 zero.vl, .int .i64 zero.pr, .int .i64 zero.ty, (.slice none 0 0)], .int .i64 1]) ∧ Below w.heap.size w w' := by
  have A0 : AtF ((w.alloc (.cells #[.int .u8 f.d0, .int .u8 f.d1, .int .u8 f.d2, .int .u8 f.d3, .int .u8 f.d4, .int .u8 f.d5, .int .u8 f.s0, .int .u8 f.s1, .int .u8 f.s2, .int .u8 f.s3, .int .u8 f.s4, .int .u8 f.s5, .bool true, .int .i64 v, .int .i64 p, .int .i64 f.ty, (.slice ao n c)] 26)).alloc (.cells #[.int .u8 0, .int .u8 0, .int .u8 0, .int .u8 0, .int .u8 0, .int .u8 0, .int .u8 0, .int .u8 0, .int .u8 0, .int .u8 0, .int .u8 0, .int .u8 0, .bool false, .int .i64 0, .int .i64 0, .int .i64 0, .slice none 0 0] 26)) w.heap.size (tgf f v p) (.slice ao n c) := (AtF.new w (tgf f v p) (.slice ao n c)).alloc (.cells #[.int .u8 0, .int .u8 0, .int .u8 0, .int .u8 0, .int .u8 0, .int .u8 0, .int .u8 0, .int .u8 0, .int .u8 0, .int .u8 0, .int .u8 0, .int .u8 0, .bool false, .int .i64 0, .int .i64 0, .int .i64 0, .slice none 0 0] 26)
  have Y0 : Byt ((w.alloc (.cells #[.int .u8 f.d0, .int .u8 f.d1, .int .u8 f.d2, .int .u8 f.d3, .int .u8 f.d4, .int .u8 f.d5, .int .u8 f.s0, .int .u8 f.s1, .int .u8 f.s2, .int .u8 f.s3, .int .u8 f.s4, .int .u8 f.s5, .bool true, .int .i64 v, .int .i64 p, .int .i64 f.ty, (.slice ao n c)] 26)).alloc (.cells #[.int .u8 0, .int .u8 0, .int .u8 0, .int .u8 0, .int .u8 0, .int .u8 0, .int .u8 0, .int .u8 0, .int .u8 0, .int .u8 0, .int .u8 0, .int .u8 0, .bool false, .int .i64 0, .int .i64 0, .int .i64 0, .slice none 0 0] 26)) ao n c f.bs := (hb.alloc _).alloc _
  have W0 : Below w.heap.size w ((w.alloc (.cells #[.int .u8 f.d0, .int .u8 f.d1, .int .u8 f.d2, .int .u8 f.d3, .int .u8 f.d4, .int .u8 f.d5, .int .u8 f.s0, .int .u8 f.s1, .int .u8 f.s2, .int .u8 f.s3, .int .u8 f.s4, .int .u8 f.s5, .bool true, .int .i64 v, .int .i64 p, .int .i64 f.ty, (.slice ao n c)] 26)).alloc (.cells #[.int .u8 0, .int .u8 0, .int .u8 0, .int .u8 0, .int .u8 0, .int .u8 0, .int .u8 0, .int .u8 0, .int .u8 0, .int .u8 0, .int .u8 0, .int .u8 0, .bool false, .int .i64 0, .int .i64 0, .int .i64 0, .slice none 0 0] 26)) := by go_grown
  have T0 : World.there ((w.alloc (.cells #[.int .u8 f.d0, .int .u8 f.d1, .int .u8 f.d2, .int .u8 f.d3, .int .u8 f.d4, .int .u8 f.d5, .int .u8 f.s0, .int .u8 f.s1, .int .u8 f.s2, .int .u8 f.s3, .int .u8 f.s4, .int .u8 f.s5, .bool true, .int .i64 v, .int .i64 p, .int .i64 f.ty, (.slice ao n c)] 26)).alloc (.cells #[.int .u8 0, .int .u8 0, .int .u8 0, .int .u8 0, .int .u8 0, .int .u8 0, .int .u8 0, .int .u8 0, .int .u8 0, .int .u8 0, .int .u8 0, .int .u8 0, .bool false, .int .i64 0, .int .i64 0, .int .i64 0, .slice none 0 0] 26)) (w.heap.size + 1) 0 17 := by
    have h := there_new (w.alloc (.cells #[.int .u8 f.d0, .int .u8 f.d1, .int .u8 f.d2, .int .u8 f.d3, .int .u8 f.d4, .int .u8 f.d5, .int .u8 f.s0, .int .u8 f.s1, .int .u8 f.s2, .int .u8 f.s3, .int .u8 f.s4, .int .u8 f.s5, .bool true, .int .i64 v, .int .i64 p, .int .i64 f.ty, (.slice ao n c)] 26)) #[.int .u8 0, .int .u8 0, .int .u8 0, .int .u8 0, .int .u8 0, .int .u8 0, .int .u8 0, .int .u8 0, .int .u8 0, .int .u8 0, .int .u8 0, .int .u8 0, .bool false, .int .i64 0, .int .i64 0, .int .i64 0, .slice none 0 0] 26
    rw [World.size_alloc] at h
    exact h
  have F0 : World.frozen? ((w.alloc (.cells #[.int .u8 f.d0, .int .u8 f.d1, .int .u8 f.d2, .int .u8 f.d3, .int .u8 f.d4, .int .u8 f.d5, .int .u8 f.s0, .int .u8 f.s1, .int .u8 f.s2, .int .u8 f.s3, .int .u8 f.s4, .int .u8 f.s5, .bool true, .int .i64 v, .int .i64 p, .int .i64 f.ty, (.slice ao n c)] 26)).alloc (.cells #[.int .u8 0, .int .u8 0, .int .u8 0, .int .u8 0, .int .u8 0, .int .u8 0, .int .u8 0, .int .u8 0, .int .u8 0, .int .u8 0, .int .u8 0, .int .u8 0, .bool false, .int .i64 0, .int .i64 0, .int .i64 0, .slice none 0 0] 26)) ⟨w.heap.size, 16, none⟩ = false := by simp
  have L0 : w.heap.size + 1 < (((w.alloc (.cells #[.int .u8 f.d0, .int .u8 f.d1, .int .u8 f.d2, .int .u8 f.d3, .int .u8 f.d4, .int .u8 f.d5, .int .u8 f.s0, .int .u8 f.s1, .int .u8 f.s2, .int .u8 f.s3, .int .u8 f.s4, .int .u8 f.s5, .bool true, .int .i64 v, .int .i64 p, .int .i64 f.ty, (.slice ao n c)] 26)).alloc (.cells #[.int .u8 0, .int .u8 0, .int .u8 0, .int .u8 0, .int .u8 0, .int .u8 0, .int .u8 0, .int .u8 0, .int .u8 0, .int .u8 0, .int .u8 0, .int .u8 0, .bool false, .int .i64 0, .int .i64 0, .int .i64 0, .slice none 0 0] 26))).heap.size := by simp
  have HN : Hid ((tgf f v p).bs.length = n) := hide hb.len
  have HL := hide hb.lt
  clear hb
  have tk1 : True := trivial
  go_enter Try.func18, Try.ntmps18
  go_wp2_with (have _t := tk1; refine wpl_frame (.tmp 3) rfl A0 ?_ ?_ ?_; rfl; rfl; clear tk1)
  refine (right13 (tgf f v p) ao n c _ HN.out).mono ?_
  rintro e w1 ⟨rfl, hb1⟩
  replace A0 := A0.on hb1; replace Y0 := Y0.on hb1; replace T0 := there_on T0 L0 hb1
  replace F0 : w1.frozen? ⟨w.heap.size, 16, none⟩ = false := (hb1.frozen (p := ⟨w.heap.size, 16, none⟩) (Nat.lt_trans (Nat.lt_succ_self _) L0)).trans F0
  replace W0 := belowOn W0 hb1
  replace L0 : w.heap.size + 1 < w1.heap.size := Nat.lt_of_lt_of_le L0 hb1.size
  clear hb1
  have tk2 : True := trivial
  clear A0 F0 Y0
  go_wp2_with (have _t := tk2; refine wpl_put zero none 0 0 (.tmp 6) (.tmp 18) rfl T0 ?_ ?_ ?_ ?_; rfl; rfl; rfl; clear tk2; intro w2 A3 T3 G3)
  refine bodyPost_ret (res_frame_tmp rfl rfl A3) rfl ⟨rfl, below_grown W0 G3 (by omega) (by omega)⟩

set_option maxRecDepth 100000 in
set_option maxHeartbeats 2000000 in
theorem tag17_yes (f : Fd) (ao : Option Addr) (n c : Nat) (v p : Int) (w : World) (hb : Byt w ao n c f.bs) (hn : n ≤ 5000) (hr : rt (tgf f v p) = true) :
    Calls Try.prog 17 #[.agg #[.int .u8 f.d0, .int .u8 f.d1, .int .u8 f.d2, .int .u8 f.d3, .int .u8 f.d4, .int .u8 f.d5, .int .u8 f.s0, .int .u8 f.s1, .int .u8 f.s2, .int .u8 f.s3, .int .u8 f.s4, .int .u8 f.s5, .bool f.tg, .int .i64 f.vl, .int .i64 f.pr, .int .i64 f.ty, (.slice ao n c)], .int .i64 v, .int .i64 p] w fun e w' => ∃ ao' c', e = .returned (.tuple #[.agg #[.int .u8 (tgf f v p).d0, .int .u8 (tgf f v p).d1, .int .u8 (tgf f v p).d2, .int .u8 (tgf f v p).d3, .int .u8 (tgf f v p).d4, .int .u8 (tgf f v p).d5, .int .u8 (tgf f v p).s0, .int .u8 (tgf f v p).s1, .int .u8 (tgf f v p).s2, .int .u8 (tgf f v p).s3, .int .u8 (tgf f v p).s4, .int .u8 (tgf f v p).s5, .bool (tgf f v p).tg, .int .i64 (tgf f v p).vl, .int .i64 (tgf f v p).pr, .int .i64 (tgf f v p).ty, (.slice ao' n c')], .int .i64 0]) ∧ Byt w' ao' n c' f.bs ∧ Below w.heap.size w w' := by
  have A0 : AtF ((w.alloc (.cells #[.int .u8 f.d0, .int .u8 f.d1, .int .u8 f.d2, .int .u8 f.d3, .int .u8 f.d4, .int .u8 f.d5, .int .u8 f.s0, .int .u8 f.s1, .int .u8 f.s2, .int .u8 f.s3, .int .u8 f.s4, .int .u8 f.s5, .bool true, .int .i64 v, .int .i64 p, .int .i64 f.ty, (.slice ao n c)] 26)).alloc (.cells #[.int .u8 0, .int .u8 0, .int .u8 0, .int .u8 0, .int .u8 0, .int .u8 0, .int .u8 0, .int .u8 0, .int .u8 0, .int .u8 0, .int .u8 0, .int .u8 0, .bool false, .int .i64 0, .int .i64 0, .int .i64 0, .slice none 0 0] 26)) w.heap.size (tgf f v p) (.slice ao n c) := (AtF.new w (tgf f v p) (.slice ao n c)).alloc (.cells #[.int .u8 0, .int .u8 0, .int .u8 0, .int .u8 0, .int .u8 0, .int .u8 0, .int .u8 0, .int .u8 0, .int .u8 0, .int .u8 0, .int .u8 0, .int .u8 0, .bool false, .int .i64 0, .int .i64 0, .int .i64 0, .slice none 0 0] 26)
  have Y0 : Byt ((w.alloc (.cells #[.int .u8 f.d0, .int .u8 f.d1, .int .u8 f.d2, .int .u8 f.d3, .int .u8 f.d4, .int .u8 f.d5, .int .u8 f.s0, .int .u8 f.s1, .int .u8 f.s2, .int .u8 f.s3, .int .u8 f.s4, .int .u8 f.s5, .bool true, .int .i64 v, .int .i64 p, .int .i64 f.ty, (.slice ao n c)] 26)).alloc (.cells #[.int .u8 0, .int .u8 0, .int .u8 0, .int .u8 0, .int .u8 0, .int .u8 0, .int .u8 0, .int .u8 0, .int .u8 0, .int .u8 0, .int .u8 0, .int .u8 0, .bool false, .int .i64 0, .int .i64 0, .int .i64 0, .slice none 0 0] 26)) ao n c f.bs := (hb.alloc _).alloc _
  have W0 : Below w.heap.size w ((w.alloc (.cells #[.int .u8 f.d0, .int .u8 f.d1, .int .u8 f.d2, .int .u8 f.d3, .int .u8 f.d4, .int .u8 f.d5, .int .u8 f.s0, .int .u8 f.s1, .int .u8 f.s2, .int .u8 f.s3, .int .u8 f.s4, .int .u8 f.s5, .bool true, .int .i64 v, .int .i64 p, .int .i64 f.ty, (.slice ao n c)] 26)).alloc (.cells #[.int .u8 0, .int .u8 0, .int .u8 0, .int .u8 0, .int .u8 0, .int .u8 0, .int .u8 0, .int .u8 0, .int .u8 0, .int .u8 0, .int .u8 0, .int .u8 0, .bool false, .int .i64 0, .int .i64 0, .int .i64 0, .slice none 0 0] 26)) := by go_grown
  have T0 : World.there ((w.alloc (.cells #[.int .u8 f.d0, .int .u8 f.d1, .int .u8 f.d2, .int .u8 f.d3, .int .u8 f.d4, .int .u8 f.d5, .int .u8 f.s0, .int .u8 f.s1, .int .u8 f.s2, .int .u8 f.s3, .int .u8 f.s4, .int .u8 f.s5, .bool true, .int .i64 v, .int .i64 p, .int .i64 f.ty, (.slice ao n c)] 26)).alloc (.cells #[.int .u8 0, .int .u8 0, .int .u8 0, .int .u8 0, .int .u8 0, .int .u8 0, .int .u8 0, .int .u8 0, .int .u8 0, .int .u8 0, .int .u8 0, .int .u8 0, .bool false, .int .i64 0, .int .i64 0, .int .i64 0, .slice none 0 0] 26)) (w.heap.size + 1) 0 17 := by
    have h := there_new (w.alloc (.cells #[.int .u8 f.d0, .int .u8 f.d1, .int .u8 f.d2, .int .u8 f.d3, .int .u8 f.d4, .int .u8 f.d5, .int .u8 f.s0, .int .u8 f.s1, .int .u8 f.s2, .int .u8 f.s3, .int .u8 f.s4, .int .u8 f.s5, .bool true, .int .i64 v, .int .i64 p, .int .i64 f.ty, (.slice ao n c)] 26)) #[.int .u8 0, .int .u8 0, .int .u8 0, .int .u8 0, .int .u8 0, .int .u8 0, .int .u8 0, .int .u8 0, .int .u8 0, .int .u8 0, .int .u8 0, .int .u8 0, .bool false, .int .i64 0, .int .i64 0, .int .i64 0, .slice none 0 0] 26
    rw [World.size_alloc] at h
    exact h
  have F0 : World.frozen? ((w.alloc (.cells #[.int .u8 f.d0, .int .u8 f.d1, .int .u8 f.d2, .int .u8 f.d3, .int .u8 f.d4, .int .u8 f.d5, .int .u8 f.s0, .int .u8 f.s1, .int .u8 f.s2, .int .u8 f.s3, .int .u8 f.s4, .int .u8 f.s5, .bool true, .int .i64 v, .int .i64 p, .int .i64 f.ty, (.slice ao n c)] 26)).alloc (.cells #[.int .u8 0, .int .u8 0, .int .u8 0, .int .u8 0, .int .u8 0, .int .u8 0, .int .u8 0, .int .u8 0, .int .u8 0, .int .u8 0, .int .u8 0, .int .u8 0, .bool false, .int .i64 0, .int .i64 0, .int .i64 0, .slice none 0 0] 26)) ⟨w.heap.size, 16, none⟩ = false := by simp
  have L0 : w.heap.size + 1 < (((w.alloc (.cells #[.int .u8 f.d0, .int .u8 f.d1, .int .u8 f.d2, .int .u8 f.d3, .int .u8 f.d4, .int .u8 f.d5, .int .u8 f.s0, .int .u8 f.s1, .int .u8 f.s2, .int .u8 f.s3, .int .u8 f.s4, .int .u8 f.s5, .bool true, .int .i64 v, .int .i64 p, .int .i64 f.ty, (.slice ao n c)] 26)).alloc (.cells #[.int .u8 0, .int .u8 0, .int .u8 0, .int .u8 0, .int .u8 0, .int .u8 0, .int .u8 0, .int .u8 0, .int .u8 0, .int .u8 0, .int .u8 0, .int .u8 0, .bool false, .int .i64 0, .int .i64 0, .int .i64 0, .slice none 0 0] 26))).heap.size := by simp
  have HN : Hid ((tgf f v p).bs.length = n) := hide hb.len
  have HL := hide hb.lt
  clear hb
  have tk1 : True := trivial
  go_enter Try.func17, Try.ntmps17
  go_wp2_with (have _t := tk1; refine wpl_frame (.tmp 3) rfl A0 ?_ ?_ ?_; rfl; rfl; clear tk1)
  refine (right12 (tgf f v p) ao n c _ HN.out).mono ?_
  rintro e w1 ⟨rfl, hb1⟩
  replace A0 := A0.on hb1; replace Y0 := Y0.on hb1; replace T0 := there_on T0 L0 hb1
  replace F0 : w1.frozen? ⟨w.heap.size, 16, none⟩ = false := (hb1.frozen (p := ⟨w.heap.size, 16, none⟩) (Nat.lt_trans (Nat.lt_succ_self _) L0)).trans F0
  replace W0 := belowOn W0 hb1
  replace L0 : w.heap.size + 1 < w1.heap.size := Nat.lt_of_lt_of_le L0 hb1.size
  clear hb1
  have p16 := A0.c16
  go_wp2_with fail
  refine (cloneF ao n c f.bs _ Y0 hn).mono ?_
  rintro e w2 ⟨ao', c', rfl, Y1, hfr, hb1⟩
  have A1 := A0.on hb1
  have T1 := there_on T0 L0 hb1
  have F1 : w2.frozen? ⟨w.heap.size, 16, none⟩ = false := (hb1.frozen (p := ⟨w.heap.size, 16, none⟩) (Nat.lt_trans (Nat.lt_succ_self _) L0)).trans F0
  have W1 := belowOn W0 hb1
  have L1 : w.heap.size + 1 < w2.heap.size := Nat.lt_of_lt_of_le L0 hb1.size
  replace hfr : ∀ b o, ao' = some ⟨b, o, none⟩ → w.heap.size + 1 < b := fun b o e => Nat.lt_of_lt_of_le L0 (hfr b o e)
  have q16 := A1.c16
  have G2 := setCell_grown w2 w.heap.size 16 (.slice ao' n c')
  have A2 := A1.set16 (.slice ao' n c')
  have T2 := there_kept T1 L1 (by omega) G2
  have Y2 := Y1.kept (k := w.heap.size) (fun b o e => by have := hfr b o e; omega) G2
  have W2 := below_grown W1 G2 (Nat.le_refl _) (by omega)
  have L2 : w.heap.size + 1 < (w2.setCell ⟨w.heap.size, 16, none⟩ (.slice ao' n c')).heap.size := Nat.lt_of_lt_of_le L1 G2.size
  have HF := hide hfr
  have tk1 : True := trivial
  have tk2 : True := trivial
  clear A0 Y0 W0 T0 F0 L0 hb1 A1 T1 W1 Y1 G2 hfr p16
  go_wp2_with (first | (have _t := tk1; refine wpl_frame (.tmp 3) rfl A2 ?_ ?_ ?_; rfl; rfl; clear tk1) | (have _t := tk2; refine wpl_put (tgf f v p) ao' n c' (.tmp 6) (.tmp 21) rfl T2 ?_ ?_ ?_ ?_; rfl; rfl; rfl; clear tk2; intro w3 A3 T3 G3))
  refine bodyPost_ret (res_frame_tmp rfl rfl A3) rfl ⟨ao', c', rfl, Y2.kept (fun b o e => by have := HF.out b o e; omega) G3, below_grown W2 G3 (by omega) (by omega)⟩

set_option maxRecDepth 100000 in
set_option maxHeartbeats 2000000 in
theorem tag18_yes (f : Fd) (ao : Option Addr) (n c : Nat) (v p : Int) (w : World) (hb : Byt w ao n c f.bs) (hr : rt (tgf f v p) = true) :
    Calls Try.prog 18 #[.agg #[.int .u8 f.d0, .int .u8 f.d1, .int .u8 f.d2, .int .u8 f.d3, .int .u8 f.d4, .int .u8 f.d5, .int .u8 f.s0, .int .u8 f.s1, .int .u8 f.s2, .int .u8 f.s3, .int .u8 f.s4, .int .u8 f.s5, .bool f.tg, .int .i64 f.vl, .int .i64 f.pr, .int .i64 f.ty, (.slice ao n c)], .int .i64 v, .int .i64 p] w fun e w' => e = .returned (.tuple #[.agg #[.int .u8 (tgf f v p).d0, .int .u8 (tgf f v p).d1, .int .u8 (tgf f v p).d2, .int .u8 (tgf f v p).d3, .int .u8 (tgf f v p).d4, .int .u8 (tgf f v p).d5, .int .u8 (tgf f v p).s0, .int .u8 (tgf f v p).s1, .int .u8 (tgf f v p).s2, .int .u8 (tgf f v p).s3, .int .u8 (tgf f v p).s4, .int .u8 (tgf f v p).s5, .bool (tgf f v p).tg, .int .i64 (tgf f v p).vl, .int .i64 (tgf f v p).pr, .int .i64 (tgf f v p).ty, (.slice ao n c)], .int .i64 0]) ∧ Byt w' ao n c f.bs ∧ Below w.heap.size w w' := by
  have A0 : AtF ((w.alloc (.cells #[.int .u8 f.d0, .int .u8 f.d1, .int .u8 f.d2, .int .u8 f.d3, .int .u8 f.d4, .int .u8 f.d5, .int .u8 f.s0, .int .u8 f.s1, .int .u8 f.s2, .int .u8 f.s3, .int .u8 f.s4, .int .u8 f.s5, .bool true, .int .i64 v, .int .i64 p, .int .i64 f.ty, (.slice ao n c)] 26)).alloc (.cells #[.int .u8 0, .int .u8 0, .int .u8 0, .int .u8 0, .int .u8 0, .int .u8 0, .int .u8 0, .int .u8 0, .int .u8 0, .int .u8 0, .int .u8 0, .int .u8 0, .bool false, .int .i64 0, .int .i64 0, .int .i64 0, .slice none 0 0] 26)) w.heap.size (tgf f v p) (.slice ao n c) := (AtF.new w (tgf f v p) (.slice ao n c)).alloc (.cells #[.int .u8 0, .int .u8 0, .int .u8 0, .int .u8 0, .int .u8 0, .int .u8 0, .int .u8 0, .int .u8 0, .int .u8 0, .int .u8 0, .int .u8 0, .int .u8 0, .bool false, .int .i64 0, .int .i64 0, .int .i64 0, .slice none 0 0] 26)
  have Y0 : Byt ((w.alloc (.cells #[.int .u8 f.d0, .int .u8 f.d1, .int .u8 f.d2, .int .u8 f.d3, .int .u8 f.d4, .int .u8 f.d5, .int .u8 f.s0, .int .u8 f.s1, .int .u8 f.s2, .int .u8 f.s3, .int .u8 f.s4, .int .u8 f.s5, .bool true, .int .i64 v, .int .i64 p, .int .i64 f.ty, (.slice ao n c)] 26)).alloc (.cells #[.int .u8 0, .int .u8 0, .int .u8 0, .int .u8 0, .int .u8 0, .int .u8 0, .int .u8 0, .int .u8 0, .int .u8 0, .int .u8 0, .int .u8 0, .int .u8 0, .bool false, .int .i64 0, .int .i64 0, .int .i64 0, .slice none 0 0] 26)) ao n c f.bs := (hb.alloc _).alloc _
  have W0 : Below w.heap.size w ((w.alloc (.cells #[.int .u8 f.d0, .int .u8 f.d1, .int .u8 f.d2, .int .u8 f.d3, .int .u8 f.d4, .int .u8 f.d5, .int .u8 f.s0, .int .u8 f.s1, .int .u8 f.s2, .int .u8 f.s3, .int .u8 f.s4, .int .u8 f.s5, .bool true, .int .i64 v, .int .i64 p, .int .i64 f.ty, (.slice ao n c)] 26)).alloc (.cells #[.int .u8 0, .int .u8 0, .int .u8 0, .int .u8 0, .int .u8 0, .int .u8 0, .int .u8 0, .int .u8 0, .int .u8 0, .int .u8 0, .int .u8 0, .int .u8 0, .bool false, .int .i64 0, .int .i64 0, .int .i64 0, .slice none 0 0] 26)) := by go_grown
  have T0 : World.there ((w.alloc (.cells #[.int .u8 f.d0, .int .u8 f.d1, .int .u8 f.d2, .int .u8 f.d3, .int .u8 f.d4, .int .u8 f.d5, .int .u8 f.s0, .int .u8 f.s1, .int .u8 f.s2, .int .u8 f.s3, .int .u8 f.s4, .int .u8 f.s5, .bool true, .int .i64 v, .int .i64 p, .int .i64 f.ty, (.slice ao n c)] 26)).alloc (.cells #[.int .u8 0, .int .u8 0, .int .u8 0, .int .u8 0, .int .u8 0, .int .u8 0, .int .u8 0, .int .u8 0, .int .u8 0, .int .u8 0, .int .u8 0, .int .u8 0, .bool false, .int .i64 0, .int .i64 0, .int .i64 0, .slice none 0 0] 26)) (w.heap.size + 1) 0 17 := by
    have h := there_new (w.alloc (.cells #[.int .u8 f.d0, .int .u8 f.d1, .int .u8 f.d2, .int .u8 f.d3, .int .u8 f.d4, .int .u8 f.d5, .int .u8 f.s0, .int .u8 f.s1, .int .u8 f.s2, .int .u8 f.s3, .int .u8 f.s4, .int .u8 f.s5, .bool true, .int .i64 v, .int .i64 p, .int .i64 f.ty, (.slice ao n c)] 26)) #[.int .u8 0, .int .u8 0, .int .u8 0, .int .u8 0, .int .u8 0, .int .u8 0, .int .u8 0, .int .u8 0, .int .u8 0, .int .u8 0, .int .u8 0, .int .u8 0, .bool false, .int .i64 0, .int .i64 0, .int .i64 0, .slice none 0 0] 26
    rw [World.size_alloc] at h
    exact h
  have F0 : World.frozen? ((w.alloc (.cells #[.int .u8 f.d0, .int .u8 f.d1, .int .u8 f.d2, .int .u8 f.d3, .int .u8 f.d4, .int .u8 f.d5, .int .u8 f.s0, .int .u8 f.s1, .int .u8 f.s2, .int .u8 f.s3, .int .u8 f.s4, .int .u8 f.s5, .bool true, .int .i64 v, .int .i64 p, .int .i64 f.ty, (.slice ao n c)] 26)).alloc (.cells #[.int .u8 0, .int .u8 0, .int .u8 0, .int .u8 0, .int .u8 0, .int .u8 0, .int .u8 0, .int .u8 0, .int .u8 0, .int .u8 0, .int .u8 0, .int .u8 0, .bool false, .int .i64 0, .int .i64 0, .int .i64 0, .slice none 0 0] 26)) ⟨w.heap.size, 16, none⟩ = false := by simp
  have L0 : w.heap.size + 1 < (((w.alloc (.cells #[.int .u8 f.d0, .int .u8 f.d1, .int .u8 f.d2, .int .u8 f.d3, .int .u8 f.d4, .int .u8 f.d5, .int .u8 f.s0, .int .u8 f.s1, .int .u8 f.s2, .int .u8 f.s3, .int .u8 f.s4, .int .u8 f.s5, .bool true, .int .i64 v, .int .i64 p, .int .i64 f.ty, (.slice ao n c)] 26)).alloc (.cells #[.int .u8 0, .int .u8 0, .int .u8 0, .int .u8 0, .int .u8 0, .int .u8 0, .int .u8 0, .int .u8 0, .int .u8 0, .int .u8 0, .int .u8 0, .int .u8 0, .bool false, .int .i64 0, .int .i64 0, .int .i64 0, .slice none 0 0] 26))).heap.size := by simp
  have HN : Hid ((tgf f v p).bs.length = n) := hide hb.len
  have HL := hide hb.lt
  clear hb
  have tk1 : True := trivial
  go_enter Try.func18, Try.ntmps18
  go_wp2_with (have _t := tk1; refine wpl_frame (.tmp 3) rfl A0 ?_ ?_ ?_; rfl; rfl; clear tk1)
  refine (right13 (tgf f v p) ao n c _ HN.out).mono ?_
  rintro e w1 ⟨rfl, hb1⟩
  replace A0 := A0.on hb1; replace Y0 := Y0.on hb1; replace T0 := there_on T0 L0 hb1
  replace F0 : w1.frozen? ⟨w.heap.size, 16, none⟩ = false := (hb1.frozen (p := ⟨w.heap.size, 16, none⟩) (Nat.lt_trans (Nat.lt_succ_self _) L0)).trans F0
  replace W0 := belowOn W0 hb1
  replace L0 : w.heap.size + 1 < w1.heap.size := Nat.lt_of_lt_of_le L0 hb1.size
  clear hb1
  have tk1 : True := trivial
  have tk2 : True := trivial
  clear F0
  go_wp2_with (first | (have _t := tk1; refine wpl_frame (.tmp 3) rfl A0 ?_ ?_ ?_; rfl; rfl; clear tk1) | (have _t := tk2; refine wpl_put (tgf f v p) ao n c (.tmp 6) (.tmp 19) rfl T0 ?_ ?_ ?_ ?_; rfl; rfl; rfl; clear tk2; intro w3 A3 T3 G3))
  refine bodyPost_ret (res_frame_tmp rfl rfl A3) rfl ⟨rfl, ?_, below_grown W0 G3 (by omega) (by omega)⟩
  exact Y0.below HL.out ((Below.refl _ _).grown G3 (by omega) (fun r hr => by have := Option.some.inj hr; omega))

theorem tag17 (f : Fd) (ao : Option Addr) (n c : Nat) (v p : Int) (w : World) (hb : Byt w ao n c f.bs) (hn : n ≤ 5000) :
    Calls Try.prog 17 #[.agg #[.int .u8 f.d0, .int .u8 f.d1, .int .u8 f.d2, .int .u8 f.d3, .int .u8 f.d4, .int .u8 f.d5, .int .u8 f.s0, .int .u8 f.s1, .int .u8 f.s2, .int .u8 f.s3, .int .u8 f.s4, .int .u8 f.s5, .bool f.tg, .int .i64 f.vl, .int .i64 f.pr, .int .i64 f.ty, (.slice ao n c)], .int .i64 v, .int .i64 p] w fun e w' => ∃ ao' n' c', e = .returned (.tuple #[.agg #[.int .u8 (tF f v p).d0, .int .u8 (tF f v p).d1, .int .u8 (tF f v p).d2, .int .u8 (tF f v p).d3, .int .u8 (tF f v p).d4, .int .u8 (tF f v p).d5, .int .u8 (tF f v p).s0, .int .u8 (tF f v p).s1, .int .u8 (tF f v p).s2, .int .u8 (tF f v p).s3, .int .u8 (tF f v p).s4, .int .u8 (tF f v p).s5, .bool (tF f v p).tg, .int .i64 (tF f v p).vl, .int .i64 (tF f v p).pr, .int .i64 (tF f v p).ty, (.slice ao' n' c')], .int .i64 (tC f v p)]) ∧ Byt w' ao' n' c' (tF f v p).bs ∧ Below w.heap.size w w' := by
  cases hr : rt (tgf f v p)
  · rw [tF_no hr, tC_no hr]
    exact (tag17_no f ao n c v p w hb hr).mono fun e w' ⟨he, hB⟩ => ⟨none, 0, 0, he, Byt.nothing w', hB⟩
  · rw [tF_yes hr, tC_yes hr]
    exact (tag17_yes f ao n c v p w hb hn hr).mono fun e w' ⟨ao', c', he, hy, hB⟩ => ⟨ao', n, c', he, hy, hB⟩
theorem tag18 (f : Fd) (ao : Option Addr) (n c : Nat) (v p : Int) (w : World) (hb : Byt w ao n c f.bs) :
    Calls Try.prog 18 #[.agg #[.int .u8 f.d0, .int .u8 f.d1, .int .u8 f.d2, .int .u8 f.d3, .int .u8 f.d4, .int .u8 f.d5, .int .u8 f.s0, .int .u8 f.s1, .int .u8 f.s2, .int .u8 f.s3, .int .u8 f.s4, .int .u8 f.s5, .bool f.tg, .int .i64 f.vl, .int .i64 f.pr, .int .i64 f.ty, (.slice ao n c)], .int .i64 v, .int .i64 p] w fun e w' => ∃ ao' n' c', e = .returned (.tuple #[.agg #[.int .u8 (tF f v p).d0, .int .u8 (tF f v p).d1, .int .u8 (tF f v p).d2, .int .u8 (tF f v p).d3, .int .u8 (tF f v p).d4, .int .u8 (tF f v p).d5, .int .u8 (tF f v p).s0, .int .u8 (tF f v p).s1, .int .u8 (tF f v p).s2, .int .u8 (tF f v p).s3, .int .u8 (tF f v p).s4, .int .u8 (tF f v p).s5, .bool (tF f v p).tg, .int .i64 (tF f v p).vl, .int .i64 (tF f v p).pr, .int .i64 (tF f v p).ty, (.slice ao' n' c')], .int .i64 (tC f v p)]) ∧ Byt w' ao' n' c' (tF f v p).bs ∧ Below w.heap.size w w' := by
  cases hr : rt (tgf f v p)
  · rw [tF_no hr, tC_no hr]
    exact (tag18_no f ao n c v p w hb hr).mono fun e w' ⟨he, hB⟩ => ⟨none, 0, 0, he, Byt.nothing w', hB⟩
  · rw [tF_yes hr, tC_yes hr]
    exact (tag18_yes f ao n c v p w hb hr).mono fun e w' ⟨he, hy, hB⟩ => ⟨ao, n, c, he, hy, hB⟩
end Go.Proofs.Ytkhdaibpggmklaa
