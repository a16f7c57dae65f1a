/- Contract of readFrame, whichever bytes there are; of the deferred function. -/
import Derived.Test.YtmpojeehjhpkbaaEm
import Derived.Test.YtmpojeehjhpkbaaEn
import Derived.Test.YtmpojeehjhpkbaaEo
import Derived.Recover
namespace Go.Proofs.Ytmpojeehjhpkbaa
open Go.RowKit

theorem listC6 {α : Type} (l : List α) (h : 6 ≤ l.length) : ∃ y0 y1 y2 y3 y4 y5 r, l = y0 :: y1 :: y2 :: y3 :: y4 :: y5 :: r := by
  match l, h with
  | y0 :: y1 :: y2 :: y3 :: y4 :: y5 :: r, _ => exact ⟨y0, y1, y2, y3, y4, y5, r, rfl⟩
theorem listC2 {α : Type} (l : List α) (h : 2 ≤ l.length) : ∃ y0 y1 r, l = y0 :: y1 :: r := by
  match l, h with
  | y0 :: y1 :: r, _ => exact ⟨y0, y1, r, rfl⟩
theorem rf_none (r : Nat) (ao : Option Addr) (n c : Nat) (ns : List Int) (w : World) (h : Rd w r ao n c ns) (hr : raw ns = none) :
    Calls Try.prog 30 #[.pointer (some ⟨r, 0, none⟩)] w fun e w' => e = .panicked pan ∧ w.grownBy w' (some r) := by
  have hl := h.byt.len
  by_cases h6 : n < 6
  · exact rf_no6 ns r ao n c w h h6
  obtain ⟨x0, x1, x2, x3, x4, x5, q, rfl⟩ := listC6 ns (by omega)
  by_cases h12 : n - 6 < 6
  · exact rf_no12 x0 x1 x2 x3 x4 x5 q r ao n c w h h12
  simp only [List.length_cons] at hl
  obtain ⟨x6, x7, x8, x9, x10, x11, q, rfl⟩ := listC6 q (by omega)
  by_cases h14 : n - 6 - 6 < 2
  · exact rf_no14 x0 x1 x2 x3 x4 x5 x6 x7 x8 x9 x10 x11 q r ao n c w h h14
  simp only [List.length_cons] at hl
  obtain ⟨x12, x13, q, rfl⟩ := listC2 q (by omega)
  by_cases ht : x12 * 256 + x13 = 33024
  · simp only [List.length_cons] at hl
    by_cases h16 : n - 6 - 6 - 2 < 2
    · exact rf_no16 x0 x1 x2 x3 x4 x5 x6 x7 x8 x9 x10 x11 x12 x13 q r ao n c w h ht h16
    obtain ⟨x14, x15, q, rfl⟩ := listC2 q (by omega)
    simp only [List.length_cons] at hl
    by_cases h18 : n - 6 - 6 - 2 - 2 < 2
    · exact rf_no18 x0 x1 x2 x3 x4 x5 x6 x7 x8 x9 x10 x11 x12 x13 x14 x15 q r ao n c w h ht h18
    obtain ⟨x16, x17, q, rfl⟩ := listC2 q (by omega)
    rw [raw_tagged _ _ _ _ _ _ _ _ _ _ _ _ _ _ _ _ _ _ _ ht] at hr
    cases hr
  · rw [raw_plain _ _ _ _ _ _ _ _ _ _ _ _ _ _ _ ht] at hr
    cases hr
theorem rf_some (r : Nat) (ao : Option Addr) (n c : Nat) (ns : List Int) (f : Fd) (w : World) (h : Rd w r ao n c ns) (hr : raw ns = some f) :
    Calls Try.prog 30 #[.pointer (some ⟨r, 0, none⟩)] w fun e w' => ∃ ao' n' c', e = .returned (.agg #[.int .u8 f.d0, .int .u8 f.d1, .int .u8 f.d2, .int .u8 f.d3, .int .u8 f.d4, .int .u8 f.d5, .int .u8 f.s0, .int .u8 f.s1, .int .u8 f.s2, .int .u8 f.s3, .int .u8 f.s4, .int .u8 f.s5, .bool f.tg, .int .i64 f.vl, .int .i64 f.pr, .int .i64 f.ty, (.slice ao' n' c')]) ∧ Byt w' ao' n' c' f.bs ∧ link ao ao' ∧ w.grownBy w' (some r) := by
  by_cases hl : ns.length < 14
  · rw [raw_short hl] at hr; cases hr
  obtain ⟨x0, x1, x2, x3, x4, x5, x6, x7, x8, x9, x10, x11, x12, x13, q, rfl⟩ := list14 ns (by omega)
  by_cases ht : x12 * 256 + x13 = 33024
  · by_cases hq : q.length < 4
    · rw [raw_cut _ _ _ _ _ _ _ _ _ _ _ _ _ _ _ ht hq] at hr; cases hr
    obtain ⟨x14, x15, x16, x17, q, rfl⟩ := list4 q (by omega)
    rw [raw_tagged _ _ _ _ _ _ _ _ _ _ _ _ _ _ _ _ _ _ _ ht] at hr
    obtain rfl := Option.some.inj hr
    exact rf_tag x0 x1 x2 x3 x4 x5 x6 x7 x8 x9 x10 x11 x12 x13 x14 x15 x16 x17 q r ao n c w h ht
  · rw [raw_plain _ _ _ _ _ _ _ _ _ _ _ _ _ _ _ ht] at hr
    obtain rfl := Option.some.inj hr
    exact rf_plain x0 x1 x2 x3 x4 x5 x6 x7 x8 x9 x10 x11 x12 x13 q r ao n c w h ht
theorem res_frame_cell {fn : Func} {p u : Tmp} (h : fn.results = #[.cell p 26, .cell u 40]) {tmps : Array Value} {w : World} {k j : Nat} {f : Fd} {b : Value} {x : Int} (hp : tmps.getD p undef = .pointer (some ⟨k, 0, none⟩)) (hu : tmps.getD u undef = .pointer (some ⟨j, 0, none⟩)) (hA : AtF w k f b) (he : w.cell? ⟨j, 0, none⟩ = some (.int .i64 x)) :
    (results fn tmps).run Try.prog w = .ok (.tuple #[.agg #[.int .u8 f.d0, .int .u8 f.d1, .int .u8 f.d2, .int .u8 f.d3, .int .u8 f.d4, .int .u8 f.d5, .int .u8 f.s0, .int .u8 f.s1, .int .u8 f.s2, .int .u8 f.s3, .int .u8 f.s4, .int .u8 f.s5, .bool f.tg, .int .i64 f.vl, .int .i64 f.pr, .int .i64 f.ty, b], .int .i64 x]) w := by
  have hl := run_loadVar_mid (P := Try.prog) w k 0 26 _ _ hA.all Try.underlying26 rfl Try.size26
  have hp' : tmps[p]?.getD undef = .pointer (some ⟨k, 0, none⟩) := by simpa using hp
  have hu' : tmps[u]?.getD undef = .pointer (some ⟨j, 0, none⟩) := by simpa using hu
  have h2 : (loadVar 40 ⟨j, 0, none⟩).run Try.prog w = .ok (.int .i64 x) w := by simp [go_sem, he]
  simp only [results, h]
  simp [hp', hu', asAddr, hl, h2]
set_option maxRecDepth 100000 in
set_option maxHeartbeats 1000000 in
theorem catch_panicking (B : Nat) (e0 : Int) (w : World) (T : w.there B 0 17) (ce : w.cell? ⟨B + 1, 0, none⟩ = some (.int .i64 e0)) (fe : w.frozen? ⟨B + 1, 0, none⟩ = false) :
    CallsD Try.prog 29 #[.pointer (some ⟨B, 0, none⟩), .pointer (some ⟨B + 1, 0, none⟩)] (.panicking pan) w fun e u' w' =>
      e = .returned (.tuple #[]) ∧ u' = .panicking [{ v := .iface 40 (.int .i64 2), recovered := true }] ∧ AtF w' B zero (.slice none 0 0) ∧ w'.cell? ⟨B + 1, 0, none⟩ = some (.int .i64 2) ∧ Below B w w' := by
  refine callsD_of_wpS Try.func29 rfl fun c₀ cs hu => ?_
  unfold pan at hu
  apply wpS_seq
  apply wpS_region
  simp [wpOpsS, go_sem, recoverD, hu, Try.ntmps29, Exit.thenS]
  refine wpS_cond (t := true) (by simp [Act.eval, Array.replicate]) ?_
  simp only [if_true]
  refine wpS_of_wp ?_
  have tk1 : True := trivial
  show Code.wp Try.prog _ _ { tmps := #[.pointer (some ⟨B, 0, none⟩), .pointer (some ⟨B + 1, 0, none⟩), .iface 40 (.int .i64 2), .bool true, undef], defers := [] } w
  go_wp2_with (have _t := tk1; refine wpl_put zero none 0 0 (.tmp 0) (.tmp 4) rfl T ?_ ?_ ?_ ?_; rfl; rfl; rfl; clear tk1; intro w2 A2 T2 G2; have ce2 := G2.cell ce (by simp); have fe2 : w2.frozen? ⟨B + 1, 0, none⟩ = false := (World.frozen?_of_block (a := ⟨B + 1, 0, none⟩) (G2.block (B + 1) (World.block_lt_of_cell? w _ ce) (by simp))).trans fe)
  have hBl : B < w.heap.size := by
    obtain ⟨u, hu2⟩ := Option.isSome_iff_exists.1 (T 0 (by omega)).1
    exact World.block_lt_of_cell? w _ hu2
  have G3 := setCell_grown w2 (B + 1) 0 (.int .i64 2)
  have A3 := A2.kept (by omega) G3
  have c3 := World.cell?_setCell_same w2 ⟨B + 1, 0, none⟩ (.int .i64 2) ce2
  have B2 : Below B w w2 := below_grown (Below.refl _ _) G2 (Nat.le_refl _) (by omega)
  have B3 : Below B w _ := below_grown B2 G3 (by omega) (Nat.le_trans (Nat.le_of_lt hBl) G2.size)
  simp [bodyPostS, results, Try.results29]
  exact ⟨A3, c3, B3⟩

set_option maxRecDepth 100000 in
set_option maxHeartbeats 1000000 in
theorem catch_idle (B : Nat) (w : World) :
    CallsD Try.prog 29 #[.pointer (some ⟨B, 0, none⟩), .pointer (some ⟨B + 1, 0, none⟩)] .returning w fun e u' w' => e = .returned (.tuple #[]) ∧ u' = .returning ∧ w' = w := by
  refine callsD_of_wpS Try.func29 rfl fun c₀ cs hu => ?_
  apply wpS_seq
  apply wpS_region
  simp [wpOpsS, go_sem, recoverD, hu, Try.ntmps29, Exit.thenS]
  refine wpS_cond (t := false) (by simp [Act.eval, Array.replicate]) ?_
  simp only [Bool.false_eq_true, if_false]
  refine wpS_of_wp (wp_skip ?_)
  cases c₀
  simp_all [bodyPostS, results, Try.results29]
end Go.Proofs.Ytmpojeehjhpkbaa
