/- Contract of Decode, as the document has it: too few bytes behind a tag. -/
import Derived.Test.YtkhdaibpggmklaaAs
namespace Go.Proofs.Ytkhdaibpggmklaa
open Go.RowKit

set_option maxRecDepth 100000 in
set_option maxHeartbeats 8000000 in
theorem dec15_tshort (x0 x1 x2 x3 x4 x5 x6 x7 x8 x9 x10 x11 x12 x13 : Int) (q : List Int) (ao : Option Addr) (n c : Nat) (w : World) (hb : Byt w ao n c (x0 :: x1 :: x2 :: x3 :: x4 :: x5 :: x6 :: x7 :: x8 :: x9 :: x10 :: x11 :: x12 :: x13 :: q)) (hl : n = q.length + 14) (ht : x12 * 256 + x13 = 33024) (h4 : q.length < 4) :
    Calls Try.prog 15 #[.slice ao n c] w fun e w' => e = .returned (.tuple #[.agg #[.int .u8 zero.d0, .int .u8 zero.d1, .int .u8 zero.d2, .int .u8 zero.d3, .int .u8 zero.d4, .int .u8 zero.d5, .int .u8 zero.s0, .int .u8 zero.s1, .int .u8 zero.s2, .int .u8 zero.s3, .int .u8 zero.s4, .int .u8 zero.s5, .bool zero.tg, .int .i64 zero.vl, .int .i64 zero.pr, .int .i64 zero.ty, (.slice none 0 0)], .int .i64 2]) ∧ Below w.heap.size w w' := by
  have hq : (x12 * 256 + x13 == 33024) = true := by simp [ht]
  clear ht
  obtain ⟨b, o, rfl, hc, hbl⟩ := hb.at (by omega)
  have HB := hide hb
  have c0 : w.cell? ⟨b, o, none⟩ = some (.int .u8 x0) := hc 0 (by omega)
  have r0 := hb.rng x0 (by simp)
  have c1 : w.cell? ⟨b, o + 1, none⟩ = some (.int .u8 x1) := hc 1 (by omega)
  have r1 := hb.rng x1 (by simp)
  have c2 : w.cell? ⟨b, o + 2, none⟩ = some (.int .u8 x2) := hc 2 (by omega)
  have r2 := hb.rng x2 (by simp)
  have c3 : w.cell? ⟨b, o + 3, none⟩ = some (.int .u8 x3) := hc 3 (by omega)
  have r3 := hb.rng x3 (by simp)
  have c4 : w.cell? ⟨b, o + 4, none⟩ = some (.int .u8 x4) := hc 4 (by omega)
  have r4 := hb.rng x4 (by simp)
  have c5 : w.cell? ⟨b, o + 5, none⟩ = some (.int .u8 x5) := hc 5 (by omega)
  have r5 := hb.rng x5 (by simp)
  have c6 : w.cell? ⟨b, o + 6, none⟩ = some (.int .u8 x6) := hc 6 (by omega)
  have r6 := hb.rng x6 (by simp)
  have c7 : w.cell? ⟨b, o + 7, none⟩ = some (.int .u8 x7) := hc 7 (by omega)
  have r7 := hb.rng x7 (by simp)
  have c8 : w.cell? ⟨b, o + 8, none⟩ = some (.int .u8 x8) := hc 8 (by omega)
  have r8 := hb.rng x8 (by simp)
  have c9 : w.cell? ⟨b, o + 9, none⟩ = some (.int .u8 x9) := hc 9 (by omega)
  have r9 := hb.rng x9 (by simp)
  have c10 : w.cell? ⟨b, o + 10, none⟩ = some (.int .u8 x10) := hc 10 (by omega)
  have r10 := hb.rng x10 (by simp)
  have c11 : w.cell? ⟨b, o + 11, none⟩ = some (.int .u8 x11) := hc 11 (by omega)
  have r11 := hb.rng x11 (by simp)
  have c12 : w.cell? ⟨b, o + 12, none⟩ = some (.int .u8 x12) := hc 12 (by omega)
  have r12 := hb.rng x12 (by simp)
  have c13 : w.cell? ⟨b, o + 13, none⟩ = some (.int .u8 x13) := hc 13 (by omega)
  have r13 := hb.rng x13 (by simp)
  clear hb hc
  have hbF : b ≠ w.heap.size + 1 := by omega
  have hbB : b ≠ w.heap.size := by omega
  have hn' : ¬ ((n : Int) < 14) := by omega
  have hnc : n ≤ c := HB.out.le
  go_enter Try.func15, Try.ntmps15
  go_wp2
  go_loopw [5] (fun i wr => ∃ k : Nat, k ≤ 6 ∧ i = .int .i64 k ∧ DI w wr ⟨(if 0 < k then x0 else 0), (if 1 < k then x1 else 0), (if 2 < k then x2 else 0), (if 3 < k then x3 else 0), (if 4 < k then x4 else 0), (if 5 < k then x5 else 0), (if 0 < k then x6 else 0), (if 1 < k then x7 else 0), (if 2 < k then x8 else 0), (if 3 < k then x9 else 0), (if 4 < k then x10 else 0), (if 5 < k then x11 else 0), false, 0, 0, 0, []⟩) (fun i _ => 6 - (intOf i).toNat)
  case atStart => exact ⟨0, by omega, rfl, DI.start w⟩
  case round =>
    obtain ⟨k, hk, rfl, hI⟩ := hrel
    have hk7 : k = 0 ∨ k = 1 ∨ k = 2 ∨ k = 3 ∨ k = 4 ∨ k = 5 ∨ k = 6 := by omega
    rcases hk7 with e | e | e | e | e | e | e <;> subst e
    · have hJ : DI w wr ⟨0, 0, 0, 0, 0, 0, 0, 0, 0, 0, 0, 0, false, 0, 0, 0, []⟩ := hI
      have d1 : wr.cell? ⟨b, o, none⟩ = some (.int .u8 x0) := (hJ.below.cell (p := ⟨b, o, none⟩) hbl).trans c0
      have d2 : wr.cell? ⟨b, o + 6, none⟩ = some (.int .u8 x6) := (hJ.below.cell (p := ⟨b, o + 6, none⟩) hbl).trans c6
      have p1 := hJ.at_.c0
      have p2 := hJ.at_.c6
      have f1 : wr.frozen? ⟨w.heap.size + 1, 0, none⟩ = false := (hJ.tf 0 (by omega)).2
      have f2 : wr.frozen? ⟨w.heap.size + 1, 6, none⟩ = false := (hJ.tf 6 (by omega)).2
      clear hI
      go_wp2
      go_roundw
      case rel => exact ⟨1, by omega, rfl, ⟨(hJ.below.setCell (by simp) _).setCell (by simp) _, (hJ.at_.set0 x0).set6 x6, setCell_there (setCell_there hJ.tf _ _ _) _ _ _, setCell_there (setCell_there hJ.tb _ _ _) _ _ _⟩⟩
      case measure => simp [intOf]
    · have hJ : DI w wr ⟨x0, 0, 0, 0, 0, 0, x6, 0, 0, 0, 0, 0, false, 0, 0, 0, []⟩ := hI
      have d1 : wr.cell? ⟨b, o + 1, none⟩ = some (.int .u8 x1) := (hJ.below.cell (p := ⟨b, o + 1, none⟩) hbl).trans c1
      have d2 : wr.cell? ⟨b, o + 7, none⟩ = some (.int .u8 x7) := (hJ.below.cell (p := ⟨b, o + 7, none⟩) hbl).trans c7
      have p1 := hJ.at_.c1
      have p2 := hJ.at_.c7
      have f1 : wr.frozen? ⟨w.heap.size + 1, 1, none⟩ = false := (hJ.tf 1 (by omega)).2
      have f2 : wr.frozen? ⟨w.heap.size + 1, 7, none⟩ = false := (hJ.tf 7 (by omega)).2
      clear hI
      go_wp2
      go_roundw
      case rel => exact ⟨2, by omega, rfl, ⟨(hJ.below.setCell (by simp) _).setCell (by simp) _, (hJ.at_.set1 x1).set7 x7, setCell_there (setCell_there hJ.tf _ _ _) _ _ _, setCell_there (setCell_there hJ.tb _ _ _) _ _ _⟩⟩
      case measure => simp [intOf]
    · have hJ : DI w wr ⟨x0, x1, 0, 0, 0, 0, x6, x7, 0, 0, 0, 0, false, 0, 0, 0, []⟩ := hI
      have d1 : wr.cell? ⟨b, o + 2, none⟩ = some (.int .u8 x2) := (hJ.below.cell (p := ⟨b, o + 2, none⟩) hbl).trans c2
      have d2 : wr.cell? ⟨b, o + 8, none⟩ = some (.int .u8 x8) := (hJ.below.cell (p := ⟨b, o + 8, none⟩) hbl).trans c8
      have p1 := hJ.at_.c2
      have p2 := hJ.at_.c8
      have f1 : wr.frozen? ⟨w.heap.size + 1, 2, none⟩ = false := (hJ.tf 2 (by omega)).2
      have f2 : wr.frozen? ⟨w.heap.size + 1, 8, none⟩ = false := (hJ.tf 8 (by omega)).2
      clear hI
      go_wp2
      go_roundw
      case rel => exact ⟨3, by omega, rfl, ⟨(hJ.below.setCell (by simp) _).setCell (by simp) _, (hJ.at_.set2 x2).set8 x8, setCell_there (setCell_there hJ.tf _ _ _) _ _ _, setCell_there (setCell_there hJ.tb _ _ _) _ _ _⟩⟩
      case measure => simp [intOf]
    · have hJ : DI w wr ⟨x0, x1, x2, 0, 0, 0, x6, x7, x8, 0, 0, 0, false, 0, 0, 0, []⟩ := hI
      have d1 : wr.cell? ⟨b, o + 3, none⟩ = some (.int .u8 x3) := (hJ.below.cell (p := ⟨b, o + 3, none⟩) hbl).trans c3
      have d2 : wr.cell? ⟨b, o + 9, none⟩ = some (.int .u8 x9) := (hJ.below.cell (p := ⟨b, o + 9, none⟩) hbl).trans c9
      have p1 := hJ.at_.c3
      have p2 := hJ.at_.c9
      have f1 : wr.frozen? ⟨w.heap.size + 1, 3, none⟩ = false := (hJ.tf 3 (by omega)).2
      have f2 : wr.frozen? ⟨w.heap.size + 1, 9, none⟩ = false := (hJ.tf 9 (by omega)).2
      clear hI
      go_wp2
      go_roundw
      case rel => exact ⟨4, by omega, rfl, ⟨(hJ.below.setCell (by simp) _).setCell (by simp) _, (hJ.at_.set3 x3).set9 x9, setCell_there (setCell_there hJ.tf _ _ _) _ _ _, setCell_there (setCell_there hJ.tb _ _ _) _ _ _⟩⟩
      case measure => simp [intOf]
    · have hJ : DI w wr ⟨x0, x1, x2, x3, 0, 0, x6, x7, x8, x9, 0, 0, false, 0, 0, 0, []⟩ := hI
      have d1 : wr.cell? ⟨b, o + 4, none⟩ = some (.int .u8 x4) := (hJ.below.cell (p := ⟨b, o + 4, none⟩) hbl).trans c4
      have d2 : wr.cell? ⟨b, o + 10, none⟩ = some (.int .u8 x10) := (hJ.below.cell (p := ⟨b, o + 10, none⟩) hbl).trans c10
      have p1 := hJ.at_.c4
      have p2 := hJ.at_.c10
      have f1 : wr.frozen? ⟨w.heap.size + 1, 4, none⟩ = false := (hJ.tf 4 (by omega)).2
      have f2 : wr.frozen? ⟨w.heap.size + 1, 10, none⟩ = false := (hJ.tf 10 (by omega)).2
      clear hI
      go_wp2
      go_roundw
      case rel => exact ⟨5, by omega, rfl, ⟨(hJ.below.setCell (by simp) _).setCell (by simp) _, (hJ.at_.set4 x4).set10 x10, setCell_there (setCell_there hJ.tf _ _ _) _ _ _, setCell_there (setCell_there hJ.tb _ _ _) _ _ _⟩⟩
      case measure => simp [intOf]
    · have hJ : DI w wr ⟨x0, x1, x2, x3, x4, 0, x6, x7, x8, x9, x10, 0, false, 0, 0, 0, []⟩ := hI
      have d1 : wr.cell? ⟨b, o + 5, none⟩ = some (.int .u8 x5) := (hJ.below.cell (p := ⟨b, o + 5, none⟩) hbl).trans c5
      have d2 : wr.cell? ⟨b, o + 11, none⟩ = some (.int .u8 x11) := (hJ.below.cell (p := ⟨b, o + 11, none⟩) hbl).trans c11
      have p1 := hJ.at_.c5
      have p2 := hJ.at_.c11
      have f1 : wr.frozen? ⟨w.heap.size + 1, 5, none⟩ = false := (hJ.tf 5 (by omega)).2
      have f2 : wr.frozen? ⟨w.heap.size + 1, 11, none⟩ = false := (hJ.tf 11 (by omega)).2
      clear hI
      go_wp2
      go_roundw
      case rel => exact ⟨6, by omega, rfl, ⟨(hJ.below.setCell (by simp) _).setCell (by simp) _, (hJ.at_.set5 x5).set11 x11, setCell_there (setCell_there hJ.tf _ _ _) _ _ _, setCell_there (setCell_there hJ.tb _ _ _) _ _ _⟩⟩
      case measure => simp [intOf]
    · have hJ : DI w wr (⟨x0, x1, x2, x3, x4, x5, x6, x7, x8, x9, x10, x11, false, 0, 0, 0, []⟩ : Fd) := hI
      have d1 : wr.cell? ⟨b, o + 12, none⟩ = some (.int .u8 x12) := (hJ.below.cell (p := ⟨b, o + 12, none⟩) hbl).trans c12
      have d2 : wr.cell? ⟨b, o + 13, none⟩ = some (.int .u8 x13) := (hJ.below.cell (p := ⟨b, o + 13, none⟩) hbl).trans c13
      obtain ⟨r12a, r12b⟩ := r12
      obtain ⟨r13a, r13b⟩ := r13
      have hc12 : ¬ c = 12 := by omega
      have h2 : (2 : Int) ≤ ((n - 12 : Nat) : Int) := by omega
      have h5 : (q.length : Int) + 2 < 6 := by omega
      clear hI c0 c1 c2 c3 c4 c5 c6 c7 c8 c9 c10 c11 c12 c13
      go_wp2_with fail
      go_quiet (fail)
      replace hJ := hJ.drewN nq
      have U := hJ.tb
      have hBl := hJ.below
      have hlt : w.heap.size < (wr.drewN nq).heap.size := Nat.lt_trans (Nat.lt_succ_self _) hJ.at_.lt
      have tk1 : True := trivial
      clear hJ d1 d2
      go_wp2_with (have _t := tk1; refine wpl_put zero none 0 0 (.tmp 2) (.tmp 49) rfl U ?_ ?_ ?_ ?_; rfl; rfl; rfl; clear tk1; intro w6 A6 T6 G6)
      refine bodyPost_ret (res_frame_tmp rfl rfl A6) rfl ⟨rfl, below_grown hBl G6 (Nat.le_refl _) (Nat.le_of_lt hlt)⟩

end Go.Proofs.Ytkhdaibpggmklaa
