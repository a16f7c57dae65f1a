/- Contract of Decode, as the document has it: a frame without a tag. -/
import Derived.Test.YtkhdaibpggmklaaAs
import Derived.Deep.DeepMust
namespace Go.Proofs.Ytkhdaibpggmklaa
open Go.RowKit

set_option maxRecDepth 100000 in
set_option maxHeartbeats 8000000 in
theorem dec15_plain (x0 x1 x2 x3 x4 x5 x6 x7 x8 x9 x10 x11 x12 x13 : Int) (q : List Int) (ao : Option Addr) (n c : Nat) (w : World) (hb : Byt w ao n c (x0 :: x1 :: x2 :: x3 :: x4 :: x5 :: x6 :: x7 :: x8 :: x9 :: x10 :: x11 :: x12 :: x13 :: q)) (hl : n = q.length + 14) (ht : ¬ x12 * 256 + x13 = 33024) (hbnd : n ≤ 5000) :
    Calls Try.prog 15 #[.slice ao n c] w fun e w' => ∃ ao' n' c', e = .returned (.tuple #[.agg #[.int .u8 (dF (⟨x0, x1, x2, x3, x4, x5, x6, x7, x8, x9, x10, x11, false, 0, 0, x12 * 256 + x13, q⟩ : Fd)).d0, .int .u8 (dF (⟨x0, x1, x2, x3, x4, x5, x6, x7, x8, x9, x10, x11, false, 0, 0, x12 * 256 + x13, q⟩ : Fd)).d1, .int .u8 (dF (⟨x0, x1, x2, x3, x4, x5, x6, x7, x8, x9, x10, x11, false, 0, 0, x12 * 256 + x13, q⟩ : Fd)).d2, .int .u8 (dF (⟨x0, x1, x2, x3, x4, x5, x6, x7, x8, x9, x10, x11, false, 0, 0, x12 * 256 + x13, q⟩ : Fd)).d3, .int .u8 (dF (⟨x0, x1, x2, x3, x4, x5, x6, x7, x8, x9, x10, x11, false, 0, 0, x12 * 256 + x13, q⟩ : Fd)).d4, .int .u8 (dF (⟨x0, x1, x2, x3, x4, x5, x6, x7, x8, x9, x10, x11, false, 0, 0, x12 * 256 + x13, q⟩ : Fd)).d5, .int .u8 (dF (⟨x0, x1, x2, x3, x4, x5, x6, x7, x8, x9, x10, x11, false, 0, 0, x12 * 256 + x13, q⟩ : Fd)).s0, .int .u8 (dF (⟨x0, x1, x2, x3, x4, x5, x6, x7, x8, x9, x10, x11, false, 0, 0, x12 * 256 + x13, q⟩ : Fd)).s1, .int .u8 (dF (⟨x0, x1, x2, x3, x4, x5, x6, x7, x8, x9, x10, x11, false, 0, 0, x12 * 256 + x13, q⟩ : Fd)).s2, .int .u8 (dF (⟨x0, x1, x2, x3, x4, x5, x6, x7, x8, x9, x10, x11, false, 0, 0, x12 * 256 + x13, q⟩ : Fd)).s3, .int .u8 (dF (⟨x0, x1, x2, x3, x4, x5, x6, x7, x8, x9, x10, x11, false, 0, 0, x12 * 256 + x13, q⟩ : Fd)).s4, .int .u8 (dF (⟨x0, x1, x2, x3, x4, x5, x6, x7, x8, x9, x10, x11, false, 0, 0, x12 * 256 + x13, q⟩ : Fd)).s5, .bool (dF (⟨x0, x1, x2, x3, x4, x5, x6, x7, x8, x9, x10, x11, false, 0, 0, x12 * 256 + x13, q⟩ : Fd)).tg, .int .i64 (dF (⟨x0, x1, x2, x3, x4, x5, x6, x7, x8, x9, x10, x11, false, 0, 0, x12 * 256 + x13, q⟩ : Fd)).vl, .int .i64 (dF (⟨x0, x1, x2, x3, x4, x5, x6, x7, x8, x9, x10, x11, false, 0, 0, x12 * 256 + x13, q⟩ : Fd)).pr, .int .i64 (dF (⟨x0, x1, x2, x3, x4, x5, x6, x7, x8, x9, x10, x11, false, 0, 0, x12 * 256 + x13, q⟩ : Fd)).ty, (.slice ao' n' c')], .int .i64 (dC (⟨x0, x1, x2, x3, x4, x5, x6, x7, x8, x9, x10, x11, false, 0, 0, x12 * 256 + x13, q⟩ : Fd))]) ∧ Byt w' ao' n' c' (dF (⟨x0, x1, x2, x3, x4, x5, x6, x7, x8, x9, x10, x11, false, 0, 0, x12 * 256 + x13, q⟩ : Fd)).bs ∧ Below w.heap.size w w' := by
  have HEN := hide (raw_enc hb.rng (raw_plain x0 x1 x2 x3 x4 x5 x6 x7 x8 x9 x10 x11 x12 x13 q ht)).1
  have HFB := hide (raw_enc hb.rng (raw_plain x0 x1 x2 x3 x4 x5 x6 x7 x8 x9 x10 x11 x12 x13 q ht)).2.1
  have HRq : Hid (Rng q) := hide (raw_enc hb.rng (raw_plain x0 x1 x2 x3 x4 x5 x6 x7 x8 x9 x10 x11 x12 x13 q ht)).2.1.b
  have hq : (x12 * 256 + x13 == 33024) = false := by simp [ht]
  have hlen : (x0 :: x1 :: x2 :: x3 :: x4 :: x5 :: x6 :: x7 :: x8 :: x9 :: x10 :: x11 :: x12 :: x13 :: q).drop 14 = q := rfl
  clear ht
  obtain ⟨b, o, rfl, hc, hbl⟩ := hb.at (by omega)
  have HB := hide hb
  have c0 : w.cell? ⟨b, o, none⟩ = some (.int .u8 x0) := hc 0 (by omega)
  have r0 := hb.rng x0 (by simp)
  have c1 : w.cell? ⟨b, o + 1, none⟩ = some (.int .u8 x1) := hc 1 (by omega)
  have r1 := hb.rng x1 (by simp)
  have c2 : w.cell? ⟨b, o + 2, none⟩ = some (.int .u8 x2) := hc 2 (by omega)
  have r2 := hb.rng x2 (by simp)
  have c3 : w.cell? ⟨b, o + 3, none⟩ = some (.int .u8 x3) := hc 3 (by omega)
  have r3 := hb.rng x3 (by simp)
  have c4 : w.cell? ⟨b, o + 4, none⟩ = some (.int .u8 x4) := hc 4 (by omega)
  have r4 := hb.rng x4 (by simp)
  have c5 : w.cell? ⟨b, o + 5, none⟩ = some (.int .u8 x5) := hc 5 (by omega)
  have r5 := hb.rng x5 (by simp)
  have c6 : w.cell? ⟨b, o + 6, none⟩ = some (.int .u8 x6) := hc 6 (by omega)
  have r6 := hb.rng x6 (by simp)
  have c7 : w.cell? ⟨b, o + 7, none⟩ = some (.int .u8 x7) := hc 7 (by omega)
  have r7 := hb.rng x7 (by simp)
  have c8 : w.cell? ⟨b, o + 8, none⟩ = some (.int .u8 x8) := hc 8 (by omega)
  have r8 := hb.rng x8 (by simp)
  have c9 : w.cell? ⟨b, o + 9, none⟩ = some (.int .u8 x9) := hc 9 (by omega)
  have r9 := hb.rng x9 (by simp)
  have c10 : w.cell? ⟨b, o + 10, none⟩ = some (.int .u8 x10) := hc 10 (by omega)
  have r10 := hb.rng x10 (by simp)
  have c11 : w.cell? ⟨b, o + 11, none⟩ = some (.int .u8 x11) := hc 11 (by omega)
  have r11 := hb.rng x11 (by simp)
  have c12 : w.cell? ⟨b, o + 12, none⟩ = some (.int .u8 x12) := hc 12 (by omega)
  have r12 := hb.rng x12 (by simp)
  have c13 : w.cell? ⟨b, o + 13, none⟩ = some (.int .u8 x13) := hc 13 (by omega)
  have r13 := hb.rng x13 (by simp)
  clear hb hc
  have hbF : b ≠ w.heap.size + 1 := by omega
  have hbB : b ≠ w.heap.size := by omega
  have hn' : ¬ ((n : Int) < 14) := by omega
  have hnc : n ≤ c := HB.out.le
  go_enter Try.func15, Try.ntmps15
  go_wp2
  go_loopw [5] (fun i wr => ∃ k : Nat, k ≤ 6 ∧ i = .int .i64 k ∧ DI w wr ⟨(if 0 < k then x0 else 0), (if 1 < k then x1 else 0), (if 2 < k then x2 else 0), (if 3 < k then x3 else 0), (if 4 < k then x4 else 0), (if 5 < k then x5 else 0), (if 0 < k then x6 else 0), (if 1 < k then x7 else 0), (if 2 < k then x8 else 0), (if 3 < k then x9 else 0), (if 4 < k then x10 else 0), (if 5 < k then x11 else 0), false, 0, 0, 0, []⟩) (fun i _ => 6 - (intOf i).toNat)
  case atStart => exact ⟨0, by omega, rfl, DI.start w⟩
  case round =>
    obtain ⟨k, hk, rfl, hI⟩ := hrel
    have hk7 : k = 0 ∨ k = 1 ∨ k = 2 ∨ k = 3 ∨ k = 4 ∨ k = 5 ∨ k = 6 := by omega
    rcases hk7 with e | e | e | e | e | e | e <;> subst e
    · have hJ : DI w wr ⟨0, 0, 0, 0, 0, 0, 0, 0, 0, 0, 0, 0, false, 0, 0, 0, []⟩ := hI
      have d1 : wr.cell? ⟨b, o, none⟩ = some (.int .u8 x0) := (hJ.below.cell (p := ⟨b, o, none⟩) hbl).trans c0
      have d2 : wr.cell? ⟨b, o + 6, none⟩ = some (.int .u8 x6) := (hJ.below.cell (p := ⟨b, o + 6, none⟩) hbl).trans c6
      have p1 := hJ.at_.c0
      have p2 := hJ.at_.c6
      have f1 : wr.frozen? ⟨w.heap.size + 1, 0, none⟩ = false := (hJ.tf 0 (by omega)).2
      have f2 : wr.frozen? ⟨w.heap.size + 1, 6, none⟩ = false := (hJ.tf 6 (by omega)).2
      clear hI
      go_wp2
      go_roundw
      case rel => exact ⟨1, by omega, rfl, ⟨(hJ.below.setCell (by simp) _).setCell (by simp) _, (hJ.at_.set0 x0).set6 x6, setCell_there (setCell_there hJ.tf _ _ _) _ _ _, setCell_there (setCell_there hJ.tb _ _ _) _ _ _⟩⟩
      case measure => simp [intOf]
    · have hJ : DI w wr ⟨x0, 0, 0, 0, 0, 0, x6, 0, 0, 0, 0, 0, false, 0, 0, 0, []⟩ := hI
      have d1 : wr.cell? ⟨b, o + 1, none⟩ = some (.int .u8 x1) := (hJ.below.cell (p := ⟨b, o + 1, none⟩) hbl).trans c1
      have d2 : wr.cell? ⟨b, o + 7, none⟩ = some (.int .u8 x7) := (hJ.below.cell (p := ⟨b, o + 7, none⟩) hbl).trans c7
      have p1 := hJ.at_.c1
      have p2 := hJ.at_.c7
      have f1 : wr.frozen? ⟨w.heap.size + 1, 1, none⟩ = false := (hJ.tf 1 (by omega)).2
      have f2 : wr.frozen? ⟨w.heap.size + 1, 7, none⟩ = false := (hJ.tf 7 (by omega)).2
      clear hI
      go_wp2
      go_roundw
      case rel => exact ⟨2, by omega, rfl, ⟨(hJ.below.setCell (by simp) _).setCell (by simp) _, (hJ.at_.set1 x1).set7 x7, setCell_there (setCell_there hJ.tf _ _ _) _ _ _, setCell_there (setCell_there hJ.tb _ _ _) _ _ _⟩⟩
      case measure => simp [intOf]
    · have hJ : DI w wr ⟨x0, x1, 0, 0, 0, 0, x6, x7, 0, 0, 0, 0, false, 0, 0, 0, []⟩ := hI
      have d1 : wr.cell? ⟨b, o + 2, none⟩ = some (.int .u8 x2) := (hJ.below.cell (p := ⟨b, o + 2, none⟩) hbl).trans c2
      have d2 : wr.cell? ⟨b, o + 8, none⟩ = some (.int .u8 x8) := (hJ.below.cell (p := ⟨b, o + 8, none⟩) hbl).trans c8
      have p1 := hJ.at_.c2
      have p2 := hJ.at_.c8
      have f1 : wr.frozen? ⟨w.heap.size + 1, 2, none⟩ = false := (hJ.tf 2 (by omega)).2
      have f2 : wr.frozen? ⟨w.heap.size + 1, 8, none⟩ = false := (hJ.tf 8 (by omega)).2
      clear hI
      go_wp2
      go_roundw
      case rel => exact ⟨3, by omega, rfl, ⟨(hJ.below.setCell (by simp) _).setCell (by simp) _, (hJ.at_.set2 x2).set8 x8, setCell_there (setCell_there hJ.tf _ _ _) _ _ _, setCell_there (setCell_there hJ.tb _ _ _) _ _ _⟩⟩
      case measure => simp [intOf]
    · have hJ : DI w wr ⟨x0, x1, x2, 0, 0, 0, x6, x7, x8, 0, 0, 0, false, 0, 0, 0, []⟩ := hI
      have d1 : wr.cell? ⟨b, o + 3, none⟩ = some (.int .u8 x3) := (hJ.below.cell (p := ⟨b, o + 3, none⟩) hbl).trans c3
      have d2 : wr.cell? ⟨b, o + 9, none⟩ = some (.int .u8 x9) := (hJ.below.cell (p := ⟨b, o + 9, none⟩) hbl).trans c9
      have p1 := hJ.at_.c3
      have p2 := hJ.at_.c9
      have f1 : wr.frozen? ⟨w.heap.size + 1, 3, none⟩ = false := (hJ.tf 3 (by omega)).2
      have f2 : wr.frozen? ⟨w.heap.size + 1, 9, none⟩ = false := (hJ.tf 9 (by omega)).2
      clear hI
      go_wp2
      go_roundw
      case rel => exact ⟨4, by omega, rfl, ⟨(hJ.below.setCell (by simp) _).setCell (by simp) _, (hJ.at_.set3 x3).set9 x9, setCell_there (setCell_there hJ.tf _ _ _) _ _ _, setCell_there (setCell_there hJ.tb _ _ _) _ _ _⟩⟩
      case measure => simp [intOf]
    · have hJ : DI w wr ⟨x0, x1, x2, x3, 0, 0, x6, x7, x8, x9, 0, 0, false, 0, 0, 0, []⟩ := hI
      have d1 : wr.cell? ⟨b, o + 4, none⟩ = some (.int .u8 x4) := (hJ.below.cell (p := ⟨b, o + 4, none⟩) hbl).trans c4
      have d2 : wr.cell? ⟨b, o + 10, none⟩ = some (.int .u8 x10) := (hJ.below.cell (p := ⟨b, o + 10, none⟩) hbl).trans c10
      have p1 := hJ.at_.c4
      have p2 := hJ.at_.c10
      have f1 : wr.frozen? ⟨w.heap.size + 1, 4, none⟩ = false := (hJ.tf 4 (by omega)).2
      have f2 : wr.frozen? ⟨w.heap.size + 1, 10, none⟩ = false := (hJ.tf 10 (by omega)).2
      clear hI
      go_wp2
      go_roundw
      case rel => exact ⟨5, by omega, rfl, ⟨(hJ.below.setCell (by simp) _).setCell (by simp) _, (hJ.at_.set4 x4).set10 x10, setCell_there (setCell_there hJ.tf _ _ _) _ _ _, setCell_there (setCell_there hJ.tb _ _ _) _ _ _⟩⟩
      case measure => simp [intOf]
    · have hJ : DI w wr ⟨x0, x1, x2, x3, x4, 0, x6, x7, x8, x9, x10, 0, false, 0, 0, 0, []⟩ := hI
      have d1 : wr.cell? ⟨b, o + 5, none⟩ = some (.int .u8 x5) := (hJ.below.cell (p := ⟨b, o + 5, none⟩) hbl).trans c5
      have d2 : wr.cell? ⟨b, o + 11, none⟩ = some (.int .u8 x11) := (hJ.below.cell (p := ⟨b, o + 11, none⟩) hbl).trans c11
      have p1 := hJ.at_.c5
      have p2 := hJ.at_.c11
      have f1 : wr.frozen? ⟨w.heap.size + 1, 5, none⟩ = false := (hJ.tf 5 (by omega)).2
      have f2 : wr.frozen? ⟨w.heap.size + 1, 11, none⟩ = false := (hJ.tf 11 (by omega)).2
      clear hI
      go_wp2
      go_roundw
      case rel => exact ⟨6, by omega, rfl, ⟨(hJ.below.setCell (by simp) _).setCell (by simp) _, (hJ.at_.set5 x5).set11 x11, setCell_there (setCell_there hJ.tf _ _ _) _ _ _, setCell_there (setCell_there hJ.tb _ _ _) _ _ _⟩⟩
      case measure => simp [intOf]
    · have hJ : DI w wr (⟨x0, x1, x2, x3, x4, x5, x6, x7, x8, x9, x10, x11, false, 0, 0, 0, []⟩ : Fd) := hI
      have d1 : wr.cell? ⟨b, o + 12, none⟩ = some (.int .u8 x12) := (hJ.below.cell (p := ⟨b, o + 12, none⟩) hbl).trans c12
      have d2 : wr.cell? ⟨b, o + 13, none⟩ = some (.int .u8 x13) := (hJ.below.cell (p := ⟨b, o + 13, none⟩) hbl).trans c13
      obtain ⟨r12a, r12b⟩ := r12
      obtain ⟨r13a, r13b⟩ := r13
      have hc12 : ¬ c = 12 := by omega
      have h2 : (2 : Int) ≤ ((n - 12 : Nat) : Int) := by omega
      clear hI c0 c1 c2 c3 c4 c5 c6 c7 c8 c9 c10 c11 c12 c13
      go_wp2_with fail
      go_quiet (fail)
      go_wp2_with fail
      replace hJ := hJ.drewN nq
      obtain ⟨w1, hw1⟩ : ∃ w1, w1 = wr.drewN nq := ⟨_, rfl⟩
      replace d1 : w1.cell? ⟨b, o + 12, none⟩ = some (.int .u8 x12) := by rw [hw1]; exact d1
      replace d2 : w1.cell? ⟨b, o + 13, none⟩ = some (.int .u8 x13) := by rw [hw1]; exact d2
      rw [← hw1] at hJ ⊢
      clear hw1
      have p15 := hJ.at_.c15
      have f15 : w1.frozen? ⟨w.heap.size + 1, 15, none⟩ = false := (hJ.tf 15 (by omega)).2
      go_region
      obtain ⟨w2, hw2⟩ : ∃ w2, w2 = (w1.setCell ⟨w.heap.size + 1, 15, none⟩ (.int .i64 (x12 * 256 + x13))).drew := ⟨_, rfl⟩
      have hB2 : Below w.heap.size w w2 := by rw [hw2]; exact (hJ.below.setCell (by simp) _).drew
      have A2 : AtF w2 (w.heap.size + 1) (⟨x0, x1, x2, x3, x4, x5, x6, x7, x8, x9, x10, x11, false, 0, 0, x12 * 256 + x13, []⟩ : Fd) (.slice none 0 0) := by rw [hw2]; exact (hJ.at_.set15 (x12 * 256 + x13)).drew
      have T2 : w2.there (w.heap.size + 1) 0 17 := by rw [hw2]; exact setCell_there hJ.tf _ _ _
      have U2 : w2.there w.heap.size 0 17 := by rw [hw2]; exact setCell_there hJ.tb _ _ _
      rw [← hw2]
      clear hw2 hJ p15 f15 d1 d2
      have Y2 := HB.out.on hB2
      have L2 : w.heap.size + 1 < w2.heap.size := A2.lt
      have HO : Hid (Row (w2.alloc (.cells #[] 5)) w2.heap.size (.slice (some ⟨w2.heap.size, 0, none⟩) 0 0) 0 []) := World.ownsRow_made w2 #[] 0 (Nat.le_refl _) (Nat.zero_le _) rfl
      have hQ : ∀ ad cc, (¬ c = 14 → ad = some ⟨b, o + 14, none⟩ ∧ cc = c - 14) → (c = 14 → cc = 0 ∧ ad ≠ none) → Byt (w2.alloc (.cells #[] 5)) ad q.length cc q := fun ad cc h1 h2 => (tail_byt Y2 hlen (by omega) h1 h2).alloc _
      have HQ := hide hQ
      clear hQ
      by_cases hcc : c = 14
      · subst hcc
        have tk1 : True := trivial
        have tk2 : True := trivial
        go_wp2_with (first | (at_builtin; have _t := tk1; refine wpl_app rfl (.tmp 80) (.tmp 82) rfl w2.heap.size _ 0 [] rfl HO.out _ _ _ q rfl ?_ ?_ ?_ ?_; go_must (exact (HQ.out _ _ (fun h => absurd rfl h) (fun _ => ⟨rfl, by simp⟩))); go_must (omega); go_must (simp); clear tk1; intro v' w3 hR hb3; go_must (rw [Nat.zero_add, List.nil_append] at hR; obtain ⟨a3, c3, hv, Y3, hfr⟩ := hR.fresh HRq.out; rw [hv]; have B3 : Below w2.heap.size w2 w3 := (below_alloc w2 _).trans hb3; have A3 := A2.on B3; have p16 := A3.c16; have T3 := there_on T2 L2 B3; have f16 : w3.frozen? ⟨w.heap.size + 1, 16, none⟩ = false := (T3 16 (by omega)).2; have U3 := there_on U2 (by omega) B3; have hB3 := belowOn hB2 B3; have Z3 := Y2.on B3; have A4 := A3.set16 (.slice a3 q.length c3); have G4 := setCell_grown w3 (w.heap.size + 1) 16 (.slice a3 q.length c3); have Y4 := Y3.kept (k := w.heap.size + 1) (fun b' o' e' => (by have := hfr b' o' e'; omega)) G4; have Z4 := Z3.kept (k := w.heap.size + 1) (fun b' o' e' => (by injection Option.some.inj e' with e1 e2; subst e1; exact hbF)) G4; have U4 := setCell_there U3 (w.heap.size + 1) 16 (.slice a3 q.length c3); have hB4 := hB3.setCell (p := ⟨w.heap.size + 1, 16, none⟩) (by simp) (.slice a3 q.length c3); have HFR := hide hfr; have L4 : w.heap.size + 1 < (w3.setCell ⟨w.heap.size + 1, 16, none⟩ (.slice a3 q.length c3)).heap.size := A4.lt; clear hR hb3 hv Y3 B3 A3 T3 U3 hB3 Z3 G4 hfr)) | (have _t := tk2; refine wpl_frame (.tmp 4) rfl A4 ?_ ?_ ?_; rfl; rfl; clear tk2))
        refine (encode11 (⟨x0, x1, x2, x3, x4, x5, x6, x7, x8, x9, x10, x11, false, 0, 0, x12 * 256 + x13, q⟩ : Fd) a3 q.length c3 _ HFB.out Y4).mono ?_
        rintro e w5 ⟨a5, n5, c5, rfl, Y5, hb5⟩
        replace A4 := A4.on hb5; replace Y4 := Y4.on hb5; replace Z4 := Z4.on hb5
        have L5 : w.heap.size + 1 < w5.heap.size := A4.lt
        replace U4 := there_on U4 (Nat.lt_of_le_of_lt (Nat.le_succ _) L4) hb5
        replace hB4 := belowOn hB4 hb5
        clear hb5 p16 f16 HO HQ A2 T2 U2 hB2 Y2
        rcases Bool.eq_false_or_eq_true (rt (⟨x0, x1, x2, x3, x4, x5, x6, x7, x8, x9, x10, x11, false, 0, 0, x12 * 256 + x13, q⟩ : Fd)) with hk | hk
        · have h1 := ec_yes hk
          rw [(eb_yes hk).trans HEN.out] at Y5
          have hc1 := bytStr Y5
          have hc2 := bytStr Z4
          rw [hl] at hc2
          have hq2 := bs_beq_self (x0 :: x1 :: x2 :: x3 :: x4 :: x5 :: x6 :: x7 :: x8 :: x9 :: x10 :: x11 :: x12 :: x13 :: q)
          have HK := hide hk
          have tk3 : True := trivial
          have tk4 : True := trivial
          clear hk Y5 Z4
          go_wp2_with (first | (have _t := tk3; refine wpl_frame (.tmp 4) rfl A4 ?_ ?_ ?_; rfl; rfl; clear tk3) | (have _t := tk4; refine wpl_put (⟨x0, x1, x2, x3, x4, x5, x6, x7, x8, x9, x10, x11, false, 0, 0, x12 * 256 + x13, q⟩ : Fd) a3 q.length c3 (.tmp 2) (.tmp 100) rfl U4 ?_ ?_ ?_ ?_; rfl; rfl; rfl; clear tk4; intro w6 A6 T6 G6))
          refine bodyPost_ret (res_frame_tmp rfl rfl A6) rfl ⟨a3, q.length, c3, ?_, ?_, below_grown hB4 G6 (Nat.le_refl _) (by omega)⟩
          · rw [dF_yes HK.out, dC_yes HK.out]; rfl
          · rw [dF_yes HK.out]; exact Y4.kept (fun b' o' e' => by have := HFR.out b' o' e'; omega) G6
        · have h1 := ec_no hk
          have HK := hide hk
          have tk4 : True := trivial
          clear hk Y5 Z4 Y4 A4
          go_wp2_with (have _t := tk4; refine wpl_put zero none 0 0 (.tmp 2) (.tmp 99) rfl U4 ?_ ?_ ?_ ?_; rfl; rfl; rfl; clear tk4; intro w6 A6 T6 G6)
          refine bodyPost_ret (res_frame_tmp rfl rfl A6) rfl ⟨none, 0, 0, ?_, ?_, below_grown hB4 G6 (Nat.le_refl _) (by omega)⟩
          · rw [dF_no HK.out, dC_no HK.out]; rfl
          · rw [dF_no HK.out]; exact Byt.nothing w6
      · have hcc1 : ¬ c - 12 = 2 := by omega
        have tk1 : True := trivial
        have tk2 : True := trivial
        go_wp2_with (first | (at_builtin; have _t := tk1; refine wpl_app rfl (.tmp 80) (.tmp 82) rfl w2.heap.size _ 0 [] rfl HO.out _ _ _ q rfl ?_ ?_ ?_ ?_; go_must (exact (HQ.out _ _ (fun _ => ⟨rfl, rfl⟩) (fun h => absurd h hcc))); go_must (omega); go_must (simp); clear tk1; intro v' w3 hR hb3; go_must (rw [Nat.zero_add, List.nil_append] at hR; obtain ⟨a3, c3, hv, Y3, hfr⟩ := hR.fresh HRq.out; rw [hv]; have B3 : Below w2.heap.size w2 w3 := (below_alloc w2 _).trans hb3; have A3 := A2.on B3; have p16 := A3.c16; have T3 := there_on T2 L2 B3; have f16 : w3.frozen? ⟨w.heap.size + 1, 16, none⟩ = false := (T3 16 (by omega)).2; have U3 := there_on U2 (by omega) B3; have hB3 := belowOn hB2 B3; have Z3 := Y2.on B3; have A4 := A3.set16 (.slice a3 q.length c3); have G4 := setCell_grown w3 (w.heap.size + 1) 16 (.slice a3 q.length c3); have Y4 := Y3.kept (k := w.heap.size + 1) (fun b' o' e' => (by have := hfr b' o' e'; omega)) G4; have Z4 := Z3.kept (k := w.heap.size + 1) (fun b' o' e' => (by injection Option.some.inj e' with e1 e2; subst e1; exact hbF)) G4; have U4 := setCell_there U3 (w.heap.size + 1) 16 (.slice a3 q.length c3); have hB4 := hB3.setCell (p := ⟨w.heap.size + 1, 16, none⟩) (by simp) (.slice a3 q.length c3); have HFR := hide hfr; have L4 : w.heap.size + 1 < (w3.setCell ⟨w.heap.size + 1, 16, none⟩ (.slice a3 q.length c3)).heap.size := A4.lt; clear hR hb3 hv Y3 B3 A3 T3 U3 hB3 Z3 G4 hfr)) | (have _t := tk2; refine wpl_frame (.tmp 4) rfl A4 ?_ ?_ ?_; rfl; rfl; clear tk2))
        refine (encode11 (⟨x0, x1, x2, x3, x4, x5, x6, x7, x8, x9, x10, x11, false, 0, 0, x12 * 256 + x13, q⟩ : Fd) a3 q.length c3 _ HFB.out Y4).mono ?_
        rintro e w5 ⟨a5, n5, c5, rfl, Y5, hb5⟩
        replace A4 := A4.on hb5; replace Y4 := Y4.on hb5; replace Z4 := Z4.on hb5
        have L5 : w.heap.size + 1 < w5.heap.size := A4.lt
        replace U4 := there_on U4 (Nat.lt_of_le_of_lt (Nat.le_succ _) L4) hb5
        replace hB4 := belowOn hB4 hb5
        clear hb5 p16 f16 HO HQ A2 T2 U2 hB2 Y2
        rcases Bool.eq_false_or_eq_true (rt (⟨x0, x1, x2, x3, x4, x5, x6, x7, x8, x9, x10, x11, false, 0, 0, x12 * 256 + x13, q⟩ : Fd)) with hk | hk
        · have h1 := ec_yes hk
          rw [(eb_yes hk).trans HEN.out] at Y5
          have hc1 := bytStr Y5
          have hc2 := bytStr Z4
          rw [hl] at hc2
          have hq2 := bs_beq_self (x0 :: x1 :: x2 :: x3 :: x4 :: x5 :: x6 :: x7 :: x8 :: x9 :: x10 :: x11 :: x12 :: x13 :: q)
          have HK := hide hk
          have tk3 : True := trivial
          have tk4 : True := trivial
          clear hk Y5 Z4
          go_wp2_with (first | (have _t := tk3; refine wpl_frame (.tmp 4) rfl A4 ?_ ?_ ?_; rfl; rfl; clear tk3) | (have _t := tk4; refine wpl_put (⟨x0, x1, x2, x3, x4, x5, x6, x7, x8, x9, x10, x11, false, 0, 0, x12 * 256 + x13, q⟩ : Fd) a3 q.length c3 (.tmp 2) (.tmp 100) rfl U4 ?_ ?_ ?_ ?_; rfl; rfl; rfl; clear tk4; intro w6 A6 T6 G6))
          refine bodyPost_ret (res_frame_tmp rfl rfl A6) rfl ⟨a3, q.length, c3, ?_, ?_, below_grown hB4 G6 (Nat.le_refl _) (by omega)⟩
          · rw [dF_yes HK.out, dC_yes HK.out]; rfl
          · rw [dF_yes HK.out]; exact Y4.kept (fun b' o' e' => by have := HFR.out b' o' e'; omega) G6
        · have h1 := ec_no hk
          have HK := hide hk
          have tk4 : True := trivial
          clear hk Y5 Z4 Y4 A4
          go_wp2_with (have _t := tk4; refine wpl_put zero none 0 0 (.tmp 2) (.tmp 99) rfl U4 ?_ ?_ ?_ ?_; rfl; rfl; rfl; clear tk4; intro w6 A6 T6 G6)
          refine bodyPost_ret (res_frame_tmp rfl rfl A6) rfl ⟨none, 0, 0, ?_, ?_, below_grown hB4 G6 (Nat.le_refl _) (by omega)⟩
          · rw [dF_no HK.out, dC_no HK.out]; rfl
          · rw [dF_no HK.out]; exact Byt.nothing w6
end Go.Proofs.Ytkhdaibpggmklaa
