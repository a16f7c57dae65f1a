/- Contracts of Compare, of the program and of the document's own answers. -/
import Derived.Test.YtdaglmimfkcmeaaA8
namespace Go.Proofs.Ytdaglmimfkcmeaa
open Go.RowKit

section
attribute [local go_sem] IC0
set_option maxRecDepth 100000 in
set_option maxHeartbeats 1000000 in
theorem cmp16 (a b : Idn) (w : World) (ha : Rng (ml a)) (hb : Rng (ml b)) :
    Calls Try.prog 16 #[.agg (IC a), .agg (IC b)] w fun e w' => e = .returned (.int .i64 (cp a b)) ∧ Below w.heap.size w w' := by
  have A0 := ((Box.new w (icl a) 25).alloc (.cells (IC b) 25)).mac
  have B0 : World.rangeAt ((w.alloc (.cells (IC a) 25)).alloc (.cells (IC b) 25)) (w.heap.size + 1) 1 (mcl b) := by
    have h := (Box.new (w.alloc (.cells (IC a) 25)) (icl b) 25).mac
    rw [World.size_alloc] at h
    exact h
  have W0 : Below w.heap.size w ((w.alloc (.cells (IC a) 25)).alloc (.cells (IC b) 25)) := by go_grown
  have HA := hide ha
  have HB := hide hb
  clear ha hb
  by_cases h1 : a.pr = b.pr
  · have h2 : (a.pr != b.pr) = false := by simp [h1]
    rw [cp_eq h1]
    clear h1
    have tk1 : True := trivial
    have tk2 : True := trivial
    go_enter Try.func16, Try.ntmps16
    go_wp2_with (first | (have _t := tk1; refine wpl_mac (.tmp 15) rfl A0 ?_ ?_ ?_; rfl; rfl; clear tk1) | (have _t := tk2; refine wpl_mac (.tmp 17) rfl B0 ?_ ?_ ?_; rfl; rfl; clear tk2))
    refine (mac32 a b _ HA.out HB.out).mono ?_
    rintro e w1 ⟨rfl, hb⟩
    clear A0 B0
    go_wp2
    go_ret
    exact ⟨rfl, belowOn W0 hb⟩
  · have h2 : (a.pr != b.pr) = true := by simp [h1]
    rw [cp_ne h1]
    clear h1 A0 B0
    go_enter Try.func16, Try.ntmps16
    go_wp2_with (go_at_call 31; refine (cmp31 _ _ _).mono ?_; rintro e w' ⟨rfl, rfl⟩)
    go_ret
    exact ⟨rfl, W0⟩
set_option maxRecDepth 100000 in
set_option maxHeartbeats 1000000 in
theorem cmp17 (a b : Idn) (w : World) (ha : Rng (ml a)) (hb : Rng (ml b)) :
    Calls Try.prog 17 #[.agg (IC a), .agg (IC b)] w fun e w' => e = .returned (.int .i64 (cp a b)) ∧ Below w.heap.size w w' := by
  have A0 := ((Box.new w (icl a) 25).alloc (.cells (IC b) 25)).mac
  have B0 : World.rangeAt ((w.alloc (.cells (IC a) 25)).alloc (.cells (IC b) 25)) (w.heap.size + 1) 1 (mcl b) := by
    have h := (Box.new (w.alloc (.cells (IC a) 25)) (icl b) 25).mac
    rw [World.size_alloc] at h
    exact h
  have W0 : Below w.heap.size w ((w.alloc (.cells (IC a) 25)).alloc (.cells (IC b) 25)) := by go_grown
  have HA := hide ha
  have HB := hide hb
  clear ha hb
  by_cases h1 : a.pr < b.pr
  · rw [cp_ne (by omega), cmp3_lt h1]
    have h2 : decide (a.pr < b.pr) = true := by simp [h1]
    clear h1 A0 B0
    go_enter Try.func17, Try.ntmps17
    go_wp2
    go_ret
    exact ⟨rfl, W0⟩
  · by_cases h2 : b.pr < a.pr
    · rw [cp_ne (by omega), cmp3_gt h2]
      have h3 : decide (a.pr < b.pr) = false := by simp; omega
      have h4 : decide (b.pr < a.pr) = true := by simp [h2]
      clear h1 h2 A0 B0
      go_enter Try.func17, Try.ntmps17
      go_wp2
      go_ret
      exact ⟨rfl, W0⟩
    · rw [cp_eq (by omega)]
      have h3 : decide (a.pr < b.pr) = false := by simp; omega
      have h4 : decide (b.pr < a.pr) = false := by simp; omega
      clear h1 h2
      have tk1 : True := trivial
      have tk2 : True := trivial
      go_enter Try.func17, Try.ntmps17
      go_wp2_with (first | (have _t := tk1; refine wpl_mac (.tmp 15) rfl A0 ?_ ?_ ?_; rfl; rfl; clear tk1) | (have _t := tk2; refine wpl_mac (.tmp 17) rfl B0 ?_ ?_ ?_; rfl; rfl; clear tk2))
      refine (mac33 a b _ HA.out HB.out).mono ?_
      rintro e w1 ⟨rfl, hb⟩
      clear A0 B0
      go_wp2
      go_ret
      exact ⟨rfl, belowOn W0 hb⟩
end
end Go.Proofs.Ytdaglmimfkcmeaa
