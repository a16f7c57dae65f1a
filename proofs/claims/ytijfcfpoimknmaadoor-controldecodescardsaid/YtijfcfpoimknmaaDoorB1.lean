/- Contracts of fits and blank: one field of a note. -/
import Derived.Test.YtijfcfpoimknmaaDoorA2
namespace Go.Proofs.YtijfcfpoimknmaaDoor
open Go.RowKit
theorem drewN_below {B : Nat} {a w : World} (h : Below B a w) (n : Nat) : Below B a (w.drewN n) := ⟨h.os, h.tape, h.output, h.size, h.block⟩
section
attribute [local go_sem] NC0 NC1 NC8 NC9 NC10 ZM
set_option maxRecDepth 100000 in
set_option maxHeartbeats 1000000 in
theorem fits37 (n : Nt) (a : Option Addr) (m c : Nat) (hl : n.b.length = m) (j : Nat) (hj : j = 1 ∨ j = 2 ∨ j = 4 ∨ j = 8 ∨ j = 16) (w : World) :
    Calls Tryd.prog 37 #[.agg (NC n (.slice a m c)), .int .i64 j] w fun e w' => e = .returned (.bool (ft n j)) ∧ Below w.heap.size w w' := by
  have B0 := below_alloc w (.cells (NC n (.slice a m c)) 26)
  rcases hj with rfl | rfl | rfl | rfl | rfl
  · have e : ft n 1 = wi n.v 1 4094 := rfl
    rw [e]
    go_enter Tryd.func37, Tryd.ntmps37
    go_wp2_with (go_at_call 44; refine (within44 _ _ _ _).mono ?_; rintro e w' ⟨rfl, rfl⟩)
    go_ret
    first | exact ⟨rfl, B0⟩ | exact ⟨rfl, drewN_below B0 _⟩
  · have e : ft n 2 = true := rfl
    rw [e]
    go_enter Tryd.func37, Tryd.ntmps37
    go_wp2
    go_ret
    first | exact ⟨rfl, B0⟩ | exact ⟨rfl, drewN_below B0 _⟩
  · have e : ft n 4 = wi n.p 0 1000 := rfl
    rw [e]
    go_enter Tryd.func37, Tryd.ntmps37
    go_wp2_with (go_at_call 44; refine (within44 _ _ _ _).mono ?_; rintro e w' ⟨rfl, rfl⟩)
    go_ret
    first | exact ⟨rfl, B0⟩ | exact ⟨rfl, drewN_below B0 _⟩
  · have e : ft n 8 = wi n.s 0 (ms n.k) := rfl
    rw [e]
    go_enter Tryd.func37, Tryd.ntmps37
    go_wp2_with fail
    go_quiet ((first | (go_at_call 46; exact Calls.quiet_of_same (most46 _ _)) | (go_at_call 44; exact Calls.quiet_of_same (within44 _ _ _ _))))
    go_wp2
    go_ret
    first | exact ⟨rfl, B0⟩ | exact ⟨rfl, drewN_below B0 _⟩
  · have e : ft n 16 = decide ((m : Int) ≤ 1600) := by rw [← hl]; rfl
    rw [e]
    go_enter Tryd.func37, Tryd.ntmps37
    go_wp2
    all_goals
      go_ret
      exact ⟨ret_bool (by simp [*]), B0⟩
set_option maxRecDepth 100000 in
set_option maxHeartbeats 1000000 in
theorem blank38 (n : Nt) (a : Option Addr) (m c : Nat) (hl : n.b.length = m) (j : Nat) (hj : j = 1 ∨ j = 2 ∨ j = 4 ∨ j = 8 ∨ j = 16) (w : World) :
    Calls Tryd.prog 38 #[.agg (NC n (.slice a m c)), .int .i64 j] w fun e w' => e = .returned (.bool (bl n j)) ∧ Below w.heap.size w w' := by
  have B0 := below_alloc w (.cells (NC n (.slice a m c)) 26)
  have A0 : Box (w.alloc (.cells (NC n (.slice a m c)) 26)) w.heap.size (ncl n (.slice a m c)) := Box.new w (ncl n (.slice a m c)) 26
  rcases hj with rfl | rfl | rfl | rfl | rfl
  · have e : bl n 1 = (n.v == 0) := rfl
    rw [e]
    go_enter Tryd.func38, Tryd.ntmps38
    go_wp2
    go_ret
    first | exact ⟨rfl, B0⟩ | exact ⟨rfl, drewN_below B0 _⟩
  · have e : bl n 2 = eq6 n.m0 n.m1 n.m2 n.m3 n.m4 n.m5 0 0 0 0 0 0 := rfl
    have he := eqM n zeroN
    have tk1 : True := trivial
    rw [e]
    go_enter Tryd.func38, Tryd.ntmps38
    go_wp2_with (have _t := tk1; refine wpl_mac (.tmp 13) rfl A0.mac ?_ ?_ ?_; rfl; rfl; clear tk1)
    go_ret
    first | exact ⟨rfl, B0⟩ | exact ⟨rfl, drewN_below B0 _⟩
  · have e : bl n 4 = (n.p == 0) := rfl
    rw [e]
    go_enter Tryd.func38, Tryd.ntmps38
    go_wp2
    go_ret
    first | exact ⟨rfl, B0⟩ | exact ⟨rfl, drewN_below B0 _⟩
  · have e : bl n 8 = (n.s == 0) := rfl
    rw [e]
    go_enter Tryd.func38, Tryd.ntmps38
    go_wp2
    go_ret
    first | exact ⟨rfl, B0⟩ | exact ⟨rfl, drewN_below B0 _⟩
  · have e : bl n 16 = ((m : Int) == 0) := by rw [← hl]; rfl
    rw [e]
    go_enter Tryd.func38, Tryd.ntmps38
    go_wp2
    go_ret
    first | exact ⟨rfl, B0⟩ | exact ⟨rfl, drewN_below B0 _⟩
end
end Go.Proofs.YtijfcfpoimknmaaDoor
