/- Contract of Right, as the document has it. -/
import Derived.Test.YtdaglmimfkcmeaaA8
namespace Go.Proofs.Ytdaglmimfkcmeaa
open Go.RowKit

/-- From 0 to a number. -/
def wi (n m : Int) : Bool := decide (0 ≤ n ∧ n ≤ m)
theorem within24' (n m : Int) (w : World) : Calls Try.prog 24 #[.int .i64 n, .int .i64 m] w fun e w' => e = .returned (.bool (wi n m)) ∧ w' = w := within24 n m w
theorem wi1 (n : Int) : wi n 255 = fit 1 n := by rw [Bool.eq_iff_iff, wi, fit, decide_eq_true_eq, decide_eq_true_eq]; omega
theorem wi2 (n : Int) : wi n 65535 = fit 2 n := by rw [Bool.eq_iff_iff, wi, fit, decide_eq_true_eq, decide_eq_true_eq]; omega
theorem wi4 (n : Int) : wi n 4294967295 = fit 4 n := by rw [Bool.eq_iff_iff, wi, fit, decide_eq_true_eq, decide_eq_true_eq]; omega
/-- The order in which the document asks. -/
def ftr (p : Bpd) : Bool := ((((((((wi p.ag 65535 && wi p.mx 65535) && wi p.he 65535) && wi p.fw 65535) && wi p.fl 255) && wi p.r.pr 65535) && wi p.b.pr 65535) && wi p.po 65535) && wi p.c 4294967295)
theorem ftr_fts (p : Bpd) : ftr p = fts p := by
  simp only [ftr, fts, wi1, wi2, wi4]
  cases fit 2 p.ag <;> cases fit 2 p.mx <;> cases fit 2 p.he <;> cases fit 2 p.fw <;> cases fit 1 p.fl <;> cases fit 2 p.r.pr <;> cases fit 2 p.b.pr <;> cases fit 2 p.po <;> cases fit 4 p.c <;> rfl
theorem BC_bare' : (BC zeroB).setIfInBounds 0 (.int .i64 128) = BC bare := rfl
section
attribute [local go_sem] ZB BC_bare' BC0 BC1 BC2 BC9 BC10 BC17 BC18 BC19 BC20 BC21
set_option maxRecDepth 100000 in
set_option maxHeartbeats 1000000 in
theorem right13_ch (p : Bpd) (w : World) (h : p.kd = 128) :
    Calls Try.prog 13 #[.agg (BC p)] w fun e w' => e = .returned (.bool (brt p)) ∧ Below w.heap.size w w' := by
  have A0 : Box (w.alloc (.cells (BC p) 27)) w.heap.size (bcl p) := Box.new w (bcl p) 27
  have B0 := below_alloc w (.cells (BC p) 27)
  have tk1 : True := trivial
  have h1 : (p.kd == 128) = true := by simp [h]
  have he := eqB p bare
  rw [brt_ch h]
  clear h
  go_enter Try.func13, Try.ntmps13
  go_wp2_with (have _t := tk1; refine wpl_bpdu (.tmp 1) rfl A0 ?_ ?_ ?_; rfl; rfl; clear tk1)
  go_ret
  exact ⟨rfl, B0⟩
set_option maxRecDepth 100000 in
set_option maxHeartbeats 1000000 in
theorem right13_un (p : Bpd) (w : World) (h : knw p.kd = false) :
    Calls Try.prog 13 #[.agg (BC p)] w fun e w' => e = .returned (.bool (brt p)) ∧ Below w.heap.size w w' := by
  have B0 := below_alloc w (.cells (BC p) 27)
  obtain ⟨k0, k2, k128⟩ := knw_not h
  have h1 : (p.kd == 128) = false := by simp [k128]
  have h2 : (p.kd != 0) = true := by simp [k0]
  have h3 : (p.kd != 2) = true := by simp [k2]
  rw [brt_no k128, h, Bool.false_and]
  clear h k0 k2 k128
  go_enter Try.func13, Try.ntmps13
  go_wp2
  go_ret
  exact ⟨rfl, B0⟩
set_option maxRecDepth 100000 in
set_option maxHeartbeats 4000000 in
theorem right13_kn (p : Bpd) (w : World) (h : p.kd = 0 ∨ p.kd = 2) :
    Calls Try.prog 13 #[.agg (BC p)] w fun e w' => e = .returned (.bool (brt p)) ∧ Below w.heap.size w w' := by
  have B0 := below_alloc w (.cells (BC p) 27)
  have h1 : (p.kd == 128) = false := by simp; omega
  have hk : knw p.kd = true := by rcases h with e | e <;> rw [e] <;> rfl
  rw [brt_no (by omega), hk, Bool.true_and, ← ftr_fts]
  clear hk
  have h2 : ((p.kd != 0) = true ∧ (p.kd != 2) = false) ∨ (p.kd != 0) = false := by
    rcases h with e | e
    · exact Or.inr (by simp [e])
    · exact Or.inl ⟨by simp [e], by simp [e]⟩
  clear h
  unfold ftr
  rcases h2 with ⟨h2, h3⟩ | h2
  all_goals
    go_enter Try.func13, Try.ntmps13
    go_wp2_with (go_at_call 24; refine (within24' _ _ _).mono ?_; rintro e w' ⟨rfl, rfl⟩)
    all_goals
      go_ret
      exact ⟨ret_bool (by simp [*]), B0⟩
theorem right13 (p : Bpd) (w : World) :
    Calls Try.prog 13 #[.agg (BC p)] w fun e w' => e = .returned (.bool (brt p)) ∧ Below w.heap.size w w' := by
  by_cases h : p.kd = 128
  · exact right13_ch p w h
  · cases hk : knw p.kd
    · exact right13_un p w hk
    · exact right13_kn p w (by have := knw_or hk; omega)
end
end Go.Proofs.Ytdaglmimfkcmeaa
