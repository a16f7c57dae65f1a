/- Contracts of Cost, of the program and of the document. -/
import Derived.Test.YtgnpkommjnklfaaA4
namespace Go.Proofs.Ytgnpkommjnklfaa
open Go.RowKit

theorem quo_run {a b r : Nat} (h : floatBits .quo .f64 a b = some r) (t : TypeId) (w : World) : (binOp .quo t (.float .f64 a) (.float .f64 b)).run Try.prog w = .ok (.float .f64 r) w := run_float_arith w .quo t .f64 a b r h
theorem mul_run {a b r : Nat} (h : floatBits .mul .f64 a b = some r) (t : TypeId) (w : World) : (binOp .mul t (.float .f64 a) (.float .f64 b)).run Try.prog w = .ok (.float .f64 r) w := run_float_arith w .mul t .f64 a b r h
theorem add_run {a b r : Nat} (h : floatBits .add .f64 a b = some r) (t : TypeId) (w : World) : (binOp .add t (.float .f64 a) (.float .f64 b)).run Try.prog w = .ok (.float .f64 r) w := run_float_arith w .add t .f64 a b r h
theorem sub_run {a b r : Nat} (h : floatBits .sub .f64 a b = some r) (t : TypeId) (w : World) : (binOp .sub t (.float .f64 a) (.float .f64 b)).run Try.prog w = .ok (.float .f64 r) w := run_float_arith w .sub t .f64 a b r h

theorem cst_dear {x : Nat} (h : ¬ nn x ∨ vl x ≤ 0) : cst x = 200000000 := by unfold cst; rw [if_pos h]
theorem cst_cheap {x : Nat} (h : nn x) (hp : 0 < vl x) (hi : rg x = 9218868437227405312) : cst x = 1 := by
  unfold cst; rw [if_neg (by simp [h]; omega), if_pos hi]
theorem cst_top {x : Nat} (h : nn x) (hp : 0 < vl x) (hi : rg x ≠ 9218868437227405312) (hq : 200000000 * K ≤ mg (cq x)) : cst x = 200000000 := by
  unfold cst; rw [if_neg (by simp [h]; omega), if_neg hi, if_pos hq]
theorem cst_low {x : Nat} (h : nn x) (hp : 0 < vl x) (hi : rg x ≠ 9218868437227405312) (hq : mg (cq x) < K) : cst x = 1 := by
  unfold cst; rw [if_neg (by simp [h]; omega), if_neg hi, if_neg (by omega), if_pos hq]
theorem cst_mid {x : Nat} (h : nn x) (hp : 0 < vl x) (hi : rg x ≠ 9218868437227405312) (hq : ¬ 200000000 * K ≤ mg (cq x)) (hq' : ¬ mg (cq x) < K) : cst x = ((mg (cq x) / K : Nat) : Int) := by
  unfold cst; rw [if_neg (by simp [h]; omega), if_neg hi, if_neg hq, if_neg hq']

set_option maxHeartbeats 1000000 in
theorem cost10 (x : Nat) (w : World) :
    Calls Try.prog 10 #[.float .f64 x] w fun e w' => e = .returned (.int .i64 (cst x)) ∧ w' = w := by
  by_cases hn : nn x
  · have na := nanB_f hn
    have hle := le_zero hn
    by_cases hp : 0 < vl x
    · have d : decide (vl x ≤ 0) = false := by simp; omega
      rw [d] at hle
      by_cases hi : rg x = 9218868437227405312
      · have pi := pinf_t hi hp
        rw [cst_cheap hn hp hi]
        clear d hi hp hn
        go_enter Try.func10, Try.ntmps10
        go_wp2_with (first | (go_at_call 20; refine (isNaN20 _ _).mono ?_; rintro e w' ⟨rfl, rfl⟩) | (go_at_call 24; refine (isInf24p _ _).mono ?_; rintro e w' ⟨rfl, rfl⟩))
        all_goals (go_ret; exact ⟨rfl, rfl⟩)
      · have hx : rg x < 9218868437227405312 := by unfold nn at hn; omega
        have tq : cq x ≤ 9218868437227405312 := rnd_top _ _
        have h1 := quo_run (cost_div hx hp)
        have k := K_pos
        by_cases q1 : 200000000 * K ≤ mg (cq x)
        · obtain ⟨f, h4, h5⟩ := floor_int (z := 4730986895511650304) (n := 200000000) (by decide) (by rw [c2e8_mg, Nat.mul_div_cancel _ k]) (by decide)
          rw [cst_top hn hp hi q1]
          exact cost10z w na hle (pinf_f hi) h1 (max_gt tq (by decide) (by rw [c1_mg]; omega)) (min_ge tq (by decide) (by rw [c2e8_mg]; exact q1)) h4 h5
        · by_cases q2 : mg (cq x) < K
          · obtain ⟨f, h4, h5⟩ := floor_int (z := 4607182418800017408) (n := 1) (by decide) (by rw [c1_mg, Nat.mul_div_cancel _ k]) (by decide)
            rw [cst_low hn hp hi q2]
            exact cost10z w na hle (pinf_f hi) h1 (max_lt tq (by decide) (by rw [c1_mg]; omega)) (min_lt (by decide) (by decide) (by rw [c1_mg, c2e8_mg]; omega)) h4 h5
          · have lt : cq x < 9218868437227405312 := by
              rw [← mg_lt_iff tq (Nat.le_refl _)]
              have := mg_lt (r := 4730986895511650304) (s := 9218868437227405312) (by decide) (by decide)
              rw [c2e8_mg] at this
              omega
            have nb : mg (cq x) / K < 9007199254740992 := by rw [Nat.div_lt_iff_lt_mul k]; omega
            obtain ⟨f, h4, h5⟩ := floor_int lt rfl nb
            rw [cst_mid hn hp hi q1 q2]
            exact cost10z w na hle (pinf_f hi) h1 (max_gt tq (by decide) (by rw [c1_mg]; omega)) (min_lt tq (by decide) (by rw [c2e8_mg]; omega)) h4 h5
    · have d : decide (vl x ≤ 0) = true := by simp; omega
      rw [d] at hle
      rw [cst_dear (Or.inr (by omega))]
      go_enter Try.func10, Try.ntmps10
      go_wp2_with (first | (go_at_call 20; refine (isNaN20 _ _).mono ?_; rintro e w' ⟨rfl, rfl⟩))
      all_goals (go_ret; exact ⟨rfl, rfl⟩)
  · have na := nanB_t hn
    rw [cst_dear (Or.inl hn)]
    go_enter Try.func10, Try.ntmps10
    go_wp2_with (first | (go_at_call 20; refine (isNaN20 _ _).mono ?_; rintro e w' ⟨rfl, rfl⟩))
    all_goals (go_ret; exact ⟨rfl, rfl⟩)

set_option maxHeartbeats 1000000 in
theorem cost11 (x : Nat) (w : World) :
    Calls Try.prog 11 #[.float .f64 x] w fun e w' => e = .returned (.int .i64 (cst x)) ∧ w' = w := by
  by_cases hn : nn x
  · have na := nanB_f hn
    have hle := le_zero hn
    by_cases hp : 0 < vl x
    · have d : decide (vl x ≤ 0) = false := by simp; omega
      rw [d] at hle
      by_cases hi : rg x = 9218868437227405312
      · have pi := pinf_t hi hp
        rw [cst_cheap hn hp hi]
        clear d hi hp hn
        go_enter Try.func11, Try.ntmps11
        go_wp2_with (first | (go_at_call 20; refine (isNaN20 _ _).mono ?_; rintro e w' ⟨rfl, rfl⟩) | (go_at_call 24; refine (isInf24p _ _).mono ?_; rintro e w' ⟨rfl, rfl⟩))
        all_goals (go_ret; exact ⟨rfl, rfl⟩)
      · have hx : rg x < 9218868437227405312 := by unfold nn at hn; omega
        have tq : cq x ≤ 9218868437227405312 := rnd_top _ _
        have h1 := quo_run (cost_div hx hp)
        have pi := pinf_f hi
        have k := K_pos
        have g1 := ge_eq (x := cq x) (y := 4730986895511650304) (nn_small tq) (by decide)
        have g2 := lt_eq (x := cq x) (y := 4607182418800017408) (nn_small tq) (by decide)
        rw [vl_small tq, c2e8_vl] at g1
        rw [vl_small tq, c1_vl] at g2
        by_cases q1 : 200000000 * K ≤ mg (cq x)
        · rw [cst_top hn hp hi q1]
          have d1 : decide (((200000000 * K : Nat) : Int) ≤ ((mg (cq x) : Nat) : Int)) = true := by simp only [decide_eq_true_eq]; omega
          rw [d1] at g1
          clear d d1 hi hp hn g2 q1 k hx
          generalize cq x = q at *
          go_enter Try.func11, Try.ntmps11
          go_wp2_with (first | (go_at_call 20; refine (isNaN20 _ _).mono ?_; rintro e w' ⟨rfl, rfl⟩) | (go_at_call 24; refine (isInf24p _ _).mono ?_; rintro e w' ⟨rfl, rfl⟩))
          all_goals (go_ret; exact ⟨rfl, rfl⟩)
        · have d1 : decide (((200000000 * K : Nat) : Int) ≤ ((mg (cq x) : Nat) : Int)) = false := by simp only [decide_eq_false_iff_not]; omega
          rw [d1] at g1
          by_cases q2 : mg (cq x) < K
          · rw [cst_low hn hp hi q2]
            have d2 : decide (((mg (cq x) : Nat) : Int) < ((1 * K : Nat) : Int)) = true := by simp only [decide_eq_true_eq]; omega
            rw [d2] at g2
            clear d d1 d2 hi hp hn q1 q2 k hx
            generalize cq x = q at *
            go_enter Try.func11, Try.ntmps11
            go_wp2_with (first | (go_at_call 20; refine (isNaN20 _ _).mono ?_; rintro e w' ⟨rfl, rfl⟩) | (go_at_call 24; refine (isInf24p _ _).mono ?_; rintro e w' ⟨rfl, rfl⟩))
            all_goals (go_ret; exact ⟨rfl, rfl⟩)
          · have lt : cq x < 9218868437227405312 := by
              rw [← mg_lt_iff tq (Nat.le_refl _)]
              have := mg_lt (r := 4730986895511650304) (s := 9218868437227405312) (by decide) (by decide)
              rw [c2e8_mg] at this
              omega
            have nb : mg (cq x) / K < 9007199254740992 := by rw [Nat.div_lt_iff_lt_mul k]; omega
            have cv := toIntVal (x := cq x) (by rw [rg_small tq]; exact lt) (ng_small tq) (by rw [rg_small tq]; exact nb)
            have h5 := fun w => run_convert_float_int w 22 3 .f64 .i64 _ _ (by rw [Try.underlying22]; rfl) Try.underlying3 cv
            rw [rg_small tq] at h5
            rw [cst_mid hn hp hi q1 q2]
            have d2 : decide (((mg (cq x) : Nat) : Int) < ((1 * K : Nat) : Int)) = false := by simp only [decide_eq_false_iff_not]; omega
            rw [d2] at g2
            clear d d1 d2 hi hp hn q1 q2 k hx cv nb lt
            generalize mg (cq x) / K = n at *
            generalize cq x = q at *
            go_enter Try.func11, Try.ntmps11
            go_wp2_with (first | (go_at_call 20; refine (isNaN20 _ _).mono ?_; rintro e w' ⟨rfl, rfl⟩) | (go_at_call 24; refine (isInf24p _ _).mono ?_; rintro e w' ⟨rfl, rfl⟩))
            all_goals (go_ret; exact ⟨rfl, rfl⟩)
    · have d : decide (vl x ≤ 0) = true := by simp; omega
      rw [d] at hle
      rw [cst_dear (Or.inr (by omega))]
      go_enter Try.func11, Try.ntmps11
      go_wp2_with (first | (go_at_call 20; refine (isNaN20 _ _).mono ?_; rintro e w' ⟨rfl, rfl⟩))
      all_goals (go_ret; exact ⟨rfl, rfl⟩)
  · have na := nanB_t hn
    rw [cst_dear (Or.inl hn)]
    go_enter Try.func11, Try.ntmps11
    go_wp2_with (first | (go_at_call 20; refine (isNaN20 _ _).mono ?_; rintro e w' ⟨rfl, rfl⟩))
    all_goals (go_ret; exact ⟨rfl, rfl⟩)

end Go.Proofs.Ytgnpkommjnklfaa
