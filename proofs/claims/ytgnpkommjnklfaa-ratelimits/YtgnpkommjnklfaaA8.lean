/- Contract of the document's Limit. -/
import Derived.Test.YtgnpkommjnklfaaA6
namespace Go.Proofs.Ytgnpkommjnklfaa
open Go.RowKit

set_option maxHeartbeats 2000000 in
theorem lim13 (x : Nat) (c : Int) (w : World) :
    Calls Try.prog 13 #[.float .f64 x, .int .i64 c] w fun e w' => e = .returned (.int .i64 (lmt x c)) ∧ w' = w := by
  by_cases hm : min c 1073741824 < 1
  · rw [lmt_zero (Or.inl hm)]
    have hb : c < 1 := by omega
    clear hm
    go_enter Try.func13, Try.ntmps13
    go_wp2_with (first | (go_at_call 20; refine (isNaN20 _ _).mono ?_; rintro e w' ⟨rfl, rfl⟩))
    all_goals (go_ret; exact ⟨rfl, rfl⟩)
  · have hm' : 1 ≤ c := by omega
    by_cases hn : nn x
    · have na := nanB_f hn
      have hle := le_zero hn
      by_cases hp : 0 < vl x
      · have d : decide (vl x ≤ 0) = false := by simp; omega
        rw [d] at hle
        have hz : ¬ (min c 1073741824 < 1 ∨ ¬ nn x ∨ vl x ≤ 0) := by simp [hn]; omega
        have hge := ge_hundred hn
        by_cases h100 : ((100 * K : Nat) : Int) ≤ vl x
        · rw [lmt_all hz h100]
          have d1 : decide (((100 * K : Nat) : Int) ≤ vl x) = true := by simp only [decide_eq_true_eq]; exact h100
          rw [d1] at hge
          clear d d1 h100 hz hp hn
          by_cases hb : (1073741824 : Int) < c
          · have e : min c 1073741824 = 1073741824 := by omega
            rw [e]
            clear e hm
            go_enter Try.func13, Try.ntmps13
            go_wp2_with (first | (go_at_call 20; refine (isNaN20 _ _).mono ?_; rintro e w' ⟨rfl, rfl⟩))
            all_goals (go_ret; exact ⟨rfl, rfl⟩)
          · have e : min c 1073741824 = c := by omega
            rw [e]
            clear e hm
            go_enter Try.func13, Try.ntmps13
            go_wp2_with (first | (go_at_call 20; refine (isNaN20 _ _).mono ?_; rintro e w' ⟨rfl, rfl⟩))
            all_goals (go_ret; exact ⟨rfl, rfl⟩)
        · have d1 : decide (((100 * K : Nat) : Int) ≤ vl x) = false := by simp only [decide_eq_false_iff_not]; exact h100
          rw [d1] at hge
          have v := vl_pos (ng_of_pos hp)
          have hx : mg (rg x) ≤ 100 * K := by omega
          obtain ⟨n, en⟩ : ∃ n : Nat, (min c 1073741824) = (n : Int) := ⟨(min c 1073741824).toNat, by omega⟩
          have hnb : n < 9007199254740992 := by omega
          have lm := lq_mg (x := x) (n := n) hx hnb
          have ri := rnd_int hnb
          have tq : lq x n ≤ 9218868437227405312 := rnd_top _ _
          have ty : rnd (n * K) 1 ≤ 9218868437227405312 := rnd_top _ _
          have h1 := quo_run (lim_div hn hp (by omega))
          have h2 := conv_int (c := (n : Int)) (by omega)
          rw [Int.toNat_natCast] at h2
          have h3 := mul_run (lim_mul hx hnb)
          have g1 := ge_eq (x := lq x n) (y := rnd (n * K) 1) (nn_small tq) (nn_small ty)
          rw [vl_small tq, vl_small ty, ri.2] at g1
          have k := K_pos
          by_cases q1 : n * K ≤ mg (lq x n)
          · have d2 : decide (((n * K : Nat) : Int) ≤ ((mg (lq x n) : Nat) : Int)) = true := by simp only [decide_eq_true_eq]; omega
            rw [d2] at g1
            have e : mg (lq x n) / K = n := by
              have : mg (lq x n) = n * K := by omega
              rw [this, Nat.mul_div_cancel _ k]
            rw [lmt_part hz h100, en, Int.toNat_natCast, e]
            clear e d2 q1 k ri lm hx v d1 h100 hz d hp hn tq ty
            generalize lq x n = q at *
            generalize rnd (n * K) 1 = y at *
            generalize ls x = s at *
            by_cases hb : (1073741824 : Int) < c
            · have e : n = 1073741824 := by omega
              subst e
              change ∀ w, (convert 3 22 (.int .i64 1073741824)).run Try.prog w = .ok (.float .f64 y) w at h2
              clear hm en
              go_enter Try.func13, Try.ntmps13
              go_wp2_with (first | (go_at_call 20; refine (isNaN20 _ _).mono ?_; rintro e w' ⟨rfl, rfl⟩))
              all_goals (go_ret; exact ⟨rfl, rfl⟩)
            · have e : c = n := by omega
              subst e
              clear hm en
              go_enter Try.func13, Try.ntmps13
              go_wp2_with (first | (go_at_call 20; refine (isNaN20 _ _).mono ?_; rintro e w' ⟨rfl, rfl⟩))
              all_goals (go_ret; exact ⟨rfl, rfl⟩)
          · have d2 : decide (((n * K : Nat) : Int) ≤ ((mg (lq x n) : Nat) : Int)) = false := by simp only [decide_eq_false_iff_not]; omega
            rw [d2] at g1
            have cv := toIntVal (x := lq x n) (by rw [rg_small tq]; exact lm.1) (ng_small tq) (by rw [rg_small tq]; exact Nat.lt_of_le_of_lt lm.2.2 hnb)
            have h5 := fun w => run_convert_float_int w 22 3 .f64 .i64 _ _ (by rw [Try.underlying22]; rfl) Try.underlying3 cv
            rw [rg_small tq] at h5
            rw [lmt_part hz h100, en, Int.toNat_natCast]
            clear cv d2 q1 k ri lm hx v d1 h100 hz d hp hn tq ty
            generalize mg (lq x n) / K = r at *
            generalize lq x n = q at *
            generalize rnd (n * K) 1 = y at *
            generalize ls x = s at *
            by_cases hb : (1073741824 : Int) < c
            · have e : n = 1073741824 := by omega
              subst e
              change ∀ w, (convert 3 22 (.int .i64 1073741824)).run Try.prog w = .ok (.float .f64 y) w at h2
              clear hm en
              go_enter Try.func13, Try.ntmps13
              go_wp2_with (first | (go_at_call 20; refine (isNaN20 _ _).mono ?_; rintro e w' ⟨rfl, rfl⟩))
              all_goals (go_ret; exact ⟨rfl, rfl⟩)
            · have e : c = n := by omega
              subst e
              clear hm en
              go_enter Try.func13, Try.ntmps13
              go_wp2_with (first | (go_at_call 20; refine (isNaN20 _ _).mono ?_; rintro e w' ⟨rfl, rfl⟩))
              all_goals (go_ret; exact ⟨rfl, rfl⟩)
      · have d : decide (vl x ≤ 0) = true := by simp; omega
        rw [d] at hle
        rw [lmt_zero (Or.inr (Or.inr (by omega)))]
        clear hm d hp hn
        go_enter Try.func13, Try.ntmps13
        go_wp2_with (first | (go_at_call 20; refine (isNaN20 _ _).mono ?_; rintro e w' ⟨rfl, rfl⟩))
        all_goals (go_ret; exact ⟨rfl, rfl⟩)
    · have na := nanB_t hn
      rw [lmt_zero (Or.inr (Or.inl hn))]
      clear hm hn
      go_enter Try.func13, Try.ntmps13
      go_wp2_with (first | (go_at_call 20; refine (isNaN20 _ _).mono ?_; rintro e w' ⟨rfl, rfl⟩))
      all_goals (go_ret; exact ⟨rfl, rfl⟩)

end Go.Proofs.Ytgnpkommjnklfaa
