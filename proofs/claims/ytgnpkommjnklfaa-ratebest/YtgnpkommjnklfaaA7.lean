/- Contracts of Limit, of the program and of the document. -/
import Derived.Test.YtgnpkommjnklfaaA6
namespace Go.Proofs.Ytgnpkommjnklfaa
open Go.RowKit

set_option maxHeartbeats 2000000 in
theorem lim12 (x : Nat) (c : Int) (w : World) :
    Calls Try.prog 12 #[.float .f64 x, .int .i64 c] w fun e w' => e = .returned (.int .i64 (lmt x c)) ∧ w' = w := by
  by_cases hm : min c 1073741824 < 1
  · rw [lmt_zero (Or.inl hm)]
    have hb : c < 1 := by omega
    clear hm
    go_enter Try.func12, Try.ntmps12
    go_wp2_with (first | (go_at_call 20; refine (isNaN20 _ _).mono ?_; rintro e w' ⟨rfl, rfl⟩))
    all_goals (go_ret; exact ⟨rfl, rfl⟩)
  · by_cases hn : nn x
    · have na := nanB_f hn
      have hle := le_zero hn
      by_cases hp : 0 < vl x
      · have d : decide (vl x ≤ 0) = false := by simp; omega
        rw [d] at hle
        have hz : ¬ (min c 1073741824 < 1 ∨ ¬ nn x ∨ vl x ≤ 0) := by simp [hn]; omega
        have hge := ge_hundred hn
        by_cases h100 : ((100 * K : Nat) : Int) ≤ vl x
        · rw [lmt_all hz h100]
          have d1 : decide (((100 * K : Nat) : Int) ≤ vl x) = true := by simp only [decide_eq_true_eq]; exact h100
          rw [d1] at hge
          clear d d1 h100 hz hp hn
          by_cases hb : (1073741824 : Int) < c
          · have e : min c 1073741824 = 1073741824 := by omega
            rw [e]
            clear e hm
            go_enter Try.func12, Try.ntmps12
            go_wp2_with (first | (go_at_call 20; refine (isNaN20 _ _).mono ?_; rintro e w' ⟨rfl, rfl⟩))
            all_goals (go_ret; exact ⟨rfl, rfl⟩)
          · have e : min c 1073741824 = c := by omega
            have hm' : 1 ≤ c := by omega
            rw [e]
            clear e hm
            go_enter Try.func12, Try.ntmps12
            go_wp2_with (first | (go_at_call 20; refine (isNaN20 _ _).mono ?_; rintro e w' ⟨rfl, rfl⟩))
            all_goals (go_ret; exact ⟨rfl, rfl⟩)
        · have d1 : decide (((100 * K : Nat) : Int) ≤ vl x) = false := by simp only [decide_eq_false_iff_not]; exact h100
          rw [d1] at hge
          have v := vl_pos (ng_of_pos hp)
          have hx : mg (rg x) ≤ 100 * K := by omega
          have hnb : (min c 1073741824).toNat < 9007199254740992 := by omega
          have lm := lq_mg (x := x) (n := (min c 1073741824).toNat) hx hnb
          obtain ⟨f, h4, h5⟩ := floor_int lm.1 rfl (Nat.lt_of_le_of_lt lm.2.2 hnb)
          rw [lmt_part hz h100]
          exact lim12z w (min_def' c) (by omega) na hle hge (quo_run (lim_div hn hp (by omega))) (conv_int (by omega)) (mul_run (lim_mul hx hnb)) h4 h5 (by
            have := lm.2.2
            generalize mg (lq x (min c 1073741824).toNat) / K = q at *
            omega)
      · have d : decide (vl x ≤ 0) = true := by simp; omega
        rw [d] at hle
        rw [lmt_zero (Or.inr (Or.inr (by omega)))]
        by_cases hb : (1073741824 : Int) < c
        · clear hm d hp hn
          go_enter Try.func12, Try.ntmps12
          go_wp2_with (first | (go_at_call 20; refine (isNaN20 _ _).mono ?_; rintro e w' ⟨rfl, rfl⟩))
          all_goals (go_ret; exact ⟨rfl, rfl⟩)
        · have hm' : 1 ≤ c := by omega
          clear hm d hp hn
          go_enter Try.func12, Try.ntmps12
          go_wp2_with (first | (go_at_call 20; refine (isNaN20 _ _).mono ?_; rintro e w' ⟨rfl, rfl⟩))
          all_goals (go_ret; exact ⟨rfl, rfl⟩)
    · have na := nanB_t hn
      rw [lmt_zero (Or.inr (Or.inl hn))]
      by_cases hb : (1073741824 : Int) < c
      · clear hm hn
        go_enter Try.func12, Try.ntmps12
        go_wp2_with (first | (go_at_call 20; refine (isNaN20 _ _).mono ?_; rintro e w' ⟨rfl, rfl⟩))
        all_goals (go_ret; exact ⟨rfl, rfl⟩)
      · have hm' : 1 ≤ c := by omega
        clear hm hn
        go_enter Try.func12, Try.ntmps12
        go_wp2_with (first | (go_at_call 20; refine (isNaN20 _ _).mono ?_; rintro e w' ⟨rfl, rfl⟩))
        all_goals (go_ret; exact ⟨rfl, rfl⟩)

end Go.Proofs.Ytgnpkommjnklfaa
