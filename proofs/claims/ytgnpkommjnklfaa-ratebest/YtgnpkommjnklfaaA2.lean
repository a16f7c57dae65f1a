/- Contracts of Compare, of the program and of the document. -/
import Derived.Test.YtgnpkommjnklfaaA4
namespace Go.Proofs.Ytgnpkommjnklfaa
open Go.RowKit

theorem cmp3_lt {a b : Int} (h : a < b) : cmp3 a b = -1 := by unfold cmp3; rw [if_pos h]
theorem cmp3_gt {a b : Int} (h : b < a) : cmp3 a b = 1 := by unfold cmp3; rw [if_neg (by omega), if_pos h]
theorem cmp3_eq {a b : Int} (h : a = b) : cmp3 a b = 0 := by unfold cmp3; rw [if_neg (by omega), if_neg (by omega)]

set_option maxHeartbeats 2000000 in
theorem cmp19 (a b : Nat) (w : World) :
    Calls Try.prog 19 #[.float .f64 a, .float .f64 b] w fun e w' => e = .returned (.int .i64 (cmp3 (key a) (key b))) ∧ w' = w := by
  by_cases ha : nn a
  · have na := nanB_f ha
    by_cases hb : nn b
    · have nb := nanB_f hb
      have hl := lt_eq ha hb
      have hg := gt_eq ha hb
      rcases Int.lt_trichotomy (vl a) (vl b) with h | h | h
      · have k := cmp3_lt (key_lt ha hb h)
        have d : decide (vl a < vl b) = true := by simp [h]
        rw [k]
        rw [d] at hl
        clear hg d h k ha hb
        go_enter Try.func19, Try.ntmps19
        go_wp2_with (go_at_call 20; refine (isNaN20 _ _).mono ?_; rintro e w' ⟨rfl, rfl⟩)
        all_goals (go_ret; exact ⟨rfl, rfl⟩)
      · have k := key_eq ha hb h
        have d : decide (vl a < vl b) = false := by simp; omega
        have d' : decide (vl b < vl a) = false := by simp; omega
        rw [d] at hl
        rw [d'] at hg
        rw [k]
        clear d d' h k ha hb
        cases sa : ng a <;> cases sb : ng b
        all_goals
          go_enter Try.func19, Try.ntmps19
          go_wp2_with (first | (go_at_call 20; refine (isNaN20 _ _).mono ?_; rintro e w' ⟨rfl, rfl⟩) | (go_at_call 33; refine (sign33 _ _).mono ?_; rintro e w' ⟨rfl, rfl⟩) | (go_at_call 32; refine (marks32 _ _ _).mono ?_; rintro e w' ⟨rfl, rfl⟩))
          all_goals (go_ret; exact ⟨rfl, rfl⟩)
      · have k := cmp3_gt (key_lt hb ha h)
        have d : decide (vl a < vl b) = false := by simp; omega
        have d' : decide (vl b < vl a) = true := by simp [h]
        rw [k]
        rw [d] at hl
        rw [d'] at hg
        clear d d' h k ha hb
        go_enter Try.func19, Try.ntmps19
        go_wp2_with (go_at_call 20; refine (isNaN20 _ _).mono ?_; rintro e w' ⟨rfl, rfl⟩)
        all_goals (go_ret; exact ⟨rfl, rfl⟩)
    · have nb := nanB_t hb
      have k := cmp3_lt (a := key a) (b := key b) (by rw [key_nan hb]; exact key_lt_nan ha)
      rw [k]
      clear k ha hb
      go_enter Try.func19, Try.ntmps19
      go_wp2_with (first | (go_at_call 20; refine (isNaN20 _ _).mono ?_; rintro e w' ⟨rfl, rfl⟩) | (go_at_call 32; refine (marks32 _ _ _).mono ?_; rintro e w' ⟨rfl, rfl⟩))
      all_goals (go_ret; exact ⟨rfl, rfl⟩)
  · have na := nanB_t ha
    by_cases hb : nn b
    · have nb := nanB_f hb
      have k := cmp3_gt (a := key a) (b := key b) (by rw [key_nan ha]; exact key_lt_nan hb)
      rw [k]
      clear k ha hb
      go_enter Try.func19, Try.ntmps19
      go_wp2_with (first | (go_at_call 20; refine (isNaN20 _ _).mono ?_; rintro e w' ⟨rfl, rfl⟩) | (go_at_call 32; refine (marks32 _ _ _).mono ?_; rintro e w' ⟨rfl, rfl⟩))
      all_goals (go_ret; exact ⟨rfl, rfl⟩)
    · have nb := nanB_t hb
      have k := cmp3_eq (a := key a) (b := key b) (by rw [key_nan ha, key_nan hb])
      rw [k]
      clear k ha hb
      go_enter Try.func19, Try.ntmps19
      go_wp2_with (first | (go_at_call 20; refine (isNaN20 _ _).mono ?_; rintro e w' ⟨rfl, rfl⟩) | (go_at_call 32; refine (marks32 _ _ _).mono ?_; rintro e w' ⟨rfl, rfl⟩))
      all_goals (go_ret; exact ⟨rfl, rfl⟩)


end Go.Proofs.Ytgnpkommjnklfaa
