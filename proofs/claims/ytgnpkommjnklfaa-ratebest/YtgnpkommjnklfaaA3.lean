/- Contract of the document's Compare. -/
import Derived.Test.YtgnpkommjnklfaaA2
import Derived.Laws.Unary
namespace Go.Proofs.Ytgnpkommjnklfaa
open Go.RowKit

theorem rank34f (x : Nat) (w : World) (h : nanB x = false) :
    Calls Try.prog 34 #[.float .f64 x] w fun e w' => e = .returned (.int .i64 0) ∧ w' = w :=
  (rank34 x w).mono fun e w' he => ⟨by rw [he.1, h]; rfl, he.2⟩
theorem rank34t (x : Nat) (w : World) (h : nanB x = true) :
    Calls Try.prog 34 #[.float .f64 x] w fun e w' => e = .returned (.int .i64 1) ∧ w' = w :=
  (rank34 x w).mono fun e w' he => ⟨by rw [he.1, h]; rfl, he.2⟩

set_option maxHeartbeats 2000000 in
theorem cmp21 (a b : Nat) (w : World) :
    Calls Try.prog 21 #[.float .f64 a, .float .f64 b] w fun e w' => e = .returned (.int .i64 (cmp3 (key a) (key b))) ∧ w' = w := by
  by_cases ha : nn a
  · have na := nanB_f ha
    by_cases hb : nn b
    · have nb := nanB_f hb
      have hl := lt_eq ha hb
      have hg := gt_eq ha hb
      rcases Int.lt_trichotomy (vl a) (vl b) with h | h | h
      · have k := cmp3_lt (key_lt ha hb h)
        have d : decide (vl a < vl b) = true := by simp [h]
        rw [k]
        rw [d] at hl
        clear hg d h k ha hb
        go_enter Try.func21, Try.ntmps21
        go_wp2_with (first | (go_at_call 34; refine (rank34f _ _ (by first | exact na | exact nb)).mono ?_; rintro e w' ⟨rfl, rfl⟩) | (go_at_call 34; refine (rank34t _ _ (by first | exact na | exact nb)).mono ?_; rintro e w' ⟨rfl, rfl⟩))
        all_goals (go_ret; exact ⟨rfl, rfl⟩)
      · have k := key_eq ha hb h
        have d : decide (vl a < vl b) = false := by simp; omega
        have d' : decide (vl b < vl a) = false := by simp; omega
        rw [d] at hl
        rw [d'] at hg
        rw [k]
        clear d d' h k ha hb
        cases sa : ng a <;> cases sb : ng b
        all_goals
          go_enter Try.func21, Try.ntmps21
          go_wp2_with (first | (go_at_call 34; refine (rank34f _ _ (by first | exact na | exact nb)).mono ?_; rintro e w' ⟨rfl, rfl⟩) | (go_at_call 33; refine (sign33 _ _).mono ?_; rintro e w' ⟨rfl, rfl⟩))
          all_goals (go_ret; exact ⟨rfl, rfl⟩)
      · have k := cmp3_gt (key_lt hb ha h)
        have d : decide (vl a < vl b) = false := by simp; omega
        have d' : decide (vl b < vl a) = true := by simp [h]
        rw [k]
        rw [d] at hl
        rw [d'] at hg
        clear d d' h k ha hb
        go_enter Try.func21, Try.ntmps21
        go_wp2_with (first | (go_at_call 34; refine (rank34f _ _ (by first | exact na | exact nb)).mono ?_; rintro e w' ⟨rfl, rfl⟩) | (go_at_call 34; refine (rank34t _ _ (by first | exact na | exact nb)).mono ?_; rintro e w' ⟨rfl, rfl⟩))
        all_goals (go_ret; exact ⟨rfl, rfl⟩)
    · have nb := nanB_t hb
      have k := cmp3_lt (a := key a) (b := key b) (by rw [key_nan hb]; exact key_lt_nan ha)
      rw [k]
      clear k ha hb
      go_enter Try.func21, Try.ntmps21
      go_wp2_with (first | (go_at_call 34; refine (rank34f _ _ (by first | exact na | exact nb)).mono ?_; rintro e w' ⟨rfl, rfl⟩) | (go_at_call 34; refine (rank34t _ _ (by first | exact na | exact nb)).mono ?_; rintro e w' ⟨rfl, rfl⟩))
      all_goals (go_ret; exact ⟨rfl, rfl⟩)
  · have na := nanB_t ha
    by_cases hb : nn b
    · have nb := nanB_f hb
      have k := cmp3_gt (a := key a) (b := key b) (by rw [key_nan ha]; exact key_lt_nan hb)
      rw [k]
      clear k ha hb
      go_enter Try.func21, Try.ntmps21
      go_wp2_with (first | (go_at_call 34; refine (rank34f _ _ (by first | exact na | exact nb)).mono ?_; rintro e w' ⟨rfl, rfl⟩) | (go_at_call 34; refine (rank34t _ _ (by first | exact na | exact nb)).mono ?_; rintro e w' ⟨rfl, rfl⟩))
      all_goals (go_ret; exact ⟨rfl, rfl⟩)
    · have nb := nanB_t hb
      have k := cmp3_eq (a := key a) (b := key b) (by rw [key_nan ha, key_nan hb])
      rw [k]
      clear k ha hb
      go_enter Try.func21, Try.ntmps21
      go_wp2_with (first | (go_at_call 34; refine (rank34f _ _ (by first | exact na | exact nb)).mono ?_; rintro e w' ⟨rfl, rfl⟩) | (go_at_call 34; refine (rank34t _ _ (by first | exact na | exact nb)).mono ?_; rintro e w' ⟨rfl, rfl⟩))
      all_goals (go_ret; exact ⟨rfl, rfl⟩)

end Go.Proofs.Ytgnpkommjnklfaa
