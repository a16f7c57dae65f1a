/- The walks of RateOrder, where the answers of Compare are known. -/
import Derived.Test.YtgnpkommjnklfaaA9
import Derived.Test.YtgnpkommjnklfaaA3
namespace Go.Proofs.Ytgnpkommjnklfaa
open Go.RowKit

set_option maxHeartbeats 2000000 in
theorem o_nan_e (a b c : Nat) (w : World) (e1 : cmp3 (key a) (key b) = 0) (e4 : cmp3 (key b) (key a) = 0) (e2 : cmp3 (key b) (key c) = 0) (e3 : cmp3 (key a) (key c) = 0) (q : ((a : Int) == (b : Int)) = false) (na : nanB a = true) (nb : nanB b = true) :
    Calls Try.prog 6 #[.float .f64 a, .float .f64 b, .float .f64 c] w fun e w' => e = .returned (.bool true) ∧ w' = w := by
  have b1 := bits16 a
  have b2 := bits16 b
  go_enter Try.func6, Try.ntmps6
  go_wp2_with (first | (go_at_call 9; refine (awake9 _).mono ?_; rintro e w' ⟨rfl, rfl⟩) | (go_at_call 19; refine (cmp19 _ _ _).mono ?_; rintro e w' ⟨rfl, rfl⟩) | (go_at_call 20; refine (isNaN20 _ _).mono ?_; rintro e w' ⟨rfl, rfl⟩) | (go_at_call 21; refine (cmp21 _ _ _).mono ?_; rintro e w' ⟨rfl, rfl⟩))
  all_goals (go_ret; exact ⟨rfl, rfl⟩)

set_option maxHeartbeats 2000000 in
theorem o_nan_g (a b c : Nat) (w : World) (e1 : cmp3 (key a) (key b) = 0) (e4 : cmp3 (key b) (key a) = 0) (e2 : cmp3 (key b) (key c) = 1) (q : ((a : Int) == (b : Int)) = false) (na : nanB a = true) (nb : nanB b = true) :
    Calls Try.prog 6 #[.float .f64 a, .float .f64 b, .float .f64 c] w fun e w' => e = .returned (.bool true) ∧ w' = w := by
  have b1 := bits16 a
  have b2 := bits16 b
  go_enter Try.func6, Try.ntmps6
  go_wp2_with (first | (go_at_call 9; refine (awake9 _).mono ?_; rintro e w' ⟨rfl, rfl⟩) | (go_at_call 19; refine (cmp19 _ _ _).mono ?_; rintro e w' ⟨rfl, rfl⟩) | (go_at_call 20; refine (isNaN20 _ _).mono ?_; rintro e w' ⟨rfl, rfl⟩) | (go_at_call 21; refine (cmp21 _ _ _).mono ?_; rintro e w' ⟨rfl, rfl⟩))
  all_goals (go_ret; exact ⟨rfl, rfl⟩)

set_option maxHeartbeats 2000000 in
theorem o_lt_l (a b c : Nat) (w : World) (e1 : cmp3 (key a) (key b) = -1) (e4 : cmp3 (key b) (key a) = 1) (e2 : cmp3 (key b) (key c) = -1) (e3 : cmp3 (key a) (key c) = -1) (q : ((a : Int) == (b : Int)) = false) (na : nanB a = false) :
    Calls Try.prog 6 #[.float .f64 a, .float .f64 b, .float .f64 c] w fun e w' => e = .returned (.bool true) ∧ w' = w := by
  have b1 := bits16 a
  have b2 := bits16 b
  go_enter Try.func6, Try.ntmps6
  go_wp2_with (first | (go_at_call 9; refine (awake9 _).mono ?_; rintro e w' ⟨rfl, rfl⟩) | (go_at_call 19; refine (cmp19 _ _ _).mono ?_; rintro e w' ⟨rfl, rfl⟩) | (go_at_call 20; refine (isNaN20 _ _).mono ?_; rintro e w' ⟨rfl, rfl⟩) | (go_at_call 21; refine (cmp21 _ _ _).mono ?_; rintro e w' ⟨rfl, rfl⟩))
  all_goals (go_ret; exact ⟨rfl, rfl⟩)

set_option maxHeartbeats 2000000 in
theorem o_lt_e (a b c : Nat) (w : World) (e1 : cmp3 (key a) (key b) = -1) (e4 : cmp3 (key b) (key a) = 1) (e2 : cmp3 (key b) (key c) = 0) (e3 : cmp3 (key a) (key c) = -1) (q : ((a : Int) == (b : Int)) = false) (na : nanB a = false) :
    Calls Try.prog 6 #[.float .f64 a, .float .f64 b, .float .f64 c] w fun e w' => e = .returned (.bool true) ∧ w' = w := by
  have b1 := bits16 a
  have b2 := bits16 b
  go_enter Try.func6, Try.ntmps6
  go_wp2_with (first | (go_at_call 9; refine (awake9 _).mono ?_; rintro e w' ⟨rfl, rfl⟩) | (go_at_call 19; refine (cmp19 _ _ _).mono ?_; rintro e w' ⟨rfl, rfl⟩) | (go_at_call 20; refine (isNaN20 _ _).mono ?_; rintro e w' ⟨rfl, rfl⟩) | (go_at_call 21; refine (cmp21 _ _ _).mono ?_; rintro e w' ⟨rfl, rfl⟩))
  all_goals (go_ret; exact ⟨rfl, rfl⟩)

end Go.Proofs.Ytgnpkommjnklfaa
