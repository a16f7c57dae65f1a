/- The law's own first look: a link, a share, and an order of two. -/
import Derived.Test.YtgnpkommjnklfaaA2
import Derived.Test.YtgnpkommjnklfaaA7
namespace Go.Proofs.Ytgnpkommjnklfaa
open Go.RowKit

theorem cst_1000 : cst 4652007308841189376 = 20000 := by kernel_rfl
theorem lmt_50 : lmt 4632233691727265792 7 = 3 := by kernel_rfl
theorem cmp_12 : cmp3 (key 4607182418800017408) (key 4611686018427387904) = -1 := by kernel_rfl

set_option maxHeartbeats 1000000 in
theorem awake9 (w : World) : Calls Try.prog 9 #[] w fun e w' => e = .returned (.bool true) ∧ w' = w := by
  have h1 := cst_1000
  have h2 := lmt_50
  have h3 := cmp_12
  go_enter Try.func9, Try.ntmps9
  go_wp2_with (first | (go_at_call 10; refine (cost10 _ _).mono ?_; rintro e w' ⟨rfl, rfl⟩) | (go_at_call 12; refine (lim12 _ _ _).mono ?_; rintro e w' ⟨rfl, rfl⟩) | (go_at_call 19; refine (cmp19 _ _ _).mono ?_; rintro e w' ⟨rfl, rfl⟩))
  all_goals (go_ret; exact ⟨rfl, rfl⟩)

end Go.Proofs.Ytgnpkommjnklfaa
