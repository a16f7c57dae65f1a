/- The walk of RateRises, where the numbers stand as they should. -/
import Derived.Test.YtgnpkommjnklfaaA9
import Derived.Laws.Unary
import Derived.Handy
namespace Go.Proofs.Ytgnpkommjnklfaa
open Go.RowKit

set_option maxRecDepth 100000 in
set_option maxHeartbeats 2000000 in
theorem rises1 (a b : Nat) (c d : Int) (w : World) (na : nanB a = false) (nb : nanB b = false) (g : (FloatKind.f64.format.order a b == some .gt) = false) (k : c ≤ d)
    (m1 : cst b ≤ cst a) (m2 : 1 ≤ cst b) (m3 : cst a ≤ 200000000) (m4 : lmt a c ≤ lmt b c) (m5 : lmt a c ≤ lmt a d) (m6 : 0 ≤ lmt a c) (m7 : lmt b c ≤ c) :
    Calls Try.prog 7 #[.agg #[.float .f64 a, .float .f64 b], .agg #[.int .i64 c, .int .i64 d]] w fun e w' => e = .returned (.bool true) ∧ Below w.heap.size w w' := by
  go_enter Try.func7, Try.ntmps7
  go_wp2_with (first | (go_at_call 9; refine (awake9 _).mono ?_; rintro e w' ⟨rfl, rfl⟩) | (go_at_call 20; refine (isNaN20 _ _).mono ?_; rintro e w' ⟨rfl, rfl⟩) | (go_at_call 10; refine (cost10 _ _).mono ?_; rintro e w' ⟨rfl, rfl⟩) | (go_at_call 12; refine (lim12 _ _ _).mono ?_; rintro e w' ⟨rfl, rfl⟩))
  all_goals (go_ret; exact ⟨rfl, by go_grown⟩)

end Go.Proofs.Ytgnpkommjnklfaa
