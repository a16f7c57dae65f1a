/- Contracts of IsNaN, Signbit, Float64bits and its kin, IsInf, Abs, Floor, compareMarks, rank. -/
import Derived.Test.YtgnpkommjnklfaaRows
import Derived.Test.YtgnpkommjnklfaaFc
import Derived.Deep.RegionHeld3
import Derived.ChangeKeysEq
import Derived.Laws.Externs
import Derived.Laws.Cover2
import Derived.Laws.FloatArith
import Derived.BigQuiet
import Derived.Below
import Derived.Laws.BitsAllLaws
import Derived.Laws.BytesArg
import Derived.Deep.MidRow
namespace Go.Proofs.Ytgnpkommjnklfaa
open Go.RowKit

theorem hide {p : Prop} (h : p) : Hid p := h
theorem ret_bool {a b : Bool} (h : a = b) : Ending.returned (.bool a) = .returned (.bool b) := by rw [h]
theorem ret_int {k : IntKind} {a b : Int} (h : a = b) : Ending.returned (.int k a) = .returned (.int k b) := by rw [h]

/-! entries -/
theorem bits16 (x : Nat) (w : World) : (callFunc 16 #[.float .f64 x]).run Try.prog w = .ok (.value (.int .u64 x)) w := by
  rw [run_callFunc_extern (e := Extern.MathFloatBits.float64bits) Try.func16 (by kernel_rfl) (by kernel_rfl) (by kernel_rfl) (by kernel_rfl)]
  rfl
theorem from35 (n : Int) (w : World) : (callFunc 35 #[.int .u64 n]).run Try.prog w = .ok (.value (.float .f64 n.toNat)) w := by
  rw [run_callFunc_extern (e := Extern.MathFloatBits.float64frombits) Try.func35 (by kernel_rfl) (by kernel_rfl) (by kernel_rfl) (by kernel_rfl)]
  rfl
theorem floor36 {x : Nat} (hx : rg x < 9218868437227405312) (hs : ng x = false) (w : World) : (callFunc 36 #[.float .f64 x]).run Try.prog w = .ok (.value (.float .f64 (rnd (mg (rg x) / K * K) 1))) w := by
  rw [run_callFunc_extern (e := Extern.MathFloor.toIntegral "math.archFloor" .down) Try.func36 (by kernel_rfl) (by kernel_rfl) (by kernel_rfl) (by kernel_rfl)]
  obtain ⟨m, i, e, hi, hm⟩ := read_fin hx
  have f := floor_word hx hs
  rw [e, word_false] at f
  have e' : FloatKind.f64.decode x = .number (ng x) m i := e
  have f' : FloatKind.f64.encode ((Ieee.Datum.number (ng x) m i).integral .down) = rnd (mg (rg x) / K * K) 1 := f
  change ((match FloatKind.f64.decode x with
    | .nan _ _ => _
    | d => pure (.float .f64 (FloatKind.f64.encode (d.integral .down))) : Sem Value).run Try.prog w).andThen _ = _
  rw [e']
  dsimp only
  rw [f']
  rfl

def nanB (x : Nat) : Bool := decide (¬ nn x)
theorem nan_eq (x : Nat) : (FloatKind.f64.format.order x x != some .eq) = nanB x := by
  change (Ieee.double.order x x != some .eq) = nanB x
  unfold nanB
  by_cases h : nn x
  · rw [order_vl h h, cmp_def, if_neg (by omega), if_pos rfl]
    simp [h]
  · rw [order_nan_l (by unfold nn at h; omega)]
    simp [h]

theorem isNaN20 (x : Nat) (w : World) :
    Calls Try.prog 20 #[.float .f64 x] w fun e w' => e = .returned (.bool (nanB x)) ∧ w' = w := by
  go_enter Try.func20, Try.ntmps20
  go_wp2
  all_goals (go_ret; exact ⟨ret_bool (nan_eq x), rfl⟩)

theorem rank34 (x : Nat) (w : World) :
    Calls Try.prog 34 #[.float .f64 x] w fun e w' => e = .returned (.int .i64 (if nanB x then 1 else 0)) ∧ w' = w := by
  rcases Bool.eq_false_or_eq_true (nanB x) with h | h
  all_goals
    go_enter Try.func34, Try.ntmps34
    go_wp2_with (go_at_call 20; refine (isNaN20 _ _).mono ?_; rintro e w' ⟨rfl, rfl⟩)
    all_goals (go_ret; first | exact ⟨rfl, rfl⟩ | (simp_all; done))

theorem marks32 (a b : Bool) (w : World) :
    Calls Try.prog 32 #[.bool a, .bool b] w fun e w' => e = .returned (.int .i64 (if a = b then 0 else if b then -1 else 1)) ∧ w' = w := by
  cases a <;> cases b
  all_goals
    go_enter Try.func32, Try.ntmps32
    go_wp2
    go_ret
    exact ⟨rfl, rfl⟩

theorem sign_eq (x : Nat) : decide (wrap64 (x : Int) < 0) = ng x := by
  unfold ng wrap64
  rw [Bool.eq_iff_iff]
  simp
  omega

theorem sign33 (x : Nat) (w : World) :
    Calls Try.prog 33 #[.float .f64 x] w fun e w' => e = .returned (.bool (ng x)) ∧ w' = w := by
  have h1 := bits16 x
  have h2 := sign_eq x
  go_enter Try.func33, Try.ntmps33
  go_wp2
  all_goals (go_ret; exact ⟨rfl, rfl⟩)

theorem floor25 {x : Nat} (hx : rg x < 9218868437227405312) (hs : ng x = false) (w : World) :
    Calls Try.prog 25 #[.float .f64 x] w fun e w' => e = .returned (.float .f64 (rnd (mg (rg x) / K * K) 1)) ∧ w' = w := by
  have h1 := floor36 hx hs
  go_enter Try.func25, Try.ntmps25
  go_wp2
  all_goals (go_ret; exact ⟨rfl, rfl⟩)

theorem rg_rg (x : Nat) : rg (rg x) = rg x := by unfold rg; omega
theorem ng_rg (x : Nat) : ng (rg x) = false := by
  unfold ng rg
  simp
theorem gt_max (x : Nat) : (FloatKind.f64.format.order (rg x) 9218868437227405311 == some .gt) = decide (rg x = 9218868437227405312) := by
  change (Ieee.double.order (rg x) 9218868437227405311 == some .gt) = _
  by_cases h : nn x
  · have h' : rg (rg x) ≤ 9218868437227405312 := by rw [rg_rg]; exact h
    rw [order_vl h' (by decide), cmax_vl, vl_pos (ng_rg x), rg_rg, cmp_def]
    have k := mg_lt_iff (r := 9218868437227405311) (s := rg x) (by omega) h
    have k2 := mg_lt_iff (r := rg x) (s := 9218868437227405311) h (by omega)
    unfold nn at h
    by_cases l : rg x = 9218868437227405312
    · rw [if_neg (by omega), if_neg (by omega)]
      simp [l]
    · have : ¬ (rg x = 9218868437227405312) := l
      split
      · simp [l]
      · rw [if_pos (by omega)]
        simp [l]
  · rw [order_nan_l (by rw [rg_rg]; unfold nn at h; omega)]
    unfold nn at h
    simp
    omega

theorem abs_eq {x : Nat} (hx : x < 18446744073709551616) : bits .andNot .u64 (x : Int) 9223372036854775808 = ((rg x : Nat) : Int) := by
  rw [u64_andNot _ _ (by omega) (by omega) (by omega) (by omega)]
  unfold rg
  have : (18446744073709551615 - (9223372036854775808 : Int).toNat : Nat) = 2 ^ 63 - 1 := by decide
  rw [this, Int.toNat_natCast, Nat.and_two_pow_sub_one_eq_mod]

theorem abs23 (x : Nat) (w : World) (hx : x < 18446744073709551616) :
    Calls Try.prog 23 #[.float .f64 x] w fun e w' => e = .returned (.float .f64 (rg x)) ∧ w' = w := by
  have h1 := bits16 x
  have h2 := from35
  have h3 := abs_eq hx
  go_enter Try.func23, Try.ntmps23
  go_wp2
  all_goals (go_ret; exact ⟨rfl, rfl⟩)

def infB (x : Nat) : Bool := decide (rg x = 9218868437227405312)
def pinfB (x : Nat) : Bool := decide (rg x = 9218868437227405312) && !ng x
theorem isInf24z (x : Nat) (w : World) (hx : x < 18446744073709551616) :
    Calls Try.prog 24 #[.float .f64 x, .int .i64 0] w fun e w' => e = .returned (.bool (infB x)) ∧ w' = w := by
  have h1 := gt_max x
  go_enter Try.func24, Try.ntmps24
  go_wp2_with (go_at_call 23; refine (abs23 _ _ hx).mono ?_; rintro e w' ⟨rfl, rfl⟩)
  all_goals (go_ret; exact ⟨rfl, rfl⟩)

/-! the order's answers -/
theorem lt_eq {x y : Nat} (hx : nn x) (hy : nn y) : (FloatKind.f64.format.order x y == some .lt) = decide (vl x < vl y) := by
  change (Ieee.double.order x y == some .lt) = _
  rw [order_vl hx hy, cmp_def]
  by_cases h : vl x < vl y
  · simp [h]
  · by_cases k : vl x = vl y <;> simp [h, k]
theorem gt_eq {x y : Nat} (hx : nn x) (hy : nn y) : (FloatKind.f64.format.order x y == some .gt) = decide (vl y < vl x) := by
  change (Ieee.double.order x y == some .gt) = _
  rw [order_vl hx hy, cmp_def]
  by_cases h : vl x < vl y
  · simp [h]; omega
  · by_cases k : vl x = vl y
    · simp [k]
    · simp [h, k]; omega
theorem le_eq {x y : Nat} (hx : nn x) (hy : nn y) : (FloatKind.f64.format.order x y == some .lt || FloatKind.f64.format.order x y == some .eq) = decide (vl x ≤ vl y) := by
  change (Ieee.double.order x y == some .lt || Ieee.double.order x y == some .eq) = _
  rw [order_vl hx hy, cmp_def]
  by_cases h : vl x < vl y
  · simp [h]; omega
  · by_cases k : vl x = vl y
    · simp [k]
    · simp [h, k]; omega
theorem ge_eq {x y : Nat} (hx : nn x) (hy : nn y) : (FloatKind.f64.format.order x y == some .gt || FloatKind.f64.format.order x y == some .eq) = decide (vl y ≤ vl x) := by
  change (Ieee.double.order x y == some .gt || Ieee.double.order x y == some .eq) = _
  rw [order_vl hx hy, cmp_def]
  by_cases h : vl x < vl y
  · simp [h]
  · by_cases k : vl x = vl y
    · simp [k]
    · simp [h, k]; omega
theorem nan_order {x : Nat} (h : ¬ nn x) (y : Nat) : FloatKind.f64.format.order x y = none := order_nan_l (by unfold nn at h; omega) y
theorem nan_order' {y : Nat} (h : ¬ nn y) (x : Nat) : FloatKind.f64.format.order x y = none := order_nan_r (by unfold nn at h; omega) x
theorem nan_gt {x : Nat} (h : ¬ nn x) (y : Nat) : (FloatKind.f64.format.order x y == some .gt) = false := by rw [nan_order h]; rfl
theorem nan_lt {x : Nat} (h : ¬ nn x) (y : Nat) : (FloatKind.f64.format.order x y == some .lt) = false := by rw [nan_order h]; rfl

theorem pinf_eq (x : Nat) : (FloatKind.f64.format.order x 9218868437227405311 == some .gt) = pinfB x := by
  unfold pinfB
  by_cases h : nn x
  · rw [gt_eq h (by decide), cmax_vl]
    have k := mg_lt_iff (r := 9218868437227405311) (s := rg x) (by omega) h
    unfold nn at h
    unfold vl
    cases ng x
    · simp only [Bool.false_eq_true, if_false, Bool.not_false, Bool.and_true]
      congr 1
      apply propext
      omega
    · simp
  · rw [nan_gt h]
    unfold nn at h
    simp
    omega

theorem isInf24p (x : Nat) (w : World) :
    Calls Try.prog 24 #[.float .f64 x, .int .i64 1] w fun e w' => e = .returned (.bool (pinfB x)) ∧ w' = w := by
  have h1 := pinf_eq x
  go_enter Try.func24, Try.ntmps24
  go_wp2
  all_goals (go_ret; exact ⟨rfl, rfl⟩)

end Go.Proofs.Ytgnpkommjnklfaa
