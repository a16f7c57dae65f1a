/- Contracts of Limit, of the program and of the document. -/
import Derived.Test.YtgnpkommjnklfaaA5
namespace Go.Proofs.Ytgnpkommjnklfaa
open Go.RowKit

theorem ge_hundred {x : Nat} (h : nn x) : (FloatKind.f64.format.order x 4636737291354636288 == some .gt || FloatKind.f64.format.order x 4636737291354636288 == some .eq) = decide (((100 * K : Nat) : Int) ≤ vl x) := by
  have := ge_eq (x := x) (y := 4636737291354636288) h (by decide)
  rwa [c100_vl] at this

theorem fin_of_lt {x : Nat} (hn : nn x) (hp : 0 < vl x) (h : vl x < (100 * K : Nat)) : rg x < 9218868437227405312 := by
  have v := vl_pos (ng_of_pos hp)
  have := mg_lt (r := 4636737291354636288) (s := 9218868437227405312) (by decide) (by decide)
  rw [c100_mg] at this
  rw [← mg_lt_iff hn (Nat.le_refl _)]
  omega

theorem lim_div {x : Nat} (hn : nn x) (hp : 0 < vl x) (h : vl x < (100 * K : Nat)) : floatBits .quo .f64 x 4636737291354636288 = some (ls x) := by
  have s := ng_of_pos hp
  have hx := fin_of_lt hn hp h
  have g : rg 4636737291354636288 = 4636737291354636288 := by decide
  have n : ng 4636737291354636288 = false := by decide
  have k := K_pos
  change Ieee.double.div x 4636737291354636288 = _
  rw [div_fin hx (by decide) (by rw [g, c100_mg]; omega), g, n, s, c100_mg, Bool.xor_false, word_false', ls]

theorem lim_mul {x n : Nat} (h : mg (rg x) ≤ 100 * K) (hn : n < 9007199254740992) : floatBits .mul .f64 (ls x) (rnd (n * K) 1) = some (lq x n) := by
  have a := ls_mg h
  have b := rnd_int hn
  have s := ng_small (q := ls x) (by omega)
  have t := ng_small (q := rnd (n * K) 1) (by omega)
  have u := rg_small (q := ls x) (by omega)
  have v := rg_small (q := rnd (n * K) 1) (by omega)
  change Ieee.double.mul (ls x) (rnd (n * K) 1) = _
  rw [mul_fin (by rw [u]; exact a.1) (by rw [v]; exact b.1), s, t, u, v, b.2, Bool.xor_false, word_false', lq]

theorem conv_int {c : Int} (h0 : 0 ≤ c) (w : World) : (convert 3 22 (.int .i64 c)).run Try.prog w = .ok (.float .f64 (rnd (c.toNat * K) 1)) w := by
  rw [run_convert_int_float w 3 22 .i64 .f64 c (by rw [Try.underlying3]; rfl) Try.underlying22, ofInt h0]

theorem lmt_zero {x : Nat} {c : Int} (h : min c 1073741824 < 1 ∨ ¬ nn x ∨ vl x ≤ 0) : lmt x c = 0 := by unfold lmt; rw [if_pos h]
theorem lmt_all {x : Nat} {c : Int} (h : ¬ (min c 1073741824 < 1 ∨ ¬ nn x ∨ vl x ≤ 0)) (h' : (100 * K : Nat) ≤ vl x) : lmt x c = min c 1073741824 := by unfold lmt; rw [if_neg h, if_pos h']
theorem lmt_part {x : Nat} {c : Int} (h : ¬ (min c 1073741824 < 1 ∨ ¬ nn x ∨ vl x ≤ 0)) (h' : ¬ (100 * K : Nat) ≤ vl x) : lmt x c = ((mg (lq x (min c 1073741824).toNat) / K : Nat) : Int) := by unfold lmt; rw [if_neg h, if_neg h']

theorem min_def' (c : Int) : (if (1073741824 : Int) < c then 1073741824 else c) = min c 1073741824 := by split <;> omega

set_option maxHeartbeats 1000000 in
/-- Limit of the program, where all of its parts are known -/
theorem lim12z {x s q y f n : Nat} {c m : Int} (w : World) (hc : (if (1073741824 : Int) < c then 1073741824 else c) = m) (hm : 1 ≤ m) (na : nanB x = false) (hle : (FloatKind.f64.format.order x 0 == some .lt || FloatKind.f64.format.order x 0 == some .eq) = false)
    (hge : (FloatKind.f64.format.order x 4636737291354636288 == some .gt || FloatKind.f64.format.order x 4636737291354636288 == some .eq) = false)
    (h1 : ∀ t w, (binOp .quo t (.float .f64 x) (.float .f64 4636737291354636288)).run Try.prog w = .ok (.float .f64 s) w)
    (h2 : ∀ w, (convert 3 22 (.int .i64 m)).run Try.prog w = .ok (.float .f64 y) w)
    (h3 : ∀ t w, (binOp .mul t (.float .f64 s) (.float .f64 y)).run Try.prog w = .ok (.float .f64 q) w)
    (h4 : ∀ w, Calls Try.prog 25 #[.float .f64 q] w fun e w' => e = .returned (.float .f64 f) ∧ w' = w)
    (h5 : ∀ w, (convert 22 3 (.float .f64 f)).run Try.prog w = .ok (.int .i64 (n : Int)) w) (hn : (n : Int) ≤ m) :
    Calls Try.prog 12 #[.float .f64 x, .int .i64 c] w fun e w' => e = .returned (.int .i64 (n : Int)) ∧ w' = w := by
  by_cases hb : (1073741824 : Int) < c
  · rw [if_pos hb] at hc
    subst hc
    go_enter Try.func12, Try.ntmps12
    go_wp2_with (first | (go_at_call 20; refine (isNaN20 _ _).mono ?_; rintro e w' ⟨rfl, rfl⟩) | (go_at_call 25; refine (h4 _).mono ?_; rintro e w' ⟨rfl, rfl⟩))
    all_goals (go_ret; exact ⟨ret_int (by first | rfl | (simp; omega) | omega), rfl⟩)
  · rw [if_neg hb] at hc
    subst hc
    go_enter Try.func12, Try.ntmps12
    go_wp2_with (first | (go_at_call 20; refine (isNaN20 _ _).mono ?_; rintro e w' ⟨rfl, rfl⟩) | (go_at_call 25; refine (h4 _).mono ?_; rintro e w' ⟨rfl, rfl⟩))
    all_goals (go_ret; exact ⟨ret_int (by first | rfl | (simp; omega) | omega), rfl⟩)

end Go.Proofs.Ytgnpkommjnklfaa
