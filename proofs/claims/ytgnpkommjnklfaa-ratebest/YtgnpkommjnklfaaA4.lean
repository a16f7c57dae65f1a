/- Contracts of Cost, of the program and of the document. -/
import Derived.Test.YtgnpkommjnklfaaA1
namespace Go.Proofs.Ytgnpkommjnklfaa
open Go.RowKit

theorem nanB_t {x : Nat} (h : ¬ nn x) : nanB x = true := by unfold nanB; simp [h]
theorem nanB_f {x : Nat} (h : nn x) : nanB x = false := by unfold nanB; simp [h]

theorem word_false' (r : Nat) : Ieee.double.word false r = r := by unfold Ieee.Format.word; rw [if_neg (by decide)]
/-- the quotient, as a float -/
theorem cost_div {x : Nat} (hx : rg x < 9218868437227405312) (hp : 0 < vl x) : floatBits .quo .f64 4716133919349538816 x = some (cq x) := by
  have s := ng_of_pos hp
  have v := vl_pos s
  have g : rg 4716133919349538816 = 4716133919349538816 := by decide
  have n : ng 4716133919349538816 = false := by decide
  change Ieee.double.div 4716133919349538816 x = _
  rw [div_fin (by decide) hx (by omega), g, n, s, c2e7_mg, Bool.xor_false, word_false', cq]
theorem max_float {a b r : Nat} (h : ∃ o, Ieee.double.order a b = some o ∧ r = (match o with | .lt => b | .gt => a | .eq => if (FloatKind.f64.decode a).neg then b else a)) (ts : Array TypeId) (t : TypeId) (P : Program) (w : World) :
    (Builtin.max_ ts t #[.float .f64 a, .float .f64 b]).run P w = .ok (.float .f64 r) w := by
  obtain ⟨o, ho, rfl⟩ := h
  have ho' : FloatKind.f64.format.order a b = some o := ho
  cases o <;> simp [Builtin.max_, Builtin.max2, ho']
theorem min_float {a b r : Nat} (h : ∃ o, Ieee.double.order a b = some o ∧ r = (match o with | .lt => a | .gt => b | .eq => if (FloatKind.f64.decode a).neg then a else b)) (ts : Array TypeId) (t : TypeId) (P : Program) (w : World) :
    (Builtin.min_ ts t #[.float .f64 a, .float .f64 b]).run P w = .ok (.float .f64 r) w := by
  obtain ⟨o, ho, rfl⟩ := h
  have ho' : FloatKind.f64.format.order a b = some o := ho
  cases o <;> simp [Builtin.min_, Builtin.min2, ho']

theorem rg_small {q : Nat} (h : q ≤ 9218868437227405312) : rg q = q := by unfold rg; omega
theorem ng_small {q : Nat} (h : q ≤ 9218868437227405312) : ng q = false := by unfold ng; simp; omega
theorem nn_small {q : Nat} (h : q ≤ 9218868437227405312) : nn q := by unfold nn; rw [rg_small h]; exact h
theorem vl_small {q : Nat} (h : q ≤ 9218868437227405312) : vl q = mg q := by rw [vl_pos (ng_small h), rg_small h]
theorem neg_small {q : Nat} (h : q ≤ 9218868437227405312) : (FloatKind.f64.decode q).neg = false := by
  change (Ieee.double.read q).neg = false
  have s := ng_small h
  by_cases e : q = 9218868437227405312
  · rw [read_inf (by rw [rg_small h]; exact e)]
    exact s
  · obtain ⟨m, i, e', -, -⟩ := read_fin (x := q) (by rw [rg_small h]; omega)
    rw [e']
    exact s

/-- a whole number, cut off and made an int -/
theorem whole {n : Nat} (h : n < 9007199254740992) : floatToIntVal .f64 (rnd (n * K) 1) .i64 = some (n : Int) := by
  have a := rnd_int h
  have b := toIntVal (x := rnd (n * K) 1) (by rw [rg_small (by omega)]; exact a.1) (ng_small (by omega)) (by rw [rg_small (by omega), a.2, Nat.mul_div_cancel _ K_pos]; exact h)
  rwa [rg_small (by omega), a.2, Nat.mul_div_cancel _ K_pos] at b

/-- Floor, and the conversion behind it -/
theorem floor_int {z n : Nat} (hz : z < 9218868437227405312) (hn : mg z / K = n) (h : n < 9007199254740992) :
    ∃ f, (∀ w, Calls Try.prog 25 #[.float .f64 z] w fun e w' => e = .returned (.float .f64 f) ∧ w' = w) ∧ (∀ w, (convert 22 3 (.float .f64 f)).run Try.prog w = .ok (.int .i64 (n : Int)) w) := by
  refine ⟨rnd (n * K) 1, fun w => ?_, fun w => ?_⟩
  · have := floor25 (x := z) (by rw [rg_small (by omega)]; exact hz) (ng_small (by omega)) w
    rwa [rg_small (by omega), hn] at this
  · exact run_convert_float_int w 22 3 .f64 .i64 _ _ (by rw [Try.underlying22]; rfl) Try.underlying3 (whole h)

theorem max_gt {a b : Nat} (ha : a ≤ 9218868437227405312) (hb : b ≤ 9218868437227405312) (h : mg b ≤ mg a) (ts : Array TypeId) (t : TypeId) (w : World) :
    (Builtin.max_ ts t #[.float .f64 a, .float .f64 b]).run Try.prog w = .ok (.float .f64 a) w := by
  refine max_float ⟨_, order_vl (by rw [rg_small ha]; exact ha) (by rw [rg_small hb]; exact hb), ?_⟩ ts t _ w
  rw [vl_small ha, vl_small hb, cmp_def, if_neg (by omega)]
  by_cases e : (mg a : Int) = mg b
  · rw [if_pos e]; simp only [neg_small ha]; rfl
  · rw [if_neg e]
theorem max_lt {a b : Nat} (ha : a ≤ 9218868437227405312) (hb : b ≤ 9218868437227405312) (h : mg a < mg b) (ts : Array TypeId) (t : TypeId) (w : World) :
    (Builtin.max_ ts t #[.float .f64 a, .float .f64 b]).run Try.prog w = .ok (.float .f64 b) w := by
  refine max_float ⟨_, order_vl (by rw [rg_small ha]; exact ha) (by rw [rg_small hb]; exact hb), ?_⟩ ts t _ w
  rw [vl_small ha, vl_small hb, cmp_def, if_pos (by omega)]
theorem min_lt {a b : Nat} (ha : a ≤ 9218868437227405312) (hb : b ≤ 9218868437227405312) (h : mg a < mg b) (ts : Array TypeId) (t : TypeId) (w : World) :
    (Builtin.min_ ts t #[.float .f64 a, .float .f64 b]).run Try.prog w = .ok (.float .f64 a) w := by
  refine min_float ⟨_, order_vl (by rw [rg_small ha]; exact ha) (by rw [rg_small hb]; exact hb), ?_⟩ ts t _ w
  rw [vl_small ha, vl_small hb, cmp_def, if_pos (by omega)]
theorem min_ge {a b : Nat} (ha : a ≤ 9218868437227405312) (hb : b ≤ 9218868437227405312) (h : mg b ≤ mg a) (ts : Array TypeId) (t : TypeId) (w : World) :
    (Builtin.min_ ts t #[.float .f64 a, .float .f64 b]).run Try.prog w = .ok (.float .f64 b) w := by
  refine min_float ⟨_, order_vl (by rw [rg_small ha]; exact ha) (by rw [rg_small hb]; exact hb), ?_⟩ ts t _ w
  rw [vl_small ha, vl_small hb, cmp_def, if_neg (by omega)]
  by_cases e : (mg a : Int) = mg b
  · rw [if_pos e]; simp only [neg_small ha]; rfl
  · rw [if_neg e]

theorem le_zero {x : Nat} (h : nn x) : (FloatKind.f64.format.order x 0 == some .lt || FloatKind.f64.format.order x 0 == some .eq) = decide (vl x ≤ 0) := by
  have := le_eq (x := x) (y := 0) h (by decide)
  rwa [c0_vl] at this

theorem pinf_f {x : Nat} (h : rg x ≠ 9218868437227405312) : pinfB x = false := by unfold pinfB; simp [h]
theorem pinf_t {x : Nat} (h : rg x = 9218868437227405312) (hp : 0 < vl x) : pinfB x = true := by unfold pinfB; simp [h, ng_of_pos hp]

set_option maxHeartbeats 1000000 in
/-- Cost of the program, where all of its parts are known -/
theorem cost10z {x q z1 z n f : Nat} (w : World) (na : nanB x = false) (hle : (FloatKind.f64.format.order x 0 == some .lt || FloatKind.f64.format.order x 0 == some .eq) = false) (hi : pinfB x = false)
    (h1 : ∀ t w, (binOp .quo t (.float .f64 4716133919349538816) (.float .f64 x)).run Try.prog w = .ok (.float .f64 q) w)
    (h2 : ∀ ts t w, (Builtin.max_ ts t #[.float .f64 q, .float .f64 4607182418800017408]).run Try.prog w = .ok (.float .f64 z1) w)
    (h3 : ∀ ts t w, (Builtin.min_ ts t #[.float .f64 z1, .float .f64 4730986895511650304]).run Try.prog w = .ok (.float .f64 z) w)
    (h4 : ∀ w, Calls Try.prog 25 #[.float .f64 z] w fun e w' => e = .returned (.float .f64 f) ∧ w' = w)
    (h5 : ∀ w, (convert 22 3 (.float .f64 f)).run Try.prog w = .ok (.int .i64 (n : Int)) w) :
    Calls Try.prog 10 #[.float .f64 x] w fun e w' => e = .returned (.int .i64 (n : Int)) ∧ w' = w := by
  go_enter Try.func10, Try.ntmps10
  go_wp2_with (first | (go_at_call 20; refine (isNaN20 _ _).mono ?_; rintro e w' ⟨rfl, rfl⟩) | (go_at_call 24; refine (isInf24p _ _).mono ?_; rintro e w' ⟨rfl, rfl⟩) | (go_at_call 25; refine (h4 _).mono ?_; rintro e w' ⟨rfl, rfl⟩))
  all_goals (go_ret; exact ⟨rfl, rfl⟩)

end Go.Proofs.Ytgnpkommjnklfaa
