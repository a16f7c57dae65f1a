/- What RateBest asks at its end, as facts; the least and the greatest of two floats. -/
import Derived.Test.YtgnpkommjnklfaaMb
import Derived.Test.YtgnpkommjnklfaaMd
import Derived.Test.YtgnpkommjnklfaaA9
import Derived.Test.YtgnpkommjnklfaaFe
namespace Go.Proofs.Ytgnpkommjnklfaa
open Go.RowKit

theorem min_any {a b : Nat} (ha : nn a) (hb : nn b) : ∃ r, (r = a ∨ r = b) ∧ vl r = min (vl a) (vl b) ∧ ∀ ts t w, (Builtin.min_ ts t #[.float .f64 a, .float .f64 b]).run Try.prog w = .ok (.float .f64 r) w := by
  have o := order_vl ha hb
  rw [cmp_def] at o
  by_cases l : vl a < vl b
  · rw [if_pos l] at o
    exact ⟨a, Or.inl rfl, by omega, fun ts t w => min_float ⟨_, o, rfl⟩ ts t _ w⟩
  · rw [if_neg l] at o
    by_cases e : vl a = vl b
    · rw [if_pos e] at o
      refine ⟨_, ?_, ?_, fun ts t w => min_float ⟨_, o, rfl⟩ ts t _ w⟩
      · dsimp only; split <;> simp
      · dsimp only; split <;> omega
    · rw [if_neg e] at o
      exact ⟨b, Or.inr rfl, by omega, fun ts t w => min_float ⟨_, o, rfl⟩ ts t _ w⟩
theorem max_any {a b : Nat} (ha : nn a) (hb : nn b) : ∃ r, (r = a ∨ r = b) ∧ vl r = max (vl a) (vl b) ∧ ∀ ts t w, (Builtin.max_ ts t #[.float .f64 a, .float .f64 b]).run Try.prog w = .ok (.float .f64 r) w := by
  have o := order_vl ha hb
  rw [cmp_def] at o
  by_cases l : vl a < vl b
  · rw [if_pos l] at o
    exact ⟨b, Or.inr rfl, by omega, fun ts t w => max_float ⟨_, o, rfl⟩ ts t _ w⟩
  · rw [if_neg l] at o
    by_cases e : vl a = vl b
    · rw [if_pos e] at o
      refine ⟨_, ?_, ?_, fun ts t w => max_float ⟨_, o, rfl⟩ ts t _ w⟩
      · dsimp only; split <;> simp
      · dsimp only; split <;> omega
    · rw [if_neg e] at o
      exact ⟨a, Or.inl rfl, by omega, fun ts t w => max_float ⟨_, o, rfl⟩ ts t _ w⟩

/-- the greater of two that are not below 0 -/
theorem max2_any {a b : Nat} (ha : a ≤ 9218868437227405312) (hb : b ≤ 9218868437227405312) : ∃ r, r ≤ 9218868437227405312 ∧ (r = a ∨ r = b) ∧ mg r = max (mg a) (mg b) ∧ ∀ w, (Builtin.max2 (.float .f64 a) (.float .f64 b)).run Try.prog w = .ok (.float .f64 r) w := by
  have o : FloatKind.f64.format.order a b = _ := order_vl (x := a) (y := b) (nn_small ha) (nn_small hb)
  rw [cmp_def, vl_small ha, vl_small hb] at o
  by_cases l : (mg a : Int) < mg b
  · rw [if_pos l] at o
    exact ⟨b, hb, Or.inr rfl, by omega, fun w => by simp [Builtin.max2, o]⟩
  · rw [if_neg l] at o
    by_cases e : (mg a : Int) = mg b
    · rw [if_pos e] at o
      exact ⟨a, ha, Or.inl rfl, by omega, fun w => by simp [Builtin.max2, o, neg_small ha]⟩
    · rw [if_neg e] at o
      exact ⟨a, ha, Or.inl rfl, by omega, fun w => by simp [Builtin.max2, o]⟩
theorem max3_any {a b c : Nat} (ha : a ≤ 9218868437227405312) (hb : b ≤ 9218868437227405312) (hc : c ≤ 9218868437227405312) : ∃ r, r ≤ 9218868437227405312 ∧ mg r = max (max (mg a) (mg b)) (mg c) ∧ (r = a ∨ r = b ∨ r = c) ∧
    ∀ ts t w, (Builtin.max_ ts t #[.float .f64 a, .float .f64 b, .float .f64 c]).run Try.prog w = .ok (.float .f64 r) w := by
  obtain ⟨r1, h1, e1, m1, f1⟩ := max2_any ha hb
  obtain ⟨r, h2, e2, m2, f2⟩ := max2_any h1 hc
  refine ⟨r, h2, by rw [m2, m1], ?_, fun ts t w => ?_⟩
  · rcases e2 with e2 | e2 <;> rcases e1 with e1 | e1 <;> simp [e2, e1]
  · simp [Builtin.max_, f1, f2]

theorem inf22p (w : World) : Calls Try.prog 22 #[.int .i64 1] w fun e w' => e = .returned (.float .f64 9218868437227405312) ∧ w' = w := by
  have h := from35
  go_enter Try.func22, Try.ntmps22
  go_wp2
  all_goals (go_ret; exact ⟨rfl, rfl⟩)
theorem inf22n (w : World) : Calls Try.prog 22 #[.int .i64 (-1)] w fun e w' => e = .returned (.float .f64 18442240474082181120) ∧ w' = w := by
  have h := from35
  go_enter Try.func22, Try.ntmps22
  go_wp2
  all_goals (go_ret; exact ⟨rfl, rfl⟩)

theorem cM_vl : vl 9094988921128908188 = mg 9094988921128908188 := by rw [vl_small (by decide)]
theorem cMn_vl : vl 18318360957983683996 = -(mg 9094988921128908188 : Int) := by
  have n : ng 18318360957983683996 = true := by decide
  have g : rg 18318360957983683996 = 9094988921128908188 := by decide
  unfold vl
  rw [n, g]
  rfl

/-- what is asked at the law's end -/
theorem close {xs : List Nat} {lo hi : Nat} (h : LH xs xs.length lo hi) (hc : cntF xs ≤ 300) : ∃ r sl,
    (∀ ts t w, (Builtin.max_ ts t #[.float .f64 (rg lo), .float .f64 (rg hi), .float .f64 118622047889322841]).run Try.prog w = .ok (.float .f64 r) w) ∧
    (∀ t w, (binOp .mul t (.float .f64 4472406533629990549) (.float .f64 r)).run Try.prog w = .ok (.float .f64 sl) w) ∧
    ((FloatKind.f64.format.order hi 9094988921128908188 == some .gt) = true ∨
     ((FloatKind.f64.format.order hi 9094988921128908188 == some .gt) = false ∧ (FloatKind.f64.format.order lo 18318360957983683996 == some .lt) = true) ∨
     ((FloatKind.f64.format.order hi 9094988921128908188 == some .gt) = false ∧ (FloatKind.f64.format.order lo 18318360957983683996 == some .lt) = false ∧ (FloatKind.f64.format.order lo hi == some .gt) = true) ∨
     ((FloatKind.f64.format.order hi 9094988921128908188 == some .gt) = false ∧ (FloatKind.f64.format.order lo 18318360957983683996 == some .lt) = false ∧ (FloatKind.f64.format.order lo hi == some .gt) = false ∧ mnB xs = true ∧
       ∃ l' h', (∀ t w, (binOp .sub t (.float .f64 lo) (.float .f64 sl)).run Try.prog w = .ok (.float .f64 l') w) ∧ (∀ t w, (binOp .add t (.float .f64 hi) (.float .f64 sl)).run Try.prog w = .ok (.float .f64 h') w) ∧
         (FloatKind.f64.format.order (mnV xs) l' == some .gt || FloatKind.f64.format.order (mnV xs) l' == some .eq) = true ∧ (FloatKind.f64.format.order (mnV xs) h' == some .lt || FloatKind.f64.format.order (mnV xs) h' == some .eq) = true)) := by
  obtain ⟨r, hr, mr, er, fr⟩ := max3_any (a := rg lo) (b := rg hi) (c := 118622047889322841) h.nl h.nh (by decide)
  have c9 : mg 4472406533629990549 ≠ 0 := by have := c9_lo; have := K_pos; omega
  have g9 : rg 4472406533629990549 = 4472406533629990549 := by decide
  have s9 : ng 4472406533629990549 = false := by decide
  have g1 := gt_eq (x := hi) (y := 9094988921128908188) h.nh (by decide)
  have g2 := lt_eq (x := lo) (y := 18318360957983683996) h.nl (by decide)
  have g3 := gt_eq (x := lo) (y := hi) h.nl h.nh
  rw [cM_vl] at g1
  rw [cMn_vl] at g2
  have rs := rg_small hr
  have sr := ng_small hr
  by_cases ri : r = 9218868437227405312
  · have e := mul_inf (x := 4472406533629990549) (y := r) (by decide) (by rw [g9]; exact c9) (by rw [rs]; exact ri)
    refine ⟨r, _, fr, mul_run e, ?_⟩
    rcases h.em with ⟨-, m1, m2, m3, m4⟩ | ⟨-, m1, m2⟩
    · have v1 := vl_inf m1
      have v2 := vl_inf m3
      rw [m2] at v1
      rw [m4] at v2
      simp only [Bool.false_eq_true, if_false] at v1
      simp only [if_true] at v2
      have ip := mg_inf_pos
      have lt := mg_lt (r := 9094988921128908188) (s := 9218868437227405312) (by decide) (by decide)
      right; right; left
      rw [g1, g2, g3, v1, v2]
      simp only [decide_eq_false_iff_not, decide_eq_true_eq]
      omega
    · exfalso
      have f1 := finB_t m1
      have f2 := finB_t m2
      rcases er with e | e | e
      · omega
      · omega
      · rw [e] at ri; revert ri; decide
  · have rl : r < 9218868437227405312 := by omega
    have e := mul_fin (x := 4472406533629990549) (y := r) (by decide) (by rw [rs]; exact rl)
    rw [g9, s9, rs, sr, Bool.xor_false, word_false'] at e
    refine ⟨r, _, fr, mul_run e, ?_⟩
    have fl : finB lo = true ∧ finB hi = true := by
      rcases h.em with ⟨-, m1, -, -, -⟩ | ⟨-, m1, m2⟩
      · exfalso
        have := mg_inf_pos
        rw [m1] at mr
        have := (mg_lt_iff hr (Nat.le_refl _)).2 rl
        omega
      · exact ⟨m1, m2⟩
    have c0 : cntF xs ≠ 0 := by
      rcases h.em with ⟨-, m1, -, -, -⟩ | ⟨m0, -, -⟩
      · have := finB_t fl.1
        omega
      · rwa [List.take_length] at m0
    by_cases w1 : (mg 9094988921128908188 : Int) < vl hi
    · left
      rw [g1]
      simp only [decide_eq_true_eq]
      exact w1
    · by_cases w2 : vl lo < -(mg 9094988921128908188 : Int)
      · right; left
        rw [g1, g2]
        simp only [decide_eq_true_eq, decide_eq_false_iff_not]
        omega
      · by_cases w3 : vl hi < vl lo
        · right; right; left
          rw [g1, g2, g3]
          simp only [decide_eq_true_eq, decide_eq_false_iff_not]
          omega
        · right; right; right
          have a1 := abs_vl lo
          have a2 := abs_vl hi
          have cc := cm_cM
          have rM : mg r ≤ mg 9094988921128908188 := by omega
          have lM : (mg r).log2 ≤ 2070 := Nat.le_trans (log2_le_log2 rM) cM_hi
          obtain ⟨sl1, sl2⟩ := slack_lo (M := mg r) (by omega) lM
          have fs := rg_small (q := rnd (mg 4472406533629990549 * mg r) K) (by omega)
          have vs := vl_small (q := rnd (mg 4472406533629990549 * mg r) K) (by omega)
          obtain ⟨b1, b2, b3⟩ := mean_between (xs := xs) (lo := vl lo) (hi := vl hi) (M := mg r) (sl := mg (rnd (mg 4472406533629990549 * mg r) K)) c0 hc (by omega) h.bd (by omega) (by omega) sl2
          obtain ⟨m1, m2⟩ := mn_some c0 b1
          have mn := (mean_div c0 (by omega)).2.2.1
          refine ⟨by rw [g1]; simp only [decide_eq_false_iff_not]; omega, by rw [g2]; simp only [decide_eq_false_iff_not]; omega, by rw [g3]; simp only [decide_eq_false_iff_not]; omega, m1, _, _, sub_run (sub_fin (finB_t fl.1) (by rw [fs]; exact sl1)), add_run (add_fin (finB_t fl.2) (by rw [fs]; exact sl1)), ?_, ?_⟩
          · rw [m2, ge_eq mn (nn_word _ (rnd_top _ _)), vl_sum, vs, decide_eq_true_eq]
            exact b2
          · rw [m2, le_eq mn (nn_word _ (rnd_top _ _)), vl_sum, vs, decide_eq_true_eq]
            exact b3

/-- a number less itself: 0, if it is finite; else no number, whichever the tape says -/
theorem less_self {x : Nat} (f : finB x = true) (t : TypeId) (w : World) : (binOp .sub t (.float .f64 x) (.float .f64 x)).run Try.prog w = .ok (.float .f64 0) w := by
  have fx := finB_t f
  refine sub_run ?_ t w
  change Ieee.double.sub x x = some 0
  rw [sub_fin fx fx]
  have z : vl x + -vl x = 0 := by omega
  rw [if_pos z, z]
  have r : rnd (0 : Int).natAbs 1 = 0 := rnd_zero 1
  rw [r]
  cases ng x <;> rfl

theorem sub_none {x : Nat} (f : finB x = false) : Ieee.double.sub x x = none := by
  by_cases h : nn x
  · have e : rg x = 9218868437227405312 := by unfold finB at f; simp at f; unfold nn at h; omega
    exact sub_inf e e rfl
  · obtain ⟨t, e, -⟩ := read_nan (x := x) (by unfold nn at h; omega)
    unfold Ieee.Format.sub
    rw [e]
    rfl

theorem nan_self {x : Nat} (f : finB x = false) : ∃ nv : World → Nat, (∀ t w, (binOp .sub t (.float .f64 x) (.float .f64 x)).run Try.prog w = .ok (.float .f64 (nv w)) w.drew) ∧ ∀ w, (FloatKind.f64.format.order (nv w) 0 == some .eq) = false := by
  refine ⟨fun w => (Question.nanBits .f64 x x).cut (w.tape w.drawn (.nanBits .f64 x x)), fun t w => ?_, fun w => ?_⟩
  · have e : FloatKind.f64.format.sub x x = none := sub_none f
    simp [binOp, Op.floatArith, e, Question.forced]
  · have : ¬ nn ((Question.nanBits .f64 x x).cut (w.tape w.drawn (.nanBits .f64 x x))) := by
      generalize w.tape w.drawn (.nanBits .f64 x x) = t
      change ¬ (((t % 2) * 9223372036854775808 + 9218868437227405312 + 1 + (t / 2) % 4503599627370495) % 9223372036854775808 ≤ 9218868437227405312)
      have h1 := Nat.mod_lt t (show 0 < 2 by decide)
      have h2 := Nat.mod_lt (t / 2) (show 0 < 4503599627370495 by decide)
      generalize t % 2 = u at *
      generalize t / 2 % 4503599627370495 = v at *
      have : u = 0 ∨ u = 1 := by omega
      rcases this with rfl | rfl <;> omega
    rw [nan_order this]
    rfl

end Go.Proofs.Ytgnpkommjnklfaa
