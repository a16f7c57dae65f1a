/- The mean of some floats is between the least and the greatest, but for the slack; how the least and the greatest are kept. No program in it, no condition. -/
import Derived.Test.YtgnpkommjnklfaaFd
namespace Go.Proofs.Ytgnpkommjnklfaa
open Ieee

/-! the law's own constants: 1e-9, 1e-300, 1e300 -/
theorem mg_high {r : Nat} (h : 4503599627370496 ≤ r) : ∃ e, e = r / 4503599627370496 - 1 ∧ mg r = (4503599627370496 + r % 4503599627370496) * 2 ^ e := ⟨_, rfl, by unfold mg; rw [if_neg (by omega)]⟩
theorem c9_lo : K ≤ 1073741824 * mg 4472406533629990549 := by
  obtain ⟨e, he, h⟩ := mg_high (r := 4472406533629990549) (by decide)
  have x : kx = 30 + 52 + e := by rw [kx_eq, he]
  rw [h, K_def, x, Nat.pow_add, ← Nat.mul_assoc]
  exact Nat.mul_le_mul_right _ (by decide)
theorem c9_hi : mg 4472406533629990549 ≤ K := by
  obtain ⟨e, he, h⟩ := mg_high (r := 4472406533629990549) (by decide)
  have x : kx = 30 + 52 + e := by rw [kx_eq, he]
  rw [h, K_def, x, Nat.pow_add]
  exact Nat.mul_le_mul_right _ (by decide)
theorem cm_lo : 30 ≤ (mg 118622047889322841).log2 := by
  rw [Nat.le_log2 (by decide)]
  decide
theorem cM_hi : (mg 9094988921128908188).log2 ≤ 2070 := by
  obtain ⟨e, he, h⟩ := mg_high (r := 9094988921128908188) (by decide)
  rw [h, log2_shift (by decide) (by decide), he]
  decide
theorem cm_cM : mg 118622047889322841 ≤ mg 9094988921128908188 := mg_le (by decide) (by decide)

/-- the slack is no less than a small part of what it is of -/
theorem slack_lo {M : Nat} (h : mg 118622047889322841 ≤ M) (ht : M.log2 ≤ 2070) : rnd (mg 4472406533629990549 * M) K < 9218868437227405312 ∧ M ≤ 2147483648 * mg (rnd (mg 4472406533629990549 * M) K) := by
  have l : 30 ≤ M.log2 := Nat.le_trans cm_lo (log2_le_log2 h)
  have M0 : M ≠ 0 := by intro z; subst z; simp at l
  have up : rnd (mg 4472406533629990549 * M) K ≤ rnd M 1 := by
    apply rnd_mono K_pos Nat.one_pos
    rw [Nat.mul_one, Nat.mul_comm]
    exact Nat.mul_le_mul_left _ c9_hi
  have lt : rnd M 1 < 9218868437227405312 := rnd_lt Nat.one_pos (by rw [Nat.div_one]; omega)
  have x := rnd_exact (c := 1) (e := M.log2 - 30) (by decide) (by omega)
  rw [Nat.one_mul] at x
  have a := Nat.log2_self_le M0
  have p30 : 2 ^ M.log2 = 1073741824 * 2 ^ (M.log2 - 30) := by
    have : M.log2 = 30 + (M.log2 - 30) := by omega
    rw [this, Nat.pow_add]
    have : 30 + (M.log2 - 30) - 30 = M.log2 - 30 := by omega
    rw [this]
  have low : rnd (2 ^ (M.log2 - 30)) 1 ≤ rnd (mg 4472406533629990549 * M) K := by
    apply rnd_mono Nat.one_pos K_pos
    rw [Nat.mul_one]
    have s1 : 2 ^ (M.log2 - 30) * K ≤ 2 ^ (M.log2 - 30) * (1073741824 * mg 4472406533629990549) := Nat.mul_le_mul_left _ c9_lo
    have s2 : 2 ^ (M.log2 - 30) * (1073741824 * mg 4472406533629990549) = mg 4472406533629990549 * 2 ^ M.log2 := by
      rw [p30, Nat.mul_comm (2 ^ (M.log2 - 30)), Nat.mul_assoc, Nat.mul_left_comm]
    have s3 : mg 4472406533629990549 * 2 ^ M.log2 ≤ mg 4472406533629990549 * M := Nat.mul_le_mul_left _ a
    omega
  have m := mg_le low (rnd_top _ _)
  rw [x.2] at m
  refine ⟨by omega, ?_⟩
  have b := Nat.lt_log2_self (n := M)
  rw [Nat.pow_succ, p30] at b
  omega

/-- the mean, between the least and the greatest -/
theorem mean_between {xs : List Nat} {lo hi : Int} {M sl : Nat} (h0 : cntF xs ≠ 0) (hc : cntF xs ≤ 300) (hM : M.log2 ≤ 2080)
    (hb : ∀ i, i < xs.length → finB (xs.getD i 0) = true → lo ≤ vl (xs.getD i 0) ∧ vl (xs.getD i 0) ≤ hi) (hlo : lo.natAbs ≤ M) (hhi : hi.natAbs ≤ M) (hs : M ≤ 2147483648 * sl) :
    finB (sumF xs) = true ∧ sv (lo + -(sl : Int)) 1 ≤ vl (mnF xs) ∧ vl (mnF xs) ≤ sv (hi + (sl : Int)) 1 := by
  have near := sum_near (M := M) (xs := xs) hM (fun i hi' hf => by have := hb i hi' hf; omega) xs.length (Nat.le_refl _) (by rw [List.take_length]; omega)
  have exb := ex_bounds hb xs.length (Nat.le_refl _)
  rw [List.take_length] at near exb
  obtain ⟨n1, n2, -⟩ := near
  obtain ⟨e1, e2⟩ := exb
  have f : finB (sumF xs) = true := by unfold finB; simpa using n1
  have md := (mean_div h0 (by omega)).2.2.2 f
  rw [md]
  generalize vl (sumF xs) = S at *
  generalize exF xs = A at *
  generalize cntF xs = c at *
  have p1 : c * (c * M) ≤ 300 * (c * M) := Nat.mul_le_mul_right _ hc
  have p2 : c * M ≤ 2147483648 * (c * sl) := by
    have := Nat.mul_le_mul_left c hs
    rw [Nat.mul_left_comm] at this
    exact this
  have kp := K_pos
  have hcK : 0 < c * K := Nat.mul_pos (by omega) kp
  have key1 : (c : Int) * lo - ((c * sl : Nat) : Int) ≤ S := by
    generalize c * (c * M) = Q at *
    generalize c * M = P at *
    generalize c * sl = Y at *
    generalize (c : Int) * lo = X at *
    omega
  have key2 : S ≤ (c : Int) * hi + ((c * sl : Nat) : Int) := by
    generalize c * (c * M) = Q at *
    generalize c * M = P at *
    generalize c * sl = Y at *
    generalize (c : Int) * hi = X at *
    omega
  refine ⟨f, ?_, ?_⟩
  · apply sv_mono Nat.one_pos hcK
    have a : (lo + -(sl : Int)) * ((c * K : Nat) : Int) = ((c : Int) * lo - ((c * sl : Nat) : Int)) * (K : Int) := by
      rw [Int.natCast_mul, Int.natCast_mul, ← Int.mul_assoc]
      congr 1
      rw [Int.add_mul, Int.neg_mul, Int.mul_comm lo, Int.mul_comm (sl : Int)]
      omega
    rw [a, Int.natCast_one, Int.mul_one]
    exact Int.mul_le_mul_of_nonneg_right key1 (by omega)
  · apply sv_mono hcK Nat.one_pos
    have a : (hi + (sl : Int)) * ((c * K : Nat) : Int) = ((c : Int) * hi + ((c * sl : Nat) : Int)) * (K : Int) := by
      rw [Int.natCast_mul, Int.natCast_mul, ← Int.mul_assoc]
      congr 1
      rw [Int.add_mul, Int.mul_comm hi, Int.mul_comm (sl : Int)]
    rw [a, Int.natCast_one, Int.mul_one]
    exact Int.mul_le_mul_of_nonneg_right key2 (by omega)

/-! the least and the greatest so far -/
structure LH (xs : List Nat) (k lo hi : Nat) : Prop where
  nl : nn lo
  nh : nn hi
  ll : lo < 18446744073709551616
  lh : hi < 18446744073709551616
  bd : ∀ i, i < k → finB (xs.getD i 0) = true → vl lo ≤ vl (xs.getD i 0) ∧ vl (xs.getD i 0) ≤ vl hi
  em : (cntF (xs.take k) = 0 ∧ rg lo = 9218868437227405312 ∧ ng lo = false ∧ rg hi = 9218868437227405312 ∧ ng hi = true) ∨ (cntF (xs.take k) ≠ 0 ∧ finB lo = true ∧ finB hi = true)

theorem LH.start (xs : List Nat) : LH xs 0 9218868437227405312 18442240474082181120 :=
  ⟨by decide, by decide, by decide, by decide, fun i hi => by omega, Or.inl ⟨by rw [List.take_zero]; rfl, by decide, by decide, by decide, by decide⟩⟩

theorem LH.skip {xs : List Nat} {k lo hi : Nat} (h : LH xs k lo hi) (hk : k < xs.length) (f : finB (xs.getD k 0) = false) : LH xs (k + 1) lo hi := by
  refine ⟨h.nl, h.nh, h.ll, h.lh, fun i hi' hf => ?_, ?_⟩
  · by_cases e : i = k
    · rw [e, f] at hf; cases hf
    · exact h.bd i (by omega) hf
  · rw [take_snoc 0 xs hk, cntF_snoc, if_neg (by rw [f]; exact Bool.false_ne_true)]
    exact h.em

theorem LH.step {xs : List Nat} {k lo hi lo' hi' : Nat} (h : LH xs k lo hi) (hk : k < xs.length) (f : finB (xs.getD k 0) = true) (hx : xs.getD k 0 < 18446744073709551616)
    (l1 : lo' = lo ∨ lo' = xs.getD k 0) (l2 : vl lo' = min (vl lo) (vl (xs.getD k 0))) (h1 : hi' = hi ∨ hi' = xs.getD k 0) (h2 : vl hi' = max (vl hi) (vl (xs.getD k 0))) : LH xs (k + 1) lo' hi' := by
  have fx := finB_t f
  have nx : nn (xs.getD k 0) := by unfold nn; omega
  have vx := vl_lo fx
  refine ⟨?_, ?_, ?_, ?_, fun i hi'' hf => ?_, Or.inr ⟨?_, ?_, ?_⟩⟩
  · rcases l1 with e | e <;> rw [e]
    · exact h.nl
    · exact nx
  · rcases h1 with e | e <;> rw [e]
    · exact h.nh
    · exact nx
  · rcases l1 with e | e <;> rw [e]
    · exact h.ll
    · exact hx
  · rcases h1 with e | e <;> rw [e]
    · exact h.lh
    · exact hx
  · by_cases e : i = k
    · rw [e]; omega
    · have := h.bd i (by omega) hf
      omega
  · rw [take_snoc 0 xs hk, cntF_snoc, if_pos f]; omega
  · rcases l1 with e | e
    · rcases h.em with ⟨-, m1, m2, -, -⟩ | ⟨-, m1, -⟩
      · exfalso
        have v := vl_inf m1
        rw [m2] at v
        simp only [Bool.false_eq_true, if_false] at v
        rw [e] at l2
        omega
      · rw [e]; exact m1
    · rw [e]; exact f
  · rcases h1 with e | e
    · rcases h.em with ⟨-, -, -, m1, m2⟩ | ⟨-, -, m1⟩
      · exfalso
        have v := vl_inf m1
        rw [m2] at v
        simp only [if_true] at v
        rw [e] at h2
        omega
      · rw [e]; exact m1
    · rw [e]; exact f

theorem abs_vl (x : Nat) : (vl x).natAbs = mg (rg x) := by unfold vl; split <;> omega

end Go.Proofs.Ytgnpkommjnklfaa
