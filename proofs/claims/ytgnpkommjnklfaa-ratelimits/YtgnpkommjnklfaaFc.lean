/- What Cost, Limit and Compare answer, as plain functions of a float's word; that they rise and fall as they should. No program in it, no condition. -/
import Derived.Test.YtgnpkommjnklfaaFb
namespace Go.Proofs.Ytgnpkommjnklfaa
open Ieee

theorem rnd_lt {N D : Nat} (hD : 0 < D) (h : (N / D).log2 ≤ 2096) : rnd N D < 9218868437227405312 := by
  have k := kept_le (N := N) hD
  have : ex N D ≤ 2044 := by unfold ex; omega
  unfold rnd
  omega

theorem rnd_exact {c e : Nat} (hc : c < 9007199254740992) (he : e ≤ 2044) : rnd (c * 2 ^ e) 1 < 9218868437227405312 ∧ mg (rnd (c * 2 ^ e) 1) = c * 2 ^ e := by
  by_cases c0 : c = 0
  · subst c0
    rw [Nat.zero_mul, rnd_zero]
    decide
  · have l := log2_mul_pow e c0
    have k : c.log2 < 53 := (Nat.log2_lt c0).2 (by simpa using hc)
    have a : rnd (c * 2 ^ e) 1 < 9218868437227405312 := rnd_lt Nat.one_pos (by rw [Nat.div_one, l]; omega)
    refine ⟨a, ?_⟩
    rw [mg_rnd Nat.one_pos a, Nat.one_mul]
    have x : ex (c * 2 ^ e) 1 = c.log2 + e - 52 := by unfold ex; rw [Nat.div_one, l]
    generalize ex (c * 2 ^ e) 1 = y at *
    have : c * 2 ^ e = c * 2 ^ (e - y) * 2 ^ y := by
      rw [Nat.mul_assoc, ← Nat.pow_add]
      have : e - y + y = e := by omega
      rw [this]
    rw [this, rne_self _ _ (Nat.two_pow_pos _)]

theorem rnd_int {n : Nat} (hn : n < 9007199254740992) : rnd (n * K) 1 < 9218868437227405312 ∧ mg (rnd (n * K) 1) = n * K :=
  rnd_exact hn (by rw [kx_eq]; omega)

theorem mg_lit {r n : Nat} (d : Nat) (h : 4503599627370496 ≤ r) (hc : 4503599627370496 + r % 4503599627370496 = n * 2 ^ d) (he : d + (r / 4503599627370496 - 1) = 1074) : mg r = n * K := by
  unfold mg
  rw [if_neg (by omega), hc, Nat.mul_assoc, ← Nat.pow_add, he.trans kx_eq.symm, ← K_def]

/-- a word that is no NaN -/
abbrev nn (x : Nat) : Prop := rg x ≤ 9218868437227405312
theorem vl_pos {x : Nat} (h : ng x = false) : vl x = mg (rg x) := by unfold vl; rw [h]; rfl
theorem vl_word {r : Nat} (h : r ≤ 9218868437227405312) : vl (double.word false r) = mg r := by
  rw [vl_pos (ng_word _ h), rg_word _ h]
theorem nn_word (s : Bool) {r : Nat} (h : r ≤ 9218868437227405312) : nn (double.word s r) := by unfold nn; rw [rg_word _ h]; exact h
theorem word_false (r : Nat) : double.word false r = r := rfl

theorem c1_mg : mg 4607182418800017408 = 1 * K := mg_lit 52 (by decide) (by decide) (by decide)
theorem c100_mg : mg 4636737291354636288 = 100 * K := mg_lit 46 (by decide) (by decide) (by decide)
theorem c2e7_mg : mg 4716133919349538816 = 20000000 * K := mg_lit 28 (by decide) (by decide) (by decide)
theorem c2e8_mg : mg 4730986895511650304 = 200000000 * K := mg_lit 25 (by decide) (by decide) (by decide)
theorem c1_vl : vl 4607182418800017408 = (1 * K : Nat) := by rw [← c1_mg]; rfl
theorem c100_vl : vl 4636737291354636288 = (100 * K : Nat) := by rw [← c100_mg]; rfl
theorem c2e8_vl : vl 4730986895511650304 = (200000000 * K : Nat) := by rw [← c2e8_mg]; rfl
theorem c0_vl : vl 0 = 0 := by decide
theorem cmax_vl : vl 9218868437227405311 = mg 9218868437227405311 := by
  have h : ng 9218868437227405311 = false := by decide
  have g : rg 9218868437227405311 = 9218868437227405311 := by decide
  rw [vl_pos h, g]

/-! floors -/
theorem shl_units {m : Nat} {i : Int} {g : Nat} (hi : -1074 ≤ i) (hm : m * 2 ^ (i + 1074).toNat = g) : m <<< i.toNat / 2 ^ (-i).toNat = g / K := by
  rw [Nat.shiftLeft_eq, ← hm, K_def]
  by_cases l : 0 ≤ i
  · have a : (-i).toNat = 0 := by omega
    have b : (i + 1074).toNat = i.toNat + kx := by have := kx_eq; omega
    rw [a, b, Nat.pow_zero, Nat.div_one, Nat.pow_add, ← Nat.mul_assoc, Nat.mul_div_cancel _ (Nat.two_pow_pos _)]
  · have a : i.toNat = 0 := by omega
    have b : kx = (i + 1074).toNat + (-i).toNat := by have := kx_eq; omega
    rw [a, b, Nat.pow_zero, Nat.mul_one, Nat.pow_add, ← Nat.div_div_eq_div_mul, Nat.mul_div_cancel _ (Nat.two_pow_pos _)]

theorem floor_word {x : Nat} (hx : rg x < 9218868437227405312) (hs : ng x = false) :
    double.write ((double.read x).integral .down) = double.word false (rnd (mg (rg x) / K * K) 1) := by
  obtain ⟨m, i, e, hi, hm⟩ := read_fin hx
  rw [e, hs]
  simp only [Datum.integral, Format.write]
  rw [(cut_floor _ _).1, shl_units hi hm]
  apply nearest_of Nat.one_pos
  have a : ((0 : Int) + 1074).toNat = kx := rfl
  have b : (-1074 - (0 : Int)).toNat = 0 := rfl
  rw [a, b, ← K_def, Nat.pow_zero]

theorem toInt_fin {x : Nat} (hx : rg x < 9218868437227405312) (hs : ng x = false) : (double.read x).toInt .zero = some ((mg (rg x) / K : Nat) : Int) := by
  obtain ⟨m, i, e, hi, hm⟩ := read_fin hx
  rw [e, hs]
  simp only [Datum.toInt, Datum.integral]
  rw [(cut_floor _ _).2, shl_units hi hm]
  simp [signed]

theorem toIntVal {x : Nat} (hx : rg x < 9218868437227405312) (hs : ng x = false) (h : mg (rg x) / K < 9007199254740992) : floatToIntVal .f64 x .i64 = some ((mg (rg x) / K : Nat) : Int) := by
  unfold floatToIntVal
  have : (FloatKind.decode .f64 x).toInt .zero = some ((mg (rg x) / K : Nat) : Int) := toInt_fin hx hs
  rw [this]
  have a : IntKind.i64.min = -9223372036854775808 := by decide
  have b : IntKind.i64.max = 9223372036854775807 := by decide
  simp only [a, b]
  generalize mg (rg x) / K = q at *
  rw [if_pos (by omega)]

theorem ofInt {n : Int} (h0 : 0 ≤ n) : floatOfInt .f64 n = rnd (n.toNat * K) 1 := by
  have hd : decide (n < 0) = false := by simp; omega
  have a : ((0 : Int) + 1074).toNat = kx := rfl
  have b : (-1074 - (0 : Int)).toNat = 0 := rfl
  have e : n.natAbs = n.toNat := by omega
  change double.nearest (decide (n < 0)) n.natAbs 0 = _
  rw [hd, e, ← word_false (rnd (n.toNat * K) 1)]
  apply nearest_of Nat.one_pos
  rw [a, b, ← K_def, Nat.pow_zero]

/-! Cost -/
/-- the quotient's rung -/
def cq (x : Nat) : Nat := rnd (20000000 * K * K) (mg (rg x))
def cst (x : Nat) : Int := if ¬ nn x ∨ vl x ≤ 0 then 200000000 else if rg x = 9218868437227405312 then 1
  else if 200000000 * K ≤ mg (cq x) then 200000000 else if mg (cq x) < K then 1 else ((mg (cq x) / K : Nat) : Int)

theorem ng_of_pos {x : Nat} (h : 0 < vl x) : ng x = false := by
  unfold vl at h
  cases e : ng x
  · rfl
  · rw [e] at h; simp at h; omega

theorem cst_lo (x : Nat) : 1 ≤ cst x ∧ cst x ≤ 200000000 := by
  unfold cst
  split
  · omega
  · split
    · omega
    · split
      · omega
      · split
        · omega
        · rename_i a b
          have k := K_pos
          have h1 : 1 ≤ mg (cq x) / K := by rw [Nat.le_div_iff_mul_le k]; omega
          have h2 : mg (cq x) / K < 200000000 := by rw [Nat.div_lt_iff_lt_mul k]; omega
          omega

theorem cst_mono {a b : Nat} (ha : nn a) (hb : nn b) (h : vl a ≤ vl b) : cst b ≤ cst a := by
  have ca := cst_lo a
  have cb := cst_lo b
  by_cases pa : vl a ≤ 0
  · have : cst a = 200000000 := by unfold cst; rw [if_pos (Or.inr pa)]
    omega
  · by_cases ib : rg b = 9218868437227405312
    · have : cst b = 1 := by unfold cst; rw [if_neg (by simp [hb]; omega), if_pos ib]
      omega
    · have na := ng_of_pos (x := a) (by omega)
      have nb := ng_of_pos (x := b) (by omega)
      have va := vl_pos na
      have vb := vl_pos nb
      have lb : rg b < 9218868437227405312 := by unfold nn at hb; omega
      have ia : rg a ≠ 9218868437227405312 := by
        intro e
        have := (mg_lt_iff (r := rg b) (s := rg a) hb ha).2 (by omega)
        omega
      have q : cq b ≤ cq a := by
        unfold cq
        apply rnd_mono (by omega) (by omega)
        exact Nat.mul_le_mul_left _ (by omega)
      have ta : cq a ≤ 9218868437227405312 := rnd_top _ _
      have m := mg_le q ta
      have d := Nat.div_le_div_right (c := K) m
      have e1 : cst a = if 200000000 * K ≤ mg (cq a) then 200000000 else if mg (cq a) < K then 1 else ((mg (cq a) / K : Nat) : Int) := by
        unfold cst; rw [if_neg (by simp [ha]; omega), if_neg ia]
      have e2 : cst b = if 200000000 * K ≤ mg (cq b) then 200000000 else if mg (cq b) < K then 1 else ((mg (cq b) / K : Nat) : Int) := by
        unfold cst; rw [if_neg (by simp [hb]; omega), if_neg ib]
      by_cases h1 : 200000000 * K ≤ mg (cq b)
      · rw [e1, e2, if_pos h1, if_pos (by omega)]
        omega
      · by_cases h2 : mg (cq b) < K
        · rw [e2, if_neg h1, if_pos h2]
          exact ca.1
        · rw [e2, if_neg h1, if_neg h2] at cb ⊢
          rw [e1]
          clear e1 e2 ca
          generalize mg (cq a) / K = qa at *
          generalize mg (cq b) / K = qb at *
          by_cases h3 : 200000000 * K ≤ mg (cq a)
          · rw [if_pos h3]; omega
          · rw [if_neg h3, if_neg (by omega)]; omega

/-! Limit -/
def ls (x : Nat) : Nat := rnd (mg (rg x) * K) (100 * K)
def lq (x n : Nat) : Nat := rnd (mg (ls x) * (n * K)) K
def lmt (x : Nat) (c : Int) : Int := if min c 1073741824 < 1 ∨ ¬ nn x ∨ vl x ≤ 0 then 0 else if (100 * K : Nat) ≤ vl x then min c 1073741824
  else ((mg (lq x (min c 1073741824).toNat) / K : Nat) : Int)

theorem ls_le {x : Nat} (h : mg (rg x) ≤ 100 * K) : ls x ≤ rnd (1 * K) 1 := by
  unfold ls
  apply rnd_mono (Nat.mul_pos (by omega) K_pos) Nat.one_pos
  rw [Nat.mul_one, Nat.one_mul, Nat.mul_comm K]
  exact Nat.mul_le_mul_right K h
theorem ls_mg {x : Nat} (h : mg (rg x) ≤ 100 * K) : ls x < 9218868437227405312 ∧ mg (ls x) ≤ K := by
  have a := ls_le h
  have b := rnd_int (n := 1) (by omega)
  have c := mg_le a (Nat.le_of_lt b.1)
  rw [b.2, Nat.one_mul] at c
  exact ⟨by omega, c⟩
theorem lq_le {x n : Nat} (h : mg (rg x) ≤ 100 * K) : lq x n ≤ rnd (n * K) 1 := by
  unfold lq
  apply rnd_mono K_pos Nat.one_pos
  rw [Nat.mul_one, Nat.mul_comm]
  exact Nat.mul_le_mul_left _ (ls_mg h).2
theorem lq_mg {x n : Nat} (h : mg (rg x) ≤ 100 * K) (hn : n < 9007199254740992) : lq x n < 9218868437227405312 ∧ mg (lq x n) ≤ n * K ∧ mg (lq x n) / K ≤ n := by
  have a := lq_le (n := n) h
  have b := rnd_int hn
  have c := mg_le a (Nat.le_of_lt b.1)
  rw [b.2] at c
  refine ⟨by omega, c, ?_⟩
  have := Nat.div_le_div_right (c := K) c
  rwa [Nat.mul_div_cancel _ K_pos] at this

theorem lmt_lo (x : Nat) (c : Int) : 0 ≤ lmt x c ∧ (lmt x c ≤ c ∨ lmt x c = 0) := by
  unfold lmt
  split
  · omega
  · rename_i h
    split
    · omega
    · rename_i h2
      have p : 0 < vl x := by omega
      have v := vl_pos (ng_of_pos p)
      have := (lq_mg (x := x) (n := (min c 1073741824).toNat) (by omega) (by omega)).2.2
      generalize mg (lq x (min c 1073741824).toNat) / K = q at *
      omega

theorem lmt_mono_x {a b : Nat} {c : Int} (hb : nn b) (h : vl a ≤ vl b) : lmt a c ≤ lmt b c := by
  have lb := lmt_lo b c
  by_cases h1 : min c 1073741824 < 1 ∨ ¬ nn a ∨ vl a ≤ 0
  · have : lmt a c = 0 := by unfold lmt; rw [if_pos h1]
    omega
  · have pa : 0 < vl a := by omega
    have va := vl_pos (ng_of_pos pa)
    have vb := vl_pos (x := b) (ng_of_pos (by omega))
    have h1' : ¬ (min c 1073741824 < 1 ∨ ¬ nn b ∨ vl b ≤ 0) := by
      simp [hb]; omega
    have e1 : lmt a c = if (100 * K : Nat) ≤ vl a then min c 1073741824 else ((mg (lq a (min c 1073741824).toNat) / K : Nat) : Int) := by unfold lmt; rw [if_neg h1]
    have e2 : lmt b c = if (100 * K : Nat) ≤ vl b then min c 1073741824 else ((mg (lq b (min c 1073741824).toNat) / K : Nat) : Int) := by unfold lmt; rw [if_neg h1']
    rw [e1, e2]
    by_cases k1 : (100 * K : Nat) ≤ vl b
    · rw [if_pos k1]
      split
      · omega
      · have := (lq_mg (x := a) (n := (min c 1073741824).toNat) (by omega) (by omega)).2.2
        omega
    · rw [if_neg k1, if_neg (by omega)]
      have s : ls a ≤ ls b := by
        unfold ls
        have := Nat.mul_pos (show 0 < 100 by omega) K_pos
        apply rnd_mono this this
        exact Nat.mul_le_mul_right _ (Nat.mul_le_mul_right _ (by omega))
      have q : lq a (min c 1073741824).toNat ≤ lq b (min c 1073741824).toNat := by
        unfold lq
        apply rnd_mono K_pos K_pos
        exact Nat.mul_le_mul_right _ (Nat.mul_le_mul_right _ (mg_le s (rnd_top _ _)))
      have := Nat.div_le_div_right (c := K) (mg_le q (rnd_top _ _))
      omega

theorem lmt_mono_c {a : Nat} {c d : Int} (h : c ≤ d) : lmt a c ≤ lmt a d := by
  have ld := lmt_lo a d
  by_cases h1 : min c 1073741824 < 1 ∨ ¬ nn a ∨ vl a ≤ 0
  · have : lmt a c = 0 := by unfold lmt; rw [if_pos h1]
    omega
  · have h1' : ¬ (min d 1073741824 < 1 ∨ ¬ nn a ∨ vl a ≤ 0) := by
      simp only [not_or] at h1 ⊢
      exact ⟨by omega, h1.2⟩
    have e1 : lmt a c = if (100 * K : Nat) ≤ vl a then min c 1073741824 else ((mg (lq a (min c 1073741824).toNat) / K : Nat) : Int) := by unfold lmt; rw [if_neg h1]
    have e2 : lmt a d = if (100 * K : Nat) ≤ vl a then min d 1073741824 else ((mg (lq a (min d 1073741824).toNat) / K : Nat) : Int) := by unfold lmt; rw [if_neg h1']
    rw [e1, e2]
    by_cases k1 : (100 * K : Nat) ≤ vl a
    · rw [if_pos k1, if_pos k1]
      omega
    · rw [if_neg k1, if_neg k1]
      have q : lq a (min c 1073741824).toNat ≤ lq a (min d 1073741824).toNat := by
        unfold lq
        apply rnd_mono K_pos K_pos
        apply Nat.mul_le_mul_right
        apply Nat.mul_le_mul_left
        apply Nat.mul_le_mul_right
        omega
      have := Nat.div_le_div_right (c := K) (mg_le q (rnd_top _ _))
      omega

/-! Compare -/
def key (x : Nat) : Int := if nn x then 2 * vl x + (if ng x then 0 else 1) else 2 * mg 9218868437227405312 + 2
def cmp3 (x y : Int) : Int := if x < y then -1 else if y < x then 1 else 0
theorem vl_le_inf {x : Nat} (h : nn x) : -(mg 9218868437227405312 : Int) ≤ vl x ∧ vl x ≤ mg 9218868437227405312 := by
  have := mg_le h (Nat.le_refl _)
  unfold vl
  split <;> omega
theorem key_nan {x : Nat} (h : ¬ nn x) : key x = 2 * mg 9218868437227405312 + 2 := by unfold key; rw [if_neg h]
theorem key_lt_nan {x : Nat} (h : nn x) : key x < 2 * mg 9218868437227405312 + 2 := by
  have := vl_le_inf h
  unfold key
  rw [if_pos h]
  split <;> omega
theorem key_lt {x y : Nat} (hx : nn x) (hy : nn y) (h : vl x < vl y) : key x < key y := by
  unfold key
  rw [if_pos hx, if_pos hy]
  split <;> split <;> omega
theorem key_eq {x y : Nat} (hx : nn x) (hy : nn y) (h : vl x = vl y) : cmp3 (key x) (key y) = if ng x = ng y then 0 else if ng x then -1 else 1 := by
  unfold key cmp3
  rw [if_pos hx, if_pos hy, h]
  cases ng x <;> cases ng y <;> simp <;> omega
theorem vl_of_key {x y : Nat} (hx : nn x) (hy : nn y) (h : key x ≤ key y) : vl x ≤ vl y := by
  by_cases k : vl y < vl x
  · have := key_lt hy hx k
    omega
  · omega

/-- one number, or none -/
theorem key_same {x y : Nat} (bx : x < 18446744073709551616) (by' : y < 18446744073709551616) : key x = key y ↔ (x = y ∨ (¬ nn x ∧ ¬ nn y)) := by
  constructor
  · intro h
    by_cases hx : nn x
    · by_cases hy : nn y
      · left
        have e : vl x = vl y := Int.le_antisymm (vl_of_key hx hy (by omega)) (vl_of_key hy hx (by omega))
        have k := key_eq hx hy e
        rw [h] at k
        have s : ng x = ng y := by
          have z : cmp3 (key y) (key y) = 0 := by unfold cmp3; rw [if_neg (by omega), if_neg (by omega)]
          rw [z] at k
          cases hs : ng x <;> cases ht : ng y <;> rw [hs, ht] at k <;> simp at k <;> rfl
        have m : mg (rg x) = mg (rg y) := by
          unfold vl at e
          rw [s] at e
          split at e <;> omega
        have r := mg_inj hx hy m
        rw [← word_rg bx, ← word_rg by', s, r]
      · have := key_nan hy
        have := key_lt_nan hx
        omega
    · by_cases hy : nn y
      · have := key_nan hx
        have := key_lt_nan hy
        omega
      · exact Or.inr ⟨hx, hy⟩
  · rintro (h | ⟨hx, hy⟩)
    · rw [h]
    · rw [key_nan hx, key_nan hy]

end Go.Proofs.Ytgnpkommjnklfaa
