/- Lists of floats: their sum as it is reckoned, how far it is from the exact one, their mean, and which one is the best. No program in it, no condition. -/
import Derived.Test.YtgnpkommjnklfaaFc
namespace Go.Proofs.Ytgnpkommjnklfaa
open Ieee

theorem take_snoc {α : Type} (d : α) (xs : List α) {k : Nat} (h : k < xs.length) : xs.take (k + 1) = xs.take k ++ [xs.getD k d] := by
  rw [List.take_succ_eq_append_getElem h]
  simp [List.getD, h]

/-! rounding with a sign -/
/-- the value of a quotient of units, rounded -/
def sv (N : Int) (D : Nat) : Int := if N < 0 then -(mg (rnd N.natAbs D) : Int) else (mg (rnd N.natAbs D) : Int)

theorem sv_mono {N M : Int} {D E : Nat} (hD : 0 < D) (hE : 0 < E) (h : N * E ≤ M * D) : sv N D ≤ sv M E := by
  unfold sv
  have tE : rnd M.natAbs E ≤ 9218868437227405312 := rnd_top _ _
  have tD : rnd N.natAbs D ≤ 9218868437227405312 := rnd_top _ _
  by_cases hn : N < 0
  · rw [if_pos hn]
    by_cases hm : M < 0
    · rw [if_pos hm]
      have : rnd M.natAbs E ≤ rnd N.natAbs D := by
        apply rnd_mono hE hD
        have a : ((M.natAbs * D : Nat) : Int) = -(M * D) := by rw [Int.natCast_mul, Int.ofNat_natAbs_of_nonpos (by omega), Int.neg_mul]
        have b : ((N.natAbs * E : Nat) : Int) = -(N * E) := by rw [Int.natCast_mul, Int.ofNat_natAbs_of_nonpos (by omega), Int.neg_mul]
        omega
      have := mg_le this tD
      omega
    · rw [if_neg hm]
      omega
  · rw [if_neg hn]
    by_cases hm : M < 0
    · exfalso
      have a : M * D < 0 := Int.mul_neg_of_neg_of_pos hm (by omega)
      have b : 0 ≤ N * E := Int.mul_nonneg (by omega) (by omega)
      omega
    · rw [if_neg hm]
      have : rnd N.natAbs D ≤ rnd M.natAbs E := by
        apply rnd_mono hD hE
        have a : ((M.natAbs * D : Nat) : Int) = M * D := by rw [Int.natCast_mul, Int.natAbs_of_nonneg (by omega)]
        have b : ((N.natAbs * E : Nat) : Int) = N * E := by rw [Int.natCast_mul, Int.natAbs_of_nonneg (by omega)]
        omega
      have := mg_le this tE
      omega

theorem vl_sum (s : Bool) {N : Int} (D : Nat) : vl (double.word (if N = 0 then s else decide (N < 0)) (rnd N.natAbs D)) = sv N D := by
  have t : rnd N.natAbs D ≤ 9218868437227405312 := rnd_top _ _
  unfold vl
  rw [rg_word _ t, ng_word _ t]
  unfold sv
  by_cases z : N = 0
  · subst z
    have : rnd (0 : Int).natAbs D = 0 := rnd_zero D
    rw [this]
    have m : mg 0 = 0 := by decide
    rw [m]
    simp
  · rw [if_neg z]
    by_cases n : N < 0
    · rw [if_pos n]; simp [n]
    · rw [if_neg n]; simp [n]

theorem rne_err (N D : Nat) (hD : 0 < D) : 2 * (rne N D * D) ≤ 2 * N + D ∧ 2 * N ≤ 2 * (rne N D * D) + D := by
  have h1 := Nat.div_add_mod N D
  have h2 := Nat.mod_lt N hD
  unfold rne
  generalize N / D = q at *
  generalize N % D = s at *
  rw [Nat.mul_comm D q] at h1
  split <;> rename_i h
  · rw [Nat.add_mul, Nat.one_mul]; omega
  · rw [Nat.add_zero]; omega

/-- how far a whole number of units is from the nearest float -/
theorem rnd_err {N : Nat} (h : rnd N 1 < 9218868437227405312) : 9007199254740992 * mg (rnd N 1) ≤ 9007199254740992 * N + N ∧ 9007199254740992 * N ≤ 9007199254740992 * mg (rnd N 1) + N := by
  rw [mg_rnd Nat.one_pos h, Nat.one_mul]
  by_cases x : ex N 1 = 0
  · rw [x, Nat.pow_zero, rne_one]; omega
  · have e := rne_err N (2 ^ ex N 1) (Nat.two_pow_pos _)
    have : 4503599627370496 * 2 ^ ex N 1 ≤ N := by
      have hn : N ≠ 0 := by intro z; subst z; unfold ex at x; simp at x
      have a := Nat.log2_self_le hn
      have b : N.log2 = 52 + ex N 1 := by unfold ex at x ⊢; rw [Nat.div_one] at x ⊢; omega
      rw [b, Nat.pow_add] at a
      have e : (4503599627370496 : Nat) = 2 ^ 52 := by decide
      rw [e]
      exact a
    generalize 2 ^ ex N 1 = D at *
    generalize rne N D * D = R at *
    omega

theorem sv_err {N : Int} (h : rnd N.natAbs 1 < 9218868437227405312) : 9007199254740992 * (sv N 1 - N).natAbs ≤ N.natAbs := by
  have e := rnd_err h
  unfold sv
  split <;> omega

/-! sums -/
def finB (x : Nat) : Bool := decide (rg x < 9218868437227405312)
theorem finB_t {x : Nat} (h : finB x = true) : rg x < 9218868437227405312 := by unfold finB at h; simpa using h
def fadd (s x : Nat) : Nat := (double.add s x).getD 0
def sumF (xs : List Nat) : Nat := xs.foldl (fun s x => if finB x then fadd s x else s) 0
def cntF (xs : List Nat) : Nat := xs.foldl (fun n x => if finB x then n + 1 else n) 0
/-- the exact sum, in units -/
def exF (xs : List Nat) : Int := xs.foldl (fun n x => if finB x then n + vl x else n) 0

theorem sumF_snoc (xs : List Nat) (x : Nat) : sumF (xs ++ [x]) = if finB x then fadd (sumF xs) x else sumF xs := by unfold sumF; rw [List.foldl_append]; rfl
theorem cntF_snoc (xs : List Nat) (x : Nat) : cntF (xs ++ [x]) = if finB x then cntF xs + 1 else cntF xs := by unfold cntF; rw [List.foldl_append]; rfl
theorem exF_snoc (xs : List Nat) (x : Nat) : exF (xs ++ [x]) = if finB x then exF xs + vl x else exF xs := by unfold exF; rw [List.foldl_append]; rfl

theorem add_some {s x : Nat} (hs : nn s) (hx : finB x = true) : double.add s x = some (fadd s x) ∧ nn (fadd s x) := by
  have fx := finB_t hx
  by_cases fs : rg s = 9218868437227405312
  · have e := add_inf fs fx
    unfold fadd
    rw [e]
    exact ⟨rfl, nn_word _ (by omega)⟩
  · have e := add_fin (x := s) (by unfold nn at hs; omega) fx
    unfold fadd
    rw [e]
    exact ⟨rfl, nn_word _ (rnd_top _ _)⟩
theorem fadd_fin {s x : Nat} (hs : rg s < 9218868437227405312) (hx : rg x < 9218868437227405312) : vl (fadd s x) = sv (vl s + vl x) 1 ∧ rg (fadd s x) = rnd (vl s + vl x).natAbs 1 := by
  unfold fadd
  rw [add_fin hs hx]
  exact ⟨vl_sum _ 1, rg_word _ (rnd_top _ _)⟩

theorem nn_sum (xs : List Nat) (k : Nat) : nn (sumF (xs.take k)) := by
  induction k with
  | zero => show nn 0; decide
  | succ k ih =>
    by_cases h : k < xs.length
    · rw [take_snoc 0 xs h, sumF_snoc]
      by_cases f : finB (xs.getD k 0) = true
      · rw [if_pos f]; exact (add_some ih f).2
      · rw [if_neg f]; exact ih
    · rw [List.take_of_length_le (by omega)]
      rwa [List.take_of_length_le (by omega)] at ih
theorem nn_sum' (xs : List Nat) : nn (sumF xs) := by
  have := nn_sum xs xs.length
  rwa [List.take_length] at this
theorem cnt_le (xs : List Nat) (k : Nat) : cntF (xs.take k) ≤ k := by
  induction k with
  | zero => show (0 : Nat) ≤ 0; omega
  | succ k ih =>
    by_cases h : k < xs.length
    · rw [take_snoc 0 xs h, cntF_snoc]
      split <;> omega
    · rw [List.take_of_length_le (by omega)]
      rw [List.take_of_length_le (by omega)] at ih
      omega

/-- the sum is near the exact one, where none is greater than M -/
theorem sum_near {M : Nat} {xs : List Nat} (hM : M.log2 ≤ 2080) (hx : ∀ i, i < xs.length → finB (xs.getD i 0) = true → (vl (xs.getD i 0)).natAbs ≤ M) (k : Nat) (hk : k ≤ xs.length) (hc : cntF (xs.take k) ≤ 1000) :
    rg (sumF (xs.take k)) < 9218868437227405312 ∧ 1099511627776 * (vl (sumF (xs.take k)) - exF (xs.take k)).natAbs ≤ cntF (xs.take k) * (cntF (xs.take k) * M) ∧ (exF (xs.take k)).natAbs ≤ cntF (xs.take k) * M := by
  induction k with
  | zero =>
    refine ⟨by rw [List.take_zero]; decide, ?_, ?_⟩
    · have : vl (sumF (xs.take 0)) - exF (xs.take 0) = 0 := by rw [List.take_zero]; decide
      rw [this]; simp
    · have : exF (xs.take 0) = 0 := by rw [List.take_zero]; rfl
      rw [this]; simp
  | succ k ih =>
    have h : k < xs.length := by omega
    rw [take_snoc 0 xs h, cntF_snoc] at hc
    rw [take_snoc 0 xs h, sumF_snoc, exF_snoc, cntF_snoc]
    by_cases f : finB (xs.getD k 0) = true
    · rw [if_pos f] at hc
      obtain ⟨i1, i2, i3⟩ := ih (by omega) (by omega)
      rw [if_pos f, if_pos f, if_pos f]
      have hv := hx k h f
      obtain ⟨e1, e2⟩ := fadd_fin i1 (finB_t f)
      generalize xs.getD k 0 = x at *
      generalize sumF (xs.take k) = s at *
      generalize exF (xs.take k) = A at *
      generalize cntF (xs.take k) = c at *
      have p1 : c * (c * M) ≤ 1000 * (c * M) := Nat.mul_le_mul_right _ (by omega)
      have p2 : c * M ≤ 1000 * M := Nat.mul_le_mul_right _ (by omega)
      have p3 : (c + 1) * ((c + 1) * M) = c * (c * M) + 2 * (c * M) + M := by
        rw [Nat.add_mul c 1 M, Nat.one_mul, Nat.add_mul c 1, Nat.one_mul, Nat.mul_add]; omega
      have p4 : (c + 1) * M = c * M + M := by rw [Nat.add_mul, Nat.one_mul]
      rw [p3, p4, e1, e2]
      generalize c * (c * M) = Q at *
      generalize c * M = P at *
      have hN : (vl s + vl x).natAbs ≤ 4096 * M := by omega
      have hl : rnd (vl s + vl x).natAbs 1 < 9218868437227405312 := by
        apply rnd_lt Nat.one_pos
        rw [Nat.div_one]
        by_cases z : M = 0
        · subst z
          have : (vl s + vl x).natAbs = 0 := by omega
          rw [this]; simp
        · have a := log2_le_log2 hN
          have b := log2_mul_pow 12 z
          rw [Nat.mul_comm, show (2 : Nat) ^ 12 = 4096 from rfl] at b
          omega
      have er := sv_err hl
      refine ⟨hl, ?_, by omega⟩
      generalize sv (vl s + vl x) 1 = r at *
      omega
    · rw [if_neg f] at hc
      rw [if_neg f, if_neg f, if_neg f]
      exact ih (by omega) hc

theorem ex_bounds {xs : List Nat} {lo hi : Int} (hx : ∀ i, i < xs.length → finB (xs.getD i 0) = true → lo ≤ vl (xs.getD i 0) ∧ vl (xs.getD i 0) ≤ hi) (k : Nat) (hk : k ≤ xs.length) :
    cntF (xs.take k) * lo ≤ exF (xs.take k) ∧ exF (xs.take k) ≤ cntF (xs.take k) * hi := by
  induction k with
  | zero =>
    have a : exF (xs.take 0) = 0 := by rw [List.take_zero]; rfl
    have b : cntF (xs.take 0) = 0 := by rw [List.take_zero]; rfl
    rw [a, b]; simp
  | succ k ih =>
    have h : k < xs.length := by omega
    obtain ⟨i1, i2⟩ := ih (by omega)
    rw [take_snoc 0 xs h, exF_snoc, cntF_snoc]
    by_cases f : finB (xs.getD k 0) = true
    · rw [if_pos f, if_pos f]
      have := hx k h f
      have a : (((cntF (xs.take k) + 1 : Nat) : Int)) * lo = cntF (xs.take k) * lo + lo := by rw [Int.natCast_add, Int.add_mul]; simp
      have b : (((cntF (xs.take k) + 1 : Nat) : Int)) * hi = cntF (xs.take k) * hi + hi := by rw [Int.natCast_add, Int.add_mul]; simp
      rw [a, b]
      omega
    · rw [if_neg f, if_neg f]
      exact ⟨i1, i2⟩

/-! the mean -/
def mnF (xs : List Nat) : Nat := (double.div (sumF xs) (rnd (cntF xs * K) 1)).getD 0
def mnB (xs : List Nat) : Bool := decide (cntF xs ≠ 0) && finB (sumF xs)

theorem mean_div {xs : List Nat} (h0 : cntF xs ≠ 0) (hl : cntF xs < 9007199254740992) : double.div (sumF xs) (rnd (cntF xs * K) 1) = some (mnF xs) ∧ finB (mnF xs) = finB (sumF xs) ∧ nn (mnF xs) ∧
    (finB (sumF xs) = true → vl (mnF xs) = sv (vl (sumF xs) * K) (cntF xs * K)) := by
  have ri := rnd_int hl
  have rs : rg (rnd (cntF xs * K) 1) = rnd (cntF xs * K) 1 := by unfold rg; omega
  have ns : ng (rnd (cntF xs * K) 1) = false := by unfold ng; simp; omega
  have kp := K_pos
  have hp : 0 < cntF xs * K := Nat.mul_pos (by omega) kp
  have hn := nn_sum' xs
  by_cases f : rg (sumF xs) = 9218868437227405312
  · have e := div_inf f (y := rnd (cntF xs * K) 1) (by rw [rs]; exact ri.1)
    unfold mnF finB
    rw [e]
    refine ⟨rfl, ?_, nn_word _ (by omega), fun k => ?_⟩
    · rw [Option.getD_some, rg_word _ (by omega), f]
    · simp at k; omega
  · have fs : rg (sumF xs) < 9218868437227405312 := by unfold nn at hn; omega
    have e := div_fin fs (y := rnd (cntF xs * K) 1) (by rw [rs]; exact ri.1) (by rw [rs, ri.2]; omega)
    rw [rs, ns, ri.2, Bool.xor_false] at e
    have t : rnd (mg (rg (sumF xs)) * K) (cntF xs * K) ≤ 9218868437227405312 := rnd_top _ _
    have lt : rnd (mg (rg (sumF xs)) * K) (cntF xs * K) < 9218868437227405312 := by
      have a : rnd (mg (rg (sumF xs)) * K) (cntF xs * K) ≤ rnd (mg (rg (sumF xs))) 1 := by
        apply rnd_mono hp Nat.one_pos
        rw [Nat.mul_one]
        exact Nat.mul_le_mul_left _ (Nat.le_mul_of_pos_left K (by omega))
      rw [rnd_mg (by omega)] at a
      omega
    unfold mnF finB
    rw [e]
    refine ⟨rfl, ?_, nn_word _ t, fun _ => ?_⟩
    · rw [Option.getD_some, rg_word _ t]
      simp [lt, fs]
    · rw [Option.getD_some]
      unfold vl
      rw [rg_word _ t, ng_word _ t]
      unfold sv
      have kz : (0 : Int) < (K : Int) := by omega
      cases sg : ng (sumF xs)
      · simp only [Bool.false_eq_true, if_false]
        have : ¬ ((mg (rg (sumF xs)) : Int) * (K : Int) < 0) := by
          have := Int.mul_nonneg (Int.natCast_nonneg (mg (rg (sumF xs)))) (Int.le_of_lt kz)
          omega
        rw [if_neg this, Int.natAbs_mul, Int.natAbs_natCast, Int.natAbs_natCast]
      · simp only [if_true]
        rw [Int.natAbs_mul, Int.natAbs_neg, Int.natAbs_natCast, Int.natAbs_natCast]
        by_cases z : mg (rg (sumF xs)) = 0
        · rw [z, Nat.zero_mul, rnd_zero]
          have m : mg 0 = 0 := by decide
          rw [m]; simp
        · have : (-(mg (rg (sumF xs)) : Int)) * (K : Int) < 0 := Int.mul_neg_of_neg_of_pos (by omega) kz
          rw [if_pos this]

/-! the best -/
def posB (x : Nat) : Bool := decide (nn x) && decide (0 < vl x)
def bstep (xs : List Nat) (b : Int) (i : Nat) : Int :=
  if posB (xs.getD i 0) = true ∧ (b < 0 ∨ 0 < cmp3 (key (xs.getD i 0)) (key (xs.getD b.toNat 0))) then (i : Int) else b
def bstF (xs : List Nat) : Nat → Int
  | 0 => -1
  | k + 1 => bstep xs (bstF xs k) k

theorem cmp3_pos {a b : Int} : 0 < cmp3 a b ↔ b < a := by unfold cmp3; split <;> (try split) <;> omega

theorem bst_is (xs : List Nat) (k : Nat) : (bstF xs k = -1 ∧ ∀ i, i < k → posB (xs.getD i 0) = false) ∨
    (0 ≤ bstF xs k ∧ bstF xs k < k ∧ posB (xs.getD (bstF xs k).toNat 0) = true ∧ ∀ i, i < k → posB (xs.getD i 0) = true → key (xs.getD i 0) ≤ key (xs.getD (bstF xs k).toNat 0)) := by
  induction k with
  | zero => exact Or.inl ⟨rfl, fun i hi => by omega⟩
  | succ k ih =>
    show (bstep xs (bstF xs k) k = -1 ∧ _) ∨ (0 ≤ bstep xs (bstF xs k) k ∧ bstep xs (bstF xs k) k < _ ∧ posB (xs.getD (bstep xs (bstF xs k) k).toNat 0) = true ∧ ∀ i, i < k + 1 → posB (xs.getD i 0) = true → key (xs.getD i 0) ≤ key (xs.getD (bstep xs (bstF xs k) k).toNat 0))
    unfold bstep
    by_cases c : posB (xs.getD k 0) = true ∧ (bstF xs k < 0 ∨ 0 < cmp3 (key (xs.getD k 0)) (key (xs.getD (bstF xs k).toNat 0)))
    · rw [if_pos c]
      right
      refine ⟨by omega, by omega, by rw [Int.toNat_natCast]; exact c.1, fun i hi hp => ?_⟩
      rw [Int.toNat_natCast]
      by_cases e : i = k
      · rw [e]; omega
      · rcases ih with ⟨h1, h2⟩ | ⟨h1, h2, h3, h4⟩
        · rw [h2 i (by omega)] at hp; cases hp
        · have := h4 i (by omega) hp
          have := c.2.resolve_left (by omega)
          rw [cmp3_pos] at this
          omega
    · rw [if_neg c]
      rcases ih with ⟨h1, h2⟩ | ⟨h1, h2, h3, h4⟩
      · left
        refine ⟨h1, fun i hi => ?_⟩
        by_cases e : i = k
        · rw [e]
          cases hp : posB (xs.getD k 0)
          · rfl
          · exact absurd ⟨hp, Or.inl (by omega)⟩ c
        · exact h2 i (by omega)
      · right
        refine ⟨h1, by omega, h3, fun i hi hp => ?_⟩
        by_cases e : i = k
        · rw [e] at hp ⊢
          by_cases l : key (xs.getD (bstF xs k).toNat 0) < key (xs.getD k 0)
          · exact absurd ⟨hp, Or.inr (cmp3_pos.2 l)⟩ c
          · omega
        · exact h4 i (by omega) hp

end Go.Proofs.Ytgnpkommjnklfaa
