/- What a double's word stands for, in units of 2 ^ -1074, and what the operations of the model's floats give in these units. No program in it, no condition. -/
import Derived.Laws.FloatArith
import Derived.KernelRfl
import Derived.Test.YtgnpkommjnklfaaFa
namespace Go.Proofs.Ytgnpkommjnklfaa
open Ieee

theorem d_binade : double.binade = 4503599627370496 := by decide
theorem d_inf : double.infRung = 9218868437227405312 := by decide
theorem d_sign : double.signWeight = 9223372036854775808 := by decide
theorem d_least : double.leastPlace = -1074 := by decide
theorem d_frac : double.fractionBits = 52 := rfl

/-- one, in units -/
def kx : Nat := 1074
theorem kx_eq : kx = 1074 := rfl
def K : Nat := 2 ^ kx
theorem K_def : K = 2 ^ kx := rfl
theorem K_pos : 0 < K := Nat.two_pow_pos kx

def rg (x : Nat) : Nat := x % 9223372036854775808
def ng (x : Nat) : Bool := x / 9223372036854775808 % 2 == 1
def vl (x : Nat) : Int := if ng x then -(mg (rg x) : Int) else (mg (rg x) : Int)

theorem read_fin {x : Nat} (h : rg x < 9218868437227405312) : ∃ m i, double.read x = .number (ng x) m i ∧ -1074 ≤ i ∧ m * 2 ^ (i + 1074).toNat = mg (rg x) := by
  unfold Format.read
  dsimp only
  rw [d_binade, d_inf, d_sign, d_least]
  change ∃ m i, (if rg x < 4503599627370496 then Datum.number (ng x) (rg x) (-1074)
    else if rg x < 9218868437227405312 then Datum.number (ng x) (4503599627370496 + rg x % 4503599627370496) (-1074 + ((rg x / 4503599627370496 - 1 : Nat) : Int))
    else if rg x = 9218868437227405312 then Datum.infinity (ng x) else Datum.nan (ng x) (rg x - 9218868437227405312)) = Datum.number (ng x) m i ∧ -1074 ≤ i ∧ m * 2 ^ (i + 1074).toNat = mg (rg x)
  unfold mg
  by_cases l : rg x < 4503599627370496
  · rw [if_pos l, if_pos l]
    exact ⟨_, _, rfl, by omega, by simp⟩
  · rw [if_neg l, if_pos h, if_neg l]
    refine ⟨_, _, rfl, by omega, ?_⟩
    congr 2
    omega

theorem read_inf {x : Nat} (h : rg x = 9218868437227405312) : double.read x = .infinity (ng x) := by
  unfold Format.read
  dsimp only
  rw [d_binade, d_inf, d_sign]
  change (if rg x < 4503599627370496 then _ else if rg x < 9218868437227405312 then _ else if rg x = 9218868437227405312 then Datum.infinity (ng x) else _) = _
  rw [if_neg (by omega), if_neg (by omega), if_pos h]

theorem read_nan {x : Nat} (h : 9218868437227405312 < rg x) : ∃ t, double.read x = .nan (ng x) t ∧ t = rg x - 9218868437227405312 := by
  unfold Format.read
  dsimp only
  rw [d_binade, d_inf, d_sign]
  refine ⟨_, ?_, rfl⟩
  change (if rg x < 4503599627370496 then _ else if rg x < 9218868437227405312 then _ else if rg x = 9218868437227405312 then Datum.infinity (ng x) else Datum.nan (ng x) (rg x - 9218868437227405312)) = _
  rw [if_neg (by omega), if_neg (by omega), if_neg (by omega)]

theorem rg_word (s : Bool) {r : Nat} (h : r ≤ 9218868437227405312) : rg (double.word s r) = r := by
  unfold Format.word rg
  rw [d_sign]
  cases s <;> simp <;> omega
theorem ng_word (s : Bool) {r : Nat} (h : r ≤ 9218868437227405312) : ng (double.word s r) = s := by
  unfold Format.word ng
  rw [d_sign]
  cases s <;> simp <;> omega
theorem word_rg {x : Nat} (h : x < 18446744073709551616) : double.word (ng x) (rg x) = x := by
  unfold Format.word ng rg
  rw [d_sign]
  by_cases l : x / 9223372036854775808 % 2 = 1
  · simp [l]; omega
  · simp [l]; omega

/-! the order -/
theorem signed_scale (s : Bool) (m a b : Nat) : signed s m a * ((2 ^ b : Nat) : Int) = signed s m (a + b) := by
  unfold signed
  cases s
  · simp only [Bool.false_eq_true, if_false, Nat.shiftLeft_eq]
    rw [Nat.pow_add, ← Nat.mul_assoc, Int.natCast_mul (m * 2 ^ a)]
  · simp only [if_true, Nat.shiftLeft_eq]
    rw [Nat.pow_add, ← Nat.mul_assoc, Int.natCast_mul (m * 2 ^ a), Int.neg_mul]

theorem signed_vl {x m : Nat} {i : Int} (h : m * 2 ^ (i + 1074).toNat = mg (rg x)) : signed (ng x) m (i + 1074).toNat = vl x := by
  unfold signed vl
  rw [Nat.shiftLeft_eq, h]

theorem cmp_def (a b : Int) : compare a b = if a < b then .lt else if a = b then .eq else .gt := rfl

theorem cmp_scale (a b : Int) {c : Int} (hc : 0 < c) : compare (a * c) (b * c) = compare a b := by
  rw [cmp_def, cmp_def]
  have h1 : (a * c < b * c) = (a < b) := propext (Int.mul_lt_mul_right hc)
  have h2 : (a * c = b * c) = (a = b) := propext ⟨fun h => Int.eq_of_mul_eq_mul_right (by omega) h, fun h => by rw [h]⟩
  simp only [h1, h2]

theorem order_num {s t : Bool} {m n : Nat} {i j : Int} (hi : -1074 ≤ i) (hj : -1074 ≤ j) :
    (Datum.number s m i).order (Datum.number t n j) = some (compare (signed s m (i + 1074).toNat) (signed t n (j + 1074).toNat)) := by
  unfold Datum.order
  dsimp only
  congr 1
  have hp : (0 : Int) < ((2 ^ (min i j + 1074).toNat : Nat) : Int) := Int.natCast_pos.2 (Nat.two_pow_pos _)
  rw [← cmp_scale _ _ hp, signed_scale, signed_scale]
  have e1 : (i - min i j).toNat + (min i j + 1074).toNat = (i + 1074).toNat := by omega
  have e2 : (j - min i j).toNat + (min i j + 1074).toNat = (j + 1074).toNat := by omega
  rw [e1, e2]

theorem vl_lo {x : Nat} (h : rg x < 9218868437227405312) : -(mg 9218868437227405312 : Int) < vl x ∧ vl x < mg 9218868437227405312 := by
  have := mg_lt h (Nat.le_refl _)
  unfold vl
  split <;> omega

theorem vl_inf {x : Nat} (h : rg x = 9218868437227405312) : vl x = if ng x then -(mg 9218868437227405312 : Int) else (mg 9218868437227405312 : Int) := by
  unfold vl
  rw [h]

theorem mg_inf_pos : 0 < mg 9218868437227405312 := by
  have := mg_lt (r := 0) (s := 9218868437227405312) (by omega) (Nat.le_refl _)
  omega

theorem order_vl {x y : Nat} (hx : rg x ≤ 9218868437227405312) (hy : rg y ≤ 9218868437227405312) : double.order x y = some (compare (vl x) (vl y)) := by
  unfold Format.order
  have ip := mg_inf_pos
  by_cases fx : rg x = 9218868437227405312
  · rw [read_inf fx]
    by_cases fy : rg y = 9218868437227405312
    · rw [read_inf fy, vl_inf fx, vl_inf fy]
      generalize mg 9218868437227405312 = I at *
      have a : ¬ ((I : Int) < -(I : Int)) := by omega
      have b : ¬ ((I : Int) = -(I : Int)) := by omega
      have c : (-(I : Int) < (I : Int)) := by omega
      cases ng x <;> cases ng y <;> simp [Datum.order, cmp_def, a, b, c] <;> decide
    · obtain ⟨m, i, e, -, -⟩ := read_fin (x := y) (by omega)
      have := vl_lo (x := y) (by omega)
      rw [e, vl_inf fx, cmp_def]
      unfold Datum.order
      cases ng x
      · simp only [Bool.false_eq_true, if_false]
        rw [if_neg (by omega), if_neg (by omega)]
      · simp only [if_true]
        rw [if_pos (by omega)]
  · obtain ⟨m, i, e, hi, hm⟩ := read_fin (x := x) (by omega)
    have := vl_lo (x := x) (by omega)
    by_cases fy : rg y = 9218868437227405312
    · rw [read_inf fy, e, vl_inf fy, cmp_def]
      unfold Datum.order
      cases ng y
      · simp only [Bool.false_eq_true, if_false]
        rw [if_pos (by omega)]
      · simp only [if_true]
        rw [if_neg (by omega), if_neg (by omega)]
    · obtain ⟨n, j, e', hj, hn⟩ := read_fin (x := y) (by omega)
      rw [e, e', order_num hi hj, signed_vl hm, signed_vl hn]

theorem order_nan_l {x : Nat} (h : 9218868437227405312 < rg x) (y : Nat) : double.order x y = none := by
  obtain ⟨t, e, -⟩ := read_nan h
  unfold Format.order
  rw [e]
  cases double.read y <;> rfl
theorem order_nan_r {y : Nat} (h : 9218868437227405312 < rg y) (x : Nat) : double.order x y = none := by
  obtain ⟨t, e, -⟩ := read_nan h
  unfold Format.order
  rw [e]
  cases double.read x <;> rfl

/-! to round -/
theorem cut_even (s : Bool) (n d : Nat) : Toward.even.cut s n d = rne n (2 ^ d) := by
  unfold Toward.cut rne
  dsimp only
  rw [Nat.shiftLeft_eq, Nat.one_mul]
  by_cases h : d ≤ n.log2 + 2
  · rw [Nat.min_eq_left h]
    congr 1
    by_cases c : 2 ^ d < 2 * (n % 2 ^ d) ∨ (2 ^ d = 2 * (n % 2 ^ d) ∧ n / 2 ^ d % 2 = 1)
    · rw [if_pos c]
      rcases c with c | ⟨c, c'⟩
      · simp [c]
      · simp [← c, c']
    · rw [if_neg c]
      simp only [not_or, not_and] at c
      have c1 : decide (2 ^ d < 2 * (n % 2 ^ d)) = false := by simpa using c.1
      by_cases c2 : 2 ^ d = 2 * (n % 2 ^ d)
      · have := c.2 c2
        simp only [c1, Bool.false_or]
        simp [← c2, this]
      · simp [c1, c2]
  · rw [Nat.min_eq_right (by omega)]
    have a := Nat.lt_log2_self (n := n)
    have b : 2 ^ (n.log2 + 2) = 2 * 2 ^ (n.log2 + 1) := by rw [Nat.pow_succ 2 (n.log2 + 1), Nat.mul_comm]
    have c : 2 ^ (n.log2 + 2) ≤ 2 ^ d := Nat.pow_le_pow_right (by omega) (by omega)
    rw [Nat.div_eq_of_lt (a := n) (b := 2 ^ (n.log2 + 2)) (by omega), Nat.mod_eq_of_lt (a := n) (b := 2 ^ (n.log2 + 2)) (by omega), Nat.div_eq_of_lt (a := n) (b := 2 ^ d) (by omega), Nat.mod_eq_of_lt (a := n) (b := 2 ^ d) (by omega), if_neg (by omega)]
    have e1 : decide (2 ^ (n.log2 + 2) < 2 * n) = false := by simp; omega
    rw [e1]
    simp

theorem cut_floor (n d : Nat) : Toward.down.cut false n d = n / 2 ^ d ∧ Toward.zero.cut false n d = n / 2 ^ d := by
  unfold Toward.cut
  dsimp only
  rw [Nat.shiftLeft_eq, Nat.one_mul]
  by_cases h : d ≤ n.log2 + 2
  · rw [Nat.min_eq_left h]
    simp
  · rw [Nat.min_eq_right (by omega)]
    have a := Nat.lt_log2_self (n := n)
    have b : 2 ^ (n.log2 + 2) = 2 * 2 ^ (n.log2 + 1) := by rw [Nat.pow_succ 2 (n.log2 + 1), Nat.mul_comm]
    have c : 2 ^ (n.log2 + 2) ≤ 2 ^ d := Nat.pow_le_pow_right (by omega) (by omega)
    rw [Nat.div_eq_of_lt (a := n) (b := 2 ^ (n.log2 + 2)) (by omega), Nat.div_eq_of_lt (a := n) (b := 2 ^ d) (by omega)]
    simp

theorem log2_div_pow (m b : Nat) : (m / 2 ^ b).log2 = m.log2 - b := by
  by_cases h : m / 2 ^ b = 0
  · rw [h]
    have : m < 2 ^ b := by
      rcases Nat.div_eq_zero_iff.1 h with h | h
      · have := Nat.two_pow_pos b; omega
      · exact h
    by_cases z : m = 0
    · subst z; simp
    · have := (Nat.log2_lt z).2 this
      simp; omega
  · have hm : m ≠ 0 := by intro e; subst e; simp at h
    have hb : 2 ^ b ≤ m := by
      apply Nat.le_of_not_lt
      intro l
      exact h (Nat.div_eq_of_lt l)
    have hl := (Nat.le_log2 hm).2 hb
    apply Nat.le_antisymm
    · have : (m / 2 ^ b).log2 + b ≤ m.log2 := by
        rw [Nat.le_log2 hm, Nat.pow_add]
        have := Nat.log2_self_le h
        rwa [Nat.le_div_iff_mul_le (Nat.two_pow_pos b)] at this
      omega
    · rw [Nat.le_log2 h, Nat.le_div_iff_mul_le (Nat.two_pow_pos b), ← Nat.pow_add]
      have : m.log2 - b + b = m.log2 := by omega
      rw [this]
      exact Nat.log2_self_le hm

theorem log2_mul_pow {m : Nat} (a : Nat) (h : m ≠ 0) : (m * 2 ^ a).log2 = m.log2 + a := by
  have hp := Nat.two_pow_pos a
  have hn : m * 2 ^ a ≠ 0 := by
    intro e
    rcases Nat.mul_eq_zero.1 e with e | e <;> omega
  apply Nat.le_antisymm
  · have : m * 2 ^ a < 2 ^ (m.log2 + 1 + a) := by
      rw [Nat.pow_add]
      exact Nat.mul_lt_mul_of_pos_right Nat.lt_log2_self hp
    have := (Nat.log2_lt hn).2 this
    omega
  · rw [Nat.le_log2 hn, Nat.pow_add]
    exact Nat.mul_le_mul_right _ (Nat.log2_self_le h)

theorem rnd_zero (D : Nat) : rnd 0 D = 0 := by
  unfold rnd ex rne
  simp

theorem nearest_eq (s : Bool) (m : Nat) (p : Int) : double.nearest s m p = double.word s (rnd (m * 2 ^ (p + 1074).toNat) (2 ^ (-1074 - p).toNat)) := by
  unfold Format.nearest
  split
  · rename_i h
    subst h
    rw [Nat.zero_mul, rnd_zero]
  · rename_i h
    dsimp only
    rw [d_binade, d_inf, d_least, d_frac, cut_even]
    refine congrArg (double.word s) ?_
    unfold rnd
    have hb := Nat.two_pow_pos (-1074 - p).toNat
    have hE : ex (m * 2 ^ (p + 1074).toNat) (2 ^ (-1074 - p).toNat) = (max (p + m.log2 - (52 : Nat)) (-1074) - -1074).toNat := by
      unfold ex
      by_cases l : -1074 ≤ p
      · have z : (-1074 - p).toNat = 0 := by omega
        rw [z, Nat.pow_zero, Nat.div_one, log2_mul_pow _ h]
        omega
      · have z : (p + 1074).toNat = 0 := by omega
        rw [z, Nat.pow_zero, Nat.mul_one, log2_div_pow]
        omega
    rw [hE]
    have hR : ∀ e a b : Nat, e = (max (p + m.log2 - (52 : Nat)) (-1074) - -1074).toNat → a = (p - max (p + m.log2 - (52 : Nat)) (-1074)).toNat → b = (max (p + m.log2 - (52 : Nat)) (-1074) - p).toNat →
        rne (m <<< a) (2 ^ b) = rne (m * 2 ^ (p + 1074).toNat) (2 ^ (-1074 - p).toNat * 2 ^ e) := by
      intro e a b he ha hb'
      apply rne_congr (Nat.two_pow_pos _) (Nat.mul_pos hb (Nat.two_pow_pos _))
      rw [Nat.shiftLeft_eq, Nat.mul_assoc, Nat.mul_assoc, ← Nat.pow_add, ← Nat.pow_add, ← Nat.pow_add]
      have : a + ((-1074 - p).toNat + e) = (p + 1074).toNat + b := by omega
      rw [this]
    rw [hR _ _ _ rfl rfl rfl]

/-- any quotient of units that is the number -/
theorem nearest_of {s : Bool} {m : Nat} {p : Int} {N D : Nat} (hD : 0 < D) (h : m * 2 ^ (p + 1074).toNat * D = N * 2 ^ (-1074 - p).toNat) : double.nearest s m p = double.word s (rnd N D) := by
  rw [nearest_eq]
  refine congrArg (double.word s) ?_
  exact rnd_congr (Nat.two_pow_pos _) hD h

/-! sums -/
theorem sum_num {s t : Bool} {m n : Nat} {i j : Int} (hi : -1074 ≤ i) (hj : -1074 ≤ j) {a b : Int} (ha : signed s m (i + 1074).toNat = a) (hb : signed t n (j + 1074).toNat = b) :
    ((Datum.number s m i).sum (Datum.number t n j)).map double.write = some (double.word (if a + b = 0 then s && t else decide (a + b < 0)) (rnd (a + b).natAbs 1)) := by
  have hp : (0 : Int) < ((2 ^ (min i j + 1074).toNat : Nat) : Int) := Int.natCast_pos.2 (Nat.two_pow_pos _)
  have e1 : (i - min i j).toNat + (min i j + 1074).toNat = (i + 1074).toNat := by omega
  have e2 : (j - min i j).toNat + (min i j + 1074).toNat = (j + 1074).toNat := by omega
  have e : (signed s m (i - min i j).toNat + signed t n (j - min i j).toNat) * ((2 ^ (min i j + 1074).toNat : Nat) : Int) = a + b := by
    rw [Int.add_mul, signed_scale, signed_scale, e1, e2, ha, hb]
  unfold Datum.sum
  dsimp only
  generalize signed s m (i - min i j).toNat + signed t n (j - min i j).toNat = T at *
  have z1 : (a + b = 0) = (T = 0) := propext ⟨fun h => by
      rw [h] at e
      rcases Int.mul_eq_zero.1 e with k | k <;> omega, fun h => by rw [← e, h, Int.zero_mul]⟩
  have z2 : (a + b < 0) = (T < 0) := propext ⟨fun h => by
      apply Int.lt_of_not_ge
      intro k
      have := Int.mul_nonneg k (Int.le_of_lt hp)
      omega, fun h => by rw [← e]; exact Int.mul_neg_of_neg_of_pos h hp⟩
  simp only [Option.map_some, Format.write]
  congr 1
  rw [nearest_of (N := (a + b).natAbs) Nat.one_pos]
  · simp only [z1, z2]
  · have z : (-1074 - min i j).toNat = 0 := by omega
    rw [z, Nat.pow_zero, Nat.mul_one, Nat.mul_one, ← e, Int.natAbs_mul, Int.natAbs_natCast]

theorem add_fin {x y : Nat} (hx : rg x < 9218868437227405312) (hy : rg y < 9218868437227405312) :
    double.add x y = some (double.word (if vl x + vl y = 0 then ng x && ng y else decide (vl x + vl y < 0)) (rnd (vl x + vl y).natAbs 1)) := by
  obtain ⟨m, i, e, hi, hm⟩ := read_fin hx
  obtain ⟨n, j, e', hj, hn⟩ := read_fin hy
  unfold Format.add
  rw [e, e', sum_num hi hj (signed_vl hm) (signed_vl hn)]

theorem signed_not (s : Bool) (m a : Nat) : signed (!s) m a = -signed s m a := by
  unfold signed
  cases s <;> simp

theorem sub_fin {x y : Nat} (hx : rg x < 9218868437227405312) (hy : rg y < 9218868437227405312) :
    double.sub x y = some (double.word (if vl x + -vl y = 0 then ng x && !ng y else decide (vl x + -vl y < 0)) (rnd (vl x + -vl y).natAbs 1)) := by
  obtain ⟨m, i, e, hi, hm⟩ := read_fin hx
  obtain ⟨n, j, e', hj, hn⟩ := read_fin hy
  unfold Format.sub
  rw [e, e']
  simp only [Datum.opposite]
  rw [sum_num hi hj (signed_vl hm) (b := -vl y) (by rw [signed_not, signed_vl hn])]

theorem add_inf {x y : Nat} (hx : rg x = 9218868437227405312) (hy : rg y < 9218868437227405312) :
    double.add x y = some (double.word (ng x) 9218868437227405312) := by
  obtain ⟨n, j, e', hj, hn⟩ := read_fin hy
  unfold Format.add
  rw [read_inf hx, e']
  simp only [Datum.sum, Option.map_some, Format.write, d_inf]

theorem sub_inf {x y : Nat} (hx : rg x = 9218868437227405312) (hy : rg y = 9218868437227405312) (h : ng x = ng y) : double.sub x y = none := by
  unfold Format.sub
  rw [read_inf hx, read_inf hy, h]
  cases ng y <;> rfl

/-! products and quotients -/
theorem mul_fin {x y : Nat} (hx : rg x < 9218868437227405312) (hy : rg y < 9218868437227405312) :
    double.mul x y = some (double.word (ng x ^^ ng y) (rnd (mg (rg x) * mg (rg y)) K)) := by
  obtain ⟨m, i, e, hi, hm⟩ := read_fin hx
  obtain ⟨n, j, e', hj, hn⟩ := read_fin hy
  unfold Format.mul
  rw [e, e']
  simp only [Datum.product, Option.map_some, Format.write]
  congr 1
  apply nearest_of K_pos
  rw [← hm, ← hn, K_def]
  have : m * 2 ^ (i + 1074).toNat * (n * 2 ^ (j + 1074).toNat) = m * n * (2 ^ (i + 1074).toNat * 2 ^ (j + 1074).toNat) := by
    simp only [Nat.mul_assoc, Nat.mul_left_comm]
  rw [this, Nat.mul_assoc, Nat.mul_assoc (m * n), ← Nat.pow_add, ← Nat.pow_add, ← Nat.pow_add]
  have k := kx_eq
  have : (i + j + 1074).toNat + kx = (i + 1074).toNat + (j + 1074).toNat + (-1074 - (i + j)).toNat := by omega
  rw [this]

theorem div_fin {x y : Nat} (hx : rg x < 9218868437227405312) (hy : rg y < 9218868437227405312) (h0 : mg (rg y) ≠ 0) :
    double.div x y = some (double.word (ng x ^^ ng y) (rnd (mg (rg x) * K) (mg (rg y)))) := by
  obtain ⟨m, i, e, hi, hm⟩ := read_fin hx
  obtain ⟨n, j, e', hj, hn⟩ := read_fin hy
  have n0 : n ≠ 0 := by intro z; subst z; simp at hn; omega
  unfold Format.div
  rw [e, e', d_frac]
  simp only [Datum.quotient, if_neg n0, Option.map_some, Format.write]
  congr 1
  by_cases m0 : m = 0
  · subst m0
    have : mg (rg x) = 0 := by rw [← hm, Nat.zero_mul]
    rw [this, Nat.zero_mul, rnd_zero]
    simp [Format.nearest]
  rw [nearest_eq]
  refine congrArg (double.word _) ?_
  generalize hmore : 52 + 2 + n.log2 - m.log2 = more
  rw [Nat.shiftLeft_eq]
  have hf : 9007199254740992 ≤ m * 2 ^ more / n := by
    rw [Nat.le_div_iff_mul_le (by omega)]
    have a := Nat.log2_self_le m0
    have b := Nat.lt_log2_self (n := n)
    calc 9007199254740992 * n ≤ 2 ^ 53 * 2 ^ (n.log2 + 1) := Nat.mul_le_mul (by decide) (by omega)
      _ = 2 ^ (53 + (n.log2 + 1)) := by rw [← Nat.pow_add]
      _ ≤ 2 ^ (m.log2 + more) := Nat.pow_le_pow_right (by omega) (by omega)
      _ = 2 ^ m.log2 * 2 ^ more := by rw [Nat.pow_add]
      _ ≤ m * 2 ^ more := Nat.mul_le_mul_right _ a
  have hs : (m * 2 ^ more % n != 0).toNat = if m * 2 ^ more % n = 0 then 0 else 1 := by
    by_cases c : m * 2 ^ more % n = 0 <;> simp [c]
  rw [hs, rnd_sticky (by omega) hf]
  apply rnd_congr (Nat.mul_pos (by omega) (Nat.two_pow_pos _)) (by omega)
  rw [← hm, ← hn, K_def]
  have l : 2 * (m * 2 ^ more) * 2 ^ (i - j - more - 1 + 1074).toNat * (n * 2 ^ (j + 1074).toNat) = m * n * (2 * (2 ^ more * (2 ^ (i - j - more - 1 + 1074).toNat * 2 ^ (j + 1074).toNat))) := by
    simp only [Nat.mul_assoc, Nat.mul_left_comm, Nat.mul_comm]
  have r : m * 2 ^ (i + 1074).toNat * 2 ^ kx * (n * 2 ^ (-1074 - (i - j - more - 1)).toNat) = m * n * (2 ^ (i + 1074).toNat * (2 ^ kx * 2 ^ (-1074 - (i - j - more - 1)).toNat)) := by
    simp only [Nat.mul_assoc, Nat.mul_left_comm, Nat.mul_comm]
  rw [l, r, ← Nat.pow_add, ← Nat.pow_add, ← Nat.pow_add, ← Nat.pow_add, Nat.mul_comm 2, ← Nat.pow_succ]
  have k := kx_eq
  have : (more + ((i - j - more - 1 + 1074).toNat + (j + 1074).toNat)).succ = (i + 1074).toNat + (kx + (-1074 - (i - j - more - 1)).toNat) := by omega
  rw [this]

theorem div_inf {x y : Nat} (hx : rg x = 9218868437227405312) (hy : rg y < 9218868437227405312) :
    double.div x y = some (double.word (ng x ^^ ng y) 9218868437227405312) := by
  obtain ⟨n, j, e', hj, hn⟩ := read_fin hy
  unfold Format.div
  rw [read_inf hx, e']
  simp only [Datum.quotient, Option.map_some, Format.write, d_inf]

theorem mul_inf {x y : Nat} (hx : rg x < 9218868437227405312) (h0 : mg (rg x) ≠ 0) (hy : rg y = 9218868437227405312) :
    double.mul x y = some (double.word (ng y ^^ ng x) 9218868437227405312) := by
  obtain ⟨m, i, e, hi, hm⟩ := read_fin hx
  have m0 : m ≠ 0 := by intro z; subst z; simp at hm; omega
  unfold Format.mul
  rw [e, read_inf hy]
  simp only [Datum.product, if_neg m0, Option.map_some, Format.write, d_inf]

end Go.Proofs.Ytgnpkommjnklfaa
