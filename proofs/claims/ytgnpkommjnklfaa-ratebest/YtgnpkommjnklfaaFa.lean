/- Plain numbers: the nearest whole number to a quotient, ties to even ('rne'); the rung of a quotient of units ('rnd'); a rung's magnitude in units ('mg'). No Go in it, no condition. -/
namespace Go.Proofs.Ytgnpkommjnklfaa

def rne (N D : Nat) : Nat := N / D + if D < 2 * (N % D) ∨ (D = 2 * (N % D) ∧ N / D % 2 = 1) then 1 else 0

theorem rne_le {N D c : Nat} (hD : 0 < D) : rne N D ≤ c ↔ 2 * N < (2 * c + 1) * D ∨ (2 * N = (2 * c + 1) * D ∧ c % 2 = 0) := by
  have h1 := Nat.div_add_mod N D
  have h2 := Nat.mod_lt N hD
  have h3 : (2 * c + 1) * D = 2 * (D * c) + D := by rw [Nat.add_mul, Nat.mul_assoc, Nat.mul_comm c D, Nat.one_mul]
  rw [h3]
  unfold rne
  generalize N / D = q at *
  generalize N % D = s at *
  subst h1
  rcases Nat.lt_trichotomy c q with h | h | h
  · have := Nat.mul_le_mul_left D (show c + 1 ≤ q from h)
    rw [Nat.mul_add] at this
    split <;> omega
  · subst h
    split <;> omega
  · have := Nat.mul_le_mul_left D (show q + 1 ≤ c from h)
    rw [Nat.mul_add] at this
    split <;> omega

theorem rne_mono {N M D E : Nat} (hD : 0 < D) (hE : 0 < E) (h : N * E ≤ M * D) : rne N D ≤ rne M E := by
  rw [rne_le hD]
  have h2 : 2 * N * E ≤ 2 * M * D := by rw [Nat.mul_assoc, Nat.mul_assoc]; omega
  generalize hc : rne M E = c
  rcases (rne_le hE).1 (Nat.le_of_eq hc) with k | ⟨k, kp⟩
  · left
    have a : 2 * M * D < (2 * c + 1) * E * D := Nat.mul_lt_mul_of_pos_right k hD
    have b : 2 * N * E < (2 * c + 1) * D * E := by rw [Nat.mul_right_comm (2 * c + 1)]; omega
    exact Nat.lt_of_mul_lt_mul_right b
  · rw [k] at h2
    have b : 2 * N * E ≤ (2 * c + 1) * D * E := by rw [Nat.mul_right_comm (2 * c + 1)]; exact h2
    have := Nat.le_of_mul_le_mul_right b hE
    omega

theorem rne_congr {N M D E : Nat} (hD : 0 < D) (hE : 0 < E) (h : N * E = M * D) : rne N D = rne M E :=
  Nat.le_antisymm (rne_mono hD hE (Nat.le_of_eq h)) (rne_mono hE hD (Nat.le_of_eq h.symm))

theorem rne_self (N D : Nat) (hD : 0 < D) : rne (N * D) D = N := by
  unfold rne
  rw [Nat.mul_div_cancel _ hD, Nat.mul_mod_left, if_neg (by omega)]
  rfl

theorem rne_one (N : Nat) : rne N 1 = N := by
  have := rne_self N 1 Nat.one_pos
  rwa [Nat.mul_one] at this

theorem le_rne_of {N D c : Nat} (hD : 0 < D) (h : c * D ≤ N) : c ≤ rne N D := by
  have := rne_mono (N := c) (M := N) (D := 1) Nat.one_pos hD (by omega)
  rwa [rne_one] at this

theorem rne_le_of {N D c : Nat} (hD : 0 < D) (h : N ≤ c * D) : rne N D ≤ c := by
  have := rne_mono (N := N) (M := c) (E := 1) hD Nat.one_pos (by omega)
  rwa [rne_one] at this

theorem log2_le_log2 {a b : Nat} (h : a ≤ b) : a.log2 ≤ b.log2 := by
  by_cases ha : a = 0
  · subst ha; simp
  · rw [Nat.le_log2 (by omega)]
    exact Nat.le_trans (Nat.log2_self_le ha) h

theorem log2_congr {a b : Nat} (h : ∀ e, 2 ^ e ≤ a ↔ 2 ^ e ≤ b) : a.log2 = b.log2 := by
  have h0 := h 0
  by_cases ha : a = 0
  · have : b = 0 := by omega
    rw [ha, this]
  · have hb : b ≠ 0 := by omega
    apply Nat.le_antisymm
    · rw [Nat.le_log2 hb, ← h]; exact Nat.log2_self_le ha
    · rw [Nat.le_log2 ha, h]; exact Nat.log2_self_le hb

def ex (N D : Nat) : Nat := (N / D).log2 - 52
def rnd (N D : Nat) : Nat := min (ex N D * 4503599627370496 + rne N (D * 2 ^ ex N D)) 9218868437227405312

theorem div_mono {N M D E : Nat} (hD : 0 < D) (hE : 0 < E) (h : N * E ≤ M * D) : N / D ≤ M / E := by
  rw [Nat.le_div_iff_mul_le hE]
  have a : N / D * D ≤ N := Nat.div_mul_le_self N D
  have b : N / D * D * E ≤ N * E := Nat.mul_le_mul_right E a
  have c : N / D * E * D ≤ M * D := by rw [Nat.mul_right_comm]; omega
  exact Nat.le_of_mul_le_mul_right c hD

theorem ex_mono {N M D E : Nat} (hD : 0 < D) (hE : 0 < E) (h : N * E ≤ M * D) : ex N D ≤ ex M E := by
  have := log2_le_log2 (div_mono hD hE h)
  unfold ex; omega

/-- the kept digits stay below 2 ^ 53 (or come to it) -/
theorem kept_le {N D : Nat} (hD : 0 < D) : rne N (D * 2 ^ ex N D) ≤ 9007199254740992 := by
  have hp : 0 < 2 ^ ex N D := Nat.two_pow_pos _
  apply rne_le_of (Nat.mul_pos hD hp)
  have a := Nat.lt_log2_self (n := N / D)
  have b : (N / D).log2 + 1 ≤ 53 + ex N D := by unfold ex; omega
  have c : N / D < 2 ^ (53 + ex N D) := Nat.lt_of_lt_of_le a (Nat.pow_le_pow_right (by omega) b)
  rw [Nat.div_lt_iff_lt_mul hD, Nat.pow_add] at c
  have e : (9007199254740992 : Nat) = 2 ^ 53 := by decide
  rw [e, Nat.mul_comm D, ← Nat.mul_assoc]
  omega

theorem le_kept {N D : Nat} (hD : 0 < D) (h : 0 < ex N D) : 4503599627370496 ≤ rne N (D * 2 ^ ex N D) := by
  have hp : 0 < 2 ^ ex N D := Nat.two_pow_pos _
  apply le_rne_of (Nat.mul_pos hD hp)
  have hn : N / D ≠ 0 := by
    intro e; unfold ex at h; rw [e] at h; simp at h
  have a := Nat.log2_self_le hn
  have b : (N / D).log2 = 52 + ex N D := by unfold ex at h ⊢; omega
  rw [b, Nat.le_div_iff_mul_le hD, Nat.pow_add] at a
  have e : (4503599627370496 : Nat) = 2 ^ 52 := by decide
  rw [e, Nat.mul_comm D, ← Nat.mul_assoc]
  exact a

theorem rnd_mono {N M D E : Nat} (hD : 0 < D) (hE : 0 < E) (h : N * E ≤ M * D) : rnd N D ≤ rnd M E := by
  have hx := ex_mono hD hE h
  have k1 := kept_le (N := N) hD
  have k2 := le_kept (N := M) hE
  have k3 : ex N D = ex M E → rne N (D * 2 ^ ex N D) ≤ rne M (E * 2 ^ ex M E) := by
    intro e
    rw [e]
    have hp : 0 < 2 ^ ex M E := Nat.two_pow_pos _
    apply rne_mono (Nat.mul_pos hD hp) (Nat.mul_pos hE hp)
    rw [← Nat.mul_assoc, ← Nat.mul_assoc]
    exact Nat.mul_le_mul_right _ h
  unfold rnd
  generalize rne N (D * 2 ^ ex N D) = a at *
  generalize rne M (E * 2 ^ ex M E) = b at *
  generalize ex N D = x at *
  generalize ex M E = y at *
  have : x * 4503599627370496 + a ≤ y * 4503599627370496 + b := by
    rcases Nat.lt_or_eq_of_le hx with l | l
    · have := k2 (by omega)
      omega
    · have := k3 l
      omega
  omega

theorem rnd_congr {N M D E : Nat} (hD : 0 < D) (hE : 0 < E) (h : N * E = M * D) : rnd N D = rnd M E :=
  Nat.le_antisymm (rnd_mono hD hE (Nat.le_of_eq h)) (rnd_mono hE hD (Nat.le_of_eq h.symm))

theorem rnd_top (N D : Nat) : rnd N D ≤ 9218868437227405312 := by unfold rnd; omega

/-- a rung's magnitude, in units of 2 ^ -1074 -/
def mg (r : Nat) : Nat := if r < 4503599627370496 then r else (4503599627370496 + r % 4503599627370496) * 2 ^ (r / 4503599627370496 - 1)

theorem log2_shift {m k : Nat} (h : 4503599627370496 ≤ m) (h' : m < 9007199254740992) : (m * 2 ^ k).log2 = 52 + k := by
  have hp : 0 < 2 ^ k := Nat.two_pow_pos _
  have hn : m * 2 ^ k ≠ 0 := by
    have := Nat.mul_le_mul_right (2 ^ k) h
    omega
  apply Nat.le_antisymm
  · have : m * 2 ^ k < 2 ^ (53 + k) := by
      rw [Nat.pow_add]; exact Nat.mul_lt_mul_of_pos_right (by simpa using h') hp
    have := (Nat.log2_lt hn).2 this
    omega
  · rw [Nat.le_log2 hn, Nat.pow_add]
    exact Nat.mul_le_mul_right _ (by simpa using h)

theorem rnd_mg {r : Nat} (h : r ≤ 9218868437227405312) : rnd (mg r) 1 = r := by
  unfold mg
  split
  · rename_i l
    have a : r.log2 < 52 := by
      by_cases z : r = 0
      · subst z; simp
      · exact (Nat.log2_lt z).2 (by simpa using l)
    have b : ex r 1 = 0 := by unfold ex; rw [Nat.div_one]; omega
    unfold rnd
    rw [b]
    simp only [Nat.zero_mul, Nat.zero_add, Nat.pow_zero, Nat.mul_one, rne_one]
    omega
  · rename_i l
    have q := Nat.mod_lt r (show 0 < 4503599627370496 by omega)
    have b : ex ((4503599627370496 + r % 4503599627370496) * 2 ^ (r / 4503599627370496 - 1)) 1 = r / 4503599627370496 - 1 := by
      unfold ex
      rw [Nat.div_one, log2_shift (by omega) (by omega)]
      omega
    unfold rnd
    rw [b, Nat.one_mul, rne_self _ _ (Nat.two_pow_pos _)]
    omega

theorem mg_lt {r s : Nat} (hr : r < s) (hs : s ≤ 9218868437227405312) : mg r < mg s := by
  apply Nat.lt_of_not_le
  intro h
  have := rnd_mono (N := mg s) (M := mg r) Nat.one_pos Nat.one_pos (by omega)
  rw [rnd_mg hs, rnd_mg (by omega)] at this
  omega

theorem mg_le {r s : Nat} (hr : r ≤ s) (hs : s ≤ 9218868437227405312) : mg r ≤ mg s := by
  rcases Nat.lt_or_eq_of_le hr with h | h
  · exact Nat.le_of_lt (mg_lt h hs)
  · rw [h]; exact Nat.le_refl _

theorem mg_inj {r s : Nat} (hr : r ≤ 9218868437227405312) (hs : s ≤ 9218868437227405312) (h : mg r = mg s) : r = s := by
  have := rnd_mg hr
  rw [h, rnd_mg hs] at this
  exact this.symm

theorem mg_lt_iff {r s : Nat} (hr : r ≤ 9218868437227405312) (hs : s ≤ 9218868437227405312) : mg r < mg s ↔ r < s := by
  constructor
  · intro h
    apply Nat.lt_of_not_le
    intro k
    have := mg_le k hr
    omega
  · intro h; exact mg_lt h hs

/-- what a rounded quotient is, in units -/
theorem mg_rnd {N D : Nat} (hD : 0 < D) (h : rnd N D < 9218868437227405312) : mg (rnd N D) = rne N (D * 2 ^ ex N D) * 2 ^ ex N D := by
  have k1 := kept_le (N := N) hD
  have k2 := le_kept (N := N) hD
  have e : rnd N D = ex N D * 4503599627370496 + rne N (D * 2 ^ ex N D) := by unfold rnd at h ⊢; omega
  rw [e]
  generalize rne N (D * 2 ^ ex N D) = c at *
  generalize ex N D = x at *
  clear e h
  unfold mg
  by_cases hx : x = 0
  · subst hx
    simp only [Nat.zero_mul, Nat.zero_add, Nat.pow_zero, Nat.mul_one]
    split
    · rfl
    · rename_i l
      by_cases c2 : c = 9007199254740992
      · subst c2; decide
      · have a : c / 4503599627370496 = 1 := by omega
        rw [a]
        simp only [Nat.sub_self, Nat.pow_zero, Nat.mul_one]
        omega
  · have := k2 (by omega)
    rw [if_neg (by omega)]
    by_cases c2 : c = 9007199254740992
    · subst c2
      have a : (x * 4503599627370496 + 9007199254740992) / 4503599627370496 - 1 = x + 1 := by omega
      have b : (x * 4503599627370496 + 9007199254740992) % 4503599627370496 = 0 := by omega
      rw [a, b, Nat.pow_succ]
      omega
    · have a : (x * 4503599627370496 + c) / 4503599627370496 - 1 = x := by omega
      have b : 4503599627370496 + (x * 4503599627370496 + c) % 4503599627370496 = c := by omega
      rw [a, b]

/-- the quotient with one digit more, which tells whether anything is left, is rounded as the quotient itself -/
theorem rnd_sticky {X n : Nat} (hn : 0 < n) (hf : 9007199254740992 ≤ X / n) (a b : Nat) :
    rnd ((2 * (X / n) + if X % n = 0 then 0 else 1) * 2 ^ a) (2 ^ b) = rnd (2 * X * 2 ^ a) (n * 2 ^ b) := by
  have h1 := Nat.div_add_mod X n
  have h2 := Nat.mod_lt X hn
  have key : ∀ C, (2 * (X / n) + (if X % n = 0 then 0 else 1) < 2 * C ↔ 2 * X < 2 * (n * C)) ∧ (2 * (X / n) + (if X % n = 0 then 0 else 1) = 2 * C ↔ 2 * X = 2 * (n * C)) := by
    intro C
    generalize X / n = q at *
    generalize X % n = s at *
    rcases Nat.lt_trichotomy q C with h | h | h
    · have := Nat.mul_le_mul_left n (show q + 1 ≤ C from h)
      rw [Nat.mul_add] at this
      split <;> omega
    · subst h
      split <;> omega
    · have := Nat.mul_le_mul_left n (show C + 1 ≤ q from h)
      rw [Nat.mul_add] at this
      split <;> omega
  have hX : n ≤ X := by
    have := Nat.mul_le_mul_left n (show 1 ≤ X / n by omega)
    omega
  generalize hQ : 2 * (X / n) + (if X % n = 0 then 0 else 1) = Q at *
  have hQb : 18014398509481984 ≤ Q := by omega
  have pa : 0 < 2 ^ a := Nat.two_pow_pos a
  have pb : 0 < 2 ^ b := Nat.two_pow_pos b
  have hE : ex (Q * 2 ^ a) (2 ^ b) = ex (2 * X * 2 ^ a) (n * 2 ^ b) := by
    unfold ex
    congr 1
    apply log2_congr
    intro e
    rw [Nat.le_div_iff_mul_le pb, Nat.le_div_iff_mul_le (Nat.mul_pos hn pb)]
    by_cases hl : e + b ≤ a
    · have p : 2 ^ e * 2 ^ b ≤ 2 ^ a := by rw [← Nat.pow_add]; exact Nat.pow_le_pow_right (by omega) hl
      constructor
      · intro _
        calc 2 ^ e * (n * 2 ^ b) = n * (2 ^ e * 2 ^ b) := by rw [Nat.mul_left_comm]
          _ ≤ n * 2 ^ a := Nat.mul_le_mul_left n p
          _ ≤ 2 * X * 2 ^ a := Nat.mul_le_mul_right _ (by omega)
      · intro _
        calc 2 ^ e * 2 ^ b ≤ 2 ^ a := p
          _ = 1 * 2 ^ a := by rw [Nat.one_mul]
          _ ≤ Q * 2 ^ a := Nat.mul_le_mul_right _ (by omega)
    · obtain ⟨t, ht⟩ : ∃ t, e + b = a + 1 + t := ⟨e + b - a - 1, by omega⟩
      have p : 2 ^ e * 2 ^ b = 2 * 2 ^ t * 2 ^ a := by
        rw [← Nat.pow_add, ht, Nat.pow_add, Nat.pow_add, Nat.pow_one, Nat.mul_comm (2 ^ a), Nat.mul_right_comm]
      have k := (key (2 ^ t)).1
      rw [p, Nat.mul_left_comm, p, ← Nat.mul_assoc n]
      constructor
      · intro h
        have := Nat.le_of_mul_le_mul_right h pa
        apply Nat.mul_le_mul_right
        rw [Nat.mul_left_comm n]
        omega
      · intro h
        have := Nat.le_of_mul_le_mul_right h pa
        rw [Nat.mul_left_comm n] at this
        apply Nat.mul_le_mul_right
        omega
  have hk : a + 2 ≤ b + ex (Q * 2 ^ a) (2 ^ b) := by
    by_cases hl : a + 2 ≤ b
    · omega
    · have q : 2 ^ (54 + a - b) ≤ Q * 2 ^ a / 2 ^ b := by
        rw [Nat.le_div_iff_mul_le pb, ← Nat.pow_add]
        have : 54 + a - b + b = 54 + a := by omega
        rw [this, Nat.pow_add]
        exact Nat.mul_le_mul_right _ (by simpa using hQb)
      have hz : Q * 2 ^ a / 2 ^ b ≠ 0 := by
        have := Nat.two_pow_pos (54 + a - b)
        omega
      have := (Nat.le_log2 hz).2 q
      unfold ex
      omega
  unfold rnd
  rw [← hE]
  generalize ex (Q * 2 ^ a) (2 ^ b) = k at *
  congr 2
  have pk : 0 < 2 ^ k := Nat.two_pow_pos k
  obtain ⟨t, ht⟩ : ∃ t, b + k = a + 2 + t := ⟨b + k - a - 2, by omega⟩
  have p : 2 ^ b * 2 ^ k = 4 * 2 ^ t * 2 ^ a := by
    rw [← Nat.pow_add, ht, Nat.pow_add, Nat.pow_add, Nat.mul_comm (2 ^ a), Nat.mul_right_comm]
  have same : ∀ c, rne (Q * 2 ^ a) (2 ^ b * 2 ^ k) ≤ c ↔ rne (2 * X * 2 ^ a) (n * 2 ^ b * 2 ^ k) ≤ c := by
    intro c
    rw [rne_le (Nat.mul_pos pb pk), rne_le (Nat.mul_pos (Nat.mul_pos hn pb) pk), Nat.mul_assoc n, p]
    have e1 : (2 * c + 1) * (4 * 2 ^ t * 2 ^ a) = 2 * (2 * ((2 * c + 1) * 2 ^ t)) * 2 ^ a := by
      simp only [← Nat.mul_assoc]
      congr 2
      omega
    have e2 : (2 * c + 1) * (n * (4 * 2 ^ t * 2 ^ a)) = 2 * (2 * (n * ((2 * c + 1) * 2 ^ t))) * 2 ^ a := by
      have : (2 * c + 1) * (n * (4 * 2 ^ t * 2 ^ a)) = n * ((2 * c + 1) * (4 * 2 ^ t * 2 ^ a)) := by rw [Nat.mul_left_comm]
      rw [this, e1]
      simp only [Nat.mul_assoc, Nat.mul_left_comm n]
    rw [e1, e2, ← Nat.mul_assoc 2 Q, ← Nat.mul_assoc 2 (2 * X)]
    have k1 := key ((2 * c + 1) * 2 ^ t)
    generalize (2 * c + 1) * 2 ^ t = C at *
    rw [Nat.mul_lt_mul_right pa, Nat.mul_lt_mul_right pa, Nat.mul_left_inj (by omega), Nat.mul_left_inj (by omega)]
    generalize n * C = Y at *
    omega
  exact Nat.le_antisymm ((same _).2 (Nat.le_refl _)) ((same _).1 (Nat.le_refl _))

end Go.Proofs.Ytgnpkommjnklfaa
