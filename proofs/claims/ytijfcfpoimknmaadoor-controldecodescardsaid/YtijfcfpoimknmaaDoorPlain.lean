/- Plain facts: what a note and a packet are, their bytes, which bytes are one; keepalives. Nothing of the program. -/
import Derived.WalkKit
import Derived.Handy
namespace Go.Proofs.YtijfcfpoimknmaaDoor
open Go.RowKit

/-- Numbers that are bytes. -/
def Rng (ns : List Int) : Prop := ∀ n ∈ ns, 0 ≤ n ∧ n ≤ 255
theorem rng_append {a b : List Int} (h : Rng a) (k : Rng b) : Rng (a ++ b) := by
  intro n hn
  rcases List.mem_append.1 hn with h1 | h1
  · exact h n h1
  · exact k n h1
theorem rng_cons {a : Int} {b : List Int} (h0 : 0 ≤ a) (h1 : a ≤ 255) (k : Rng b) : Rng (a :: b) := by
  intro n hn
  rcases List.mem_cons.1 hn with rfl | h1
  · exact ⟨h0, h1⟩
  · exact k n h1
theorem rng_nil : Rng [] := by intro n hn; cases hn
theorem rng_left {a b : List Int} (h : Rng (a ++ b)) : Rng a := fun n hn => h n (List.mem_append.2 (Or.inl hn))
theorem rng_right {a b : List Int} (h : Rng (a ++ b)) : Rng b := fun n hn => h n (List.mem_append.2 (Or.inr hn))
theorem rng_getD {a : List Int} (h : Rng a) (j : Nat) : 0 ≤ a.getD j 0 ∧ a.getD j 0 ≤ 255 := by
  rw [List.getD_eq_getElem?_getD]
  by_cases hj : j < a.length
  · rw [List.getElem?_eq_getElem hj]; exact h _ (List.getElem_mem hj)
  · rw [List.getElem?_eq_none (by omega)]; simp
theorem rng_drop {a : List Int} (h : Rng a) (j : Nat) : Rng (a.drop j) := fun n hn => h n (List.mem_of_mem_drop hn)
theorem rng_take {a : List Int} (h : Rng a) (j : Nat) : Rng (a.take j) := fun n hn => h n (List.mem_of_mem_take hn)

/-- A number in so many bytes; the number of bytes; whether it goes into so many. -/
def be : Nat → Int → List Int
  | 0, _ => []
  | s + 1, n => be s (n / 256) ++ [n % 256]
def nb (l : List Int) : Int := l.foldl (fun a x => a * 256 + x) 0
def fit (s : Nat) (n : Int) : Bool := decide (0 ≤ n ∧ n < 256 ^ s)
theorem be_length : ∀ (s : Nat) (n : Int), (be s n).length = s
  | 0, _ => rfl
  | s + 1, n => by simp [be, be_length s]
theorem be_rng : ∀ (s : Nat) (n : Int), Rng (be s n)
  | 0, _ => rng_nil
  | s + 1, n => rng_append (be_rng s _) (rng_cons (by omega) (by omega) rng_nil)
theorem nb_snoc (l : List Int) (x : Int) : nb (l ++ [x]) = nb l * 256 + x := by simp [nb]
theorem nb_be : ∀ (s : Nat) (n : Int), 0 ≤ n → n < 256 ^ s → nb (be s n) = n
  | 0, n, h0, h1 => by
    have : n = 0 := by simp at h1; omega
    subst this
    rfl
  | s + 1, n, h0, h1 => by
    rw [be, nb_snoc, nb_be s (n / 256) (by omega) (by rw [Int.pow_succ] at h1; omega)]
    omega
theorem pow_pos' (s : Nat) : (0 : Int) < 256 ^ s := Int.pow_pos (by omega)
theorem list_snoc {α : Type} (l : List α) (s : Nat) (h : l.length = s + 1) : ∃ a x, l = a ++ [x] ∧ a.length = s := by
  have hne : l ≠ [] := by intro e; rw [e] at h; simp at h
  refine ⟨l.dropLast, l.getLast hne, (List.dropLast_concat_getLast hne).symm, by simp [h]⟩
theorem nb_fit : ∀ (s : Nat) (l : List Int), l.length = s → Rng l → 0 ≤ nb l ∧ nb l < 256 ^ s
  | 0, l, h, _ => by
    obtain rfl := List.eq_nil_of_length_eq_zero h
    simp [nb]
  | s + 1, l, h, hr => by
    obtain ⟨a, x, rfl, ha⟩ := list_snoc l s h
    have ih := nb_fit s a ha (rng_left hr)
    have hx := hr x (by simp)
    rw [nb_snoc, Int.pow_succ]
    omega
theorem be_nb : ∀ (s : Nat) (l : List Int), l.length = s → Rng l → be s (nb l) = l
  | 0, l, h, _ => by
    obtain rfl := List.eq_nil_of_length_eq_zero h
    rfl
  | s + 1, l, h, hr => by
    obtain ⟨a, x, rfl, ha⟩ := list_snoc l s h
    have ih := be_nb s a ha (rng_left hr)
    have hx := hr x (by simp)
    rw [nb_snoc, be, show (nb a * 256 + x) / 256 = nb a by omega, show (nb a * 256 + x) % 256 = x by omega, ih]
theorem fit_and {s : Nat} {n : Int} (h : fit s n = true) : 0 ≤ n ∧ n < 256 ^ s := of_decide_eq_true h
theorem fit_nb {l : List Int} (s : Nat) (h : l.length = s) (hr : Rng l) : fit s (nb l) = true := decide_eq_true (nb_fit s l h hr)


/-- A note, and a packet, as numbers and a list of bytes. -/
structure Nt where
  k : Int
  v : Int
  m0 : Int
  m1 : Int
  m2 : Int
  m3 : Int
  m4 : Int
  m5 : Int
  p : Int
  s : Int
  b : List Int
structure Pk where
  e : Int
  q : Int
  a : Int
  n : Nt
def ml (x : Nt) : List Int := [x.m0, x.m1, x.m2, x.m3, x.m4, x.m5]
structure NtB (x : Nt) : Prop where
  m : Rng (ml x)
  b : Rng x.b
def zeroN : Nt := ⟨0, 0, 0, 0, 0, 0, 0, 0, 0, 0, []⟩
def zeroP : Pk := ⟨0, 0, 0, zeroN⟩
theorem zero_ml : Rng (ml zeroN) := fun n hn => by simp [ml, zeroN] at hn; omega
theorem zeroN_B : NtB zeroN := ⟨zero_ml, rng_nil⟩

/-- Is a number from one to another one? -/
def wi (n lo hi : Int) : Bool := decide (lo ≤ n) && decide (n ≤ hi)
theorem wi_iff (n lo hi : Int) : wi n lo hi = true ↔ lo ≤ n ∧ n ≤ hi := by simp [wi]
def sq (n : Int) : Bool := wi n 0 1073741824
theorem sq_iff (n : Int) : sq n = true ↔ 0 ≤ n ∧ n ≤ 1073741824 := wi_iff _ _ _

/-- What a kind has: its fields as bits; and each field by itself. -/
def fo (k : Int) : Int := if k = 1 then 7 else if k = 2 then 3 else if k = 3 then 12 else if k = 4 then 12 else if k = 5 then 20 else if k = 6 then 12 else if k = 7 then 8 else if k = 8 then 29 else 0
def hs (F : Int) (j : Nat) : Bool := !(bits .and .i64 F (j : Int) == 0)
def hv (k : Int) : Bool := k == 1 || k == 2 || k == 8
def hm (k : Int) : Bool := k == 1 || k == 2
def hp (k : Int) : Bool := k == 1 || (decide (3 ≤ k) && decide (k ≤ 6)) || k == 8
def hst (k : Int) : Bool := k == 3 || k == 4 || (decide (6 ≤ k) && decide (k ≤ 8))
def hb (k : Int) : Bool := k == 5 || k == 8
theorem kinds9 (k : Int) : k = 1 ∨ k = 2 ∨ k = 3 ∨ k = 4 ∨ k = 5 ∨ k = 6 ∨ k = 7 ∨ k = 8 ∨ (fo k = 0 ∧ hv k = false ∧ hm k = false ∧ hp k = false ∧ hst k = false ∧ hb k = false) := by
  by_cases h1 : k = 1
  · exact Or.inl h1
  by_cases h2 : k = 2
  · simp [h2]
  by_cases h3 : k = 3
  · simp [h3]
  by_cases h4 : k = 4
  · simp [h4]
  by_cases h5 : k = 5
  · simp [h5]
  by_cases h6 : k = 6
  · simp [h6]
  by_cases h7 : k = 7
  · simp [h7]
  by_cases h8 : k = 8
  · simp [h8]
  refine Or.inr (Or.inr (Or.inr (Or.inr (Or.inr (Or.inr (Or.inr (Or.inr ⟨?_, ?_, ?_, ?_, ?_, ?_⟩)))))))
  · simp [fo, *]
  · simp [hv, *]
  · simp [hm, *]
  · simp only [hp, beq_eq_false_iff_ne.2 h1, beq_eq_false_iff_ne.2 h8, Bool.false_or, Bool.or_false, Bool.and_eq_false_iff, decide_eq_false_iff_not]; omega
  · simp only [hst, beq_eq_false_iff_ne.2 h3, beq_eq_false_iff_ne.2 h4, Bool.false_or, Bool.or_false, Bool.and_eq_false_iff, decide_eq_false_iff_not]; omega
  · simp [hb, *]
theorem hs0 (j : Nat) (h : j = 1 ∨ j = 2 ∨ j = 4 ∨ j = 8 ∨ j = 16) : hs 0 j = false := by
  rcases h with rfl | rfl | rfl | rfl | rfl <;> decide
theorem hs31 (j : Nat) (h : j = 1 ∨ j = 2 ∨ j = 4 ∨ j = 8 ∨ j = 16) : hs 31 j = true := by
  rcases h with rfl | rfl | rfl | rfl | rfl <;> decide
theorem hs_v (k : Int) : hs (fo k) 1 = hv k := by
  rcases kinds9 k with h | h | h | h | h | h | h | h | ⟨h, h1, h2, h3, h4, h5⟩
  all_goals first | (subst h; decide) | (rw [h, h1]; decide)
theorem hs_m (k : Int) : hs (fo k) 2 = hm k := by
  rcases kinds9 k with h | h | h | h | h | h | h | h | ⟨h, h1, h2, h3, h4, h5⟩
  all_goals first | (subst h; decide) | (rw [h, h2]; decide)
theorem hs_p (k : Int) : hs (fo k) 4 = hp k := by
  rcases kinds9 k with h | h | h | h | h | h | h | h | ⟨h, h1, h2, h3, h4, h5⟩
  all_goals first | (subst h; decide) | (rw [h, h3]; decide)
theorem hs_s (k : Int) : hs (fo k) 8 = hst k := by
  rcases kinds9 k with h | h | h | h | h | h | h | h | ⟨h, h1, h2, h3, h4, h5⟩
  all_goals first | (subst h; decide) | (rw [h, h4]; decide)
theorem hs_b (k : Int) : hs (fo k) 16 = hb k := by
  rcases kinds9 k with h | h | h | h | h | h | h | h | ⟨h, h1, h2, h3, h4, h5⟩
  all_goals first | (subst h; decide) | (rw [h, h5]; decide)

/-- May a note be? -/
def ms (k : Int) : Int := if k = 6 then 2 else if k = 8 then 250 else 1
def eq6 (a0 a1 a2 a3 a4 a5 b0 b1 b2 b3 b4 b5 : Int) : Bool := a0 == b0 && (a1 == b1 && (a2 == b2 && (a3 == b3 && (a4 == b4 && a5 == b5))))
def m0 (n : Nt) : Bool := eq6 n.m0 n.m1 n.m2 n.m3 n.m4 n.m5 0 0 0 0 0 0
def ft (n : Nt) (j : Nat) : Bool := if j = 1 then wi n.v 1 4094 else if j = 4 then wi n.p 0 1000 else if j = 8 then wi n.s 0 (ms n.k) else if j = 16 then decide ((n.b.length : Int) ≤ 1600) else true
def bl (n : Nt) (j : Nat) : Bool := if j = 1 then n.v == 0 else if j = 2 then m0 n else if j = 4 then n.p == 0 else if j = 8 then n.s == 0 else (n.b.length : Int) == 0
def ff (n : Nt) (j : Nat) : Bool := if hs (fo n.k) j then ft n j else bl n j
def rt (n : Nt) : Bool := wi n.k 0 8 && (ff n 1 && (ff n 2 && (ff n 4 && (ff n 8 && ff n 16))))
def rtp (p : Pk) : Bool := rt p.n && (sq p.e && (sq p.q && sq p.a))

/-- Its bytes. -/
def fb (n : Nt) (j : Nat) : List Int := if j = 1 then be 2 n.v else if j = 2 then ml n else if j = 4 then be 2 n.p else if j = 8 then be 1 n.s else be 2 (n.b.length : Int) ++ n.b
def fbs (n : Nt) (j : Nat) : List Int := if hs (fo n.k) j then fb n j else []
def hd (p : Pk) : List Int := be 4 p.e ++ be 4 p.q ++ be 4 p.a ++ be 1 p.n.k
def tl (n : Nt) : List Int := fbs n 1 ++ (fbs n 2 ++ (fbs n 4 ++ (fbs n 8 ++ fbs n 16)))
def enc (p : Pk) : List Int := hd p ++ tl p.n
def eb (p : Pk) : List Int := if rtp p then enc p else []
def ec (p : Pk) : Int := if rtp p then 0 else 1
theorem hd_length (p : Pk) : (hd p).length = 13 := by simp [hd, be_length]
theorem fb_rng {n : Nt} (h : NtB n) (j : Nat) : Rng (fb n j) := by
  unfold fb
  split
  · exact be_rng _ _
  split
  · exact h.m
  split
  · exact be_rng _ _
  split
  · exact be_rng _ _
  exact rng_append (be_rng _ _) h.b
theorem fbs_rng {n : Nt} (h : NtB n) (j : Nat) : Rng (fbs n j) := by
  unfold fbs
  split
  · exact fb_rng h j
  exact rng_nil
theorem hd_rng (p : Pk) : Rng (hd p) := rng_append (rng_append (rng_append (be_rng _ _) (be_rng _ _)) (be_rng _ _)) (be_rng _ _)
theorem enc_rng {p : Pk} (h : NtB p.n) : Rng (enc p) := rng_append (hd_rng p) (rng_append (fbs_rng h 1) (rng_append (fbs_rng h 2) (rng_append (fbs_rng h 4) (rng_append (fbs_rng h 8) (fbs_rng h 16)))))
theorem eb_rng {p : Pk} (h : NtB p.n) : Rng (eb p) := by
  unfold eb
  split
  · exact enc_rng h
  exact rng_nil

/-- Are two the same? -/
def neq (x y : Nt) : Bool := x.k == y.k && (x.v == y.v && (eq6 x.m0 x.m1 x.m2 x.m3 x.m4 x.m5 y.m0 y.m1 y.m2 y.m3 y.m4 y.m5 && (x.p == y.p && (x.s == y.s && decide (x.b = y.b)))))
def peq (x y : Pk) : Bool := x.e == y.e && (x.q == y.q && (x.a == y.a && neq x.n y.n))
theorem neq_iff (x y : Nt) : neq x y = true ↔ x = y := by
  obtain ⟨a, b, c0, c1, c2, c3, c4, c5, d, e, f⟩ := x
  obtain ⟨a', b', c0', c1', c2', c3', c4', c5', d', e', f'⟩ := y
  simp only [neq, eq6, Bool.and_eq_true, beq_iff_eq, decide_eq_true_eq, Nt.mk.injEq]
  constructor
  · rintro ⟨h1, h2, ⟨h3, h4, h5, h6, h7, h8⟩, h9, h10, h11⟩
    exact ⟨h1, h2, h3, h4, h5, h6, h7, h8, h9, h10, h11⟩
  · rintro ⟨h1, h2, h3, h4, h5, h6, h7, h8, h9, h10, h11⟩
    exact ⟨h1, h2, ⟨h3, h4, h5, h6, h7, h8⟩, h9, h10, h11⟩
theorem peq_iff (x y : Pk) : peq x y = true ↔ x = y := by
  obtain ⟨a, b, c, d⟩ := x
  obtain ⟨a', b', c', d'⟩ := y
  simp only [peq, Bool.and_eq_true, beq_iff_eq, neq_iff, Pk.mk.injEq]
theorem peq_dec (x y : Pk) : peq x y = true ∧ x = y ∨ peq x y = false ∧ ¬ x = y := by
  cases h : peq x y
  · exact Or.inr ⟨rfl, fun e => by rw [(peq_iff x y).2 e] at h; cases h⟩
  · exact Or.inl ⟨rfl, (peq_iff x y).1 h⟩
end Go.Proofs.YtijfcfpoimknmaaDoor
