/- Plain facts: what an info and a LACPDU are, their bytes, and which bytes are one. Nothing of the program. -/
import Derived.WalkKit
import Derived.Handy
namespace Go.Proofs.Ytaehhhknpbbmkaa
open Go.RowKit

/-- What one end tells of itself, as numbers. -/
structure Inf where
  sp : Int
  m0 : Int
  m1 : Int
  m2 : Int
  m3 : Int
  m4 : Int
  m5 : Int
  ky : Int
  pp : Int
  po : Int
  st : Int
structure Lac where
  a : Inf
  p : Inf
  dl : Int

/-- Numbers that are bytes. -/
def Rng (ns : List Int) : Prop := ∀ n ∈ ns, 0 ≤ n ∧ n ≤ 255
theorem rng_append {a b : List Int} (h : Rng a) (k : Rng b) : Rng (a ++ b) := by
  intro n hn
  rcases List.mem_append.1 hn with h1 | h1
  · exact h n h1
  · exact k n h1
theorem rng_cons {a : Int} {b : List Int} (h0 : 0 ≤ a) (h1 : a ≤ 255) (k : Rng b) : Rng (a :: b) := by
  intro n hn
  rcases List.mem_cons.1 hn with rfl | h1
  · exact ⟨h0, h1⟩
  · exact k n h1
theorem rng_nil : Rng [] := by intro n hn; cases hn
theorem rng_getD {a : List Int} (h : Rng a) (j : Nat) : 0 ≤ a.getD j 0 ∧ a.getD j 0 ≤ 255 := by
  rw [List.getD_eq_getElem?_getD]
  by_cases hj : j < a.length
  · rw [List.getElem?_eq_getElem hj]; exact h _ (List.getElem_mem hj)
  · rw [List.getElem?_eq_none (by omega)]; simp
theorem rng_drop {a : List Int} (h : Rng a) (j : Nat) : Rng (a.drop j) := fun n hn => h n (List.mem_of_mem_drop hn)
theorem rng_take {a : List Int} (h : Rng a) (j : Nat) : Rng (a.take j) := fun n hn => h n (List.mem_of_mem_take hn)

/-- An address's bytes. -/
def ml (x : Inf) : List Int := [x.m0, x.m1, x.m2, x.m3, x.m4, x.m5]
structure LacB (l : Lac) : Prop where
  a : Rng (ml l.a)
  p : Rng (ml l.p)

/-- Bytes 0. -/
def zs (n : Nat) : List Int := List.replicate n 0
theorem zs_length (n : Nat) : (zs n).length = n := by simp [zs]
theorem zs_rng (n : Nat) : Rng (zs n) := fun x hx => by rw [List.eq_of_mem_replicate hx]; omega
theorem zs_add (m n : Nat) : zs m ++ zs n = zs (m + n) := by simp [zs]
theorem zs_succ (n : Nat) : zs (n + 1) = 0 :: zs n := rfl
theorem zs_zero : zs 0 = [] := rfl

/-- May an info, and may one be? -/
def w16 (n : Int) : Bool := decide (0 ≤ n ∧ n ≤ 65535)
def irt (x : Inf) : Bool := decide ((0 ≤ x.sp ∧ x.sp ≤ 65535) ∧ (0 ≤ x.ky ∧ x.ky ≤ 65535) ∧ (0 ≤ x.pp ∧ x.pp ≤ 65535) ∧ (0 ≤ x.po ∧ x.po ≤ 65535) ∧ (0 ≤ x.st ∧ x.st ≤ 255))
def lrt (l : Lac) : Bool := irt l.a && irt l.p && w16 l.dl
/-- Its bytes. -/
def ibs (x : Inf) : List Int := [x.sp / 256, x.sp % 256, x.m0, x.m1, x.m2, x.m3, x.m4, x.m5, x.ky / 256, x.ky % 256, x.pp / 256, x.pp % 256, x.po / 256, x.po % 256, x.st, 0, 0, 0]
def enc (l : Lac) : List Int := [1, 1, 1, 20] ++ (ibs l.a ++ ([2, 20] ++ (ibs l.p ++ ([3, 16] ++ ([l.dl / 256, l.dl % 256] ++ zs 64)))))
def zeroI : Inf := ⟨0, 0, 0, 0, 0, 0, 0, 0, 0, 0, 0⟩
def zeroL : Lac := ⟨zeroI, zeroI, 0⟩
/-- What Encode answers. -/
def eb (l : Lac) : List Int := if lrt l then enc l else []
def ec (l : Lac) : Int := if lrt l then 0 else 1
theorem eb_yes {l : Lac} (h : lrt l = true) : eb l = enc l := by simp [eb, h]
theorem eb_no {l : Lac} (h : lrt l = false) : eb l = [] := by simp [eb, h]
theorem ec_yes {l : Lac} (h : lrt l = true) : ec l = 0 := by simp [ec, h]
theorem ec_no {l : Lac} (h : lrt l = false) : ec l = 1 := by simp [ec, h]

/-- The number of the first two bytes; the info that bytes tell. -/
def pr (l : List Int) : Int := l.getD 0 0 * 256 + l.getD 1 0
def inf (l : List Int) : Inf := ⟨pr l, l.getD 2 0, l.getD 3 0, l.getD 4 0, l.getD 5 0, l.getD 6 0, l.getD 7 0, pr (l.drop 8), pr (l.drop 10), pr (l.drop 12), l.getD 14 0⟩
/-- Do bytes begin as they must? -/
def mok (want l : List Int) : Bool := decide (l.take want.length = want)
/-- Do they begin with an info's? -/
def iok (l : List Int) : Bool := decide (18 ≤ l.length) && mok (zs 3) (l.drop 15)
/-- Are they one's? -/
def ok (l : List Int) : Bool :=
  mok [1, 1] l && (mok [1, 20] (l.drop 2) && (iok (l.drop 4) && (mok [2, 20] (l.drop 22) && (iok (l.drop 24) && (mok [3, 16] (l.drop 42) && (decide (46 ≤ l.length) && (mok (zs 12) (l.drop 46) && (mok [0, 0] (l.drop 58) && (mok (zs 50) (l.drop 60) && decide (l.length ≤ 110))))))))))
def lac (l : List Int) : Lac := ⟨inf (l.drop 4), inf (l.drop 24), pr (l.drop 44)⟩
/-- What Decode answers. -/
def dl (l : List Int) : Lac := if ok l then lac l else zeroL
def dc (l : List Int) : Int := if ok l then 0 else 2
theorem dl_yes {l : List Int} (h : ok l = true) : dl l = lac l := by simp [dl, h]
theorem dl_no {l : List Int} (h : ok l = false) : dl l = zeroL := by simp [dl, h]
theorem dc_yes {l : List Int} (h : ok l = true) : dc l = 0 := by simp [dc, h]
theorem dc_no {l : List Int} (h : ok l = false) : dc l = 2 := by simp [dc, h]

theorem irt_and {x : Inf} (h : irt x = true) : (0 ≤ x.sp ∧ x.sp ≤ 65535) ∧ (0 ≤ x.ky ∧ x.ky ≤ 65535) ∧ (0 ≤ x.pp ∧ x.pp ≤ 65535) ∧ (0 ≤ x.po ∧ x.po ≤ 65535) ∧ (0 ≤ x.st ∧ x.st ≤ 255) := of_decide_eq_true h
theorem w16_and {n : Int} (h : w16 n = true) : 0 ≤ n ∧ n ≤ 65535 := of_decide_eq_true h
theorem lrt_and {l : Lac} (h : lrt l = true) : irt l.a = true ∧ irt l.p = true ∧ w16 l.dl = true := by
  simp only [lrt, Bool.and_eq_true] at h
  exact ⟨h.1.1, h.1.2, h.2⟩
theorem ibs_length (x : Inf) : (ibs x).length = 18 := rfl
theorem enc_length (l : Lac) : (enc l).length = 110 := rfl
theorem ibs_rng {x : Inf} (h : Rng (ml x)) (k : irt x = true) : Rng (ibs x) := by
  obtain ⟨h1, h2, h3, h4, h5⟩ := irt_and k
  have g := h
  unfold ml at g
  have q : Rng ([x.sp / 256, x.sp % 256] ++ (ml x ++ [x.ky / 256, x.ky % 256, x.pp / 256, x.pp % 256, x.po / 256, x.po % 256, x.st, 0, 0, 0])) := by
    refine rng_append (rng_cons (by omega) (by omega) (rng_cons (by omega) (by omega) rng_nil)) (rng_append h ?_)
    exact rng_cons (by omega) (by omega) (rng_cons (by omega) (by omega) (rng_cons (by omega) (by omega) (rng_cons (by omega) (by omega) (rng_cons (by omega) (by omega) (rng_cons (by omega) (by omega) (rng_cons (by omega) (by omega) (rng_cons (by omega) (by omega) (rng_cons (by omega) (by omega) (rng_cons (by omega) (by omega) rng_nil)))))))))
  exact q
theorem enc_rng {l : Lac} (h : LacB l) (k : lrt l = true) : Rng (enc l) := by
  obtain ⟨k1, k2, k3⟩ := lrt_and k
  have k4 := w16_and k3
  refine rng_append (rng_cons (by omega) (by omega) (rng_cons (by omega) (by omega) (rng_cons (by omega) (by omega) (rng_cons (by omega) (by omega) rng_nil)))) (rng_append (ibs_rng h.a k1) (rng_append (rng_cons (by omega) (by omega) (rng_cons (by omega) (by omega) rng_nil)) (rng_append (ibs_rng h.p k2) (rng_append (rng_cons (by omega) (by omega) (rng_cons (by omega) (by omega) rng_nil)) (rng_append (rng_cons (by omega) (by omega) (rng_cons (by omega) (by omega) rng_nil)) (zs_rng 64))))))
theorem eb_rng {l : Lac} (h : LacB l) : Rng (eb l) := by
  cases k : lrt l
  · rw [eb_no k]; exact rng_nil
  · rw [eb_yes k]; exact enc_rng h k

theorem inf_ibs {x : Inf} (k : irt x = true) (r : List Int) : inf (ibs x ++ r) = x := by
  obtain ⟨h1, h2, h3, h4, h5⟩ := irt_and k
  obtain ⟨sp, m0, m1, m2, m3, m4, m5, ky, pp, po, st⟩ := x
  simp only at h1 h2 h3 h4 h5
  simp only [inf, ibs, pr, List.cons_append, List.nil_append, List.getD_cons_zero, List.getD_cons_succ, List.drop_succ_cons, List.drop_zero, Inf.mk.injEq, true_and, and_true]
  exact ⟨by omega, by omega, by omega, by omega⟩
theorem iok_ibs (x : Inf) (r : List Int) : iok (ibs x ++ r) = true := by
  have h : (ibs x ++ r).drop 15 = 0 :: 0 :: 0 :: r := rfl
  have g : 18 ≤ (ibs x ++ r).length := by rw [List.length_append, ibs_length]; omega
  simp only [iok, Bool.and_eq_true, decide_eq_true_eq, h]
  refine ⟨g, ?_⟩
  simp [mok, zs, List.replicate]
theorem ok_enc (l : Lac) : ok (enc l) = true := by
  have e1 : (enc l).drop 4 = ibs l.a ++ ([2, 20] ++ (ibs l.p ++ ([3, 16] ++ ([l.dl / 256, l.dl % 256] ++ zs 64)))) := rfl
  have e2 : (enc l).drop 24 = ibs l.p ++ ([3, 16] ++ ([l.dl / 256, l.dl % 256] ++ zs 64)) := rfl
  have i1 := iok_ibs l.a ([2, 20] ++ (ibs l.p ++ ([3, 16] ++ ([l.dl / 256, l.dl % 256] ++ zs 64))))
  have i2 := iok_ibs l.p ([3, 16] ++ ([l.dl / 256, l.dl % 256] ++ zs 64))
  rw [← e1] at i1
  rw [← e2] at i2
  have q1 : mok [1, 1] (enc l) = true := decide_eq_true rfl
  have q2 : mok [1, 20] ((enc l).drop 2) = true := decide_eq_true rfl
  have q3 : mok [2, 20] ((enc l).drop 22) = true := decide_eq_true rfl
  have q4 : mok [3, 16] ((enc l).drop 42) = true := decide_eq_true rfl
  have q5 : mok (zs 12) ((enc l).drop 46) = true := decide_eq_true rfl
  have q6 : mok [0, 0] ((enc l).drop 58) = true := decide_eq_true rfl
  have q7 : mok (zs 50) ((enc l).drop 60) = true := decide_eq_true rfl
  have q8 := enc_length l
  simp only [ok, q1, q2, q3, q4, q5, q6, q7, i1, i2, q8, Bool.true_and]
  decide
theorem lac_enc {l : Lac} (k : lrt l = true) : lac (enc l) = l := by
  obtain ⟨k1, k2, k3⟩ := lrt_and k
  have k4 := w16_and k3
  have e1 : (enc l).drop 4 = ibs l.a ++ ([2, 20] ++ (ibs l.p ++ ([3, 16] ++ ([l.dl / 256, l.dl % 256] ++ zs 64)))) := rfl
  have e2 : (enc l).drop 24 = ibs l.p ++ ([3, 16] ++ ([l.dl / 256, l.dl % 256] ++ zs 64)) := rfl
  have e3 : (enc l).drop 44 = [l.dl / 256, l.dl % 256] ++ zs 64 := rfl
  simp only [lac, e1, e2, e3, inf_ibs k1, inf_ibs k2]
  have e4 : pr ([l.dl / 256, l.dl % 256] ++ zs 64) = l.dl := by
    simp only [pr, List.cons_append, List.nil_append, List.getD_cons_zero, List.getD_cons_succ]
    omega
  rw [e4]

theorem two_of {x y : Int} (_hx : 0 ≤ x ∧ x ≤ 255) (hy : 0 ≤ y ∧ y ≤ 255) : (x * 256 + y) / 256 = x ∧ (x * 256 + y) % 256 = y := by omega
theorem listC9 {α : Type} (l : List α) (h : 9 ≤ l.length) : ∃ x0 x1 x2 x3 x4 x5 x6 x7 x8 r, l = x0 :: x1 :: x2 :: x3 :: x4 :: x5 :: x6 :: x7 :: x8 :: r := by
  match l, h with
  | x0 :: x1 :: x2 :: x3 :: x4 :: x5 :: x6 :: x7 :: x8 :: r, _ => exact ⟨x0, x1, x2, x3, x4, x5, x6, x7, x8, r, rfl⟩
theorem listC18 {α : Type} (l : List α) (h : 18 ≤ l.length) : ∃ x0 x1 x2 x3 x4 x5 x6 x7 x8 x9 x10 x11 x12 x13 x14 x15 x16 x17 r, l = x0 :: x1 :: x2 :: x3 :: x4 :: x5 :: x6 :: x7 :: x8 :: x9 :: x10 :: x11 :: x12 :: x13 :: x14 :: x15 :: x16 :: x17 :: r := by
  obtain ⟨x0, x1, x2, x3, x4, x5, x6, x7, x8, q, rfl⟩ := listC9 l (by omega)
  simp only [List.length_cons] at h
  obtain ⟨x9, x10, x11, x12, x13, x14, x15, x16, x17, r, rfl⟩ := listC9 q (by omega)
  exact ⟨x0, x1, x2, x3, x4, x5, x6, x7, x8, x9, x10, x11, x12, x13, x14, x15, x16, x17, r, rfl⟩
theorem ibs_inf {l : List Int} (hr : Rng l) (h : iok l = true) : ibs (inf l) ++ l.drop 18 = l := by
  simp only [iok, Bool.and_eq_true, decide_eq_true_eq] at h
  obtain ⟨h1, h2⟩ := h
  obtain ⟨x0, x1, x2, x3, x4, x5, x6, x7, x8, x9, x10, x11, x12, x13, x14, x15, x16, x17, r, rfl⟩ := listC18 l h1
  have g : ∀ n, n ∈ x0 :: x1 :: x2 :: x3 :: x4 :: x5 :: x6 :: x7 :: x8 :: x9 :: x10 :: x11 :: x12 :: x13 :: x14 :: x15 :: x16 :: x17 :: r → 0 ≤ n ∧ n ≤ 255 := hr
  have a1 := two_of (g x0 (by simp)) (g x1 (by simp))
  have a2 := two_of (g x8 (by simp)) (g x9 (by simp))
  have a3 := two_of (g x10 (by simp)) (g x11 (by simp))
  have a4 := two_of (g x12 (by simp)) (g x13 (by simp))
  simp [mok, zs, List.replicate] at h2
  obtain ⟨rfl, rfl, rfl⟩ := h2
  simp only [ibs, inf, pr, List.getD_cons_zero, List.getD_cons_succ, List.drop_succ_cons, List.drop_zero, a1.1, a1.2, a2.1, a2.2, a3.1, a3.2, a4.1, a4.2, List.cons_append, List.nil_append]
theorem inf_irt {l : List Int} (hr : Rng l) : irt (inf l) = true := by
  have g := fun j => rng_getD hr j
  have q8 := fun j => rng_getD (rng_drop hr 8) j
  have q10 := fun j => rng_getD (rng_drop hr 10) j
  have q12 := fun j => rng_getD (rng_drop hr 12) j
  have a0 := g 0; have a1 := g 1; have a14 := g 14
  have b0 := q8 0; have b1 := q8 1; have c0 := q10 0; have c1 := q10 1; have d0 := q12 0; have d1 := q12 1
  exact decide_eq_true (by simp only [inf, pr]; omega)
theorem pr_w16 {l : List Int} (hr : Rng l) : w16 (pr l) = true := by
  have a0 := rng_getD hr 0; have a1 := rng_getD hr 1
  exact decide_eq_true (by simp only [pr]; omega)
theorem lac_lrt {l : List Int} (hr : Rng l) : lrt (lac l) = true := by
  simp only [lrt, lac, inf_irt (rng_drop hr 4), inf_irt (rng_drop hr 24), pr_w16 (rng_drop hr 44), Bool.and_true]
theorem inf_rng {l : List Int} (hr : Rng l) : Rng (ml (inf l)) := by
  have g := fun j => rng_getD hr j
  have a2 := g 2; have a3 := g 3; have a4 := g 4; have a5 := g 5; have a6 := g 6; have a7 := g 7
  exact rng_cons a2.1 a2.2 (rng_cons a3.1 a3.2 (rng_cons a4.1 a4.2 (rng_cons a5.1 a5.2 (rng_cons a6.1 a6.2 (rng_cons a7.1 a7.2 rng_nil)))))
theorem lac_B {l : List Int} (hr : Rng l) : LacB (lac l) := ⟨inf_rng (rng_drop hr 4), inf_rng (rng_drop hr 24)⟩
theorem zeroL_B : LacB zeroL := ⟨fun n hn => by simp [ml, zeroL, zeroI] at hn; omega, fun n hn => by simp [ml, zeroL, zeroI] at hn; omega⟩
theorem dl_B {l : List Int} (hr : Rng l) : LacB (dl l) := by
  cases h : ok l
  · rw [dl_no h]; exact zeroL_B
  · rw [dl_yes h]; exact lac_B hr
theorem mok_split {want l : List Int} (h : mok want l = true) : want ++ l.drop want.length = l := by
  have e : l.take want.length = want := of_decide_eq_true h
  have g := List.take_append_drop want.length l
  rw [e] at g
  exact g
theorem listC2 {α : Type} (l : List α) (h : 2 ≤ l.length) : ∃ y0 y1 r, l = y0 :: y1 :: r := by
  match l, h with
  | y0 :: y1 :: r, _ => exact ⟨y0, y1, r, rfl⟩
theorem pr_split {l : List Int} (hr : Rng l) (h : 2 ≤ l.length) : [pr l / 256, pr l % 256] ++ l.drop 2 = l := by
  obtain ⟨x, y, r, rfl⟩ := listC2 l h
  have g : ∀ n, n ∈ x :: y :: r → 0 ≤ n ∧ n ≤ 255 := hr
  have a1 := two_of (g x (by simp)) (g y (by simp))
  simp only [pr, List.getD_cons_zero, List.getD_cons_succ, a1.1, a1.2, List.drop_succ_cons, List.drop_zero, List.cons_append, List.nil_append]
theorem ok_and {l : List Int} (h : ok l = true) : mok [1, 1] l = true ∧ mok [1, 20] (l.drop 2) = true ∧ iok (l.drop 4) = true ∧ mok [2, 20] (l.drop 22) = true ∧ iok (l.drop 24) = true ∧ mok [3, 16] (l.drop 42) = true ∧ 46 ≤ l.length ∧ mok (zs 12) (l.drop 46) = true ∧ mok [0, 0] (l.drop 58) = true ∧ mok (zs 50) (l.drop 60) = true ∧ l.length ≤ 110 := by
  simp only [ok, Bool.and_eq_true, decide_eq_true_eq] at h
  exact h
theorem enc_lac {l : List Int} (hr : Rng l) (h : ok l = true) : enc (lac l) = l := by
  obtain ⟨h1, h2, h3, h4, h5, h6, h7, h8, h9, h10, h11⟩ := ok_and h
  have s1 := mok_split h1
  have s2 := mok_split h2
  have s3 := ibs_inf (rng_drop hr 4) h3
  have s4 := mok_split h4
  have s5 := ibs_inf (rng_drop hr 24) h5
  have s6 := mok_split h6
  have s7 := pr_split (rng_drop hr 44) (by rw [List.length_drop]; omega)
  have s8 := mok_split h8
  have s9 := mok_split h9
  have s10 := mok_split h10
  simp only [List.drop_drop, List.length_cons, List.length_nil, zs_length, Nat.reduceAdd] at s1 s2 s3 s4 s5 s6 s7 s8 s9 s10
  have s11 : l.drop 110 = [] := List.drop_eq_nil_of_le h11
  rw [s11, List.append_nil] at s10
  rw [← s10] at s9
  rw [← s9] at s8
  rw [← s8] at s7
  rw [← s7] at s6
  rw [← s6] at s5
  rw [← s5] at s4
  rw [← s4] at s3
  rw [← s3] at s2
  rw [← s2] at s1
  have e : zs 64 = zs 12 ++ ([0, 0] ++ zs 50) := rfl
  unfold enc lac
  rw [e]
  exact s1
theorem ok_iff {l : List Int} (hr : Rng l) : ok l = decide (enc (lac l) = l) := by
  rw [Bool.eq_iff_iff, decide_eq_true_eq]
  exact ⟨enc_lac hr, fun h => by rw [← h]; exact ok_enc _⟩
theorem ok_length {l : List Int} (h : ok l = true) : l.length = 110 := by
  obtain ⟨h1, h2, h3, h4, h5, h6, h7, h8, h9, h10, h11⟩ := ok_and h
  have e : (l.drop 60).take (zs 50).length = zs 50 := of_decide_eq_true h10
  have e2 := congrArg List.length e
  rw [List.length_take, List.length_drop, zs_length] at e2
  omega
theorem enc_inj {l m : Lac} (h : lrt l = true) (k : lrt m = true) (e : enc l = enc m) : l = m := by
  rw [← lac_enc h, ← lac_enc k, e]
end Go.Proofs.Ytaehhhknpbbmkaa
