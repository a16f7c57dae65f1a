/- Plain facts: what an id and a BPDU are, their bytes, which bytes are one, and the walk through the fields with any step. Nothing of the program. -/
import Derived.WalkKit
import Derived.Handy
namespace Go.Proofs.Ytdaglmimfkcmeaa
open Go.RowKit

/-- A bridge's id, and a BPDU, as numbers. -/
structure Idn where
  pr : Int
  m0 : Int
  m1 : Int
  m2 : Int
  m3 : Int
  m4 : Int
  m5 : Int
structure Bpd where
  kd : Int
  fl : Int
  r : Idn
  c : Int
  b : Idn
  po : Int
  ag : Int
  mx : Int
  he : Int
  fw : Int

/-- Numbers that are bytes. -/
def Rng (ns : List Int) : Prop := ∀ n ∈ ns, 0 ≤ n ∧ n ≤ 255
theorem rng_append {a b : List Int} (h : Rng a) (k : Rng b) : Rng (a ++ b) := by
  intro n hn
  rcases List.mem_append.1 hn with h1 | h1
  · exact h n h1
  · exact k n h1
theorem rng_cons {a : Int} {b : List Int} (h0 : 0 ≤ a) (h1 : a ≤ 255) (k : Rng b) : Rng (a :: b) := by
  intro n hn
  rcases List.mem_cons.1 hn with rfl | h1
  · exact ⟨h0, h1⟩
  · exact k n h1
theorem rng_nil : Rng [] := by intro n hn; cases hn
theorem rng_left {a b : List Int} (h : Rng (a ++ b)) : Rng a := fun n hn => h n (List.mem_append.2 (Or.inl hn))
theorem rng_right {a b : List Int} (h : Rng (a ++ b)) : Rng b := fun n hn => h n (List.mem_append.2 (Or.inr hn))
theorem rng_getD {a : List Int} (h : Rng a) (j : Nat) : 0 ≤ a.getD j 0 ∧ a.getD j 0 ≤ 255 := by
  rw [List.getD_eq_getElem?_getD]
  by_cases hj : j < a.length
  · rw [List.getElem?_eq_getElem hj]; exact h _ (List.getElem_mem hj)
  · rw [List.getElem?_eq_none (by omega)]; simp
theorem rng_drop {a : List Int} (h : Rng a) (j : Nat) : Rng (a.drop j) := fun n hn => h n (List.mem_of_mem_drop hn)
theorem rng_take {a : List Int} (h : Rng a) (j : Nat) : Rng (a.take j) := fun n hn => h n (List.mem_of_mem_take hn)

/-- A number in so many bytes; the number of bytes; whether it goes into so many. -/
def be : Nat → Int → List Int
  | 0, _ => []
  | s + 1, n => be s (n / 256) ++ [n % 256]
def nb (l : List Int) : Int := l.foldl (fun a x => a * 256 + x) 0
def fit (s : Nat) (n : Int) : Bool := decide (0 ≤ n ∧ n < 256 ^ s)
theorem be_length : ∀ (s : Nat) (n : Int), (be s n).length = s
  | 0, _ => rfl
  | s + 1, n => by simp [be, be_length s]
theorem be_rng : ∀ (s : Nat) (n : Int), Rng (be s n)
  | 0, _ => rng_nil
  | s + 1, n => rng_append (be_rng s _) (rng_cons (by omega) (by omega) rng_nil)
theorem nb_snoc (l : List Int) (x : Int) : nb (l ++ [x]) = nb l * 256 + x := by simp [nb]
theorem nb_be : ∀ (s : Nat) (n : Int), 0 ≤ n → n < 256 ^ s → nb (be s n) = n
  | 0, n, h0, h1 => by
    have : n = 0 := by simp at h1; omega
    subst this
    rfl
  | s + 1, n, h0, h1 => by
    rw [be, nb_snoc, nb_be s (n / 256) (by omega) (by rw [Int.pow_succ] at h1; omega)]
    omega
theorem pow_pos' (s : Nat) : (0 : Int) < 256 ^ s := Int.pow_pos (by omega)
theorem list_snoc {α : Type} (l : List α) (s : Nat) (h : l.length = s + 1) : ∃ a x, l = a ++ [x] ∧ a.length = s := by
  have hne : l ≠ [] := by intro e; rw [e] at h; simp at h
  refine ⟨l.dropLast, l.getLast hne, (List.dropLast_concat_getLast hne).symm, by simp [h]⟩
theorem nb_fit : ∀ (s : Nat) (l : List Int), l.length = s → Rng l → 0 ≤ nb l ∧ nb l < 256 ^ s
  | 0, l, h, _ => by
    obtain rfl := List.eq_nil_of_length_eq_zero h
    simp [nb]
  | s + 1, l, h, hr => by
    obtain ⟨a, x, rfl, ha⟩ := list_snoc l s h
    have ih := nb_fit s a ha (rng_left hr)
    have hx := hr x (by simp)
    rw [nb_snoc, Int.pow_succ]
    omega
theorem be_nb : ∀ (s : Nat) (l : List Int), l.length = s → Rng l → be s (nb l) = l
  | 0, l, h, _ => by
    obtain rfl := List.eq_nil_of_length_eq_zero h
    rfl
  | s + 1, l, h, hr => by
    obtain ⟨a, x, rfl, ha⟩ := list_snoc l s h
    have ih := be_nb s a ha (rng_left hr)
    have hx := hr x (by simp)
    rw [nb_snoc, be, show (nb a * 256 + x) / 256 = nb a by omega, show (nb a * 256 + x) % 256 = x by omega, ih]
theorem fit_and {s : Nat} {n : Int} (h : fit s n = true) : 0 ≤ n ∧ n < 256 ^ s := of_decide_eq_true h
theorem fit_nb {l : List Int} (s : Nat) (h : l.length = s) (hr : Rng l) : fit s (nb l) = true := decide_eq_true (nb_fit s l h hr)

/-- Six bytes as a number, and a number as six bytes. -/
def num (a0 a1 a2 a3 a4 a5 : Int) : Int := ((((a0 * 256 + a1) * 256 + a2) * 256 + a3) * 256 + a4) * 256 + a5
def ml (x : Idn) : List Int := [x.m0, x.m1, x.m2, x.m3, x.m4, x.m5]
def nm (x : Idn) : Int := num x.m0 x.m1 x.m2 x.m3 x.m4 x.m5
def ofN (p n : Int) : Idn := ⟨p, n / 256 / 256 / 256 / 256 / 256 % 256, n / 256 / 256 / 256 / 256 % 256, n / 256 / 256 / 256 % 256, n / 256 / 256 % 256, n / 256 % 256, n % 256⟩
theorem nm_nb (x : Idn) : nm x = nb (ml x) := by simp [nm, nb, ml, num]
theorem ml_ofN (p n : Int) : ml (ofN p n) = be 6 n := rfl
theorem nm_fit {x : Idn} (h : Rng (ml x)) : 0 ≤ nm x ∧ nm x < 281474976710656 := by
  have := nb_fit 6 (ml x) rfl h
  rw [nm_nb]
  exact ⟨this.1, by have := this.2; simpa using this⟩
theorem ofN_nm {x : Idn} (h : Rng (ml x)) : ofN x.pr (nm x) = x := by
  have e : ml (ofN x.pr (nm x)) = ml x := by rw [ml_ofN, nm_nb, be_nb 6 _ rfl h]
  obtain ⟨p, a, b, c, d, e', f⟩ := x
  simp only [ml, ofN, List.cons.injEq, and_true] at e ⊢
  obtain ⟨h0, h1, h2, h3, h4, h5⟩ := e
  rw [h0, h1, h2, h3, h4, h5]
theorem nm_fitB {x : Idn} (h : Rng (ml x)) : fit 6 (nm x) = true := by
  rw [nm_nb]; exact fit_nb 6 rfl h
theorem be_nm {x : Idn} (h : Rng (ml x)) : be 6 (nm x) = ml x := by rw [nm_nb, be_nb 6 _ rfl h]

structure BpdB (p : Bpd) : Prop where
  r : Rng (ml p.r)
  b : Rng (ml p.b)
def zeroI : Idn := ⟨0, 0, 0, 0, 0, 0, 0⟩
def zeroB : Bpd := ⟨0, 0, zeroI, 0, zeroI, 0, 0, 0, 0, 0⟩
def bare : Bpd := ⟨128, 0, zeroI, 0, zeroI, 0, 0, 0, 0, 0⟩
theorem zeroI_B : Rng (ml zeroI) := fun n hn => by simp [ml, zeroI] at hn; omega

/-- May one be? -/
def knw (k : Int) : Bool := k == 0 || k == 2 || k == 128
def ver (k : Int) : Int := if k = 2 then 2 else 0
def fts (p : Bpd) : Bool := fit 1 p.fl && (fit 2 p.r.pr && (fit 4 p.c && (fit 2 p.b.pr && (fit 2 p.po && (fit 2 p.ag && (fit 2 p.mx && (fit 2 p.he && fit 2 p.fw)))))))
/-- Are two the same? -/
def eq6 (a0 a1 a2 a3 a4 a5 b0 b1 b2 b3 b4 b5 : Int) : Bool := a0 == b0 && (a1 == b1 && (a2 == b2 && (a3 == b3 && (a4 == b4 && a5 == b5))))
def ieq (x y : Idn) : Bool := x.pr == y.pr && eq6 x.m0 x.m1 x.m2 x.m3 x.m4 x.m5 y.m0 y.m1 y.m2 y.m3 y.m4 y.m5
def bpeq (p q : Bpd) : Bool := p.kd == q.kd && (p.fl == q.fl && (ieq p.r q.r && (p.c == q.c && (ieq p.b q.b && (p.po == q.po && (p.ag == q.ag && (p.mx == q.mx && (p.he == q.he && p.fw == q.fw))))))))
theorem ieq_iff (x y : Idn) : ieq x y = true ↔ x = y := by
  obtain ⟨a, b0, b1, b2, b3, b4, b5⟩ := x
  obtain ⟨a', b0', b1', b2', b3', b4', b5'⟩ := y
  simp only [ieq, eq6, Bool.and_eq_true, beq_iff_eq, Idn.mk.injEq]
theorem bpeq_iff (p q : Bpd) : bpeq p q = true ↔ p = q := by
  obtain ⟨a, b, c, d, e, f, g, h, i, j⟩ := p
  obtain ⟨a', b', c', d', e', f', g', h', i', j'⟩ := q
  simp only [bpeq, Bool.and_eq_true, beq_iff_eq, ieq_iff, Bpd.mk.injEq]
theorem bpeq_self (p : Bpd) : bpeq p p = true := (bpeq_iff p p).2 rfl
theorem ieq_self (p : Idn) : ieq p p = true := (ieq_iff p p).2 rfl
def brt (p : Bpd) : Bool := if p.kd = 128 then bpeq p bare else knw p.kd && fts p
theorem brt_ch {p : Bpd} (h : p.kd = 128) : brt p = bpeq p bare := by simp [brt, h]
theorem brt_no {p : Bpd} (h : ¬ p.kd = 128) : brt p = (knw p.kd && fts p) := by simp [brt, h]
theorem bare_brt : brt bare = true := by decide
/-- Its bytes. -/
def ib (x : Idn) : List Int := be 2 x.pr ++ ml x
def bdy (p : Bpd) : List Int := be 1 p.fl ++ (ib p.r ++ (be 4 p.c ++ (ib p.b ++ (be 2 p.po ++ (be 2 p.ag ++ (be 2 p.mx ++ (be 2 p.he ++ be 2 p.fw)))))))
def enc (p : Bpd) : List Int := [0, 0, ver p.kd, p.kd] ++ (if p.kd = 128 then [] else bdy p ++ (if p.kd = 2 then [0] else []))
/-- What Encode answers. -/
def eb (p : Bpd) : List Int := if brt p then enc p else []
def ec (p : Bpd) : Int := if brt p then 0 else 1
theorem eb_yes {p : Bpd} (h : brt p = true) : eb p = enc p := by simp [eb, h]
theorem eb_no {p : Bpd} (h : brt p = false) : eb p = [] := by simp [eb, h]
theorem ec_yes {p : Bpd} (h : brt p = true) : ec p = 0 := by simp [ec, h]
theorem ec_no {p : Bpd} (h : brt p = false) : ec p = 1 := by simp [ec, h]
theorem ib_length (x : Idn) : (ib x).length = 8 := by simp [ib, be_length, ml]
theorem bdy_length (p : Bpd) : (bdy p).length = 31 := by simp [bdy, be_length, ib_length]
theorem ib_rng {x : Idn} (h : Rng (ml x)) : Rng (ib x) := rng_append (be_rng _ _) h
theorem bdy_rng {p : Bpd} (h : BpdB p) : Rng (bdy p) :=
  rng_append (be_rng _ _) (rng_append (ib_rng h.r) (rng_append (be_rng _ _) (rng_append (ib_rng h.b) (rng_append (be_rng _ _) (rng_append (be_rng _ _) (rng_append (be_rng _ _) (rng_append (be_rng _ _) (be_rng _ _))))))))
theorem knw_or {k : Int} (h : knw k = true) : k = 0 ∨ k = 2 ∨ k = 128 := by simp [knw] at h; omega
theorem knw_not {k : Int} (h : knw k = false) : ¬ k = 0 ∧ ¬ k = 2 ∧ ¬ k = 128 := by simp [knw] at h; omega
theorem brt_knw {p : Bpd} (h : brt p = true) : knw p.kd = true := by
  by_cases k : p.kd = 128
  · simp [knw, k]
  · rw [brt_no k, Bool.and_eq_true] at h; exact h.1
theorem brt_bare {p : Bpd} (h : brt p = true) (k : p.kd = 128) : p = bare := by
  rw [brt_ch k] at h; exact (bpeq_iff _ _).1 h
theorem brt_fts {p : Bpd} (h : brt p = true) (k : ¬ p.kd = 128) : fts p = true := by
  rw [brt_no k, Bool.and_eq_true] at h; exact h.2
theorem ver_rng (k : Int) : 0 ≤ ver k ∧ ver k ≤ 255 := by unfold ver; split <;> omega
theorem enc_rng {p : Bpd} (h : BpdB p) (k : brt p = true) : Rng (enc p) := by
  have v := ver_rng p.kd
  have kk := knw_or (brt_knw k)
  refine rng_append (rng_cons (by omega) (by omega) (rng_cons (by omega) (by omega) (rng_cons v.1 v.2 (rng_cons (by omega) (by omega) rng_nil)))) ?_
  split
  · exact rng_nil
  · refine rng_append (bdy_rng h) ?_
    split
    · exact rng_cons (by omega) (by omega) rng_nil
    · exact rng_nil
theorem eb_rng {p : Bpd} (h : BpdB p) : Rng (eb p) := by
  cases k : brt p
  · rw [eb_no k]; exact rng_nil
  · rw [eb_yes k]; exact enc_rng h k
theorem enc_length (p : Bpd) : (enc p).length = if p.kd = 128 then 4 else if p.kd = 2 then 36 else 35 := by
  unfold enc
  by_cases h : p.kd = 128
  · simp [h]
  · by_cases k : p.kd = 2
    · simp [k, bdy_length]
    · simp [h, k, bdy_length]

/-- The walk: what a step answers is nothing known, a panic, or a state and a number. -/
abbrev Rs (σ α : Type) := Option (Option (σ × α))
def bnd {σ α β : Type} (r : Rs σ α) (f : σ → α → Rs σ β) : Rs σ β :=
  match r with
  | none => none
  | some none => some none
  | some (some (s, a)) => f s a
def mst {σ α : Type} (b : Bool) (r : Rs σ α) : Rs σ α := if b then r else some none
def rtn {σ α : Type} (s : σ) (a : α) : Rs σ α := some (some (s, a))
theorem bnd_ret {σ α β : Type} (s : σ) (a : α) (f : σ → α → Rs σ β) : bnd (some (some (s, a))) f = f s a := rfl
theorem bnd_some {σ α β : Type} {r : Rs σ α} {f : σ → α → Rs σ β} {q : Option (σ × β)} (h : bnd r f = some q) : ∃ r1, r = some r1 ∧ (r1 = none → q = none) ∧ (∀ s a, r1 = some (s, a) → f s a = some q) := by
  match r, h with
  | some none, h => exact ⟨none, rfl, fun _ => (Option.some.inj h).symm, fun s a e => by cases e⟩
  | some (some (s, a)), h => exact ⟨some (s, a), rfl, fun e => (by cases e), fun s' a' e => by injection e with e; injection e with e1 e2; subst e1 e2; exact h⟩
theorem bnd_ok {σ α β : Type} {r : Rs σ α} {f : σ → α → Rs σ β} {q : σ × β} (h : bnd r f = some (some q)) : ∃ s a, r = some (some (s, a)) ∧ f s a = some (some q) := by
  match r, h with
  | some (some (s, a)), h => exact ⟨s, a, rfl, h⟩
theorem mst_ok {σ α : Type} {b : Bool} {r : Rs σ α} {q : σ × α} (h : mst b r = some (some q)) : b = true ∧ r = some (some q) := by
  cases b
  · cases h
  · exact ⟨rfl, h⟩
theorem mst_yes {σ α : Type} {b : Bool} (r : Rs σ α) (h : b = true) : mst b r = r := by rw [h]; rfl
theorem mst0 {σ α : Type} (r : Rs σ α) : mst ((0 : Int) == 0) r = r := rfl
def Stp (σ : Type) := σ → Int → Nat → Rs σ Int
def wHead {σ : Type} (st : Stp σ) (s : σ) (kd : Int) : Rs σ Int :=
  bnd (st s 0 2) fun s a => mst (a == 0) <| bnd (st s (ver kd) 1) fun s v => bnd (st s kd 1) fun s k => mst (knw k && v == ver k) (rtn s k)
def wId {σ : Type} (st : Stp σ) (s : σ) (x : Idn) : Rs σ Idn :=
  bnd (st s x.pr 2) fun s p => bnd (st s (nm x) 6) fun s n => rtn s (ofN p n)
def wRest {σ : Type} (st : Stp σ) (s : σ) (p : Bpd) : Rs σ Bpd :=
  bnd (st s p.fl 1) fun s fl => bnd (wId st s p.r) fun s r => bnd (st s p.c 4) fun s c => bnd (wId st s p.b) fun s b => bnd (st s p.po 2) fun s po => bnd (st s p.ag 2) fun s ag => bnd (st s p.mx 2) fun s mx => bnd (st s p.he 2) fun s he => bnd (st s p.fw 2) fun s fw =>
    if p.kd = 2 then bnd (st s 0 1) fun s z => mst (z == 0) (rtn s ⟨p.kd, fl, r, c, b, po, ag, mx, he, fw⟩) else rtn s ⟨p.kd, fl, r, c, b, po, ag, mx, he, fw⟩
def wAll {σ : Type} (st : Stp σ) (s : σ) (p : Bpd) : Rs σ Bpd :=
  bnd (wHead st s p.kd) fun s k => if k = 128 then rtn s { p with kd := k } else wRest st s { p with kd := k }

/-- The three steps: does each number fit, put its bytes down, read them. -/
def sFit : Stp Bool := fun a n k => some (some (a && fit k n, n))
def sEnc : Stp (List Int) := fun l n k => if l.length + k ≤ 36 ∧ fit k n = true then some (some (l ++ be k n, n)) else none
def sRd : Stp (List Int) := fun l _ k => if k ≤ l.length then some (some (l.drop k, nb (l.take k))) else some none

theorem wFit {p : Bpd} (h : BpdB p) (k : knw p.kd = true) (k2 : ¬ p.kd = 128) : ∃ q, wAll sFit true p = some (some (fts p, q)) := by
  have e1 : wHead sFit true p.kd = rtn true p.kd := by
    have f1 : fit 2 0 = true := by decide
    have f2 : fit 1 (ver p.kd) = true := by
      have := knw_or k
      unfold ver; split <;> decide
    have f3 : fit 1 p.kd = true := by rcases knw_or k with e | e | e <;> rw [e] <;> decide
    simp only [wHead, sFit, bnd_ret, f1, f2, f3, k, Bool.and_true, beq_self_eq_true]
    rfl
  have f6 := nm_fitB h.r
  have f7 := nm_fitB h.b
  have f0 : fit 1 0 = true := by decide
  unfold wAll
  rw [e1, rtn, bnd_ret, if_neg k2]
  simp only [wRest, wId, sFit, bnd_ret, rtn, f6, f7, f0, Bool.and_true, Bool.true_and, fts, beq_self_eq_true]
  split
  · refine ⟨⟨p.kd, p.fl, ofN p.r.pr (nm p.r), p.c, ofN p.b.pr (nm p.b), p.po, p.ag, p.mx, p.he, p.fw⟩, ?_⟩
    rw [mst_yes _ rfl]; simp only [Bool.and_assoc]
  · refine ⟨⟨p.kd, p.fl, ofN p.r.pr (nm p.r), p.c, ofN p.b.pr (nm p.b), p.po, p.ag, p.mx, p.he, p.fw⟩, ?_⟩
    simp only [Bool.and_assoc]
theorem fts_and {p : Bpd} (h : fts p = true) : fit 1 p.fl = true ∧ fit 2 p.r.pr = true ∧ fit 4 p.c = true ∧ fit 2 p.b.pr = true ∧ fit 2 p.po = true ∧ fit 2 p.ag = true ∧ fit 2 p.mx = true ∧ fit 2 p.he = true ∧ fit 2 p.fw = true := by
  simpa only [fts, Bool.and_eq_true] using h
theorem sEnc_go {l : List Int} {n : Int} {k : Nat} (h : l.length + k ≤ 36) (f : fit k n = true) : sEnc l n k = some (some (l ++ be k n, n)) := by simp [sEnc, h, f]
theorem head_enc {p : Bpd} (k : knw p.kd = true) : wHead sEnc [] p.kd = rtn [0, 0, ver p.kd, p.kd] p.kd := by
  have f1 : fit 2 0 = true := by decide
  rcases knw_or k with e | e | e <;> rw [e] <;> rfl
theorem wEnc {p : Bpd} (h : BpdB p) (k : brt p = true) : wAll sEnc [] p = some (some (enc p, p)) := by
  unfold wAll
  rw [head_enc (brt_knw k), rtn, bnd_ret]
  by_cases k2 : p.kd = 128
  · rw [if_pos k2]
    have e := brt_bare k k2
    subst e
    rfl
  · rw [if_neg k2]
    obtain ⟨f1, f2, f3, f4, f5, f6, f7, f8, f9⟩ := fts_and (brt_fts k k2)
    have g1 := nm_fitB h.r
    have g2 := nm_fitB h.b
    have f0 : fit 1 0 = true := by decide
    simp only [wRest, wId]
    rw [sEnc_go (by simp) f1, bnd_ret, sEnc_go (by simp [be_length]) f2, bnd_ret, sEnc_go (by simp [be_length]) g1, bnd_ret]
    rw [rtn, bnd_ret, sEnc_go (by simp [be_length]) f3, bnd_ret, sEnc_go (by simp [be_length]) f4, bnd_ret, sEnc_go (by simp [be_length]) g2, bnd_ret]
    rw [rtn, bnd_ret, sEnc_go (by simp [be_length]) f5, bnd_ret, sEnc_go (by simp [be_length]) f6, bnd_ret, sEnc_go (by simp [be_length]) f7, bnd_ret, sEnc_go (by simp [be_length]) f8, bnd_ret, sEnc_go (by simp [be_length]) f9, bnd_ret]
    rw [be_nm h.r, be_nm h.b, ofN_nm h.r, ofN_nm h.b]
    by_cases k3 : p.kd = 2
    · rw [if_pos k3, sEnc_go (by simp [be_length, ml]) f0, bnd_ret, mst0]
      simp only [enc, if_neg k2, if_pos k3, bdy, ib, rtn, List.append_assoc, show be 1 0 = [0] from rfl]
    · rw [if_neg k3]
      simp only [enc, if_neg k2, if_neg k3, bdy, ib, rtn, List.append_assoc, List.append_nil]
theorem sRd_be (k : Nat) (n z : Int) (r : List Int) (f : fit k n = true) : sRd (be k n ++ r) z k = some (some (r, n)) := by
  have hl := be_length k n
  have f' := fit_and f
  unfold sRd
  rw [if_pos (by simp [hl]), List.drop_left' hl, List.take_left' hl, nb_be k n f'.1 f'.2]
theorem sRd_ml {x : Idn} (z : Int) (r : List Int) (h : Rng (ml x)) : sRd (ml x ++ r) z 6 = some (some (r, nm x)) := by
  have := sRd_be 6 (nm x) z r (nm_fitB h)
  rwa [be_nm h] at this
theorem sRd_ok {l r : List Int} {z n : Int} {k : Nat} (hr : Rng l) (h : sRd l z k = some (some (r, n))) : l = be k n ++ r ∧ fit k n = true ∧ Rng r := by
  unfold sRd at h
  split at h
  · rename_i hk
    have hl : (l.take k).length = k := by rw [List.length_take]; omega
    injection h with h; injection h with h; injection h with h1 h2
    subst h1 h2
    refine ⟨?_, fit_nb k hl (rng_take hr k), rng_drop hr k⟩
    rw [be_nb k _ hl (rng_take hr k), List.take_append_drop]
  · cases h
theorem wRd {p : Bpd} (h : BpdB p) (k : brt p = true) (r : List Int) : wAll sRd (enc p ++ r) zeroB = some (some (r, p)) := by
  have hd : ∀ q : List Int, wHead sRd ([0, 0, ver p.kd, p.kd] ++ q) zeroB.kd = rtn q p.kd := by
    intro q
    have a1 := sRd_be 2 0 0 ([ver p.kd, p.kd] ++ q) (by decide)
    have f3 : fit 1 (ver p.kd) = true := by unfold ver; split <;> decide
    have b3 : be 1 (ver p.kd) = [ver p.kd] := by unfold ver; split <;> rfl
    have f4 : fit 1 p.kd = true := by rcases knw_or (brt_knw k) with e | e | e <;> rw [e] <;> decide
    have b4 : be 1 p.kd = [p.kd] := by rcases knw_or (brt_knw k) with e | e | e <;> rw [e] <;> rfl
    have a3 := sRd_be 1 (ver p.kd) (ver zeroB.kd) ([p.kd] ++ q) f3
    have a4 := sRd_be 1 p.kd zeroB.kd q f4
    rw [b3] at a3
    rw [b4] at a4
    have e1 : [0, 0, ver p.kd, p.kd] ++ q = be 2 0 ++ ([ver p.kd, p.kd] ++ q) := rfl
    unfold wHead
    rw [e1, a1, bnd_ret, mst0, show [ver p.kd, p.kd] ++ q = [ver p.kd] ++ ([p.kd] ++ q) from rfl, a3, bnd_ret, a4, bnd_ret, mst_yes _ (by simp [brt_knw k])]
  unfold wAll enc
  rw [List.append_assoc, hd, rtn, bnd_ret]
  by_cases k2 : p.kd = 128
  · have e := brt_bare k k2
    subst e
    rfl
  · obtain ⟨f1, f2, f3, f4, f5, f6, f7, f8, f9⟩ := fts_and (brt_fts k k2)
    rw [if_neg k2, if_neg k2]
    simp only [wRest, wId, bdy, ib, List.append_assoc]
    rw [sRd_be 1 _ _ _ f1, bnd_ret, sRd_be 2 _ _ _ f2, bnd_ret, sRd_ml _ _ h.r, bnd_ret, rtn, bnd_ret, sRd_be 4 _ _ _ f3, bnd_ret, sRd_be 2 _ _ _ f4, bnd_ret, sRd_ml _ _ h.b, bnd_ret, rtn, bnd_ret]
    rw [sRd_be 2 _ _ _ f5, bnd_ret, sRd_be 2 _ _ _ f6, bnd_ret, sRd_be 2 _ _ _ f7, bnd_ret, sRd_be 2 _ _ _ f8, bnd_ret, sRd_be 2 _ _ _ f9, bnd_ret, ofN_nm h.r, ofN_nm h.b]
    by_cases k3 : p.kd = 2
    · have a := sRd_be 1 0 0 r (by decide)
      rw [if_pos k3, if_pos k3, show [0] ++ r = be 1 0 ++ r from rfl, a, bnd_ret, mst0]
      rfl
    · rw [if_neg k3, if_neg k3, List.nil_append]
      rfl
theorem wId_ok {l r : List Int} {z x : Idn} (hr : Rng l) (h : wId sRd l z = some (some (r, x))) : l = ib x ++ r ∧ fit 2 x.pr = true ∧ Rng (ml x) ∧ Rng r := by
  obtain ⟨s1, p, h1, h⟩ := bnd_ok h
  obtain ⟨s2, n, h2, h⟩ := bnd_ok h
  obtain ⟨e1, f1, r1⟩ := sRd_ok hr h1
  obtain ⟨e2, f2, r2⟩ := sRd_ok r1 h2
  injection h with h; injection h with h; injection h with h3 h4
  subst h3 h4
  refine ⟨?_, f1, ?_, r2⟩
  · rw [e1, e2, ib, ml_ofN, List.append_assoc]; rfl
  · rw [ml_ofN]; exact be_rng _ _
theorem be1 {n : Int} (f : fit 1 n = true) : be 1 n = [n] := by
  have := fit_and f
  simp only [be, List.nil_append]
  rw [show n % 256 = n by have := this.2; simp at this; omega]
theorem wRd_ok {l r : List Int} {p : Bpd} (hr : Rng l) (h : wAll sRd l zeroB = some (some (r, p))) : l = enc p ++ r ∧ brt p = true ∧ BpdB p := by
  obtain ⟨s0, k, h0, h⟩ := bnd_ok h
  obtain ⟨s1, a, h1, h0⟩ := bnd_ok h0
  obtain ⟨ha, h0⟩ := mst_ok h0
  obtain ⟨s2, v, h2, h0⟩ := bnd_ok h0
  obtain ⟨s3, k', h3, h0⟩ := bnd_ok h0
  obtain ⟨hk, h0⟩ := mst_ok h0
  injection h0 with h0; injection h0 with h0; injection h0 with h4 h5
  subst h4 h5
  obtain ⟨e1, f1, r1⟩ := sRd_ok hr h1
  obtain ⟨e2, f2, r2⟩ := sRd_ok r1 h2
  obtain ⟨e3, f3, r3⟩ := sRd_ok r2 h3
  simp only [Bool.and_eq_true, beq_iff_eq] at ha hk
  obtain ⟨hk, hv⟩ := hk
  subst ha hv
  have e : l = [0, 0, ver k', k'] ++ s3 := by
    rw [e1, e2, e3, be1 f2, be1 f3]; rfl
  by_cases k2 : k' = 128
  · rw [if_pos k2] at h
    injection h with h; injection h with h; injection h with h4 h5
    subst h4 h5
    subst k2
    refine ⟨?_, by decide, ⟨zeroI_B, zeroI_B⟩⟩
    rw [e]
    rfl
  · rw [if_neg k2] at h
    obtain ⟨t1, fl, h1, h⟩ := bnd_ok h
    obtain ⟨t2, rt, h2, h⟩ := bnd_ok h
    obtain ⟨t3, c, h3, h⟩ := bnd_ok h
    obtain ⟨t4, b, h4, h⟩ := bnd_ok h
    obtain ⟨t5, po, h5, h⟩ := bnd_ok h
    obtain ⟨t6, ag, h6, h⟩ := bnd_ok h
    obtain ⟨t7, mx, h7, h⟩ := bnd_ok h
    obtain ⟨t8, he, h8, h⟩ := bnd_ok h
    obtain ⟨t9, fw, h9, h⟩ := bnd_ok h
    obtain ⟨x1, y1, q1⟩ := sRd_ok r3 h1
    obtain ⟨x2, y2, z2, q2⟩ := wId_ok q1 h2
    obtain ⟨x3, y3, q3⟩ := sRd_ok q2 h3
    obtain ⟨x4, y4, z4, q4⟩ := wId_ok q3 h4
    obtain ⟨x5, y5, q5⟩ := sRd_ok q4 h5
    obtain ⟨x6, y6, q6⟩ := sRd_ok q5 h6
    obtain ⟨x7, y7, q7⟩ := sRd_ok q6 h7
    obtain ⟨x8, y8, q8⟩ := sRd_ok q7 h8
    obtain ⟨x9, y9, q9⟩ := sRd_ok q8 h9
    have hb : s3 = bdy ⟨k', fl, rt, c, b, po, ag, mx, he, fw⟩ ++ t9 := by
      simp only [bdy, List.append_assoc]
      rw [x1, x2, x3, x4, x5, x6, x7, x8, x9]
    have hf : fts ⟨k', fl, rt, c, b, po, ag, mx, he, fw⟩ = true := by simp only [fts, y1, y2, y3, y4, y5, y6, y7, y8, y9, Bool.and_true]
    by_cases k3 : k' = 2
    · simp only [if_pos k3] at h
      obtain ⟨t10, z, h10, h⟩ := bnd_ok h
      obtain ⟨hz, h⟩ := mst_ok h
      obtain ⟨x10, y10, q10⟩ := sRd_ok q9 h10
      injection h with h; injection h with h; injection h with h4 h5
      subst h4 h5
      simp only [beq_iff_eq] at hz
      subst hz
      refine ⟨?_, ?_, ⟨z2, z4⟩⟩
      · rw [e, hb, x10, be1 y10]
        simp only [enc, if_neg k2, if_pos k3, List.append_assoc]
      · rw [brt_no k2, hf, Bool.and_true]; exact hk
    · simp only [if_neg k3] at h
      injection h with h; injection h with h; injection h with h4 h5
      subst h4 h5
      refine ⟨?_, ?_, ⟨z2, z4⟩⟩
      · rw [e, hb]
        simp only [enc, if_neg k2, if_neg k3, List.append_assoc, List.append_nil]
      · rw [brt_no k2, hf, Bool.and_true]; exact hk
end Go.Proofs.Ytdaglmimfkcmeaa
