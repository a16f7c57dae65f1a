/- Plain facts: what Decode answers, as the program and as the document has it; which of two ids is ahead. Nothing of the program. -/
import Derived.Test.YtdaglmimfkcmeaaPlain
namespace Go.Proofs.Ytdaglmimfkcmeaa
open Go.RowKit

/-- Are bytes one's, and whose? -/
def ok (l : List Int) : Bool := match wAll sRd l zeroB with
  | some (some ([], _)) => true
  | _ => false
def bpd (l : List Int) : Bpd := match wAll sRd l zeroB with
  | some (some (_, p)) => p
  | _ => zeroB
def dl (l : List Int) : Bpd := if ok l then bpd l else zeroB
def dc (l : List Int) : Int := if ok l then 0 else 2
theorem dl_yes {l : List Int} (h : ok l = true) : dl l = bpd l := by simp [dl, h]
theorem dl_no {l : List Int} (h : ok l = false) : dl l = zeroB := by simp [dl, h]
theorem dc_yes {l : List Int} (h : ok l = true) : dc l = 0 := by simp [dc, h]
theorem dc_no {l : List Int} (h : ok l = false) : dc l = 2 := by simp [dc, h]
theorem ok_of {l r : List Int} {p : Bpd} (h : wAll sRd l zeroB = some (some (r, p))) : ok l = decide (r = []) := by
  unfold ok
  rw [h]
  cases r <;> simp
theorem ok_none {l : List Int} (h : wAll sRd l zeroB = some none) : ok l = false := by
  unfold ok
  rw [h]
theorem bpd_of {l r : List Int} {p : Bpd} (h : wAll sRd l zeroB = some (some (r, p))) : bpd l = p := by
  unfold bpd
  rw [h]
theorem ok_enc {p : Bpd} (h : BpdB p) (k : brt p = true) : ok (enc p) = true ∧ bpd (enc p) = p := by
  have e := wRd h k []
  rw [List.append_nil] at e
  exact ⟨by rw [ok_of e]; simp, bpd_of e⟩
theorem ok_inv {l : List Int} (hr : Rng l) (h : ok l = true) : enc (bpd l) = l ∧ brt (bpd l) = true ∧ BpdB (bpd l) := by
  unfold ok at h
  split at h
  · rename_i p e
    obtain ⟨h1, h2, h3⟩ := wRd_ok hr e
    rw [bpd_of e]
    rw [List.append_nil] at h1
    exact ⟨h1.symm, h2, h3⟩
  · cases h
theorem dl_B {l : List Int} (hr : Rng l) : BpdB (dl l) := by
  cases h : ok l
  · rw [dl_no h]; exact ⟨zeroI_B, zeroI_B⟩
  · rw [dl_yes h]; exact (ok_inv hr h).2.2
theorem enc_inj {p q : Bpd} (h : BpdB p) (k : brt p = true) (h' : BpdB q) (k' : brt q = true) (e : enc p = enc q) : p = q := by
  rw [← (ok_enc h k).2, ← (ok_enc h' k').2, e]

/-- What the document's Decode takes out of bytes. -/
def idt (l : List Int) : Idn := ⟨nb (l.take 2), l.getD 2 0, l.getD 3 0, l.getD 4 0, l.getD 5 0, l.getD 6 0, l.getD 7 0⟩
def dr (l : List Int) : Bpd :=
  if 35 ≤ l.length then ⟨l.getD 3 0, l.getD 4 0, idt ((l.drop 5).take 8), nb ((l.drop 13).take 4), idt ((l.drop 17).take 8), nb ((l.drop 25).take 2), nb ((l.drop 27).take 2), nb ((l.drop 29).take 2), nb ((l.drop 31).take 2), nb ((l.drop 33).take 2)⟩
  else ⟨l.getD 3 0, 0, zeroI, 0, zeroI, 0, 0, 0, 0, 0⟩
theorem idt_B {l : List Int} (h : Rng l) : Rng (ml (idt l)) := by
  have g := fun j => rng_getD h j
  exact rng_cons (g 2).1 (g 2).2 (rng_cons (g 3).1 (g 3).2 (rng_cons (g 4).1 (g 4).2 (rng_cons (g 5).1 (g 5).2 (rng_cons (g 6).1 (g 6).2 (rng_cons (g 7).1 (g 7).2 rng_nil)))))
theorem dr_B {l : List Int} (h : Rng l) : BpdB (dr l) := by
  unfold dr
  split
  · exact ⟨idt_B (rng_take (rng_drop h 5) 8), idt_B (rng_take (rng_drop h 17) 8)⟩
  · exact ⟨zeroI_B, zeroI_B⟩
theorem idt_ib {x : Idn} (f : fit 2 x.pr = true) : idt (ib x) = x := by
  have e := nb_be 2 x.pr (fit_and f).1 (fit_and f).2
  obtain ⟨p, a, b, c, d, e', g⟩ := x
  have e1 : (ib ⟨p, a, b, c, d, e', g⟩).take 2 = be 2 p := rfl
  have e2 : idt (ib ⟨p, a, b, c, d, e', g⟩) = ⟨nb ((ib ⟨p, a, b, c, d, e', g⟩).take 2), a, b, c, d, e', g⟩ := rfl
  rw [e2, e1, e]
theorem dr_enc {p : Bpd} (k : brt p = true) : dr (enc p) = p := by
  by_cases k2 : p.kd = 128
  · have e := brt_bare k k2
    subst e
    rfl
  · obtain ⟨f1, f2, f3, f4, f5, f6, f7, f8, f9⟩ := fts_and (brt_fts k k2)
    have hl : 35 ≤ (enc p).length := by rw [enc_length, if_neg k2]; split <;> omega
    have e : ∃ q, enc p = [0, 0, ver p.kd, p.kd] ++ (bdy p ++ q) := by
      unfold enc
      rw [if_neg k2]
      exact ⟨_, rfl⟩
    obtain ⟨q, e⟩ := e
    rw [dr, if_pos hl, e]
    have a1 : ([0, 0, ver p.kd, p.kd] ++ (bdy p ++ q)).getD 3 0 = p.kd := rfl
    have a2 : ([0, 0, ver p.kd, p.kd] ++ (bdy p ++ q)).getD 4 0 = p.fl := by
      have h : ([0, 0, ver p.kd, p.kd] ++ (bdy p ++ q)).getD 4 0 = p.fl % 256 := rfl
      have := fit_and f1
      rw [h]
      have h2 := this.2
      simp at h2
      omega
    have a3 : (([0, 0, ver p.kd, p.kd] ++ (bdy p ++ q)).drop 5).take 8 = ib p.r := rfl
    have a4 : (([0, 0, ver p.kd, p.kd] ++ (bdy p ++ q)).drop 13).take 4 = be 4 p.c := rfl
    have a5 : (([0, 0, ver p.kd, p.kd] ++ (bdy p ++ q)).drop 17).take 8 = ib p.b := rfl
    have a6 : (([0, 0, ver p.kd, p.kd] ++ (bdy p ++ q)).drop 25).take 2 = be 2 p.po := rfl
    have a7 : (([0, 0, ver p.kd, p.kd] ++ (bdy p ++ q)).drop 27).take 2 = be 2 p.ag := rfl
    have a8 : (([0, 0, ver p.kd, p.kd] ++ (bdy p ++ q)).drop 29).take 2 = be 2 p.mx := rfl
    have a9 : (([0, 0, ver p.kd, p.kd] ++ (bdy p ++ q)).drop 31).take 2 = be 2 p.he := rfl
    have a10 : (([0, 0, ver p.kd, p.kd] ++ (bdy p ++ q)).drop 33).take 2 = be 2 p.fw := rfl
    have g := fun (s : Nat) (n : Int) (f : fit s n = true) => nb_be s n (fit_and f).1 (fit_and f).2
    rw [a1, a2, a3, a4, a5, a6, a7, a8, a9, a10, idt_ib f2, idt_ib f4, g 4 _ f3, g 2 _ f5, g 2 _ f6, g 2 _ f7, g 2 _ f8, g 2 _ f9]
theorem ok_short {l : List Int} (hr : Rng l) (h : l.length < 4) : ok l = false := by
  cases k : ok l
  · rfl
  · have := (ok_inv hr k).1
    have h2 := enc_length (bpd l)
    rw [this] at h2
    split at h2
    · omega
    · split at h2 <;> omega
/-- The document's test is the program's. -/
theorem ok_dr {l : List Int} (hr : Rng l) : ok l = (brt (dr l) && decide (enc (dr l) = l)) := by
  rw [Bool.eq_iff_iff, Bool.and_eq_true, decide_eq_true_eq]
  constructor
  · intro h
    obtain ⟨h1, h2, h3⟩ := ok_inv hr h
    have e : dr l = bpd l := by rw [← dr_enc h2, h1]
    rw [e]
    exact ⟨h2, h1⟩
  · rintro ⟨h1, h2⟩
    have := (ok_enc (dr_B hr) h1).1
    rwa [h2] at this
theorem bpd_dr {l : List Int} (hr : Rng l) (h : ok l = true) : dr l = bpd l := by
  obtain ⟨h1, h2, h3⟩ := ok_inv hr h
  rw [← dr_enc h2, h1]

/-- Which of two is ahead. -/
def cmp3 (x y : Int) : Int := if x < y then -1 else if x = y then 0 else 1
theorem cmp3_lt {x y : Int} (h : x < y) : cmp3 x y = -1 := by simp [cmp3, h]
theorem cmp3_gt {x y : Int} (h : y < x) : cmp3 x y = 1 := by
  have h1 : ¬ x < y := by omega
  have h2 : ¬ x = y := by omega
  simp [cmp3, h1, h2]
theorem cmp3_eq {x y : Int} (h1 : ¬ x < y) (h2 : ¬ y < x) : cmp3 x y = 0 := by
  have h3 : x = y := by omega
  simp [cmp3, h3]
theorem cmp3_self (x : Int) : cmp3 x x = 0 := by simp [cmp3]
def cp (a b : Idn) : Int := if a.pr = b.pr then cmp3 (nm a) (nm b) else cmp3 a.pr b.pr
theorem cp_ne {a b : Idn} (h : ¬ a.pr = b.pr) : cp a b = cmp3 a.pr b.pr := by simp [cp, h]
theorem cp_eq {a b : Idn} (h : a.pr = b.pr) : cp a b = cmp3 (nm a) (nm b) := by simp [cp, h]
theorem cp_val (a b : Idn) : cp a b = -1 ∨ cp a b = 0 ∨ cp a b = 1 := by
  unfold cp cmp3
  split <;> split <;> (try split) <;> omega
theorem cp_neg (a b : Idn) : cp a b = -cp b a := by
  unfold cp cmp3
  split <;> split <;> (try split) <;> (try split) <;> (try split) <;> omega
theorem nm_inj {a b : Idn} (ha : Rng (ml a)) (hb : Rng (ml b)) (h : a.pr = b.pr) (k : nm a = nm b) : a = b := by
  rw [← ofN_nm ha, ← ofN_nm hb, h, k]
theorem cp_zero {a b : Idn} (ha : Rng (ml a)) (hb : Rng (ml b)) : (cp a b == 0) = ieq a b := by
  rw [Bool.eq_iff_iff, ieq_iff, beq_iff_eq]
  constructor
  · intro h
    unfold cp cmp3 at h
    split at h
    · split at h
      · omega
      · split at h
        · exact nm_inj ha hb (by assumption) (by assumption)
        · omega
    · split at h <;> omega
  · rintro rfl
    simp [cp, cmp3]
/-- An order: if not a > b and not b > c, then a <= c, and a = c just where a = b = c. -/
theorem cp_trans (a b c : Idn) (h1 : cp a b ≤ 0) (h2 : cp b c ≤ 0) : cp a c ≤ 0 ∧ (cp a c = 0 → cp a b = 0 ∧ cp b c = 0) := by
  unfold cp cmp3 at *
  split at h1 <;> split at h1 <;> (try split at h1) <;> split at h2 <;> split at h2 <;> (try split at h2) <;> (try omega) <;> (constructor <;> (try intro h3) <;> (split <;> (try split) <;> (try split) <;> omega))
end Go.Proofs.Ytdaglmimfkcmeaa
