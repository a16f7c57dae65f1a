/- Plain facts: what a frame is, its bytes, and which bytes are a frame. Nothing of the program. -/
import Derived.WalkKit
import Derived.Handy
namespace Go.Proofs.Ytmpojeehjhpkbaa
open Go.RowKit

/-- A frame as numbers; its Body as a list. -/
structure Fd where
  d0 : Int
  d1 : Int
  d2 : Int
  d3 : Int
  d4 : Int
  d5 : Int
  s0 : Int
  s1 : Int
  s2 : Int
  s3 : Int
  s4 : Int
  s5 : Int
  tg : Bool
  vl : Int
  pr : Int
  ty : Int
  bs : List Int

/-- Numbers that are bytes. -/
def Rng (ns : List Int) : Prop := ∀ n ∈ ns, 0 ≤ n ∧ n ≤ 255

/-- The two addresses. -/
def adL (f : Fd) : List Int := [f.d0, f.d1, f.d2, f.d3, f.d4, f.d5, f.s0, f.s1, f.s2, f.s3, f.s4, f.s5]

/-- What is bytes in a frame is bytes. -/
structure FdB (f : Fd) : Prop where
  a : Rng (adL f)
  b : Rng f.bs

/-- May the tag be? -/
def tok (f : Fd) : Bool := if f.tg then decide (0 ≤ f.vl ∧ f.vl ≤ 4094 ∧ 0 ≤ f.pr ∧ f.pr ≤ 7) else decide (f.vl = 0 ∧ f.pr = 0)
/-- May the frame be? -/
def rt (f : Fd) : Bool := decide (1536 ≤ f.ty ∧ f.ty ≤ 65535 ∧ f.ty ≠ 33024 ∧ f.bs.length ≤ 1500) && tok f
/-- The tag's bytes. -/
def tagL (f : Fd) : List Int := if f.tg then [129, 0, (8192 * f.pr + f.vl) / 256, (8192 * f.pr + f.vl) % 256] else []
/-- The frame's bytes. -/
def enc (f : Fd) : List Int := adL f ++ (tagL f ++ (f.ty / 256 :: f.ty % 256 :: f.bs))
def zero : Fd := ⟨0, 0, 0, 0, 0, 0, 0, 0, 0, 0, 0, 0, false, 0, 0, 0, []⟩
/-- The frame that bytes tell, whether it may be or not. -/
def raw (b : List Int) : Option Fd :=
  if b.length < 14 then none
  else if b.getD 12 0 * 256 + b.getD 13 0 = 33024 then
    if b.length < 18 then none
    else some { d0 := b.getD 0 0, d1 := b.getD 1 0, d2 := b.getD 2 0, d3 := b.getD 3 0, d4 := b.getD 4 0, d5 := b.getD 5 0, s0 := b.getD 6 0, s1 := b.getD 7 0, s2 := b.getD 8 0, s3 := b.getD 9 0, s4 := b.getD 10 0, s5 := b.getD 11 0, tg := true, vl := (b.getD 14 0 * 256 + b.getD 15 0) % 8192, pr := (b.getD 14 0 * 256 + b.getD 15 0) / 8192, ty := b.getD 16 0 * 256 + b.getD 17 0, bs := b.drop 18 }
  else some { d0 := b.getD 0 0, d1 := b.getD 1 0, d2 := b.getD 2 0, d3 := b.getD 3 0, d4 := b.getD 4 0, d5 := b.getD 5 0, s0 := b.getD 6 0, s1 := b.getD 7 0, s2 := b.getD 8 0, s3 := b.getD 9 0, s4 := b.getD 10 0, s5 := b.getD 11 0, tg := false, vl := 0, pr := 0, ty := b.getD 12 0 * 256 + b.getD 13 0, bs := b.drop 14 }
/-- What Decode answers. -/
def dec (b : List Int) : Fd × Int := match raw b with
  | none => (zero, 2)
  | some f => if rt f then (f, 0) else (zero, 2)

theorem list14 {α : Type} (l : List α) (h : 14 ≤ l.length) : ∃ x0 x1 x2 x3 x4 x5 x6 x7 x8 x9 x10 x11 x12 x13 r, l = x0 :: x1 :: x2 :: x3 :: x4 :: x5 :: x6 :: x7 :: x8 :: x9 :: x10 :: x11 :: x12 :: x13 :: r := by
  match l, h with
  | x0 :: x1 :: x2 :: x3 :: x4 :: x5 :: x6 :: x7 :: x8 :: x9 :: x10 :: x11 :: x12 :: x13 :: r, _ => exact ⟨x0, x1, x2, x3, x4, x5, x6, x7, x8, x9, x10, x11, x12, x13, r, rfl⟩
theorem list4 {α : Type} (l : List α) (h : 4 ≤ l.length) : ∃ x0 x1 x2 x3 r, l = x0 :: x1 :: x2 :: x3 :: r := by
  match l, h with
  | x0 :: x1 :: x2 :: x3 :: r, _ => exact ⟨x0, x1, x2, x3, r, rfl⟩

theorem tok_yes {f : Fd} (h : f.tg = true) (k : tok f = true) : 0 ≤ f.vl ∧ f.vl ≤ 4094 ∧ 0 ≤ f.pr ∧ f.pr ≤ 7 := by simpa [tok, h] using k
theorem tok_no {f : Fd} (h : f.tg = false) (k : tok f = true) : f.vl = 0 ∧ f.pr = 0 := by simpa [tok, h] using k
theorem rt_and {f : Fd} (k : rt f = true) : 1536 ≤ f.ty ∧ f.ty ≤ 65535 ∧ f.ty ≠ 33024 ∧ f.bs.length ≤ 1500 ∧ tok f = true := by
  simp only [rt, Bool.and_eq_true, decide_eq_true_eq] at k
  exact ⟨k.1.1, k.1.2.1, k.1.2.2.1, k.1.2.2.2, k.2⟩
theorem rng_append {a b : List Int} (h : Rng a) (k : Rng b) : Rng (a ++ b) := by
  intro n hn
  rcases List.mem_append.1 hn with h1 | h1
  · exact h n h1
  · exact k n h1
theorem rng_cons {a : Int} {b : List Int} (h0 : 0 ≤ a) (h1 : a ≤ 255) (k : Rng b) : Rng (a :: b) := by
  intro n hn
  rcases List.mem_cons.1 hn with rfl | h1
  · exact ⟨h0, h1⟩
  · exact k n h1
theorem rng_nil : Rng [] := by intro n hn; cases hn
theorem rng_getD {a : List Int} (h : Rng a) (j : Nat) : 0 ≤ a.getD j 0 ∧ a.getD j 0 ≤ 255 := by
  rw [List.getD_eq_getElem?_getD]
  by_cases hj : j < a.length
  · rw [List.getElem?_eq_getElem hj]; exact h _ (List.getElem_mem hj)
  · rw [List.getElem?_eq_none (by omega)]; simp
theorem rng_drop {a : List Int} (h : Rng a) (j : Nat) : Rng (a.drop j) := fun n hn => h n (List.mem_of_mem_drop hn)
theorem rng_take {a : List Int} (h : Rng a) (j : Nat) : Rng (a.take j) := fun n hn => h n (List.mem_of_mem_take hn)
theorem enc_length (f : Fd) : (enc f).length = 14 + f.bs.length + if f.tg then 4 else 0 := by
  cases h : f.tg <;> simp [enc, adL, tagL, h] <;> omega
theorem enc_rng {f : Fd} (h : FdB f) (k : rt f = true) : Rng (enc f) := by
  obtain ⟨k1, k2, k3, k4, k5⟩ := rt_and k
  refine rng_append h.a (rng_append ?_ (rng_cons (by omega) (by omega) (rng_cons (by omega) (by omega) h.b)))
  cases ht : f.tg
  · simp only [tagL, ht, Bool.false_eq_true, if_false]; exact rng_nil
  · obtain ⟨v0, v1, p0, p1⟩ := tok_yes ht k5
    simp only [tagL, ht, if_true]
    exact rng_cons (by omega) (by omega) (rng_cons (by omega) (by omega) (rng_cons (by omega) (by omega) (rng_cons (by omega) (by omega) rng_nil)))

theorem raw_short {b : List Int} (h : b.length < 14) : raw b = none := by simp [raw, h]
theorem raw_plain (x0 x1 x2 x3 x4 x5 x6 x7 x8 x9 x10 x11 x12 x13 : Int) (r : List Int) (h : ¬ x12 * 256 + x13 = 33024) : raw (x0 :: x1 :: x2 :: x3 :: x4 :: x5 :: x6 :: x7 :: x8 :: x9 :: x10 :: x11 :: x12 :: x13 :: r) = some ⟨x0, x1, x2, x3, x4, x5, x6, x7, x8, x9, x10, x11, false, 0, 0, x12 * 256 + x13, r⟩ := by
  have e : ¬ (x0 :: x1 :: x2 :: x3 :: x4 :: x5 :: x6 :: x7 :: x8 :: x9 :: x10 :: x11 :: x12 :: x13 :: r).length < 14 := by simp
  simp only [raw, if_neg e]
  simp [h]
theorem raw_tagged (x0 x1 x2 x3 x4 x5 x6 x7 x8 x9 x10 x11 x12 x13 x14 x15 x16 x17 : Int) (r : List Int) (h : x12 * 256 + x13 = 33024) : raw (x0 :: x1 :: x2 :: x3 :: x4 :: x5 :: x6 :: x7 :: x8 :: x9 :: x10 :: x11 :: x12 :: x13 :: x14 :: x15 :: x16 :: x17 :: r) = some ⟨x0, x1, x2, x3, x4, x5, x6, x7, x8, x9, x10, x11, true, (x14 * 256 + x15) % 8192, (x14 * 256 + x15) / 8192, x16 * 256 + x17, r⟩ := by
  have e : ¬ (x0 :: x1 :: x2 :: x3 :: x4 :: x5 :: x6 :: x7 :: x8 :: x9 :: x10 :: x11 :: x12 :: x13 :: x14 :: x15 :: x16 :: x17 :: r).length < 14 := by simp
  have e2 : ¬ (x0 :: x1 :: x2 :: x3 :: x4 :: x5 :: x6 :: x7 :: x8 :: x9 :: x10 :: x11 :: x12 :: x13 :: x14 :: x15 :: x16 :: x17 :: r).length < 18 := by simp
  simp only [raw, if_neg e, if_neg e2]
  simp [h]
theorem raw_cut (x0 x1 x2 x3 x4 x5 x6 x7 x8 x9 x10 x11 x12 x13 : Int) (r : List Int) (h : x12 * 256 + x13 = 33024) (hr : r.length < 4) : raw (x0 :: x1 :: x2 :: x3 :: x4 :: x5 :: x6 :: x7 :: x8 :: x9 :: x10 :: x11 :: x12 :: x13 :: r) = none := by
  have e : ¬ (x0 :: x1 :: x2 :: x3 :: x4 :: x5 :: x6 :: x7 :: x8 :: x9 :: x10 :: x11 :: x12 :: x13 :: r).length < 14 := by simp
  have e2 : (x0 :: x1 :: x2 :: x3 :: x4 :: x5 :: x6 :: x7 :: x8 :: x9 :: x10 :: x11 :: x12 :: x13 :: r).length < 18 := by simp; omega
  simp only [raw, if_neg e, if_pos e2]
  simp [h]

/-- Bytes that tell a frame are that frame's. -/
theorem raw_enc {b : List Int} {f : Fd} (hb : Rng b) (h : raw b = some f) : enc f = b ∧ FdB f ∧ (f.tg = true → 0 ≤ f.vl ∧ f.vl < 8192 ∧ 0 ≤ f.pr ∧ f.pr ≤ 7) ∧ 0 ≤ f.ty ∧ f.ty ≤ 65535 := by
  by_cases hl : b.length < 14
  · rw [raw_short hl] at h; cases h
  obtain ⟨x0, x1, x2, x3, x4, x5, x6, x7, x8, x9, x10, x11, x12, x13, r, rfl⟩ := list14 b (by omega)
  have rr : ∀ n, n ∈ (x0 :: x1 :: x2 :: x3 :: x4 :: x5 :: x6 :: x7 :: x8 :: x9 :: x10 :: x11 :: x12 :: x13 :: r) → 0 ≤ n ∧ n ≤ 255 := hb
  have hx12 := rr x12 (by simp); have hx13 := rr x13 (by simp)
  have ha : Rng [x0, x1, x2, x3, x4, x5, x6, x7, x8, x9, x10, x11] := fun n hn => rr n (List.mem_append_left (x12 :: x13 :: r) hn)
  by_cases ht : x12 * 256 + x13 = 33024
  · have e12 : x12 = 129 := by omega
    have e13 : x13 = 0 := by omega
    by_cases hr : r.length < 4
    · rw [raw_cut _ _ _ _ _ _ _ _ _ _ _ _ _ _ _ ht hr] at h; cases h
    obtain ⟨x14, x15, x16, x17, q, rfl⟩ := list4 r (by omega)
    rw [raw_tagged _ _ _ _ _ _ _ _ _ _ _ _ _ _ _ _ _ _ _ ht] at h
    obtain rfl := Option.some.inj h
    have h14 := rr x14 (by simp); have h15 := rr x15 (by simp); have h16 := rr x16 (by simp); have h17 := rr x17 (by simp)
    have q0 : 8192 * ((x14 * 256 + x15) / 8192) + (x14 * 256 + x15) % 8192 = x14 * 256 + x15 := by omega
    have q1 : (x14 * 256 + x15) / 256 = x14 := by omega
    have q2 : (x14 * 256 + x15) % 256 = x15 := by omega
    have q3 : (x16 * 256 + x17) / 256 = x16 := by omega
    have q4 : (x16 * 256 + x17) % 256 = x17 := by omega
    refine ⟨?_, ⟨ha, fun n hn => rr n (by simp [show n ∈ q from hn])⟩, fun _ => ⟨by show 0 ≤ (x14 * 256 + x15) % 8192; omega, by show (x14 * 256 + x15) % 8192 < 8192; omega, by show 0 ≤ (x14 * 256 + x15) / 8192; omega, by show (x14 * 256 + x15) / 8192 ≤ 7; omega⟩, by show 0 ≤ x16 * 256 + x17; omega, by show x16 * 256 + x17 ≤ 65535; omega⟩
    simp only [enc, adL, tagL, if_true, q0, q1, q2, q3, q4, e12, e13, List.cons_append, List.nil_append]
  · rw [raw_plain _ _ _ _ _ _ _ _ _ _ _ _ _ _ _ ht] at h
    obtain rfl := Option.some.inj h
    have q3 : (x12 * 256 + x13) / 256 = x12 := by omega
    have q4 : (x12 * 256 + x13) % 256 = x13 := by omega
    refine ⟨?_, ⟨ha, fun n hn => rr n (by simp [show n ∈ r from hn])⟩, fun h => (by cases h), by show 0 ≤ x12 * 256 + x13; omega, by show x12 * 256 + x13 ≤ 65535; omega⟩
    simp [enc, adL, tagL, q3, q4]

/-- A frame's bytes tell it. -/
theorem enc_raw {f : Fd} (k : rt f = true) : raw (enc f) = some f := by
  obtain ⟨k1, k2, k3, k4, k5⟩ := rt_and k
  obtain ⟨d0, d1, d2, d3, d4, d5, s0, s1, s2, s3, s4, s5, tg, vl, pr, ty, bs⟩ := f
  cases tg
  · obtain ⟨rfl, rfl⟩ : vl = 0 ∧ pr = 0 := tok_no rfl k5
    have q : ty / 256 * 256 + ty % 256 = ty := by omega
    have := raw_plain d0 d1 d2 d3 d4 d5 s0 s1 s2 s3 s4 s5 (ty / 256) (ty % 256) bs (by rw [q]; exact k3)
    rw [q] at this
    exact this
  · obtain ⟨v0, v1, p0, p1⟩ : 0 ≤ vl ∧ vl ≤ 4094 ∧ 0 ≤ pr ∧ pr ≤ 7 := tok_yes rfl k5
    have q : ty / 256 * 256 + ty % 256 = ty := by omega
    have q1 : ((8192 * pr + vl) / 256 * 256 + (8192 * pr + vl) % 256) % 8192 = vl := by omega
    have q2 : ((8192 * pr + vl) / 256 * 256 + (8192 * pr + vl) % 256) / 8192 = pr := by omega
    have := raw_tagged d0 d1 d2 d3 d4 d5 s0 s1 s2 s3 s4 s5 129 0 ((8192 * pr + vl) / 256) ((8192 * pr + vl) % 256) (ty / 256) (ty % 256) bs rfl
    rw [q, q1, q2] at this
    exact this

theorem dec_back {f : Fd} (k : rt f = true) : dec (enc f) = (f, 0) := by simp [dec, enc_raw k, k]
theorem enc_inj {f g : Fd} (k : rt f = true) (l : rt g = true) (h : enc f = enc g) : f = g := by
  have := enc_raw k
  rw [h, enc_raw l] at this
  exact (Option.some.inj this).symm
theorem dec_none {b : List Int} (h : raw b = none) : dec b = (zero, 2) := by simp [dec, h]
theorem dec_bad {b : List Int} {f : Fd} (h : raw b = some f) (k : rt f = false) : dec b = (zero, 2) := by simp [dec, h, k]
theorem dec_good {b : List Int} {f : Fd} (h : raw b = some f) (k : rt f = true) : dec b = (f, 0) := by simp [dec, h, k]
theorem dec_cases {b : List Int} (hb : Rng b) : (∃ f, dec b = (f, 0) ∧ rt f = true ∧ FdB f ∧ enc f = b) ∨ dec b = (zero, 2) := by
  cases h : raw b with
  | none => exact Or.inr (dec_none h)
  | some f =>
    cases k : rt f
    · exact Or.inr (dec_bad h k)
    · exact Or.inl ⟨f, dec_good h k, k, (raw_enc hb h).2.1, (raw_enc hb h).1⟩
theorem zero_B : FdB zero := ⟨fun n hn => by simp [adL, zero] at hn; omega, rng_nil⟩
theorem dec_B {b : List Int} (hb : Rng b) : FdB (dec b).1 := by
  rcases dec_cases hb with ⟨f, h, _, k, _⟩ | h
  · rw [h]; exact k
  · rw [h]; exact zero_B
end Go.Proofs.Ytmpojeehjhpkbaa
