/- Plain facts: what a frame is, its bytes, and which bytes are a frame. Nothing of the program. · Memory: a list of bytes, and a frame; how both stay while others do something. Contracts of Right, as the program and as the document has it. · Contracts of Right, as the program and as the document has it. · Contracts of what puts bytes down: two, appendPair, Clone; string of a list of bytes. · Contract of Clone; string of a list of bytes; what an own row is. · Contract of Encode, as the program has it. · Contract of Encode, as the program has it. · Contract of Encode, as the program has it. · An own row of bytes, and how it grows; contract of Encode, whichever way. · Contracts of Tag and Untag, as the program and as the document has them; results that lie in memory. · Contracts of the reader: take, pair, mac. · Contracts of the reader: pair. · Contracts of the reader: mac. -/
import Derived.WalkKit
import Derived.Handy
import Derived.Test.YtgpdjfaklcmoiaaDoorRows
import Derived.Deep.RegionHeld3
import Derived.ChangeKeysEq
import Derived.Laws.BytesArg
import Derived.BigQuiet
import Derived.Deep.MidRow
import Derived.Laws.AppendOwnNone
import Derived.OwnWalk
import Derived.WalkLawsBesides
import Derived.Laws.ResultCell
import Derived.Laws.CopyOwn
import Derived.Deep.QuietTactic
import Derived.PlainAid
/- Plain facts: what a frame is, its bytes, and which bytes are a frame. Nothing of the program. -/
namespace Go.Proofs.YtgpdjfaklcmoiaaDoor.Eth
open Go.RowKit

/-- A frame as numbers; its Body as a list. -/
structure Fd where
  d0 : Int
  d1 : Int
  d2 : Int
  d3 : Int
  d4 : Int
  d5 : Int
  s0 : Int
  s1 : Int
  s2 : Int
  s3 : Int
  s4 : Int
  s5 : Int
  tg : Bool
  vl : Int
  pr : Int
  ty : Int
  bs : List Int

/-- Numbers that are bytes. -/
def Rng (ns : List Int) : Prop := ∀ n ∈ ns, 0 ≤ n ∧ n ≤ 255

/-- The two addresses. -/
def adL (f : Fd) : List Int := [f.d0, f.d1, f.d2, f.d3, f.d4, f.d5, f.s0, f.s1, f.s2, f.s3, f.s4, f.s5]

/-- What is bytes in a frame is bytes. -/
structure FdB (f : Fd) : Prop where
  a : Rng (adL f)
  b : Rng f.bs

/-- May the tag be? -/
def tok (f : Fd) : Bool := if f.tg then decide (0 ≤ f.vl ∧ f.vl ≤ 4094 ∧ 0 ≤ f.pr ∧ f.pr ≤ 7) else decide (f.vl = 0 ∧ f.pr = 0)
/-- May the frame be? -/
def rt (f : Fd) : Bool := decide (1536 ≤ f.ty ∧ f.ty ≤ 65535 ∧ f.ty ≠ 33024 ∧ f.bs.length ≤ 1500) && tok f
/-- The tag's bytes. -/
def tagL (f : Fd) : List Int := if f.tg then [129, 0, (8192 * f.pr + f.vl) / 256, (8192 * f.pr + f.vl) % 256] else []
/-- The frame's bytes. -/
def enc (f : Fd) : List Int := adL f ++ (tagL f ++ (f.ty / 256 :: f.ty % 256 :: f.bs))
def zero : Fd := ⟨0, 0, 0, 0, 0, 0, 0, 0, 0, 0, 0, 0, false, 0, 0, 0, []⟩
/-- The frame that bytes tell, whether it may be or not. -/
def raw (b : List Int) : Option Fd :=
  if b.length < 14 then none
  else if b.getD 12 0 * 256 + b.getD 13 0 = 33024 then
    if b.length < 18 then none
    else some { d0 := b.getD 0 0, d1 := b.getD 1 0, d2 := b.getD 2 0, d3 := b.getD 3 0, d4 := b.getD 4 0, d5 := b.getD 5 0, s0 := b.getD 6 0, s1 := b.getD 7 0, s2 := b.getD 8 0, s3 := b.getD 9 0, s4 := b.getD 10 0, s5 := b.getD 11 0, tg := true, vl := (b.getD 14 0 * 256 + b.getD 15 0) % 8192, pr := (b.getD 14 0 * 256 + b.getD 15 0) / 8192, ty := b.getD 16 0 * 256 + b.getD 17 0, bs := b.drop 18 }
  else some { d0 := b.getD 0 0, d1 := b.getD 1 0, d2 := b.getD 2 0, d3 := b.getD 3 0, d4 := b.getD 4 0, d5 := b.getD 5 0, s0 := b.getD 6 0, s1 := b.getD 7 0, s2 := b.getD 8 0, s3 := b.getD 9 0, s4 := b.getD 10 0, s5 := b.getD 11 0, tg := false, vl := 0, pr := 0, ty := b.getD 12 0 * 256 + b.getD 13 0, bs := b.drop 14 }
/-- What Decode answers. -/
def dec (b : List Int) : Fd × Int := match raw b with
  | none => (zero, 2)
  | some f => if rt f then (f, 0) else (zero, 2)

theorem list14 {α : Type} (l : List α) (h : 14 ≤ l.length) : ∃ x0 x1 x2 x3 x4 x5 x6 x7 x8 x9 x10 x11 x12 x13 r, l = x0 :: x1 :: x2 :: x3 :: x4 :: x5 :: x6 :: x7 :: x8 :: x9 :: x10 :: x11 :: x12 :: x13 :: r := by
  match l, h with
  | x0 :: x1 :: x2 :: x3 :: x4 :: x5 :: x6 :: x7 :: x8 :: x9 :: x10 :: x11 :: x12 :: x13 :: r, _ => exact ⟨x0, x1, x2, x3, x4, x5, x6, x7, x8, x9, x10, x11, x12, x13, r, rfl⟩
theorem list4 {α : Type} (l : List α) (h : 4 ≤ l.length) : ∃ x0 x1 x2 x3 r, l = x0 :: x1 :: x2 :: x3 :: r := by
  match l, h with
  | x0 :: x1 :: x2 :: x3 :: r, _ => exact ⟨x0, x1, x2, x3, r, rfl⟩

theorem tok_yes {f : Fd} (h : f.tg = true) (k : tok f = true) : 0 ≤ f.vl ∧ f.vl ≤ 4094 ∧ 0 ≤ f.pr ∧ f.pr ≤ 7 := by simpa [tok, h] using k
theorem tok_no {f : Fd} (h : f.tg = false) (k : tok f = true) : f.vl = 0 ∧ f.pr = 0 := by simpa [tok, h] using k
theorem rt_and {f : Fd} (k : rt f = true) : 1536 ≤ f.ty ∧ f.ty ≤ 65535 ∧ f.ty ≠ 33024 ∧ f.bs.length ≤ 1500 ∧ tok f = true := by
  simp only [rt, Bool.and_eq_true, decide_eq_true_eq] at k
  exact ⟨k.1.1, k.1.2.1, k.1.2.2.1, k.1.2.2.2, k.2⟩
theorem rng_append {a b : List Int} (h : Rng a) (k : Rng b) : Rng (a ++ b) := by
  intro n hn
  rcases List.mem_append.1 hn with h1 | h1
  · exact h n h1
  · exact k n h1
theorem rng_cons {a : Int} {b : List Int} (h0 : 0 ≤ a) (h1 : a ≤ 255) (k : Rng b) : Rng (a :: b) := by
  intro n hn
  rcases List.mem_cons.1 hn with rfl | h1
  · exact ⟨h0, h1⟩
  · exact k n h1
theorem rng_nil : Rng [] := by intro n hn; cases hn
theorem rng_getD {a : List Int} (h : Rng a) (j : Nat) : 0 ≤ a.getD j 0 ∧ a.getD j 0 ≤ 255 := by
  rw [List.getD_eq_getElem?_getD]
  by_cases hj : j < a.length
  · rw [List.getElem?_eq_getElem hj]; exact h _ (List.getElem_mem hj)
  · rw [List.getElem?_eq_none (by omega)]; simp
theorem rng_drop {a : List Int} (h : Rng a) (j : Nat) : Rng (a.drop j) := fun n hn => h n (List.mem_of_mem_drop hn)
theorem rng_take {a : List Int} (h : Rng a) (j : Nat) : Rng (a.take j) := fun n hn => h n (List.mem_of_mem_take hn)
theorem enc_length (f : Fd) : (enc f).length = 14 + f.bs.length + if f.tg then 4 else 0 := by
  cases h : f.tg <;> simp [enc, adL, tagL, h] <;> omega
theorem enc_rng {f : Fd} (h : FdB f) (k : rt f = true) : Rng (enc f) := by
  obtain ⟨k1, k2, k3, k4, k5⟩ := rt_and k
  refine rng_append h.a (rng_append ?_ (rng_cons (by omega) (by omega) (rng_cons (by omega) (by omega) h.b)))
  cases ht : f.tg
  · simp only [tagL, ht, Bool.false_eq_true, if_false]; exact rng_nil
  · obtain ⟨v0, v1, p0, p1⟩ := tok_yes ht k5
    simp only [tagL, ht, if_true]
    exact rng_cons (by omega) (by omega) (rng_cons (by omega) (by omega) (rng_cons (by omega) (by omega) (rng_cons (by omega) (by omega) rng_nil)))

theorem raw_short {b : List Int} (h : b.length < 14) : raw b = none := by simp [raw, h]
theorem raw_plain (x0 x1 x2 x3 x4 x5 x6 x7 x8 x9 x10 x11 x12 x13 : Int) (r : List Int) (h : ¬ x12 * 256 + x13 = 33024) : raw (x0 :: x1 :: x2 :: x3 :: x4 :: x5 :: x6 :: x7 :: x8 :: x9 :: x10 :: x11 :: x12 :: x13 :: r) = some ⟨x0, x1, x2, x3, x4, x5, x6, x7, x8, x9, x10, x11, false, 0, 0, x12 * 256 + x13, r⟩ := by
  have e : ¬ (x0 :: x1 :: x2 :: x3 :: x4 :: x5 :: x6 :: x7 :: x8 :: x9 :: x10 :: x11 :: x12 :: x13 :: r).length < 14 := by simp
  simp only [raw, if_neg e]
  simp [h]
theorem raw_tagged (x0 x1 x2 x3 x4 x5 x6 x7 x8 x9 x10 x11 x12 x13 x14 x15 x16 x17 : Int) (r : List Int) (h : x12 * 256 + x13 = 33024) : raw (x0 :: x1 :: x2 :: x3 :: x4 :: x5 :: x6 :: x7 :: x8 :: x9 :: x10 :: x11 :: x12 :: x13 :: x14 :: x15 :: x16 :: x17 :: r) = some ⟨x0, x1, x2, x3, x4, x5, x6, x7, x8, x9, x10, x11, true, (x14 * 256 + x15) % 8192, (x14 * 256 + x15) / 8192, x16 * 256 + x17, r⟩ := by
  have e : ¬ (x0 :: x1 :: x2 :: x3 :: x4 :: x5 :: x6 :: x7 :: x8 :: x9 :: x10 :: x11 :: x12 :: x13 :: x14 :: x15 :: x16 :: x17 :: r).length < 14 := by simp
  have e2 : ¬ (x0 :: x1 :: x2 :: x3 :: x4 :: x5 :: x6 :: x7 :: x8 :: x9 :: x10 :: x11 :: x12 :: x13 :: x14 :: x15 :: x16 :: x17 :: r).length < 18 := by simp
  simp only [raw, if_neg e, if_neg e2]
  simp [h]
theorem raw_cut (x0 x1 x2 x3 x4 x5 x6 x7 x8 x9 x10 x11 x12 x13 : Int) (r : List Int) (h : x12 * 256 + x13 = 33024) (hr : r.length < 4) : raw (x0 :: x1 :: x2 :: x3 :: x4 :: x5 :: x6 :: x7 :: x8 :: x9 :: x10 :: x11 :: x12 :: x13 :: r) = none := by
  have e : ¬ (x0 :: x1 :: x2 :: x3 :: x4 :: x5 :: x6 :: x7 :: x8 :: x9 :: x10 :: x11 :: x12 :: x13 :: r).length < 14 := by simp
  have e2 : (x0 :: x1 :: x2 :: x3 :: x4 :: x5 :: x6 :: x7 :: x8 :: x9 :: x10 :: x11 :: x12 :: x13 :: r).length < 18 := by simp; omega
  simp only [raw, if_neg e, if_pos e2]
  simp [h]

/-- Bytes that tell a frame are that frame's. -/
theorem raw_enc {b : List Int} {f : Fd} (hb : Rng b) (h : raw b = some f) : enc f = b ∧ FdB f ∧ (f.tg = true → 0 ≤ f.vl ∧ f.vl < 8192 ∧ 0 ≤ f.pr ∧ f.pr ≤ 7) ∧ 0 ≤ f.ty ∧ f.ty ≤ 65535 := by
  by_cases hl : b.length < 14
  · rw [raw_short hl] at h; cases h
  obtain ⟨x0, x1, x2, x3, x4, x5, x6, x7, x8, x9, x10, x11, x12, x13, r, rfl⟩ := list14 b (by omega)
  have rr : ∀ n, n ∈ (x0 :: x1 :: x2 :: x3 :: x4 :: x5 :: x6 :: x7 :: x8 :: x9 :: x10 :: x11 :: x12 :: x13 :: r) → 0 ≤ n ∧ n ≤ 255 := hb
  have hx12 := rr x12 (by simp); have hx13 := rr x13 (by simp)
  have ha : Rng [x0, x1, x2, x3, x4, x5, x6, x7, x8, x9, x10, x11] := fun n hn => rr n (List.mem_append_left (x12 :: x13 :: r) hn)
  by_cases ht : x12 * 256 + x13 = 33024
  · have e12 : x12 = 129 := by omega
    have e13 : x13 = 0 := by omega
    by_cases hr : r.length < 4
    · rw [raw_cut _ _ _ _ _ _ _ _ _ _ _ _ _ _ _ ht hr] at h; cases h
    obtain ⟨x14, x15, x16, x17, q, rfl⟩ := list4 r (by omega)
    rw [raw_tagged _ _ _ _ _ _ _ _ _ _ _ _ _ _ _ _ _ _ _ ht] at h
    obtain rfl := Option.some.inj h
    have h14 := rr x14 (by simp); have h15 := rr x15 (by simp); have h16 := rr x16 (by simp); have h17 := rr x17 (by simp)
    have q0 : 8192 * ((x14 * 256 + x15) / 8192) + (x14 * 256 + x15) % 8192 = x14 * 256 + x15 := by omega
    have q1 : (x14 * 256 + x15) / 256 = x14 := by omega
    have q2 : (x14 * 256 + x15) % 256 = x15 := by omega
    have q3 : (x16 * 256 + x17) / 256 = x16 := by omega
    have q4 : (x16 * 256 + x17) % 256 = x17 := by omega
    refine ⟨?_, ⟨ha, fun n hn => rr n (by simp [show n ∈ q from hn])⟩, fun _ => ⟨by show 0 ≤ (x14 * 256 + x15) % 8192; omega, by show (x14 * 256 + x15) % 8192 < 8192; omega, by show 0 ≤ (x14 * 256 + x15) / 8192; omega, by show (x14 * 256 + x15) / 8192 ≤ 7; omega⟩, by show 0 ≤ x16 * 256 + x17; omega, by show x16 * 256 + x17 ≤ 65535; omega⟩
    simp only [enc, adL, tagL, if_true, q0, q1, q2, q3, q4, e12, e13, List.cons_append, List.nil_append]
  · rw [raw_plain _ _ _ _ _ _ _ _ _ _ _ _ _ _ _ ht] at h
    obtain rfl := Option.some.inj h
    have q3 : (x12 * 256 + x13) / 256 = x12 := by omega
    have q4 : (x12 * 256 + x13) % 256 = x13 := by omega
    refine ⟨?_, ⟨ha, fun n hn => rr n (by simp [show n ∈ r from hn])⟩, fun h => (by cases h), by show 0 ≤ x12 * 256 + x13; omega, by show x12 * 256 + x13 ≤ 65535; omega⟩
    simp [enc, adL, tagL, q3, q4]

/-- A frame's bytes tell it. -/
theorem enc_raw {f : Fd} (k : rt f = true) : raw (enc f) = some f := by
  obtain ⟨k1, k2, k3, k4, k5⟩ := rt_and k
  obtain ⟨d0, d1, d2, d3, d4, d5, s0, s1, s2, s3, s4, s5, tg, vl, pr, ty, bs⟩ := f
  cases tg
  · obtain ⟨rfl, rfl⟩ : vl = 0 ∧ pr = 0 := tok_no rfl k5
    have q : ty / 256 * 256 + ty % 256 = ty := by omega
    have := raw_plain d0 d1 d2 d3 d4 d5 s0 s1 s2 s3 s4 s5 (ty / 256) (ty % 256) bs (by rw [q]; exact k3)
    rw [q] at this
    exact this
  · obtain ⟨v0, v1, p0, p1⟩ : 0 ≤ vl ∧ vl ≤ 4094 ∧ 0 ≤ pr ∧ pr ≤ 7 := tok_yes rfl k5
    have q : ty / 256 * 256 + ty % 256 = ty := by omega
    have q1 : ((8192 * pr + vl) / 256 * 256 + (8192 * pr + vl) % 256) % 8192 = vl := by omega
    have q2 : ((8192 * pr + vl) / 256 * 256 + (8192 * pr + vl) % 256) / 8192 = pr := by omega
    have := raw_tagged d0 d1 d2 d3 d4 d5 s0 s1 s2 s3 s4 s5 129 0 ((8192 * pr + vl) / 256) ((8192 * pr + vl) % 256) (ty / 256) (ty % 256) bs rfl
    rw [q, q1, q2] at this
    exact this

theorem dec_back {f : Fd} (k : rt f = true) : dec (enc f) = (f, 0) := by simp [dec, enc_raw k, k]
theorem enc_inj {f g : Fd} (k : rt f = true) (l : rt g = true) (h : enc f = enc g) : f = g := by
  have := enc_raw k
  rw [h, enc_raw l] at this
  exact (Option.some.inj this).symm
theorem dec_none {b : List Int} (h : raw b = none) : dec b = (zero, 2) := by simp [dec, h]
theorem dec_bad {b : List Int} {f : Fd} (h : raw b = some f) (k : rt f = false) : dec b = (zero, 2) := by simp [dec, h, k]
theorem dec_good {b : List Int} {f : Fd} (h : raw b = some f) (k : rt f = true) : dec b = (f, 0) := by simp [dec, h, k]
theorem dec_cases {b : List Int} (hb : Rng b) : (∃ f, dec b = (f, 0) ∧ rt f = true ∧ FdB f ∧ enc f = b) ∨ dec b = (zero, 2) := by
  cases h : raw b with
  | none => exact Or.inr (dec_none h)
  | some f =>
    cases k : rt f
    · exact Or.inr (dec_bad h k)
    · exact Or.inl ⟨f, dec_good h k, k, (raw_enc hb h).2.1, (raw_enc hb h).1⟩
theorem zero_B : FdB zero := ⟨fun n hn => by simp [adL, zero] at hn; omega, rng_nil⟩
theorem dec_B {b : List Int} (hb : Rng b) : FdB (dec b).1 := by
  rcases dec_cases hb with ⟨f, h, _, k, _⟩ | h
  · rw [h]; exact k
  · rw [h]; exact zero_B
end Go.Proofs.YtgpdjfaklcmoiaaDoor.Eth
/- Memory: a list of bytes, and a frame; how both stay while others do something. Contracts of Right, as the program and as the document has it. -/
namespace Go.Proofs.YtgpdjfaklcmoiaaDoor.Eth
open Go.RowKit

theorem bcell {W w1 : World} (hb : Below W.heap.size W w1) : (∀ b o, b < W.heap.size → w1.cell? ⟨b, o, none⟩ = W.cell? ⟨b, o, none⟩) ∧ (∀ b o, b < W.heap.size → w1.frozen? ⟨b, o, none⟩ = W.frozen? ⟨b, o, none⟩) :=
  ⟨fun b o h => hb.cell (p := ⟨b, o, none⟩) h, fun b o h => hb.frozen (p := ⟨b, o, none⟩) h⟩
theorem hide {p : Prop} (h : p) : Hid p := h
theorem ret_bool {a b : Bool} (h : a = b) : Ending.returned (.bool a) = .returned (.bool b) := by rw [h]
theorem ret_int {k : IntKind} {a b : Int} (h : a = b) : Ending.returned (.int k a) = .returned (.int k b) := by rw [h]
theorem belowOn {w wr w1 : World} (hB : Below w.heap.size w wr) (hb : Below wr.heap.size wr w1) : Below w.heap.size w w1 := hB.trans (hb.mono hB.size)
theorem Tryd.cells5 : Tryd.prog.cellsOf 5 = 1 := by kernel_rfl
theorem Tryd.cells23 : Tryd.prog.cellsOf 23 = 6 := by kernel_rfl
theorem Tryd.cells26 : Tryd.prog.cellsOf 26 = 17 := by kernel_rfl
theorem Tryd.info5 : (Tryd.prog.info? 5).map (fun i => (i.zero, i.size, i.bytes)) = some (some (.int .u8 0), 1, 1) := by kernel_rfl

/-- A slice's bytes. -/
structure Byt (w : World) (ao : Option Addr) (n c : Nat) (ns : List Int) : Prop where
  len : ns.length = n
  nil : ao = none → n = 0 ∧ c = 0
  cell : ∀ j, j < n → ∃ b o, ao = some ⟨b, o, none⟩ ∧ w.cell? ⟨b, o + j, none⟩ = some (.int .u8 (ns.getD j 0))
  le : n ≤ c
  mx : c ≤ maxLen
  rng : Rng ns

theorem Byt.on {w w1 : World} {ao : Option Addr} {n c : Nat} {ns : List Int} (h : Byt w ao n c ns) (hb : Below w.heap.size w w1) : Byt w1 ao n c ns :=
  ⟨h.len, h.nil, fun j hj => by
    obtain ⟨b, o, e, hc⟩ := h.cell j hj
    exact ⟨b, o, e, (hb.cell (p := ⟨b, o + j, none⟩) (World.block_lt_of_cell? w _ hc)).trans hc⟩, h.le, h.mx, h.rng⟩
theorem Byt.nothing (w : World) : Byt w none 0 0 [] := ⟨rfl, fun _ => ⟨rfl, rfl⟩, fun j hj => by omega, Nat.le_refl _, Nat.zero_le _, rng_nil⟩
theorem Byt.at {w : World} {ao : Option Addr} {n c : Nat} {ns : List Int} (h : Byt w ao n c ns) (hn : 0 < n) : ∃ b o, ao = some ⟨b, o, none⟩ ∧ (∀ j, j < n → w.cell? ⟨b, o + j, none⟩ = some (.int .u8 (ns.getD j 0))) ∧ b < w.heap.size := by
  obtain ⟨b, o, rfl, hc⟩ := h.cell 0 hn
  refine ⟨b, o, rfl, fun j hj => ?_, World.block_lt_of_cell? w _ hc⟩
  obtain ⟨b', o', e, hc'⟩ := h.cell j hj
  have e1 := Option.some.inj e
  injection e1 with e2 e3
  subst e2 e3
  exact hc'

/-- A frame in memory. -/
structure AtF (w : World) (k : Nat) (f : Fd) (b : Value) : Prop where
  lt : k < w.heap.size
  c0 : w.cell? ⟨k, 0, none⟩ = some (.int .u8 f.d0)
  c1 : w.cell? ⟨k, 1, none⟩ = some (.int .u8 f.d1)
  c2 : w.cell? ⟨k, 2, none⟩ = some (.int .u8 f.d2)
  c3 : w.cell? ⟨k, 3, none⟩ = some (.int .u8 f.d3)
  c4 : w.cell? ⟨k, 4, none⟩ = some (.int .u8 f.d4)
  c5 : w.cell? ⟨k, 5, none⟩ = some (.int .u8 f.d5)
  c6 : w.cell? ⟨k, 6, none⟩ = some (.int .u8 f.s0)
  c7 : w.cell? ⟨k, 7, none⟩ = some (.int .u8 f.s1)
  c8 : w.cell? ⟨k, 8, none⟩ = some (.int .u8 f.s2)
  c9 : w.cell? ⟨k, 9, none⟩ = some (.int .u8 f.s3)
  c10 : w.cell? ⟨k, 10, none⟩ = some (.int .u8 f.s4)
  c11 : w.cell? ⟨k, 11, none⟩ = some (.int .u8 f.s5)
  c12 : w.cell? ⟨k, 12, none⟩ = some (.bool f.tg)
  c13 : w.cell? ⟨k, 13, none⟩ = some (.int .i64 f.vl)
  c14 : w.cell? ⟨k, 14, none⟩ = some (.int .i64 f.pr)
  c15 : w.cell? ⟨k, 15, none⟩ = some (.int .i64 f.ty)
  c16 : w.cell? ⟨k, 16, none⟩ = some b

theorem AtF.on {w w1 : World} {k : Nat} {f : Fd} {b : Value} (h : AtF w k f b) (hb : Below w.heap.size w w1) : AtF w1 k f b := by
  have e : ∀ i, w1.cell? ⟨k, i, none⟩ = w.cell? ⟨k, i, none⟩ := fun i => hb.cell (p := ⟨k, i, none⟩) h.lt
  exact ⟨Nat.lt_of_lt_of_le h.lt hb.size, by rw [e]; exact h.c0, by rw [e]; exact h.c1, by rw [e]; exact h.c2, by rw [e]; exact h.c3, by rw [e]; exact h.c4, by rw [e]; exact h.c5, by rw [e]; exact h.c6, by rw [e]; exact h.c7, by rw [e]; exact h.c8, by rw [e]; exact h.c9, by rw [e]; exact h.c10, by rw [e]; exact h.c11, by rw [e]; exact h.c12, by rw [e]; exact h.c13, by rw [e]; exact h.c14, by rw [e]; exact h.c15, by rw [e]; exact h.c16⟩
theorem AtF.new (w : World) (f : Fd) (b : Value) : AtF (w.alloc (.cells #[.int .u8 f.d0, .int .u8 f.d1, .int .u8 f.d2, .int .u8 f.d3, .int .u8 f.d4, .int .u8 f.d5, .int .u8 f.s0, .int .u8 f.s1, .int .u8 f.s2, .int .u8 f.s3, .int .u8 f.s4, .int .u8 f.s5, .bool f.tg, .int .i64 f.vl, .int .i64 f.pr, .int .i64 f.ty, b] 26)) w.heap.size f b :=
  ⟨by simp, by simp, by simp, by simp, by simp, by simp, by simp, by simp, by simp, by simp, by simp, by simp, by simp, by simp, by simp, by simp, by simp, by simp⟩
theorem below_alloc (w : World) (o : Obj) : Below w.heap.size w (w.alloc o) := (Below.refl _ _).alloc (Nat.le_refl _) o
theorem AtF.alloc {w : World} {k : Nat} {f : Fd} {b : Value} (h : AtF w k f b) (o : Obj) : AtF (w.alloc o) k f b := h.on (below_alloc w o)
theorem Byt.alloc {w : World} {ao : Option Addr} {n c : Nat} {ns : List Int} (h : Byt w ao n c ns) (o : Obj) : Byt (w.alloc o) ao n c ns := h.on (below_alloc w o)

theorem AtF.all {w : World} {k : Nat} {f : Fd} {b : Value} (h : AtF w k f b) : w.rangeAt k 0 [.int .u8 f.d0, .int .u8 f.d1, .int .u8 f.d2, .int .u8 f.d3, .int .u8 f.d4, .int .u8 f.d5, .int .u8 f.s0, .int .u8 f.s1, .int .u8 f.s2, .int .u8 f.s3, .int .u8 f.s4, .int .u8 f.s5, .bool f.tg, .int .i64 f.vl, .int .i64 f.pr, .int .i64 f.ty, b] := by
  intro j v hj
  rw [Nat.zero_add]
  match j, hj with
  | 0, hj => simp at hj; subst hj; exact h.c0
  | 1, hj => simp at hj; subst hj; exact h.c1
  | 2, hj => simp at hj; subst hj; exact h.c2
  | 3, hj => simp at hj; subst hj; exact h.c3
  | 4, hj => simp at hj; subst hj; exact h.c4
  | 5, hj => simp at hj; subst hj; exact h.c5
  | 6, hj => simp at hj; subst hj; exact h.c6
  | 7, hj => simp at hj; subst hj; exact h.c7
  | 8, hj => simp at hj; subst hj; exact h.c8
  | 9, hj => simp at hj; subst hj; exact h.c9
  | 10, hj => simp at hj; subst hj; exact h.c10
  | 11, hj => simp at hj; subst hj; exact h.c11
  | 12, hj => simp at hj; subst hj; exact h.c12
  | 13, hj => simp at hj; subst hj; exact h.c13
  | 14, hj => simp at hj; subst hj; exact h.c14
  | 15, hj => simp at hj; subst hj; exact h.c15
  | 16, hj => simp at hj; subst hj; exact h.c16
theorem AtF.dst {w : World} {k : Nat} {f : Fd} {b : Value} (h : AtF w k f b) : w.rangeAt k 0 [.int .u8 f.d0, .int .u8 f.d1, .int .u8 f.d2, .int .u8 f.d3, .int .u8 f.d4, .int .u8 f.d5] := by
  intro j v hj
  rw [Nat.zero_add]
  match j, hj with
  | 0, hj => simp at hj; subst hj; exact h.c0
  | 1, hj => simp at hj; subst hj; exact h.c1
  | 2, hj => simp at hj; subst hj; exact h.c2
  | 3, hj => simp at hj; subst hj; exact h.c3
  | 4, hj => simp at hj; subst hj; exact h.c4
  | 5, hj => simp at hj; subst hj; exact h.c5
theorem AtF.src {w : World} {k : Nat} {f : Fd} {b : Value} (h : AtF w k f b) : w.rangeAt k 6 [.int .u8 f.s0, .int .u8 f.s1, .int .u8 f.s2, .int .u8 f.s3, .int .u8 f.s4, .int .u8 f.s5] := by
  intro j v hj
  match j, hj with
  | 0, hj => simp at hj; subst hj; exact h.c6
  | 1, hj => simp at hj; subst hj; exact h.c7
  | 2, hj => simp at hj; subst hj; exact h.c8
  | 3, hj => simp at hj; subst hj; exact h.c9
  | 4, hj => simp at hj; subst hj; exact h.c10
  | 5, hj => simp at hj; subst hj; exact h.c11
/-- A load of many cells, as one step. -/
theorem wpl_load {P : Program} {ops : Array Oper} {rest : List Oper} {op : Oper} {a : Act} {w : World} {Q : Exit → Act → World → Prop} (ty : TypeId) (x : Operand) (ho : op.op = .load ty x) (b o : Nat) (cs : List Value) (d : TypeDesc) (hc : w.rangeAt b o cs)
    (hu : P.underlying ty = some d) (hd : d.isRow = true) (hi : (P.info? ty).map (·.size) = some cs.length) (hw : Region.wanted op (yielded ops a.tmps) = true) (hx : a.eval x = .pointer (some ⟨b, o, none⟩))
    (h : wpList P ops Q rest (a.put op.dst (.agg cs.toArray)) w) : wpList P ops Q (op :: rest) a w :=
  wpList_step fun K hK => by rw [if_pos hw]; exact wp_load_mid ty x ho b o hx cs d hc hu hd hi (hK _ _ h)
theorem Tryd.size26 : (Tryd.prog.info? 26).map (·.size) = some 17 := by kernel_rfl
theorem Tryd.size23 : (Tryd.prog.info? 23).map (·.size) = some 6 := by kernel_rfl
/-- A frame is loaded. -/
theorem wpl_frame {ops : Array Oper} {rest : List Oper} {op : Oper} {a : Act} {w : World} {Q : Exit → Act → World → Prop} {k : Nat} {f : Fd} {b : Value} (x : Operand) (ho : op.op = .load 26 x) (hA : AtF w k f b) (hw : Region.wanted op (yielded ops a.tmps) = true) (hx : a.eval x = .pointer (some ⟨k, 0, none⟩))
    (h : wpList Tryd.prog ops Q rest (a.put op.dst (.agg #[.int .u8 f.d0, .int .u8 f.d1, .int .u8 f.d2, .int .u8 f.d3, .int .u8 f.d4, .int .u8 f.d5, .int .u8 f.s0, .int .u8 f.s1, .int .u8 f.s2, .int .u8 f.s3, .int .u8 f.s4, .int .u8 f.s5, .bool f.tg, .int .i64 f.vl, .int .i64 f.pr, .int .i64 f.ty, b])) w) : wpList Tryd.prog ops Q (op :: rest) a w :=
  wpl_load 26 x ho k 0 _ _ hA.all Tryd.underlying26 rfl Tryd.size26 hw hx h
theorem wpl_dst {ops : Array Oper} {rest : List Oper} {op : Oper} {a : Act} {w : World} {Q : Exit → Act → World → Prop} {k : Nat} {f : Fd} {b : Value} (x : Operand) (ho : op.op = .load 23 x) (hA : AtF w k f b) (hw : Region.wanted op (yielded ops a.tmps) = true) (hx : a.eval x = .pointer (some ⟨k, 0, none⟩))
    (h : wpList Tryd.prog ops Q rest (a.put op.dst (.agg #[.int .u8 f.d0, .int .u8 f.d1, .int .u8 f.d2, .int .u8 f.d3, .int .u8 f.d4, .int .u8 f.d5])) w) : wpList Tryd.prog ops Q (op :: rest) a w :=
  wpl_load 23 x ho k 0 _ _ hA.dst Tryd.underlying23 rfl Tryd.size23 hw hx h
theorem wpl_src {ops : Array Oper} {rest : List Oper} {op : Oper} {a : Act} {w : World} {Q : Exit → Act → World → Prop} {k : Nat} {f : Fd} {b : Value} (x : Operand) (ho : op.op = .load 23 x) (hA : AtF w k f b) (hw : Region.wanted op (yielded ops a.tmps) = true) (hx : a.eval x = .pointer (some ⟨k, 6, none⟩))
    (h : wpList Tryd.prog ops Q rest (a.put op.dst (.agg #[.int .u8 f.s0, .int .u8 f.s1, .int .u8 f.s2, .int .u8 f.s3, .int .u8 f.s4, .int .u8 f.s5])) w) : wpList Tryd.prog ops Q (op :: rest) a w :=
  wpl_load 23 x ho k 6 _ _ hA.src Tryd.underlying23 rfl Tryd.size23 hw hx h
theorem AtF.of {w : World} {k : Nat} {f : Fd} {b : Value} (h : w.rangeAt k 0 [.int .u8 f.d0, .int .u8 f.d1, .int .u8 f.d2, .int .u8 f.d3, .int .u8 f.d4, .int .u8 f.d5, .int .u8 f.s0, .int .u8 f.s1, .int .u8 f.s2, .int .u8 f.s3, .int .u8 f.s4, .int .u8 f.s5, .bool f.tg, .int .i64 f.vl, .int .i64 f.pr, .int .i64 f.ty, b]) : AtF w k f b :=
  ⟨World.block_lt_of_cell? w _ (h 0 _ rfl), (h 0 _ rfl), (h 1 _ rfl), (h 2 _ rfl), (h 3 _ rfl), (h 4 _ rfl), (h 5 _ rfl), (h 6 _ rfl), (h 7 _ rfl), (h 8 _ rfl), (h 9 _ rfl), (h 10 _ rfl), (h 11 _ rfl), (h 12 _ rfl), (h 13 _ rfl), (h 14 _ rfl), (h 15 _ rfl), (h 16 _ rfl)⟩
theorem setCells_grown (b : Nat) : ∀ (vs : List Value) (o : Nat) (w : World), w.grownBy (w.setCells b o vs) (some b)
  | [], _, w => ⟨rfl, rfl, rfl, Nat.le_refl _, fun _ _ _ => rfl⟩
  | v :: r, o, w => by
    have h := setCells_grown b r (o + 1) (w.setCell ⟨b, o, none⟩ v)
    have hs : (w.setCell ⟨b, o, none⟩ v).heap.size = w.heap.size := by simp [World.setCell]
    refine ⟨h.os, h.tape, h.output, by have := h.size; rw [hs] at this; exact this, fun k hk hne => ?_⟩
    have e := h.block k (by rw [hs]; exact hk) hne
    rw [Below.heap_setCell _ _ _ _ (fun e => hne (by rw [e]))] at e
    exact e
/-- A frame is stored into a block of its own. -/
theorem wpl_put {ops : Array Oper} {rest : List Oper} {op : Oper} {a : Act} {w : World} {Q : Exit → Act → World → Prop} {k : Nat} (f : Fd) (ao : Option Addr) (n c : Nat) (x y : Operand) (ho : op.op = .store 26 x y) (ht : w.there k 0 17) (hw : Region.wanted op (yielded ops a.tmps) = true) (hx : a.eval x = .pointer (some ⟨k, 0, none⟩)) (hy : a.eval y = .agg #[.int .u8 f.d0, .int .u8 f.d1, .int .u8 f.d2, .int .u8 f.d3, .int .u8 f.d4, .int .u8 f.d5, .int .u8 f.s0, .int .u8 f.s1, .int .u8 f.s2, .int .u8 f.s3, .int .u8 f.s4, .int .u8 f.s5, .bool f.tg, .int .i64 f.vl, .int .i64 f.pr, .int .i64 f.ty, (.slice ao n c)])
    (h : ∀ w', AtF w' k f (.slice ao n c) → w'.there k 0 17 → w.grownBy w' (some k) → wpList Tryd.prog ops Q rest (a.put op.dst undef) w') : wpList Tryd.prog ops Q (op :: rest) a w :=
  wpList_step fun K hK => by
    rw [if_pos hw]
    refine wp_store_mid 26 x y ho k 0 #[.int .u8 f.d0, .int .u8 f.d1, .int .u8 f.d2, .int .u8 f.d3, .int .u8 f.d4, .int .u8 f.d5, .int .u8 f.s0, .int .u8 f.s1, .int .u8 f.s2, .int .u8 f.s3, .int .u8 f.s4, .int .u8 f.s5, .bool f.tg, .int .i64 f.vl, .int .i64 f.pr, .int .i64 f.ty, (.slice ao n c)] hx hy ht Tryd.size26 (by simp [Value.oneCell']) (hK _ _ (h _ ?_ (World.there_setCells ht k 0 _) ?_))
    · exact AtF.of (World.rangeAt_setCells_same w k 0 _ ht)
    · exact setCells_grown k _ 0 w
end Go.Proofs.YtgpdjfaklcmoiaaDoor.Eth
/- Contracts of Right, as the program and as the document has it. -/
namespace Go.Proofs.YtgpdjfaklcmoiaaDoor.Eth
open Go.RowKit

set_option maxRecDepth 100000 in
set_option maxHeartbeats 1000000 in
theorem tok23 (f : Fd) (b : Value) (w : World) :
    Calls Tryd.prog 43 #[.agg #[.int .u8 f.d0, .int .u8 f.d1, .int .u8 f.d2, .int .u8 f.d3, .int .u8 f.d4, .int .u8 f.d5, .int .u8 f.s0, .int .u8 f.s1, .int .u8 f.s2, .int .u8 f.s3, .int .u8 f.s4, .int .u8 f.s5, .bool f.tg, .int .i64 f.vl, .int .i64 f.pr, .int .i64 f.ty, b]] w fun e w' => e = .returned (.bool (tok f)) ∧ Below w.heap.size w w' := by
  cases ht : f.tg
  · by_cases h1 : f.vl = 0 <;> by_cases h2 : f.pr = 0
    all_goals
      have HT := hide ht
      have ht2 : tok f = decide (f.vl = 0 ∧ f.pr = 0) := by simp [tok, ht]
      rw [ht2]
      clear ht2
      go_enter Tryd.func43, Tryd.ntmps43
      go_wp2
      go_ret
      exact ⟨ret_bool (by simp [*]), by go_grown⟩
  · have ht2 : tok f = decide (0 ≤ f.vl ∧ f.vl ≤ 4094 ∧ 0 ≤ f.pr ∧ f.pr ≤ 7) := by simp [tok, ht]
    rw [ht2]
    clear ht2
    go_enter Tryd.func43, Tryd.ntmps43
    go_wp2
    all_goals
      go_ret
      exact ⟨ret_bool (by first | (simp [*]; done) | (rw [Bool.eq_iff_iff]; simp; omega)), by go_grown⟩
theorem rt_no {f : Fd} (h : ¬ (1536 ≤ f.ty ∧ f.ty ≤ 65535 ∧ f.ty ≠ 33024 ∧ f.bs.length ≤ 1500)) : rt f = false := by simp only [rt, decide_eq_false h, Bool.false_and]
theorem rt_yes {f : Fd} (h : 1536 ≤ f.ty ∧ f.ty ≤ 65535 ∧ f.ty ≠ 33024 ∧ f.bs.length ≤ 1500) : rt f = tok f := by simp only [rt, decide_eq_true h, Bool.true_and]
set_option maxRecDepth 100000 in
set_option maxHeartbeats 1000000 in
theorem right12 (f : Fd) (ao : Option Addr) (n c : Nat) (w : World) (hn : f.bs.length = n) :
    Calls Tryd.prog 23 #[.agg #[.int .u8 f.d0, .int .u8 f.d1, .int .u8 f.d2, .int .u8 f.d3, .int .u8 f.d4, .int .u8 f.d5, .int .u8 f.s0, .int .u8 f.s1, .int .u8 f.s2, .int .u8 f.s3, .int .u8 f.s4, .int .u8 f.s5, .bool f.tg, .int .i64 f.vl, .int .i64 f.pr, .int .i64 f.ty, (.slice ao n c)]] w fun e w' => e = .returned (.bool (rt f)) ∧ Below w.heap.size w w' := by
  by_cases hg : 1536 ≤ f.ty ∧ f.ty ≤ 65535 ∧ f.ty ≠ 33024 ∧ f.bs.length ≤ 1500
  · rw [rt_yes hg]
    obtain ⟨h1, h2, h3, h4⟩ := hg
    replace h4 : (n : Int) ≤ 1500 := by omega
    have h3' : (f.ty != 33024) = true := by simp [h3]
    have A0 := AtF.new w f (.slice ao n c)
    clear h3 hn
    go_enter Tryd.func23, Tryd.ntmps23
    go_wp2_with (first | (go_at_call 43; refine (tok23 f _ _).mono ?_; rintro e w1 ⟨rfl, hb⟩) | (refine wpl_frame (.tmp 1) rfl A0 ?_ ?_ ?_; rfl; rfl))
    go_ret
    exact ⟨rfl, belowOn (below_alloc _ _) hb⟩
  · rw [rt_no hg]
    rw [hn] at hg
    clear hn
    by_cases h1 : 1536 ≤ f.ty
    · by_cases h2 : f.ty ≤ 65535
      · by_cases h3 : f.ty = 33024
        · have h3' : (f.ty != 33024) = false := by simp [h3]
          clear hg h3
          go_enter Tryd.func23, Tryd.ntmps23
          go_wp2
          go_ret
          exact ⟨rfl, by go_grown⟩
        · have h3' : (f.ty != 33024) = true := by simp [h3]
          have h4 : (1500 : Int) < n := by
            have : ¬ n ≤ 1500 := fun h => hg ⟨h1, h2, h3, h⟩
            omega
          have h4' : decide ((n : Int) ≤ 1500) = false := by simp; omega
          clear hg h3
          go_enter Tryd.func23, Tryd.ntmps23
          go_wp2
          go_ret
          exact ⟨rfl, by go_grown⟩
      · clear hg
        go_enter Tryd.func23, Tryd.ntmps23
        go_wp2
        go_ret
        exact ⟨rfl, by go_grown⟩
    · clear hg
      go_enter Tryd.func23, Tryd.ntmps23
      go_wp2
      go_ret
      exact ⟨rfl, by go_grown⟩
end Go.Proofs.YtgpdjfaklcmoiaaDoor.Eth
/- Contracts of what puts bytes down: two, appendPair, Clone; string of a list of bytes. -/
namespace Go.Proofs.YtgpdjfaklcmoiaaDoor.Eth
open Go.RowKit

theorem u8_mod (n : Int) : IntKind.u8.wrap n = n % 256 := by rw [IntKind.wrap_u8]
theorem u8_div (n : Int) (h0 : 0 ≤ n) (h1 : n ≤ 65535) : IntKind.u8.wrap (n / 256) = n / 256 := by rw [IntKind.wrap_u8]; omega
set_option maxRecDepth 100000 in
set_option maxHeartbeats 1000000 in
theorem pair21 (g k cap : Nat) (xs : List Value) (n : Int) (w : World) (h0 : 0 ≤ n) (h1 : n ≤ 65535) (hown : w.ownsRow g 5 1 (.slice (some ⟨g, 0, none⟩) k cap) k xs) (hk : k + 2 ≤ cap) (hg : g < w.heap.size) :
    Calls Tryd.prog 24 #[.slice (some ⟨g, 0, none⟩) k cap, .int .i64 n] w fun e w' => e = .returned (.slice (some ⟨g, 0, none⟩) (k + 2) cap) ∧ w'.ownsRow g 5 1 (.slice (some ⟨g, 0, none⟩) (k + 2) cap) (k + 2) (xs ++ [.int .u8 (n / 256), .int .u8 (n % 256)]) ∧ Below g w w' := by
  have q1 := u8_div n h0 h1
  have q2 := u8_mod n
  obtain ⟨i0, hi, hz0, hz1, hz2⟩ := info_parts Tryd.info5
  go_enter Tryd.func24, Tryd.ntmps24
  go_wp2_with (at_builtin; refine wpList_append_fits _ rfl (.tmp 5) (.tmp 11) 24 rfl g 5 i0 1 Tryd.underlying24 hi hz1 g k cap xs rfl (hown.alloc _) ⟨w.heap.size, 0, none⟩ 2 2 [.int .u8 (n / 256), .int .u8 (n % 256)] rfl rfl ?c1 ?c2 hk ?_)
  case c1 =>
    intro j u hj
    match j, hj with
    | 0, hj => simp at hj; subst hj; simp [Addr.add]
    | 1, hj => simp at hj; subst hj; simp [Addr.add]
  case c2 => intro u hu; simp at hu; rcases hu with rfl | rfl <;> rfl
  intro w1 hown1 hgrow
  have hB : Below g w w1 := ((Below.refl g w).alloc (by omega) _).grown hgrow (by simp; omega) (fun k hk => by have := Option.some.inj hk; omega)
  clear hgrow
  go_wp2
  go_ret
  exact ⟨rfl, hown1, hB⟩

end Go.Proofs.YtgpdjfaklcmoiaaDoor.Eth
/- Contract of Clone; string of a list of bytes; what an own row is. -/
namespace Go.Proofs.YtgpdjfaklcmoiaaDoor.Eth
open Go.RowKit

theorem Byt.src {w : World} {ad : Addr} {n c : Nat} {ns : List Int} (h : Byt w (some ad) n c ns) : ∀ j u, (ns.map (Value.int .u8))[j]? = some u → w.cell? (ad.add j) = some u := by
  intro j u hj
  rw [List.getElem?_map, Option.map_eq_some_iff] at hj
  obtain ⟨x, hx, rfl⟩ := hj
  have hl : j < ns.length := (List.getElem?_eq_some_iff.1 hx).1
  obtain ⟨b, o, e, hc⟩ := h.cell j (by rw [← h.len]; exact hl)
  obtain rfl := Option.some.inj e
  rw [List.getD_eq_getElem?_getD, hx] at hc
  rw [Addr.add_lit]
  exact hc
theorem one_u8 (ns : List Int) : ∀ u ∈ ns.map (Value.int .u8), u.oneCell' = true := by
  intro u hu
  obtain ⟨x, _, rfl⟩ := List.mem_map.1 hu
  rfl
theorem own_byt {w : World} {base : Nat} {v : Value} {n : Nat} {ns : List Int} (h : w.ownsRow base 5 1 v n (ns.map (Value.int .u8))) (hr : Rng ns) : ∃ ao c, v = .slice ao n c ∧ Byt w ao n c ns := by
  have hl : ns.length = n := by have := h.1; simpa using this
  rcases h.2 with ⟨rfl, rfl⟩ | ⟨g, cap, cur, rfl, hb, hg, hn, hm, hs, ht⟩
  · exact ⟨none, 0, rfl, ⟨hl, fun _ => ⟨rfl, rfl⟩, fun j hj => by omega, Nat.le_refl _, Nat.zero_le _, hr⟩⟩
  · refine ⟨_, _, rfl, ⟨hl, fun e => (by cases e), fun j hj => ⟨g, 0, rfl, ?_⟩, hn, hm, hr⟩⟩
    have hc := h.cells (g := g) rfl j (.int .u8 (ns.getD j 0)) (by
      rw [List.getElem?_map, List.getElem?_eq_getElem (by omega), List.getD_eq_getElem?_getD, List.getElem?_eq_getElem (by omega)]; rfl)
    rw [Addr.add_lit] at hc
    exact hc
theorem own_some {w : World} {base g : Nat} {cap n : Nat} {ns : List Int} (h : w.ownsRow base 5 1 (.slice (some ⟨g, 0, none⟩) n cap) n (ns.map (Value.int .u8))) (hr : Rng ns) : Byt w (some ⟨g, 0, none⟩) n cap ns := by
  obtain ⟨ao, c, e, hb⟩ := own_byt h hr
  injection e with e1 e2 e3
  subst e1 e3
  exact hb

/-- The bytes of a list of numbers, as a string's. -/
def bs (ns : List Int) : ByteArray := ⟨(ns.map fun n => UInt8.ofNat n.toNat).toArray⟩
theorem bs_toList (ns : List Int) : (bs ns).toList = ns.map fun n => UInt8.ofNat n.toNat := by rw [ByteArray.toList_eq]; simp [bs]
theorem u8_inj {x y : Int} (hx : 0 ≤ x ∧ x ≤ 255) (hy : 0 ≤ y ∧ y ≤ 255) (h : UInt8.ofNat x.toNat = UInt8.ofNat y.toNat) : x = y := by
  have h1 := congrArg UInt8.toNat h
  simp at h1
  omega
theorem map_inj : ∀ {a b : List Int}, Rng a → Rng b → (a.map fun n => UInt8.ofNat n.toNat) = (b.map fun n => UInt8.ofNat n.toNat) → a = b
  | [], [], _, _, _ => rfl
  | [], _ :: _, _, _, h => by simp at h
  | _ :: _, [], _, _, h => by simp at h
  | x :: a, y :: b, ha, hb, h => by
    simp only [List.map_cons, List.cons.injEq] at h
    have e := u8_inj (ha x (by simp)) (hb y (by simp)) h.1
    have e2 := map_inj (fun n hn => ha n (by simp [hn])) (fun n hn => hb n (by simp [hn])) h.2
    rw [e, e2]
theorem bs_beq {a b : List Int} (ha : Rng a) (hb : Rng b) : ((bs a).toList == (bs b).toList) = decide (a = b) := by
  rw [bs_toList, bs_toList, Bool.eq_iff_iff]
  simp only [beq_iff_eq, decide_eq_true_eq]
  exact ⟨map_inj ha hb, fun h => by rw [h]⟩
theorem bs_beq_self (a : List Int) : ((bs a).toList == (bs a).toList) = true := by simp

/-- A []byte as a string. -/
theorem bytStr {w : World} {ao : Option Addr} {n c : Nat} {ns : List Int} (h : Byt w ao n c ns) :
    (convert 24 9 (.slice ao n c)).run Tryd.prog w = .ok (.string (bs ns)) w := by
  rw [run_convert_bytes_string w 24 9 5 _ _ _ Tryd.underlying24 Tryd.underlying5 Tryd.underlying9]
  cases ao with
  | none =>
    obtain ⟨rfl, rfl⟩ := h.nil rfl
    obtain rfl : ns = [] := List.eq_nil_of_length_eq_zero h.len
    rfl
  | some ad =>
    have hl := run_loadCells_list (P := Tryd.prog) w ad (ns.map (Value.int .u8)) h.src
    rw [List.length_map, h.len] at hl
    rw [run_bytesToString w _ _ _ ns (by simpa using hl), foldl_push_bytes]
    simp [bs]
set_option maxRecDepth 100000 in
set_option maxHeartbeats 1000000 in
theorem clone26 (ao : Option Addr) (n c : Nat) (ns : List Int) (w : World) (h : Byt w ao n c ns) (hn : n ≤ 5000) :
    Calls Tryd.prog 35 #[.slice ao n c] w fun e w' => ∃ ao' c', e = .returned (.slice ao' n c') ∧ Byt w' ao' n c' ns ∧ Below w.heap.size w w' := by
  have q24 : ∀ (w : World) (a : Option Addr) (n c n' c' : Nat), (binOp .eql 24 (.slice a n c) (.slice none n' c')).run Tryd.prog w = .ok (.bool a.isNone) w := fun w a n c n' c' => Lib.run_eql_slice_nil w _ _ a n c n' c' Tryd.underlying24
  cases ao with
  | none =>
    obtain ⟨rfl, rfl⟩ := h.nil rfl
    go_enter Tryd.func35, Tryd.ntmps35
    go_wp2
    go_ret
    exact ⟨none, 0, rfl, h, Below.refl _ _⟩
  | some ad =>
    obtain ⟨i0, hi, hz0, hz1, hz2⟩ := info_parts Tryd.info5
    have hlen := h.len
    have hsrc := hide (h.alloc (.cells #[] 5)).src
    have hown : (w.alloc (.cells #[] 5)).ownsRow w.heap.size 5 1 (.slice (some ⟨w.heap.size, 0, none⟩) 0 0) 0 [] := World.ownsRow_made w #[] 0 (Nat.le_refl _) (Nat.zero_le _) rfl
    have HO := hide hown
    clear hown
    go_enter Tryd.func35, Tryd.ntmps35
    go_wp2_with (at_builtin; refine wpList_append_own _ rfl (.tmp 5) (.tmp 6) 24 rfl w.heap.size 5 i0 (.int .u8 0) 1 1 Tryd.underlying24 hi hz0 hz1 hz2 rfl (by decide) (.slice (some ⟨w.heap.size, 0, none⟩) 0 0) 0 [] rfl HO.out ad n c (ns.map (Value.int .u8)) rfl (by simp [hlen]) hsrc.out (one_u8 ns) (by unfold maxLen; omega) (by omega) (by simp) ?_)
    intro v' w1 hown1 hgrow _
    have hB : Below w.heap.size w w1 := (below_alloc w _).grown hgrow (by simp) (fun k hk => by have := Option.some.inj hk; simp at this; omega)
    obtain ⟨ao', c', hv, hbyt⟩ := own_byt hown1 h.rng
    have HV := hide hv
    clear hgrow hown1 hsrc HO hv
    go_wp2
    go_ret
    exact ⟨ao', c', by rw [HV.out]; rfl, hbyt, hB⟩
end Go.Proofs.YtgpdjfaklcmoiaaDoor.Eth
/- Contract of Encode, as the program has it. -/
namespace Go.Proofs.YtgpdjfaklcmoiaaDoor.Eth
open Go.RowKit

theorem AtF.below {w w1 : World} {k g : Nat} {f : Fd} {b : Value} (h : AtF w k f b) (hg : k < g) (hb : Below g w w1) : AtF w1 k f b := by
  have e : ∀ i, w1.cell? ⟨k, i, none⟩ = w.cell? ⟨k, i, none⟩ := fun i => hb.cell (p := ⟨k, i, none⟩) hg
  exact ⟨Nat.lt_of_lt_of_le h.lt hb.size, by rw [e]; exact h.c0, by rw [e]; exact h.c1, by rw [e]; exact h.c2, by rw [e]; exact h.c3, by rw [e]; exact h.c4, by rw [e]; exact h.c5, by rw [e]; exact h.c6, by rw [e]; exact h.c7, by rw [e]; exact h.c8, by rw [e]; exact h.c9, by rw [e]; exact h.c10, by rw [e]; exact h.c11, by rw [e]; exact h.c12, by rw [e]; exact h.c13, by rw [e]; exact h.c14, by rw [e]; exact h.c15, by rw [e]; exact h.c16⟩
theorem Byt.below {w w1 : World} {g : Nat} {ao : Option Addr} {n c : Nat} {ns : List Int} (h : Byt w ao n c ns) (hg : ∀ b o, ao = some ⟨b, o, none⟩ → 0 < n → b < g) (hb : Below g w w1) : Byt w1 ao n c ns :=
  ⟨h.len, h.nil, fun j hj => by
    obtain ⟨b, o, e, hc⟩ := h.cell j hj
    exact ⟨b, o, e, (hb.cell (p := ⟨b, o + j, none⟩) (hg b o e (by omega))).trans hc⟩, h.le, h.mx, h.rng⟩
theorem Byt.lt {w : World} {ao : Option Addr} {n c : Nat} {ns : List Int} (h : Byt w ao n c ns) : ∀ b o, ao = some ⟨b, o, none⟩ → 0 < n → b < w.heap.size := by
  intro b o e hn
  obtain ⟨b', o', e', hc⟩ := h.cell 0 hn
  rw [e] at e'
  injection Option.some.inj e' with e1 e2
  subst e1
  exact World.block_lt_of_cell? w _ hc
theorem ow6 {k o : Nat} {w : World} {cs : List Value} (h : w.rangeAt k o cs) : ∀ j u, cs[j]? = some u → w.cell? ((⟨k, o, none⟩ : Addr).add j) = some u := by
  intro j u hj
  rw [Addr.add_lit]
  exact h j u hj
theorem one6 {a0 a1 a2 a3 a4 a5 : Int} : ∀ u ∈ [Value.int .u8 a0, .int .u8 a1, .int .u8 a2, .int .u8 a3, .int .u8 a4, .int .u8 a5], u.oneCell' = true := by
  intro u hu
  simp at hu
  rcases hu with rfl | rfl | rfl | rfl | rfl | rfl <;> rfl
theorem Byt.srcAny {w : World} {ao : Option Addr} {n c : Nat} {ns : List Int} (h : Byt w ao n c ns) : ∀ ad, ao = some ad → ∀ j u, (ns.map (Value.int .u8))[j]? = some u → w.cell? (ad.add j) = some u := by
  intro ad e
  subst e
  exact h.src
set_option maxRecDepth 100000 in
set_option maxHeartbeats 1000000 in
theorem encode10_no (f : Fd) (ao : Option Addr) (n c : Nat) (w : World) (hn : f.bs.length = n) (hr : rt f = false) :
    Calls Tryd.prog 10 #[.agg #[.int .u8 f.d0, .int .u8 f.d1, .int .u8 f.d2, .int .u8 f.d3, .int .u8 f.d4, .int .u8 f.d5, .int .u8 f.s0, .int .u8 f.s1, .int .u8 f.s2, .int .u8 f.s3, .int .u8 f.s4, .int .u8 f.s5, .bool f.tg, .int .i64 f.vl, .int .i64 f.pr, .int .i64 f.ty, (.slice ao n c)]] w fun e w' => e = .returned (.tuple #[.slice none 0 0, .int .i64 1]) ∧ Below w.heap.size w w' := by
  have HN := hide hn
  have A0 := AtF.new w f (.slice ao n c)
  clear hn
  go_enter Tryd.func10, Tryd.ntmps10
  go_wp2_with (refine wpl_frame (.tmp 1) rfl A0 ?_ ?_ ?_; rfl; rfl)
  refine (right12 f ao n c _ HN.out).mono ?_
  rintro e w1 ⟨rfl, hb1⟩
  clear A0
  go_wp2
  go_ret2
  exact ⟨rfl, belowOn (below_alloc _ _) hb1⟩

end Go.Proofs.YtgpdjfaklcmoiaaDoor.Eth
/- Contract of Encode, as the program has it. -/
namespace Go.Proofs.YtgpdjfaklcmoiaaDoor.Eth
open Go.RowKit

set_option maxRecDepth 100000 in
set_option maxHeartbeats 4000000 in
theorem encode10_plain (f : Fd) (ao : Option Addr) (n c : Nat) (w : World) (hf : FdB f) (hr : rt f = true) (hb : Byt w ao n c f.bs) (ht : f.tg = false) :
    Calls Tryd.prog 10 #[.agg #[.int .u8 f.d0, .int .u8 f.d1, .int .u8 f.d2, .int .u8 f.d3, .int .u8 f.d4, .int .u8 f.d5, .int .u8 f.s0, .int .u8 f.s1, .int .u8 f.s2, .int .u8 f.s3, .int .u8 f.s4, .int .u8 f.s5, .bool f.tg, .int .i64 f.vl, .int .i64 f.pr, .int .i64 f.ty, (.slice ao n c)]] w fun e w' => ∃ g cap, e = .returned (.tuple #[.slice (some ⟨g, 0, none⟩) (enc f).length cap, .int .i64 0]) ∧ Byt w' (some ⟨g, 0, none⟩) (enc f).length cap (enc f) ∧ Below w.heap.size w w' := by
  obtain ⟨k1, k2, k3, k4, k5⟩ := rt_and hr
  rw [hb.len] at k4
  have HE := hide (enc_length f)
  have HR := hide (enc_rng hf hr)
  have HN := hide hb.len
  have HT := hide ht
  clear k3 k5 hf ht
  obtain ⟨i0, hi, hz0, hz1, hz2⟩ := info_parts Tryd.info5
  have A0 := AtF.new w f (.slice ao n c)
  have Y0 := hb.alloc (.cells #[.int .u8 f.d0, .int .u8 f.d1, .int .u8 f.d2, .int .u8 f.d3, .int .u8 f.d4, .int .u8 f.d5, .int .u8 f.s0, .int .u8 f.s1, .int .u8 f.s2, .int .u8 f.s3, .int .u8 f.s4, .int .u8 f.s5, .bool f.tg, .int .i64 f.vl, .int .i64 f.pr, .int .i64 f.ty, (.slice ao n c)] 26)
  have W0 := below_alloc w (.cells #[.int .u8 f.d0, .int .u8 f.d1, .int .u8 f.d2, .int .u8 f.d3, .int .u8 f.d4, .int .u8 f.d5, .int .u8 f.s0, .int .u8 f.s1, .int .u8 f.s2, .int .u8 f.s3, .int .u8 f.s4, .int .u8 f.s5, .bool f.tg, .int .i64 f.vl, .int .i64 f.pr, .int .i64 f.ty, (.slice ao n c)] 26)
  clear hb
  go_enter Tryd.func10, Tryd.ntmps10
  go_wp2_with (refine wpl_frame (.tmp 1) rfl A0 ?_ ?_ ?_; rfl; rfl)
  refine (right12 f ao n c _ HN.out).mono ?_
  rintro e w1 ⟨rfl, hb1⟩
  replace A0 := A0.on hb1; replace Y0 := Y0.on hb1; replace W0 := belowOn W0 hb1
  clear hb1
  obtain ⟨lt, p0, p1, p2, p3, p4, p5, p6, p7, p8, p9, p10, p11, p12, p13, p14, p15, p16⟩ := id A0
  go_wp2_with (at_make; refine wpList_make_own _ rfl _ (.tmp 11) 24 rfl w1.heap.size 5 i0 (.int .u8 0) 1 Tryd.underlying24 hi hz0 hz1 .i64 .i64 _ (18 + n) rfl rfl (by omega) (by rw [hz2]; omega) (by unfold maxLen; omega) (Nat.le_refl _) ?_)
  intro w2 hown hgrow
  have B2 : Below w1.heap.size w1 w2 := (Below.refl _ _).grown hgrow (Nat.le_refl _) (fun k hk => by cases hk)
  have hg : w1.heap.size < w2.heap.size := (hown.lt _ rfl).2
  have LY := hide Y0.lt
  replace A0 := A0.below lt B2; replace Y0 := Y0.below LY.out B2; replace W0 := belowOn W0 B2
  have LW : w.heap.size ≤ w1.heap.size := Nat.le_of_lt lt
  replace hown := hide hown
  clear hgrow B2 hr p0 p1 p2 p3 p4 p5 p6 p7 p8 p9 p10 p11 p12 p13 p14 p15 p16
  obtain ⟨G, hG⟩ : ∃ G, G = w1.heap.size := ⟨_, rfl⟩
  rw [← hG] at lt hg LY LW hown ⊢
  clear hG
  obtain ⟨-, p0, p1, p2, p3, p4, p5, p6, p7, p8, p9, p10, p11, p12, p13, p14, p15, p16⟩ := id A0
  go_wp2_with (at_builtin; refine wpList_append_fits _ rfl (.tmp 13) (.tmp 15) 24 rfl G 5 i0 1 Tryd.underlying24 hi hz1 G 0 (18 + n) [] rfl hown.out ⟨w.heap.size, 0, none⟩ 6 6 [.int .u8 f.d0, .int .u8 f.d1, .int .u8 f.d2, .int .u8 f.d3, .int .u8 f.d4, .int .u8 f.d5] rfl rfl (ow6 A0.dst) one6 (by omega) ?_)
  intro w3 hown2 hgrow
  have B2 : Below G w2 w3 := (Below.refl _ _).grown hgrow (Nat.le_of_lt hg) (fun k hk => by have := Option.some.inj hk; omega)
  have hg' : G < w3.heap.size := Nat.lt_of_lt_of_le hg B2.size
  replace A0 := A0.below lt B2; replace Y0 := Y0.below LY.out B2; replace W0 := W0.trans (B2.mono LW)
  have HO := hide hown2
  clear hgrow B2 hown2 hown hg p0 p1 p2 p3 p4 p5 p6 p7 p8 p9 p10 p11 p12 p13 p14 p15 p16
  have hg := hg'
  have hown := HO
  clear HO hg'
  obtain ⟨-, p0, p1, p2, p3, p4, p5, p6, p7, p8, p9, p10, p11, p12, p13, p14, p15, p16⟩ := id A0
  go_wp2_with (at_builtin; refine wpList_append_fits _ rfl (.tmp 17) (.tmp 19) 24 rfl G 5 i0 1 Tryd.underlying24 hi hz1 G 6 (18 + n) [.int .u8 f.d0, .int .u8 f.d1, .int .u8 f.d2, .int .u8 f.d3, .int .u8 f.d4, .int .u8 f.d5] rfl hown.out ⟨w.heap.size, 6, none⟩ 6 6 [.int .u8 f.s0, .int .u8 f.s1, .int .u8 f.s2, .int .u8 f.s3, .int .u8 f.s4, .int .u8 f.s5] rfl rfl (ow6 A0.src) one6 (by omega) ?_)
  intro w4 hown2 hgrow
  have B2 : Below G w3 w4 := (Below.refl _ _).grown hgrow (Nat.le_of_lt hg) (fun k hk => by have := Option.some.inj hk; omega)
  have hg' : G < w4.heap.size := Nat.lt_of_lt_of_le hg B2.size
  replace A0 := A0.below lt B2; replace Y0 := Y0.below LY.out B2; replace W0 := W0.trans (B2.mono LW)
  have HO := hide hown2
  clear hgrow B2 hown2 hown hg p0 p1 p2 p3 p4 p5 p6 p7 p8 p9 p10 p11 p12 p13 p14 p15 p16
  have hg := hg'
  have hown := HO
  clear HO hg'
  obtain ⟨-, p0, p1, p2, p3, p4, p5, p6, p7, p8, p9, p10, p11, p12, p13, p14, p15, p16⟩ := id A0
  rw [HT.out] at p12
  go_wp2_with fail
  refine (pair21 G 12 (18 + n) _ (f.ty) _ (by omega) (by omega) hown.out (by omega) hg).mono ?_
  rintro e w5 ⟨rfl, hown2, B2⟩
  have hg' : G < w5.heap.size := Nat.lt_of_lt_of_le hg B2.size
  replace A0 := A0.below lt B2; replace Y0 := Y0.below LY.out B2; replace W0 := W0.trans (B2.mono LW)
  have HO := hide hown2
  clear B2 hown2 hown hg p0 p1 p2 p3 p4 p5 p6 p7 p8 p9 p10 p11 p12 p13 p14 p15 p16
  have hg := hg'
  have hown := HO
  clear HO hg'
  obtain ⟨-, p0, p1, p2, p3, p4, p5, p6, p7, p8, p9, p10, p11, p12, p13, p14, p15, p16⟩ := id A0
  have hlen := HN.out
  go_wp2_with (at_builtin; refine wpList_append_fits_any _ rfl (.tmp 37) (.tmp 39) 24 rfl G 5 i0 1 Tryd.underlying24 hi hz1 G 14 (18 + n) _ rfl hown.out ao n c (f.bs.map (Value.int .u8)) rfl (by simp [hlen]) Y0.nil Y0.srcAny (one_u8 f.bs) (by omega) ?_)
  intro w9 hown2 hgrow
  have B2 : Below G w5 w9 := (Below.refl _ _).grown hgrow (Nat.le_of_lt hg) (fun k hk => by have := Option.some.inj hk; omega)
  replace W0 := W0.trans (B2.mono LW)
  have HO := hide hown2
  clear hgrow B2 hown2 hown hg hlen A0 Y0 p0 p1 p2 p3 p4 p5 p6 p7 p8 p9 p10 p11 p12 p13 p14 p15 p16
  go_wp2
  go_ret2
  have hown2 := HO.out
  have hl : 14 + n = (enc f).length := by have e := HE.out; have e2 := HN.out; rw [HT.out] at e; simp at e; omega
  have hx : w9.ownsRow G 5 1 (.slice (some ⟨G, 0, none⟩) (enc f).length (18 + n)) (enc f).length ((enc f).map (Value.int .u8)) := by
    rw [← hl]
    simpa [enc, adL, tagL, HT.out] using hown2
  refine ⟨G, 18 + n, by rw [← hl]; rfl, own_some hx HR.out, W0⟩
end Go.Proofs.YtgpdjfaklcmoiaaDoor.Eth
/- Contract of Encode, as the program has it. -/
namespace Go.Proofs.YtgpdjfaklcmoiaaDoor.Eth
open Go.RowKit

set_option maxRecDepth 100000 in
set_option maxHeartbeats 4000000 in
theorem encode10_tag (f : Fd) (ao : Option Addr) (n c : Nat) (w : World) (hf : FdB f) (hr : rt f = true) (hb : Byt w ao n c f.bs) (ht : f.tg = true) :
    Calls Tryd.prog 10 #[.agg #[.int .u8 f.d0, .int .u8 f.d1, .int .u8 f.d2, .int .u8 f.d3, .int .u8 f.d4, .int .u8 f.d5, .int .u8 f.s0, .int .u8 f.s1, .int .u8 f.s2, .int .u8 f.s3, .int .u8 f.s4, .int .u8 f.s5, .bool f.tg, .int .i64 f.vl, .int .i64 f.pr, .int .i64 f.ty, (.slice ao n c)]] w fun e w' => ∃ g cap, e = .returned (.tuple #[.slice (some ⟨g, 0, none⟩) (enc f).length cap, .int .i64 0]) ∧ Byt w' (some ⟨g, 0, none⟩) (enc f).length cap (enc f) ∧ Below w.heap.size w w' := by
  obtain ⟨k1, k2, k3, k4, k5⟩ := rt_and hr
  rw [hb.len] at k4
  have HE := hide (enc_length f)
  have HR := hide (enc_rng hf hr)
  have HN := hide hb.len
  have HT := hide ht
  obtain ⟨v0, v1, u0, u1⟩ := tok_yes ht k5
  clear k3 k5 hf ht
  obtain ⟨i0, hi, hz0, hz1, hz2⟩ := info_parts Tryd.info5
  have A0 := AtF.new w f (.slice ao n c)
  have Y0 := hb.alloc (.cells #[.int .u8 f.d0, .int .u8 f.d1, .int .u8 f.d2, .int .u8 f.d3, .int .u8 f.d4, .int .u8 f.d5, .int .u8 f.s0, .int .u8 f.s1, .int .u8 f.s2, .int .u8 f.s3, .int .u8 f.s4, .int .u8 f.s5, .bool f.tg, .int .i64 f.vl, .int .i64 f.pr, .int .i64 f.ty, (.slice ao n c)] 26)
  have W0 := below_alloc w (.cells #[.int .u8 f.d0, .int .u8 f.d1, .int .u8 f.d2, .int .u8 f.d3, .int .u8 f.d4, .int .u8 f.d5, .int .u8 f.s0, .int .u8 f.s1, .int .u8 f.s2, .int .u8 f.s3, .int .u8 f.s4, .int .u8 f.s5, .bool f.tg, .int .i64 f.vl, .int .i64 f.pr, .int .i64 f.ty, (.slice ao n c)] 26)
  clear hb
  go_enter Tryd.func10, Tryd.ntmps10
  go_wp2_with (refine wpl_frame (.tmp 1) rfl A0 ?_ ?_ ?_; rfl; rfl)
  refine (right12 f ao n c _ HN.out).mono ?_
  rintro e w1 ⟨rfl, hb1⟩
  replace A0 := A0.on hb1; replace Y0 := Y0.on hb1; replace W0 := belowOn W0 hb1
  clear hb1
  obtain ⟨lt, p0, p1, p2, p3, p4, p5, p6, p7, p8, p9, p10, p11, p12, p13, p14, p15, p16⟩ := id A0
  go_wp2_with (at_make; refine wpList_make_own _ rfl _ (.tmp 11) 24 rfl w1.heap.size 5 i0 (.int .u8 0) 1 Tryd.underlying24 hi hz0 hz1 .i64 .i64 _ (18 + n) rfl rfl (by omega) (by rw [hz2]; omega) (by unfold maxLen; omega) (Nat.le_refl _) ?_)
  intro w2 hown hgrow
  have B2 : Below w1.heap.size w1 w2 := (Below.refl _ _).grown hgrow (Nat.le_refl _) (fun k hk => by cases hk)
  have hg : w1.heap.size < w2.heap.size := (hown.lt _ rfl).2
  have LY := hide Y0.lt
  replace A0 := A0.below lt B2; replace Y0 := Y0.below LY.out B2; replace W0 := belowOn W0 B2
  have LW : w.heap.size ≤ w1.heap.size := Nat.le_of_lt lt
  replace hown := hide hown
  clear hgrow B2 hr p0 p1 p2 p3 p4 p5 p6 p7 p8 p9 p10 p11 p12 p13 p14 p15 p16
  obtain ⟨G, hG⟩ : ∃ G, G = w1.heap.size := ⟨_, rfl⟩
  rw [← hG] at lt hg LY LW hown ⊢
  clear hG
  obtain ⟨-, p0, p1, p2, p3, p4, p5, p6, p7, p8, p9, p10, p11, p12, p13, p14, p15, p16⟩ := id A0
  go_wp2_with (at_builtin; refine wpList_append_fits _ rfl (.tmp 13) (.tmp 15) 24 rfl G 5 i0 1 Tryd.underlying24 hi hz1 G 0 (18 + n) [] rfl hown.out ⟨w.heap.size, 0, none⟩ 6 6 [.int .u8 f.d0, .int .u8 f.d1, .int .u8 f.d2, .int .u8 f.d3, .int .u8 f.d4, .int .u8 f.d5] rfl rfl (ow6 A0.dst) one6 (by omega) ?_)
  intro w3 hown2 hgrow
  have B2 : Below G w2 w3 := (Below.refl _ _).grown hgrow (Nat.le_of_lt hg) (fun k hk => by have := Option.some.inj hk; omega)
  have hg' : G < w3.heap.size := Nat.lt_of_lt_of_le hg B2.size
  replace A0 := A0.below lt B2; replace Y0 := Y0.below LY.out B2; replace W0 := W0.trans (B2.mono LW)
  have HO := hide hown2
  clear hgrow B2 hown2 hown hg p0 p1 p2 p3 p4 p5 p6 p7 p8 p9 p10 p11 p12 p13 p14 p15 p16
  have hg := hg'
  have hown := HO
  clear HO hg'
  obtain ⟨-, p0, p1, p2, p3, p4, p5, p6, p7, p8, p9, p10, p11, p12, p13, p14, p15, p16⟩ := id A0
  go_wp2_with (at_builtin; refine wpList_append_fits _ rfl (.tmp 17) (.tmp 19) 24 rfl G 5 i0 1 Tryd.underlying24 hi hz1 G 6 (18 + n) [.int .u8 f.d0, .int .u8 f.d1, .int .u8 f.d2, .int .u8 f.d3, .int .u8 f.d4, .int .u8 f.d5] rfl hown.out ⟨w.heap.size, 6, none⟩ 6 6 [.int .u8 f.s0, .int .u8 f.s1, .int .u8 f.s2, .int .u8 f.s3, .int .u8 f.s4, .int .u8 f.s5] rfl rfl (ow6 A0.src) one6 (by omega) ?_)
  intro w4 hown2 hgrow
  have B2 : Below G w3 w4 := (Below.refl _ _).grown hgrow (Nat.le_of_lt hg) (fun k hk => by have := Option.some.inj hk; omega)
  have hg' : G < w4.heap.size := Nat.lt_of_lt_of_le hg B2.size
  replace A0 := A0.below lt B2; replace Y0 := Y0.below LY.out B2; replace W0 := W0.trans (B2.mono LW)
  have HO := hide hown2
  clear hgrow B2 hown2 hown hg p0 p1 p2 p3 p4 p5 p6 p7 p8 p9 p10 p11 p12 p13 p14 p15 p16
  have hg := hg'
  have hown := HO
  clear HO hg'
  obtain ⟨-, p0, p1, p2, p3, p4, p5, p6, p7, p8, p9, p10, p11, p12, p13, p14, p15, p16⟩ := id A0
  rw [HT.out] at p12
  go_wp2_with fail
  refine (pair21 G 12 (18 + n) _ (33024) _ (by omega) (by omega) hown.out (by omega) hg).mono ?_
  rintro e w5 ⟨rfl, hown2, B2⟩
  have hg' : G < w5.heap.size := Nat.lt_of_lt_of_le hg B2.size
  replace A0 := A0.below lt B2; replace Y0 := Y0.below LY.out B2; replace W0 := W0.trans (B2.mono LW)
  have HO := hide hown2
  clear B2 hown2 hown hg p0 p1 p2 p3 p4 p5 p6 p7 p8 p9 p10 p11 p12 p13 p14 p15 p16
  have hg := hg'
  have hown := HO
  clear HO hg'
  obtain ⟨-, p0, p1, p2, p3, p4, p5, p6, p7, p8, p9, p10, p11, p12, p13, p14, p15, p16⟩ := id A0
  rw [HT.out] at p12
  go_wp2_with fail
  refine (pair21 G 14 (18 + n) _ (8192 * f.pr + f.vl) _ (by omega) (by omega) hown.out (by omega) hg).mono ?_
  rintro e w6 ⟨rfl, hown2, B2⟩
  have hg' : G < w6.heap.size := Nat.lt_of_lt_of_le hg B2.size
  replace A0 := A0.below lt B2; replace Y0 := Y0.below LY.out B2; replace W0 := W0.trans (B2.mono LW)
  have HO := hide hown2
  clear B2 hown2 hown hg p0 p1 p2 p3 p4 p5 p6 p7 p8 p9 p10 p11 p12 p13 p14 p15 p16
  have hg := hg'
  have hown := HO
  clear HO hg'
  obtain ⟨-, p0, p1, p2, p3, p4, p5, p6, p7, p8, p9, p10, p11, p12, p13, p14, p15, p16⟩ := id A0
  rw [HT.out] at p12
  go_wp2_with fail
  refine (pair21 G 16 (18 + n) _ (f.ty) _ (by omega) (by omega) hown.out (by omega) hg).mono ?_
  rintro e w7 ⟨rfl, hown2, B2⟩
  have hg' : G < w7.heap.size := Nat.lt_of_lt_of_le hg B2.size
  replace A0 := A0.below lt B2; replace Y0 := Y0.below LY.out B2; replace W0 := W0.trans (B2.mono LW)
  have HO := hide hown2
  clear B2 hown2 hown hg p0 p1 p2 p3 p4 p5 p6 p7 p8 p9 p10 p11 p12 p13 p14 p15 p16
  have hg := hg'
  have hown := HO
  clear HO hg'
  obtain ⟨-, p0, p1, p2, p3, p4, p5, p6, p7, p8, p9, p10, p11, p12, p13, p14, p15, p16⟩ := id A0
  have hlen := HN.out
  go_wp2_with (at_builtin; refine wpList_append_fits_any _ rfl (.tmp 37) (.tmp 39) 24 rfl G 5 i0 1 Tryd.underlying24 hi hz1 G 18 (18 + n) _ rfl hown.out ao n c (f.bs.map (Value.int .u8)) rfl (by simp [hlen]) Y0.nil Y0.srcAny (one_u8 f.bs) (by omega) ?_)
  intro w9 hown2 hgrow
  have B2 : Below G w7 w9 := (Below.refl _ _).grown hgrow (Nat.le_of_lt hg) (fun k hk => by have := Option.some.inj hk; omega)
  replace W0 := W0.trans (B2.mono LW)
  have HO := hide hown2
  clear hgrow B2 hown2 hown hg hlen A0 Y0 p0 p1 p2 p3 p4 p5 p6 p7 p8 p9 p10 p11 p12 p13 p14 p15 p16
  go_wp2
  go_ret2
  have hown2 := HO.out
  have hl : 18 + n = (enc f).length := by have e := HE.out; have e2 := HN.out; rw [HT.out] at e; simp at e; omega
  have hx : w9.ownsRow G 5 1 (.slice (some ⟨G, 0, none⟩) (enc f).length (18 + n)) (enc f).length ((enc f).map (Value.int .u8)) := by
    rw [← hl]
    simpa [enc, adL, tagL, HT.out] using hown2
  refine ⟨G, 18 + n, by rw [← hl]; rfl, own_some hx HR.out, W0⟩
end Go.Proofs.YtgpdjfaklcmoiaaDoor.Eth
/- An own row of bytes, and how it grows; contract of Encode, whichever way. -/
namespace Go.Proofs.YtgpdjfaklcmoiaaDoor.Eth
open Go.RowKit

/-- What Encode answers. -/
def eb (f : Fd) : List Int := if rt f then enc f else []
def ec (f : Fd) : Int := if rt f then 0 else 1
theorem eb_yes {f : Fd} (h : rt f = true) : eb f = enc f := by simp [eb, h]
theorem eb_no {f : Fd} (h : rt f = false) : eb f = [] := by simp [eb, h]
theorem ec_yes {f : Fd} (h : rt f = true) : ec f = 0 := by simp [ec, h]
theorem ec_no {f : Fd} (h : rt f = false) : ec f = 1 := by simp [ec, h]
theorem eb_rng {f : Fd} (h : FdB f) : Rng (eb f) := by
  cases k : rt f
  · rw [eb_no k]; exact rng_nil
  · rw [eb_yes k]; exact enc_rng h k
theorem encode10 (f : Fd) (ao : Option Addr) (n c : Nat) (w : World) (hf : FdB f) (hb : Byt w ao n c f.bs) :
    Calls Tryd.prog 10 #[.agg #[.int .u8 f.d0, .int .u8 f.d1, .int .u8 f.d2, .int .u8 f.d3, .int .u8 f.d4, .int .u8 f.d5, .int .u8 f.s0, .int .u8 f.s1, .int .u8 f.s2, .int .u8 f.s3, .int .u8 f.s4, .int .u8 f.s5, .bool f.tg, .int .i64 f.vl, .int .i64 f.pr, .int .i64 f.ty, (.slice ao n c)]] w fun e w' => ∃ ao' n' c', e = .returned (.tuple #[.slice ao' n' c', .int .i64 (ec f)]) ∧ Byt w' ao' n' c' (eb f) ∧ Below w.heap.size w w' := by
  cases hr : rt f
  · rw [eb_no hr, ec_no hr]
    exact (encode10_no f ao n c w hb.len hr).mono fun e w' ⟨he, hB⟩ => ⟨none, 0, 0, he, Byt.nothing w', hB⟩
  · rw [eb_yes hr, ec_yes hr]
    rcases Bool.eq_false_or_eq_true f.tg with ht | ht
    rotate_left
    · exact (encode10_plain f ao n c w hf hr hb ht).mono fun e w' ⟨g, cap, he, hb, hB⟩ => ⟨some ⟨g, 0, none⟩, (enc f).length, cap, he, hb, hB⟩
    · exact (encode10_tag f ao n c w hf hr hb ht).mono fun e w' ⟨g, cap, he, hb, hB⟩ => ⟨some ⟨g, 0, none⟩, (enc f).length, cap, he, hb, hB⟩

/-- A slice of bytes of the call's own. -/
def Row (w : World) (base : Nat) (v : Value) (n : Nat) (ns : List Int) : Prop := w.ownsRow base 5 1 v n (ns.map (Value.int .u8))
theorem Row.nil (w : World) (base : Nat) : Row w base (.slice none 0 0) 0 [] := World.ownsRow_nil _ _ _ _
theorem Row.byt {w : World} {base : Nat} {v : Value} {n : Nat} {ns : List Int} (h : Row w base v n ns) (hr : Rng ns) : ∃ ao c, v = .slice ao n c ∧ Byt w ao n c ns := own_byt h hr
theorem Row.alloc {w : World} {base : Nat} {v : Value} {n : Nat} {ns : List Int} (h : Row w base v n ns) (o : Obj) : Row (w.alloc o) base v n ns := World.ownsRow.alloc h o
theorem Row.on {w w1 : World} {base : Nat} {v : Value} {n : Nat} {ns : List Int} (h : Row w base v n ns) (hb : Below w.heap.size w w1) : Row w1 base v n ns :=
  World.ownsRow.kept (row := none) h ⟨hb.os, hb.tape, hb.output, hb.size, fun k hk _ => hb.block k hk⟩ (by cases hv : v.ownBlock <;> simp)
theorem wpl_app {ops : Array Oper} {rest : List Oper} {o : Oper} {a : Act} {w : World} {Q : Exit → Act → World → Prop} (hgd : o.guard = none) (s x : Operand)
    (ho : o.op = .call { callee := .builtin .append, args := #[s, x], argTypes := #[24, 24] })
    (base : Nat) (v : Value) (n : Nat) (xs : List Int) (hs : a.eval s = v) (hown : Row w base v n xs) (ao : Option Addr) (m c : Nat) (ns : List Int) (hx : a.eval x = .slice ao m c) (hB : Byt w ao m c ns)
    (h1 : n + m ≤ 100000) (hbase : base ≤ w.heap.size)
    (h : ∀ v' w', Row w' base v' (n + m) (xs ++ ns) → Below base w w' → wpList Tryd.prog ops Q rest (a.put o.dst v') w') : wpList Tryd.prog ops Q (o :: rest) a w := by
  obtain ⟨i0, hi, hz0, hz1, hz2⟩ := info_parts Tryd.info5
  cases ao with
  | none =>
    obtain ⟨rfl, rfl⟩ := hB.nil rfl
    obtain rfl : ns = [] := List.eq_nil_of_length_eq_zero hB.len
    refine wpList_append_own_none hgd s x 24 ho base 5 i0 1 Tryd.underlying24 hi v n (xs.map (Value.int .u8)) hs hown hx ?_
    refine h v w ?_ (Below.refl _ _)
    rw [List.append_nil]
    exact hown
  | some ad =>
    refine wpList_append_own _ hgd s x 24 ho base 5 i0 (.int .u8 0) 1 1 Tryd.underlying24 hi hz0 hz1 hz2 rfl (by decide) v n (xs.map (Value.int .u8)) hs hown ad m c (ns.map (Value.int .u8)) hx (by simp [hB.len]) hB.src (one_u8 ns) (by unfold maxLen; omega) (by omega) hbase ?_
    intro v' w' h2 h3 _
    refine h v' w' ?_ ((Below.refl _ _).grown h3 hbase (fun k hk => (hown.lt k hk).1))
    unfold Row
    rw [List.map_append]
    exact h2
theorem byt1 (w : World) (x : Int) (h : 0 ≤ x ∧ x ≤ 255) : Byt (w.alloc (.cells #[.int .u8 x] 5)) (some ⟨w.heap.size, 0, none⟩) 1 1 [x] :=
  ⟨rfl, fun e => (by cases e), fun j hj => ⟨w.heap.size, 0, rfl, by obtain rfl : j = 0 := by omega
                                                                    simp⟩, Nat.le_refl _, by decide, rng_cons h.1 h.2 rng_nil⟩
theorem byt2 (w : World) (x y : Int) (h : 0 ≤ x ∧ x ≤ 255) (k : 0 ≤ y ∧ y ≤ 255) : Byt (w.alloc (.cells #[.int .u8 x, .int .u8 y] 5)) (some ⟨w.heap.size, 0, none⟩) 2 2 [x, y] :=
  ⟨rfl, fun e => (by cases e), fun j hj => ⟨w.heap.size, 0, rfl, by
    rcases (show j = 0 ∨ j = 1 by omega) with rfl | rfl <;> simp⟩, Nat.le_refl _, by decide, rng_cons h.1 h.2 (rng_cons k.1 k.2 rng_nil)⟩
end Go.Proofs.YtgpdjfaklcmoiaaDoor.Eth
/- Contracts of Tag and Untag, as the program and as the document has them; results that lie in memory. -/
namespace Go.Proofs.YtgpdjfaklcmoiaaDoor.Eth
open Go.RowKit

theorem res_frame {fn : Func} {p : Tmp} (h : fn.results = #[.cell p 26]) {tmps : Array Value} {w : World} {k : Nat} {f : Fd} {b : Value} (hp : tmps.getD p undef = .pointer (some ⟨k, 0, none⟩)) (hA : AtF w k f b) :
    (results fn tmps).run Tryd.prog w = .ok (.agg #[.int .u8 f.d0, .int .u8 f.d1, .int .u8 f.d2, .int .u8 f.d3, .int .u8 f.d4, .int .u8 f.d5, .int .u8 f.s0, .int .u8 f.s1, .int .u8 f.s2, .int .u8 f.s3, .int .u8 f.s4, .int .u8 f.s5, .bool f.tg, .int .i64 f.vl, .int .i64 f.pr, .int .i64 f.ty, b]) w := by
  have hl := run_loadVar_mid (P := Tryd.prog) w k 0 26 _ _ hA.all Tryd.underlying26 rfl Tryd.size26
  have hp' : tmps[p]?.getD undef = .pointer (some ⟨k, 0, none⟩) := by simpa using hp
  simp only [results, h]
  simp [hp', asAddr, hl]
theorem res_frame_tmp {fn : Func} {p u : Tmp} (h : fn.results = #[.cell p 26, .tmp u]) {tmps : Array Value} {w : World} {k : Nat} {f : Fd} {b : Value} (hp : tmps.getD p undef = .pointer (some ⟨k, 0, none⟩)) (hA : AtF w k f b) :
    (results fn tmps).run Tryd.prog w = .ok (.tuple #[.agg #[.int .u8 f.d0, .int .u8 f.d1, .int .u8 f.d2, .int .u8 f.d3, .int .u8 f.d4, .int .u8 f.d5, .int .u8 f.s0, .int .u8 f.s1, .int .u8 f.s2, .int .u8 f.s3, .int .u8 f.s4, .int .u8 f.s5, .bool f.tg, .int .i64 f.vl, .int .i64 f.pr, .int .i64 f.ty, b], tmps.getD u undef]) w := by
  have hl := run_loadVar_mid (P := Tryd.prog) w k 0 26 _ _ hA.all Tryd.underlying26 rfl Tryd.size26
  rw [results_cell_tmp h, hp]
  simp [asAddr, Result.andThen, hl]
theorem Byt.kept {w w1 : World} {k : Nat} {ao : Option Addr} {n c : Nat} {ns : List Int} (h : Byt w ao n c ns) (hne : ∀ b o, ao = some ⟨b, o, none⟩ → b ≠ k) (hg : w.grownBy w1 (some k)) : Byt w1 ao n c ns :=
  ⟨h.len, h.nil, fun j hj => by
    obtain ⟨b, o, e, hc⟩ := h.cell j hj
    exact ⟨b, o, e, hg.cell hc (fun e2 => hne b o e (Option.some.inj e2))⟩, h.le, h.mx, h.rng⟩
theorem AtF.kept {w w1 : World} {k r : Nat} {f : Fd} {b : Value} (h : AtF w k f b) (hne : k ≠ r) (hg : w.grownBy w1 (some r)) : AtF w1 k f b := by
  have hn : ∀ i, some (⟨k, i, none⟩ : Addr).block ≠ some r := fun i e => hne (Option.some.inj e)
  exact ⟨Nat.lt_of_lt_of_le h.lt hg.size, hg.cell h.c0 (hn 0), hg.cell h.c1 (hn 1), hg.cell h.c2 (hn 2), hg.cell h.c3 (hn 3), hg.cell h.c4 (hn 4), hg.cell h.c5 (hn 5), hg.cell h.c6 (hn 6), hg.cell h.c7 (hn 7), hg.cell h.c8 (hn 8), hg.cell h.c9 (hn 9), hg.cell h.c10 (hn 10), hg.cell h.c11 (hn 11), hg.cell h.c12 (hn 12), hg.cell h.c13 (hn 13), hg.cell h.c14 (hn 14), hg.cell h.c15 (hn 15), hg.cell h.c16 (hn 16)⟩
theorem setCell_grown (w : World) (k i : Nat) (v : Value) : w.grownBy (w.setCell ⟨k, i, none⟩ v) (some k) := setCells_grown k [v] i w
theorem AtF.set16 {w : World} {k : Nat} {f : Fd} {b : Value} (h : AtF w k f b) (v : Value) : AtF (w.setCell ⟨k, 16, none⟩ v) k f v := by
  have e : ∀ i, i ≠ 16 → (w.setCell ⟨k, 16, none⟩ v).cell? ⟨k, i, none⟩ = w.cell? ⟨k, i, none⟩ := fun i hi => World.cell?_setCell_other _ _ _ _ (fun e => hi (congrArg Addr.off e).symm)
  exact ⟨by simpa [World.setCell] using h.lt, by rw [e 0 (by omega)]; exact h.c0, by rw [e 1 (by omega)]; exact h.c1, by rw [e 2 (by omega)]; exact h.c2, by rw [e 3 (by omega)]; exact h.c3, by rw [e 4 (by omega)]; exact h.c4, by rw [e 5 (by omega)]; exact h.c5, by rw [e 6 (by omega)]; exact h.c6, by rw [e 7 (by omega)]; exact h.c7, by rw [e 8 (by omega)]; exact h.c8, by rw [e 9 (by omega)]; exact h.c9, by rw [e 10 (by omega)]; exact h.c10, by rw [e 11 (by omega)]; exact h.c11, by rw [e 12 (by omega)]; exact h.c12, by rw [e 13 (by omega)]; exact h.c13, by rw [e 14 (by omega)]; exact h.c14, by rw [e 15 (by omega)]; exact h.c15, World.cell?_setCell_same _ _ _ h.c16⟩
theorem there_on {w w1 : World} {k n : Nat} (h : w.there k 0 n) (hk : k < w.heap.size) (hb : Below w.heap.size w w1) : w1.there k 0 n := fun j hj =>
  ⟨by rw [hb.cell (p := ⟨k, 0 + j, none⟩) hk]; exact (h j hj).1, by rw [hb.frozen (p := ⟨k, 0 + j, none⟩) hk]; exact (h j hj).2⟩
theorem there_kept {w w1 : World} {k r n : Nat} (h : w.there k 0 n) (hk : k < w.heap.size) (hne : k ≠ r) (hg : w.grownBy w1 (some r)) : w1.there k 0 n := fun j hj => by
  have hb : w1.heap[k]? = w.heap[k]? := hg.block k hk (fun e => hne (Option.some.inj e))
  exact ⟨by rw [World.cell?_of_block (a := ⟨k, 0 + j, none⟩) hb]; exact (h j hj).1, by rw [World.frozen?_of_block (a := ⟨k, 0 + j, none⟩) hb]; exact (h j hj).2⟩
theorem there_new (w : World) (cs : Array Value) (e : TypeId) : (w.alloc (.cells cs e)).there w.heap.size 0 cs.size := fun j hj => by
  rw [Nat.zero_add]
  have hg : (w.alloc (.cells cs e)).heap[w.heap.size]? = some (.cells cs e (0, 0)) := heap_alloc_new w _
  refine ⟨?_, ?_⟩
  · rw [cell_of_row _ _ j _ _ _ hg, Array.getElem?_eq_getElem hj]; rfl
  · show (match (w.alloc (.cells cs e)).heap[w.heap.size]? with | some (.cells _ _ (lo, hi)) => decide (lo ≤ j) && decide (j < hi) | _ => false) = false
    rw [hg]
    simp
theorem below_grown {B : Nat} {w w1 w2 : World} {k : Nat} (hb : Below B w w1) (hg : w1.grownBy w2 (some k)) (hk : B ≤ k) (hs : B ≤ w1.heap.size) : Below B w w2 :=
  hb.grown hg hs (fun r hr => by have := Option.some.inj hr; omega)
theorem own_fresh {w : World} {base : Nat} {v : Value} {n : Nat} {ns : List Int} (h : w.ownsRow base 5 1 v n (ns.map (Value.int .u8))) (hr : Rng ns) : ∃ ao c, v = .slice ao n c ∧ Byt w ao n c ns ∧ ∀ b o, ao = some ⟨b, o, none⟩ → base ≤ b := by
  obtain ⟨ao, c, rfl, hb⟩ := own_byt h hr
  refine ⟨ao, c, rfl, hb, fun b o e => ?_⟩
  subst e
  exact (h.lt b rfl).1
set_option maxRecDepth 100000 in
set_option maxHeartbeats 1000000 in
theorem cloneF (ao : Option Addr) (n c : Nat) (ns : List Int) (w : World) (h : Byt w ao n c ns) (hn : n ≤ 5000) :
    Calls Tryd.prog 35 #[.slice ao n c] w fun e w' => ∃ ao' c', e = .returned (.slice ao' n c') ∧ Byt w' ao' n c' ns ∧ (∀ b o, ao' = some ⟨b, o, none⟩ → w.heap.size ≤ b) ∧ Below w.heap.size w w' := by
  have q24 : ∀ (w : World) (a : Option Addr) (n c n' c' : Nat), (binOp .eql 24 (.slice a n c) (.slice none n' c')).run Tryd.prog w = .ok (.bool a.isNone) w := fun w a n c n' c' => Lib.run_eql_slice_nil w _ _ a n c n' c' Tryd.underlying24
  cases ao with
  | none =>
    obtain ⟨rfl, rfl⟩ := h.nil rfl
    go_enter Tryd.func35, Tryd.ntmps35
    go_wp2
    go_ret
    exact ⟨none, 0, rfl, h, fun b o e => (by cases e), Below.refl _ _⟩
  | some ad =>
    obtain ⟨i0, hi, hz0, hz1, hz2⟩ := info_parts Tryd.info5
    have hlen := h.len
    have hsrc := hide (h.alloc (.cells #[] 5)).src
    have hown : (w.alloc (.cells #[] 5)).ownsRow w.heap.size 5 1 (.slice (some ⟨w.heap.size, 0, none⟩) 0 0) 0 [] := World.ownsRow_made w #[] 0 (Nat.le_refl _) (Nat.zero_le _) rfl
    have HO := hide hown
    clear hown
    go_enter Tryd.func35, Tryd.ntmps35
    go_wp2_with (at_builtin; refine wpList_append_own _ rfl (.tmp 5) (.tmp 6) 24 rfl w.heap.size 5 i0 (.int .u8 0) 1 1 Tryd.underlying24 hi hz0 hz1 hz2 rfl (by decide) (.slice (some ⟨w.heap.size, 0, none⟩) 0 0) 0 [] rfl HO.out ad n c (ns.map (Value.int .u8)) rfl (by simp [hlen]) hsrc.out (one_u8 ns) (by unfold maxLen; omega) (by omega) (by simp) ?_)
    intro v' w1 hown1 hgrow _
    have hB : Below w.heap.size w w1 := (below_alloc w _).grown hgrow (by simp) (fun k hk => by have := Option.some.inj hk; simp at this; omega)
    obtain ⟨ao', c', hv, hbyt, hfr⟩ := own_fresh hown1 h.rng
    have HF := hide hfr
    have HV := hide hv
    clear hgrow hown1 hsrc HO hv hfr
    go_wp2
    go_ret
    exact ⟨ao', c', by rw [HV.out]; rfl, hbyt, HF.out, hB⟩

/-- A frame without a tag, and with one. -/
def ut (f : Fd) : Fd := { f with tg := false, vl := 0, pr := 0 }
def tgf (f : Fd) (v p : Int) : Fd := { f with tg := true, vl := v, pr := p }
theorem ut_B {f : Fd} (h : FdB f) : FdB (ut f) := ⟨h.a, h.b⟩
theorem tgf_B {f : Fd} (h : FdB f) (v p : Int) : FdB (tgf f v p) := ⟨h.a, h.b⟩

end Go.Proofs.YtgpdjfaklcmoiaaDoor.Eth
/- Contracts of the reader: take, pair, mac. -/
namespace Go.Proofs.YtgpdjfaklcmoiaaDoor.Eth
open Go.RowKit

/-- A reader in memory, and what it has yet. -/
structure Rd (w : World) (r : Nat) (ao : Option Addr) (n c : Nat) (ns : List Int) : Prop where
  at_ : w.cell? ⟨r, 0, none⟩ = some (.slice ao n c)
  fr : w.frozen? ⟨r, 0, none⟩ = false
  byt : Byt w ao n c ns
  ne : ∀ b o, ao = some ⟨b, o, none⟩ → 0 < n → b ≠ r

theorem grown_trans {w w1 w2 : World} {row : Option Nat} (h : w.grownBy w1 row) (k : w1.grownBy w2 row) : w.grownBy w2 row :=
  ⟨k.os.trans h.os, k.tape.trans h.tape, k.output.trans h.output, Nat.le_trans h.size k.size, fun i hi hne => (k.block i (Nat.lt_of_lt_of_le hi h.size) hne).trans (h.block i hi hne)⟩
theorem grown_new {w w1 w2 : World} {row : Option Nat} {k : Nat} (h : w.grownBy w1 row) (g : w1.grownBy w2 (some k)) (hk : w.heap.size ≤ k) : w.grownBy w2 row :=
  ⟨g.os.trans h.os, g.tape.trans h.tape, g.output.trans h.output, Nat.le_trans h.size g.size, fun i hi hne => (g.block i (Nat.lt_of_lt_of_le hi h.size) (fun e => by have := Option.some.inj e; omega)).trans (h.block i hi hne)⟩
theorem grown_alloc {w w1 : World} {row : Option Nat} (h : w.grownBy w1 row) (o : Obj) : w.grownBy (w1.alloc o) row := grown_trans h (World.grownBy_alloc w1 o row)
theorem grown_drew {w w1 : World} {row : Option Nat} (h : w.grownBy w1 row) : w.grownBy w1.drew row := ⟨h.os, h.tape, h.output, h.size, h.block⟩
theorem below_of_grown {B : Nat} {w w1 : World} {r : Nat} (h : w.grownBy w1 (some r)) (hr : B ≤ r) (hB : B ≤ w.heap.size) : Below B w w1 := (Below.refl _ _).grown h hB (fun k hk => by have := Option.some.inj hk; omega)
theorem Rd.lt {w : World} {r : Nat} {ao : Option Addr} {n c : Nat} {ns : List Int} (h : Rd w r ao n c ns) : r < w.heap.size := World.block_lt_of_cell? w _ h.at_
theorem Rd.kept {w w1 : World} {r k : Nat} {ao : Option Addr} {n c : Nat} {ns : List Int} (h : Rd w r ao n c ns) (hk : r ≠ k) (hne : ∀ b o, ao = some ⟨b, o, none⟩ → b ≠ k) (hg : w.grownBy w1 (some k)) : Rd w1 r ao n c ns :=
  ⟨hg.cell h.at_ (fun e => hk (Option.some.inj e)), by rw [World.frozen?_of_block (a := ⟨r, 0, none⟩) (hg.block r h.lt (fun e => hk (Option.some.inj e)))]; exact h.fr, h.byt.kept hne hg, h.ne⟩
theorem Rd.on {w w1 : World} {r : Nat} {ao : Option Addr} {n c : Nat} {ns : List Int} (h : Rd w r ao n c ns) (hb : Below w.heap.size w w1) : Rd w1 r ao n c ns :=
  ⟨(hb.cell (p := ⟨r, 0, none⟩) h.lt).trans h.at_, (hb.frozen (p := ⟨r, 0, none⟩) h.lt).trans h.fr, h.byt.on hb, h.ne⟩
theorem Rd.drew {w : World} {r : Nat} {ao : Option Addr} {n c : Nat} {ns : List Int} (h : Rd w r ao n c ns) : Rd w.drew r ao n c ns := ⟨h.at_, h.fr, ⟨h.byt.len, h.byt.nil, h.byt.cell, h.byt.le, h.byt.mx, h.byt.rng⟩, h.ne⟩

theorem Rd.took {w : World} {r b o n c : Nat} {ns : List Int} (h : Rd w r (some ⟨b, o, none⟩) n c ns) {k : Nat} (hk : k ≤ n) {ao : Option Addr} (h1 : ¬ c = k → ao = some ⟨b, o + k, none⟩) (h2 : c = k → ao = some ⟨b, o, none⟩) :
    Rd (w.setCell ⟨r, 0, none⟩ (.slice ao (n - k) (c - k))) r ao (n - k) (c - k) (ns.drop k) := by
  have hG := setCell_grown w r 0 (.slice ao (n - k) (c - k))
  have hle := h.byt.le
  have hlen := h.byt.len
  refine ⟨World.cell?_setCell_same _ _ _ h.at_, by rw [World.frozen?_setCell]; exact h.fr, ⟨by simp; omega, fun e => ?_, fun j hj => ?_, by omega, by have := h.byt.mx; omega, rng_drop h.byt.rng k⟩, fun b' o' e hp => ?_⟩
  · by_cases hc : c = k
    · rw [h2 hc] at e; cases e
    · rw [h1 hc] at e; cases e
  · have hc : ¬ c = k := by omega
    refine ⟨b, o + k, h1 hc, ?_⟩
    obtain ⟨b2, o2, e2, hcell⟩ := h.byt.cell (k + j) (by omega)
    injection Option.some.inj e2 with e3 e4
    subst e3 e4
    rw [hG.cell (a := ⟨b, o + k + j, none⟩) (v := .int .u8 ((ns.drop k).getD j 0)) ?_ (fun e => h.ne b o rfl (by omega) (Option.some.inj e))]
    rw [Nat.add_assoc, hcell]
    simp [List.getD_eq_getElem?_getD]
  · by_cases hc : c = k
    · rw [h2 hc] at e; injection Option.some.inj e with e3 e4; subst e3; exact h.ne b o rfl (by omega)
    · rw [h1 hc] at e; injection Option.some.inj e with e3 e4; subst e3; exact h.ne b o rfl (by omega)

/-- What a reader panics with. -/
def pan : List PanicEntry := [{ v := .iface 29 (.int .i64 2), recovered := false }]

set_option maxRecDepth 100000 in
set_option maxHeartbeats 1000000 in
theorem take29_no (r : Nat) (ao : Option Addr) (n c : Nat) (ns : List Int) (k : Int) (w : World) (h : Rd w r ao n c ns) (hk : (n : Int) < k) :
    Calls Tryd.prog 65 #[.pointer (some ⟨r, 0, none⟩), .int .i64 k] w fun e w' => e = .panicked pan ∧ w' = w := by
  have p := h.at_
  clear h
  go_enter Tryd.func65, Tryd.ntmps65
  go_wp2
  exact ⟨rfl, rfl, rfl⟩

set_option maxRecDepth 100000 in
set_option maxHeartbeats 1000000 in
theorem take29_yes (r b o n c : Nat) (ns : List Int) (k : Nat) (w : World) (h : Rd w r (some ⟨b, o, none⟩) n c ns) (hk : k ≤ n) :
    Calls Tryd.prog 65 #[.pointer (some ⟨r, 0, none⟩), .int .i64 k] w fun e w' => e = .returned (.slice (some ⟨b, o, none⟩) k c) ∧ ∃ ao', Rd w' r ao' (n - k) (c - k) (ns.drop k) ∧ (∀ b' o', ao' = some ⟨b', o', none⟩ → b' = b) ∧ w.grownBy w' (some r) := by
  have p := h.at_
  have q := h.fr
  have hle := h.byt.le
  have hmx := h.byt.mx
  unfold maxLen at hmx
  have hk1 : (k : Int) ≤ n := by omega
  have hle1 : (n : Int) ≤ c := by omega
  have H := hide h
  clear h
  by_cases hc : c = k
  · subst hc
    go_enter Tryd.func65, Tryd.ntmps65
    go_wp2
    go_ret
    refine ⟨rfl, some ⟨b, o, none⟩, ?_, fun b' o' e => ?_, setCell_grown _ _ _ _⟩
    · have hh := H.out.took hk (ao := some ⟨b, o, none⟩) (fun e => absurd rfl e) (fun _ => rfl)
      have e0 : n - c = 0 := by omega
      rw [Nat.sub_self, e0] at hh ⊢
      exact hh
    · injection Option.some.inj e with e1 e2; exact e1.symm
  · go_enter Tryd.func65, Tryd.ntmps65
    go_wp2
    go_ret
    refine ⟨rfl, some ⟨b, o + k, none⟩, H.out.took hk (fun _ => rfl) (fun e => absurd e hc), fun b' o' e => ?_, setCell_grown _ _ _ _⟩
    injection Option.some.inj e with e1 e2; exact e1.symm

end Go.Proofs.YtgpdjfaklcmoiaaDoor.Eth
/- Contracts of the reader: pair. -/
namespace Go.Proofs.YtgpdjfaklcmoiaaDoor.Eth
open Go.RowKit Go.PlainAid

theorem take29 (r b o n c : Nat) (ns : List Int) (K : Int) (k : Nat) (w : World) (h : Rd w r (some ⟨b, o, none⟩) n c ns) (hk : k ≤ n) (hK : K = k) :
    Calls Tryd.prog 65 #[.pointer (some ⟨r, 0, none⟩), .int .i64 K] w fun e w' => e = .returned (.slice (some ⟨b, o, none⟩) k c) ∧ ∃ ao', Rd w' r ao' (n - k) (c - k) (ns.drop k) ∧ (∀ b' o', ao' = some ⟨b', o', none⟩ → b' = b) ∧ w.grownBy w' (some r) := by
  subst hK
  exact take29_yes r b o n c ns k w h hk
theorem i64_byte (a : Int) (h0 : 0 ≤ a) (h1 : a ≤ 255) : IntKind.i64.wrap a = a := IntWalk.i64_in _ (by omega)
theorem or_pair (x y : Int) (h0 : 0 ≤ x) (h1 : x ≤ 255) (g0 : 0 ≤ y) (g1 : y ≤ 255) : bits .or .i64 (x * 256) y = x * 256 + y := by
  obtain ⟨a, rfl⟩ := Int.eq_ofNat_of_zero_le h0
  obtain ⟨b, rfl⟩ := Int.eq_ofNat_of_zero_le g0
  have hx : a * 256 ||| b = a * 256 + b := by
    have := nat_join 8 ((a * 256 : Nat)) b (by omega) (by omega)
    simpa using this
  show IntKind.i64.wrap ((BitVec.ofInt 64 ((a : Int) * 256) ||| BitVec.ofInt 64 (b : Int)).toNat : Int) = _
  have e1 : BitVec.ofInt 64 ((a : Int) * 256) = BitVec.ofNat 64 (a * 256) := by rw [← BitVec.ofInt_natCast]; simp
  have e2 : BitVec.ofInt 64 (b : Int) = BitVec.ofNat 64 b := BitVec.ofInt_natCast 64 b
  rw [e1, e2, BitVec.toNat_or, BitVec.toNat_ofNat, BitVec.toNat_ofNat, Nat.mod_eq_of_lt (by omega), Nat.mod_eq_of_lt (by omega), hx]
  rw [IntWalk.i64_in _ (by omega)]
  omega
theorem grown_drewN {w w1 : World} {row : Option Nat} (h : w.grownBy w1 row) (n : Nat) : w.grownBy (w1.drewN n) row := ⟨h.os, h.tape, h.output, h.size, h.block⟩
theorem Rd.drewN {w : World} {r : Nat} {ao : Option Addr} {n c : Nat} {ns : List Int} (h : Rd w r ao n c ns) (m : Nat) : Rd (w.drewN m) r ao n c ns := ⟨h.at_, h.fr, ⟨h.byt.len, h.byt.nil, h.byt.cell, h.byt.le, h.byt.mx, h.byt.rng⟩, h.ne⟩
set_option maxRecDepth 100000 in
set_option maxHeartbeats 1000000 in
theorem pair28_yes (r : Nat) (ao : Option Addr) (n c : Nat) (ns : List Int) (w : World) (h : Rd w r ao n c ns) (hn : 2 ≤ n) :
    Calls Tryd.prog 51 #[.pointer (some ⟨r, 0, none⟩)] w fun e w' => e = .returned (.int .i64 (ns.getD 0 0 * 256 + ns.getD 1 0)) ∧ ∃ ao', Rd w' r ao' (n - 2) (c - 2) (ns.drop 2) ∧ (∀ b' o', ao' = some ⟨b', o', none⟩ → ∃ o2, ao = some ⟨b', o2, none⟩) ∧ w.grownBy w' (some r) := by
  obtain ⟨b, o, rfl, hc, -⟩ := h.byt.at (by omega)
  have hne := h.ne b o rfl (by omega)
  obtain ⟨g0, g1⟩ := rng_getD h.byt.rng 0
  obtain ⟨g2, g3⟩ := rng_getD h.byt.rng 1
  have c0 : w.cell? ⟨b, o, none⟩ = some (.int .u8 (ns.getD 0 0)) := hc 0 (by omega)
  have c1 : w.cell? ⟨b, o + 1, none⟩ = some (.int .u8 (ns.getD 1 0)) := hc 1 (by omega)
  have hle := h.byt.le
  have hc2 : (2 : Int) ≤ c := by omega
  generalize ns.getD 0 0 = x at *
  generalize ns.getD 1 0 = y at *
  have b0 := i64_byte x g0 g1
  have b1 := i64_byte y g2 g3
  have q := or_pair x y g0 g1 g2 g3
  have H := hide h
  clear h hc
  go_enter Tryd.func51, Tryd.ntmps51
  go_wp2_with fail
  refine (take29 r b o n c ns 2 2 _ H.out hn rfl).mono ?_
  rintro e w1 ⟨rfl, ao', R1, hb', G1⟩
  have d0 := G1.cell c0 (fun e => hne (Option.some.inj e))
  have d1 := G1.cell c1 (fun e => hne (Option.some.inj e))
  clear c0 c1
  have HR := hide R1
  have HB := hide hb'
  clear R1 hb'
  go_wp2_with fail
  go_quiet (fail)
  go_wp2
  go_ret
  exact ⟨rfl, ao', HR.out.drewN _, fun b' o' e => ⟨o, by rw [HB.out b' o' e]⟩, grown_drewN G1 _⟩

set_option maxRecDepth 100000 in
set_option maxHeartbeats 1000000 in
theorem pair28_no (r : Nat) (ao : Option Addr) (n c : Nat) (ns : List Int) (w : World) (h : Rd w r ao n c ns) (hn : n < 2) :
    Calls Tryd.prog 51 #[.pointer (some ⟨r, 0, none⟩)] w fun e w' => e = .panicked pan ∧ w.grownBy w' (some r) := by
  have H := hide h
  clear h
  go_enter Tryd.func51, Tryd.ntmps51
  go_wp2_with fail
  refine (take29_no r ao n c ns 2 _ H.out (by omega)).mono ?_
  rintro e w1 ⟨rfl, rfl⟩
  go_wp2
  exact ⟨rfl, rfl, World.grownBy.refl _ _⟩
end Go.Proofs.YtgpdjfaklcmoiaaDoor.Eth
/- Contracts of the reader: mac. -/
namespace Go.Proofs.YtgpdjfaklcmoiaaDoor.Eth
open Go.RowKit Go.PlainAid

theorem copy6 {w1 : World} {M b o c : Nat} {x0 x1 x2 x3 x4 x5 : Int} (hM : w1.heap[M]? = some (.cells #[.int .u8 0, .int .u8 0, .int .u8 0, .int .u8 0, .int .u8 0, .int .u8 0] 23 (0, 0)))
    (d0 : w1.cell? ⟨b, o, none⟩ = some (.int .u8 x0)) (d1 : w1.cell? ⟨b, o + 1, none⟩ = some (.int .u8 x1)) (d2 : w1.cell? ⟨b, o + 2, none⟩ = some (.int .u8 x2)) (d3 : w1.cell? ⟨b, o + 3, none⟩ = some (.int .u8 x3)) (d4 : w1.cell? ⟨b, o + 4, none⟩ = some (.int .u8 x4)) (d5 : w1.cell? ⟨b, o + 5, none⟩ = some (.int .u8 x5)) : ∃ w2, (Builtin.copy_ #[24, 24] 3 #[.slice (some ⟨M, 0, none⟩) 6 6, .slice (some ⟨b, o, none⟩) 6 c]).run Tryd.prog w1 = .ok (.int .i64 6) w2 ∧ w2.heap[M]? = some (.cells #[.int .u8 x0, .int .u8 x1, .int .u8 x2, .int .u8 x3, .int .u8 x4, .int .u8 x5] 23 (0, 0)) ∧ w1.grownBy w2 (some M) := by
  have hs : (Tryd.prog.info? 5).map (·.size) = some 1 := by kernel_rfl
  have h := run_copy_row (P := Tryd.prog) w1 24 24 3 5 M 0 6 6 ⟨b, o, none⟩ 6 c #[.int .u8 0, .int .u8 0, .int .u8 0, .int .u8 0, .int .u8 0, .int .u8 0] 23 [.int .u8 x0, .int .u8 x1, .int .u8 x2, .int .u8 x3, .int .u8 x4, .int .u8 x5] Tryd.underlying24 hs hM rfl (fun j v hv => by
      rw [Addr.add_lit]
      match j, hv with
      | 0, hv => simp at hv; subst hv; exact d0
      | 1, hv => simp at hv; subst hv; exact d1
      | 2, hv => simp at hv; subst hv; exact d2
      | 3, hv => simp at hv; subst hv; exact d3
      | 4, hv => simp at hv; subst hv; exact d4
      | 5, hv => simp at hv; subst hv; exact d5) (by simp) (by intro v hv; simp at hv; rcases hv with rfl | rfl | rfl | rfl | rfl | rfl <;> rfl)
  refine ⟨_, h, ?_, ?_⟩
  · exact setRow_heap w1 M _ _ 23 _ hM
  · exact ⟨rfl, rfl, rfl, by simp [World.setRow], fun k hk hne => setRow_other w1 M k _ (fun e => hne (by rw [e]))⟩
theorem res_mac {fn : Func} {p : Tmp} (h : fn.results = #[.cell p 23]) {tmps : Array Value} {w : World} {k : Nat} {a0 a1 a2 a3 a4 a5 : Value} (hp : tmps.getD p undef = .pointer (some ⟨k, 0, none⟩)) (hA : w.rangeAt k 0 [a0, a1, a2, a3, a4, a5]) :
    (results fn tmps).run Tryd.prog w = .ok (.agg #[a0, a1, a2, a3, a4, a5]) w := by
  have hl := run_loadVar_mid (P := Tryd.prog) w k 0 23 _ _ hA Tryd.underlying23 rfl Tryd.size23
  have hp' : tmps[p]?.getD undef = .pointer (some ⟨k, 0, none⟩) := by simpa using hp
  simp only [results, h]
  simp [hp', asAddr, hl]
theorem grown6 (w : World) (k : Nat) (v0 v1 v2 v3 v4 v5 : Value) : w.grownBy ((((((w.setCell ⟨k, 0, none⟩ v0).setCell ⟨k, 1, none⟩ v1).setCell ⟨k, 2, none⟩ v2).setCell ⟨k, 3, none⟩ v3).setCell ⟨k, 4, none⟩ v4).setCell ⟨k, 5, none⟩ v5) (some k) := setCells_grown k [v0, v1, v2, v3, v4, v5] 0 w
set_option maxRecDepth 100000 in
set_option maxHeartbeats 2000000 in
theorem mac27_yes (r : Nat) (ao : Option Addr) (n c : Nat) (ns : List Int) (w : World) (h : Rd w r ao n c ns) (hn : 6 ≤ n) :
    Calls Tryd.prog 50 #[.pointer (some ⟨r, 0, none⟩)] w fun e w' => e = .returned (.agg #[.int .u8 (ns.getD 0 0), .int .u8 (ns.getD 1 0), .int .u8 (ns.getD 2 0), .int .u8 (ns.getD 3 0), .int .u8 (ns.getD 4 0), .int .u8 (ns.getD 5 0)]) ∧ ∃ ao', Rd w' r ao' (n - 6) (c - 6) (ns.drop 6) ∧ (∀ b' o', ao' = some ⟨b', o', none⟩ → ∃ o2, ao = some ⟨b', o2, none⟩) ∧ w.grownBy w' (some r) := by
  obtain ⟨b, o, rfl, hc, hbl⟩ := h.byt.at (by omega)
  have hne := h.ne b o rfl (by omega)
  have hrl := h.lt
  have c0 : ((w.alloc (.cells #[.int .u8 0, .int .u8 0, .int .u8 0, .int .u8 0, .int .u8 0, .int .u8 0] 23)).alloc (.cells #[.int .u8 0, .int .u8 0, .int .u8 0, .int .u8 0, .int .u8 0, .int .u8 0] 23)).drew.cell? ⟨b, o, none⟩ = some (.int .u8 (ns.getD 0 0)) := by
    have e := hc 0 (by omega)
    simp only [World.cell?_drew]
    rw [World.cell?_alloc_past _ _ _ (by simp; omega), World.cell?_alloc_past _ _ _ hbl]
    exact e
  have c1 : ((w.alloc (.cells #[.int .u8 0, .int .u8 0, .int .u8 0, .int .u8 0, .int .u8 0, .int .u8 0] 23)).alloc (.cells #[.int .u8 0, .int .u8 0, .int .u8 0, .int .u8 0, .int .u8 0, .int .u8 0] 23)).drew.cell? ⟨b, o + 1, none⟩ = some (.int .u8 (ns.getD 1 0)) := by
    have e := hc 1 (by omega)
    simp only [World.cell?_drew]
    rw [World.cell?_alloc_past _ _ _ (by simp; omega), World.cell?_alloc_past _ _ _ hbl]
    exact e
  have c2 : ((w.alloc (.cells #[.int .u8 0, .int .u8 0, .int .u8 0, .int .u8 0, .int .u8 0, .int .u8 0] 23)).alloc (.cells #[.int .u8 0, .int .u8 0, .int .u8 0, .int .u8 0, .int .u8 0, .int .u8 0] 23)).drew.cell? ⟨b, o + 2, none⟩ = some (.int .u8 (ns.getD 2 0)) := by
    have e := hc 2 (by omega)
    simp only [World.cell?_drew]
    rw [World.cell?_alloc_past _ _ _ (by simp; omega), World.cell?_alloc_past _ _ _ hbl]
    exact e
  have c3 : ((w.alloc (.cells #[.int .u8 0, .int .u8 0, .int .u8 0, .int .u8 0, .int .u8 0, .int .u8 0] 23)).alloc (.cells #[.int .u8 0, .int .u8 0, .int .u8 0, .int .u8 0, .int .u8 0, .int .u8 0] 23)).drew.cell? ⟨b, o + 3, none⟩ = some (.int .u8 (ns.getD 3 0)) := by
    have e := hc 3 (by omega)
    simp only [World.cell?_drew]
    rw [World.cell?_alloc_past _ _ _ (by simp; omega), World.cell?_alloc_past _ _ _ hbl]
    exact e
  have c4 : ((w.alloc (.cells #[.int .u8 0, .int .u8 0, .int .u8 0, .int .u8 0, .int .u8 0, .int .u8 0] 23)).alloc (.cells #[.int .u8 0, .int .u8 0, .int .u8 0, .int .u8 0, .int .u8 0, .int .u8 0] 23)).drew.cell? ⟨b, o + 4, none⟩ = some (.int .u8 (ns.getD 4 0)) := by
    have e := hc 4 (by omega)
    simp only [World.cell?_drew]
    rw [World.cell?_alloc_past _ _ _ (by simp; omega), World.cell?_alloc_past _ _ _ hbl]
    exact e
  have c5 : ((w.alloc (.cells #[.int .u8 0, .int .u8 0, .int .u8 0, .int .u8 0, .int .u8 0, .int .u8 0] 23)).alloc (.cells #[.int .u8 0, .int .u8 0, .int .u8 0, .int .u8 0, .int .u8 0, .int .u8 0] 23)).drew.cell? ⟨b, o + 5, none⟩ = some (.int .u8 (ns.getD 5 0)) := by
    have e := hc 5 (by omega)
    simp only [World.cell?_drew]
    rw [World.cell?_alloc_past _ _ _ (by simp; omega), World.cell?_alloc_past _ _ _ hbl]
    exact e
  have HR : Hid (Rd ((w.alloc (.cells #[.int .u8 0, .int .u8 0, .int .u8 0, .int .u8 0, .int .u8 0, .int .u8 0] 23)).alloc (.cells #[.int .u8 0, .int .u8 0, .int .u8 0, .int .u8 0, .int .u8 0, .int .u8 0] 23)).drew r (some ⟨b, o, none⟩) n c ns) := hide ((h.on (by go_grown)).drew)
  have HM : Hid ((((w.alloc (.cells #[.int .u8 0, .int .u8 0, .int .u8 0, .int .u8 0, .int .u8 0, .int .u8 0] 23)).alloc (.cells #[.int .u8 0, .int .u8 0, .int .u8 0, .int .u8 0, .int .u8 0, .int .u8 0] 23)).drew).heap[w.heap.size + 1]? = some (.cells #[.int .u8 0, .int .u8 0, .int .u8 0, .int .u8 0, .int .u8 0, .int .u8 0] 23 (0, 0))) := by
    have e := heap_alloc_new (w.alloc (.cells #[.int .u8 0, .int .u8 0, .int .u8 0, .int .u8 0, .int .u8 0, .int .u8 0] 23)) (.cells #[.int .u8 0, .int .u8 0, .int .u8 0, .int .u8 0, .int .u8 0, .int .u8 0] 23)
    rw [World.size_alloc] at e
    exact e
  have G0 : w.grownBy ((w.alloc (.cells #[.int .u8 0, .int .u8 0, .int .u8 0, .int .u8 0, .int .u8 0, .int .u8 0] 23)).alloc (.cells #[.int .u8 0, .int .u8 0, .int .u8 0, .int .u8 0, .int .u8 0, .int .u8 0] 23)).drew (some r) := grown_drew (grown_alloc (grown_alloc (World.grownBy.refl w (some r)) _) _)
  have hle := h.byt.le
  have hc6 : (6 : Int) ≤ c := by omega
  have hm1 : some (w.heap.size + 1) ≠ some r := fun e => by have := Option.some.inj e; omega
  have hm0 : some w.heap.size ≠ some r := fun e => by have := Option.some.inj e; omega
  generalize ns.getD 0 0 = x0 at *
  generalize ns.getD 1 0 = x1 at *
  generalize ns.getD 2 0 = x2 at *
  generalize ns.getD 3 0 = x3 at *
  generalize ns.getD 4 0 = x4 at *
  generalize ns.getD 5 0 = x5 at *
  clear h hc
  go_enter Tryd.func50, Tryd.ntmps50
  go_wp2_with fail
  go_region_with (first | (go_at_call 65; refine (take29 r b o n c ns 6 6 _ HR.out hn rfl).mono ?_; rintro e w1 ⟨rfl, ao', R1, hb', G1⟩; obtain ⟨w2, hcp, hg2, G2⟩ := copy6 (w1 := w1) (M := w.heap.size + 1) (b := b) (o := o) (c := c) ((G1.block (w.heap.size + 1) (by simp) hm1).trans HM.out) (G1.cell c0 (fun e => hne (Option.some.inj e))) (G1.cell c1 (fun e => hne (Option.some.inj e))) (G1.cell c2 (fun e => hne (Option.some.inj e))) (G1.cell c3 (fun e => hne (Option.some.inj e))) (G1.cell c4 (fun e => hne (Option.some.inj e))) (G1.cell c5 (fun e => hne (Option.some.inj e)))))
  have hnb : ∀ b' o', ao' = some ⟨b', o', none⟩ → b' < w.heap.size := fun b' o' e => by rw [hb' b' o' e]; exact hbl
  have m0 : w2.cell? ⟨w.heap.size + 1, 0, none⟩ = some (.int .u8 x0) := cell_of_row w2 _ 0 _ _ _ hg2
  have m1 : w2.cell? ⟨w.heap.size + 1, 1, none⟩ = some (.int .u8 x1) := cell_of_row w2 _ 1 _ _ _ hg2
  have m2 : w2.cell? ⟨w.heap.size + 1, 2, none⟩ = some (.int .u8 x2) := cell_of_row w2 _ 2 _ _ _ hg2
  have m3 : w2.cell? ⟨w.heap.size + 1, 3, none⟩ = some (.int .u8 x3) := cell_of_row w2 _ 3 _ _ _ hg2
  have m4 : w2.cell? ⟨w.heap.size + 1, 4, none⟩ = some (.int .u8 x4) := cell_of_row w2 _ 4 _ _ _ hg2
  have m5 : w2.cell? ⟨w.heap.size + 1, 5, none⟩ = some (.int .u8 x5) := cell_of_row w2 _ 5 _ _ _ hg2
  have l0 : w2.cell? ⟨w.heap.size, 0, none⟩ = some (.int .u8 0) := G2.cell (G1.cell (a := ⟨w.heap.size, 0, none⟩) (v := .int .u8 0) (by simp) hm0) (by simp)
  have l1 : w2.cell? ⟨w.heap.size, 1, none⟩ = some (.int .u8 0) := G2.cell (G1.cell (a := ⟨w.heap.size, 1, none⟩) (v := .int .u8 0) (by simp) hm0) (by simp)
  have l2 : w2.cell? ⟨w.heap.size, 2, none⟩ = some (.int .u8 0) := G2.cell (G1.cell (a := ⟨w.heap.size, 2, none⟩) (v := .int .u8 0) (by simp) hm0) (by simp)
  have l3 : w2.cell? ⟨w.heap.size, 3, none⟩ = some (.int .u8 0) := G2.cell (G1.cell (a := ⟨w.heap.size, 3, none⟩) (v := .int .u8 0) (by simp) hm0) (by simp)
  have l4 : w2.cell? ⟨w.heap.size, 4, none⟩ = some (.int .u8 0) := G2.cell (G1.cell (a := ⟨w.heap.size, 4, none⟩) (v := .int .u8 0) (by simp) hm0) (by simp)
  have l5 : w2.cell? ⟨w.heap.size, 5, none⟩ = some (.int .u8 0) := G2.cell (G1.cell (a := ⟨w.heap.size, 5, none⟩) (v := .int .u8 0) (by simp) hm0) (by simp)
  have fl : ∀ j, w2.frozen? ⟨w.heap.size, j, none⟩ = false := fun j => (World.frozen?_of_block (a := ⟨w.heap.size, j, none⟩) (G2.block w.heap.size (Nat.lt_of_lt_of_le (by simp; omega) G1.size) (by simp))).trans ((World.frozen?_of_block (a := ⟨w.heap.size, j, none⟩) (G1.block w.heap.size (by simp; omega) hm0)).trans (by simp))
  have R2 := hide (R1.kept (k := w.heap.size + 1) (by omega) (fun b' o' e => by have := hnb b' o' e; omega) G2)
  have G02 := grown_new (grown_trans G0 G1) G2 (by omega)
  have HB := hide hb'
  have HNB := hide hnb
  have T2 : w2.there w.heap.size 0 6 := fun j hj => by
    rw [Nat.zero_add]
    refine ⟨?_, fl j⟩
    rcases (show j = 0 ∨ j = 1 ∨ j = 2 ∨ j = 3 ∨ j = 4 ∨ j = 5 by omega) with rfl | rfl | rfl | rfl | rfl | rfl
    · rw [l0]; rfl
    · rw [l1]; rfl
    · rw [l2]; rfl
    · rw [l3]; rfl
    · rw [l4]; rfl
    · rw [l5]; rfl
  have RG := hide (World.rangeAt_setCells_same w2 w.heap.size 0 [.int .u8 x0, .int .u8 x1, .int .u8 x2, .int .u8 x3, .int .u8 x4, .int .u8 x5] T2)
  clear R1 G0 G1 G2 hcp hg2 hb' hnb HM HR c0 c1 c2 c3 c4 c5 T2
  go_wp2
  refine bodyPost_ret (res_mac rfl rfl RG.out) rfl ⟨rfl, ao', R2.out.kept (k := w.heap.size) (by omega) (fun b' o' e => by have := HNB.out b' o' e; omega) (grown6 _ _ _ _ _ _ _ _), fun b' o' e => ⟨o, by rw [HB.out b' o' e]⟩, grown_new G02 (grown6 _ _ _ _ _ _ _ _) (Nat.le_refl _)⟩

set_option maxRecDepth 100000 in
set_option maxHeartbeats 1000000 in
theorem mac27_no (r : Nat) (ao : Option Addr) (n c : Nat) (ns : List Int) (w : World) (h : Rd w r ao n c ns) (hn : n < 6) :
    Calls Tryd.prog 50 #[.pointer (some ⟨r, 0, none⟩)] w fun e w' => e = .panicked pan ∧ w.grownBy w' (some r) := by
  have HR : Hid (Rd ((w.alloc (.cells #[.int .u8 0, .int .u8 0, .int .u8 0, .int .u8 0, .int .u8 0, .int .u8 0] 23)).alloc (.cells #[.int .u8 0, .int .u8 0, .int .u8 0, .int .u8 0, .int .u8 0, .int .u8 0] 23)).drew r ao n c ns) := hide ((h.on (by go_grown)).drew)
  have G0 : w.grownBy ((w.alloc (.cells #[.int .u8 0, .int .u8 0, .int .u8 0, .int .u8 0, .int .u8 0, .int .u8 0] 23)).alloc (.cells #[.int .u8 0, .int .u8 0, .int .u8 0, .int .u8 0, .int .u8 0, .int .u8 0] 23)).drew (some r) := grown_drew (grown_alloc (grown_alloc (World.grownBy.refl w (some r)) _) _)
  clear h
  go_enter Tryd.func50, Tryd.ntmps50
  go_wp2_with fail
  refine wp_region_any (by kernel_rfl) ?_
  change wpAny _ _ _ _ _ _ _ (World.drew _)
  refine wpAny_take (i := 0) (v := .slice (some ⟨w.heap.size + 1, 0, none⟩) 6 6) rfl (by kernel_rfl) (by kernel_rfl) (by kernel_rfl) (fun _ _ _ h => h) (Or.inl ⟨by rfl, ?_⟩) ?_
  · intro w; go_simp
  refine wpAny_take (i := 1) (v := .pointer (some ⟨r, 0, none⟩)) rfl (by kernel_rfl) (by kernel_rfl) (by kernel_rfl) (fun _ _ _ h => h) (Or.inl ⟨by rfl, ?_⟩) ?_
  · intro w; go_simp
  refine wpAny_ready (rs := [2]) (by kernel_rfl) (by simp) ?_
  refine AllReady.cons rfl (fun K hK => ?_) AllReady.nil
  go_simp
  refine (take29_no r ao n c ns 6 _ HR.out (by omega)).mono ?_
  rintro e w1 ⟨rfl, rfl⟩
  exact ⟨rfl, rfl, G0⟩
end Go.Proofs.YtgpdjfaklcmoiaaDoor.Eth
