/- Plain facts: what a note and a packet are, their bytes, which bytes are one; keepalives. Nothing of the program. · Memory: a list of bytes; cells in a row; a note and a packet; the table of kinds; how they stay while others do something. · Appends: an own slice of bytes that grows; how worlds grow. · Contracts of the small functions of both: within, known, fieldsOf, rightSeq, mostStateOf, what a kind has; equality of addresses; fits and blank. · Contracts of fits and blank: one field of a note. · What a step of the walk through fields does, whichever function it is; contract of each with any step. · The step that asks; contracts of the program's Right and rightPacket. · Contract of appendNumber: a number's bytes, put to a slice that has room. · Contract of appendField: one field's bytes, put to a slice that has room. · The step that puts down; contract of the program's Encode. -/
import Derived.WalkKit
import Derived.Handy
import Derived.Test.YtgpdjfaklcmoiaaDoorRows
import Derived.Deep.RegionHeld3
import Derived.ChangeKeysEq
import Derived.Laws.BytesArg
import Derived.BigQuiet
import Derived.Deep.MidRow
import Derived.Laws.AppendOwnNone
import Derived.OwnWalk
import Derived.WalkLawsBesides
/- Plain facts: what a note and a packet are, their bytes, which bytes are one; keepalives. Nothing of the program. -/
namespace Go.Proofs.YtgpdjfaklcmoiaaDoor.Ctl
open Go.RowKit

/-- Numbers that are bytes. -/
def Rng (ns : List Int) : Prop := ∀ n ∈ ns, 0 ≤ n ∧ n ≤ 255
theorem rng_append {a b : List Int} (h : Rng a) (k : Rng b) : Rng (a ++ b) := by
  intro n hn
  rcases List.mem_append.1 hn with h1 | h1
  · exact h n h1
  · exact k n h1
theorem rng_cons {a : Int} {b : List Int} (h0 : 0 ≤ a) (h1 : a ≤ 255) (k : Rng b) : Rng (a :: b) := by
  intro n hn
  rcases List.mem_cons.1 hn with rfl | h1
  · exact ⟨h0, h1⟩
  · exact k n h1
theorem rng_nil : Rng [] := by intro n hn; cases hn
theorem rng_left {a b : List Int} (h : Rng (a ++ b)) : Rng a := fun n hn => h n (List.mem_append.2 (Or.inl hn))
theorem rng_right {a b : List Int} (h : Rng (a ++ b)) : Rng b := fun n hn => h n (List.mem_append.2 (Or.inr hn))
theorem rng_getD {a : List Int} (h : Rng a) (j : Nat) : 0 ≤ a.getD j 0 ∧ a.getD j 0 ≤ 255 := by
  rw [List.getD_eq_getElem?_getD]
  by_cases hj : j < a.length
  · rw [List.getElem?_eq_getElem hj]; exact h _ (List.getElem_mem hj)
  · rw [List.getElem?_eq_none (by omega)]; simp
theorem rng_drop {a : List Int} (h : Rng a) (j : Nat) : Rng (a.drop j) := fun n hn => h n (List.mem_of_mem_drop hn)
theorem rng_take {a : List Int} (h : Rng a) (j : Nat) : Rng (a.take j) := fun n hn => h n (List.mem_of_mem_take hn)

/-- A number in so many bytes; the number of bytes; whether it goes into so many. -/
def be : Nat → Int → List Int
  | 0, _ => []
  | s + 1, n => be s (n / 256) ++ [n % 256]
def nb (l : List Int) : Int := l.foldl (fun a x => a * 256 + x) 0
def fit (s : Nat) (n : Int) : Bool := decide (0 ≤ n ∧ n < 256 ^ s)
theorem be_length : ∀ (s : Nat) (n : Int), (be s n).length = s
  | 0, _ => rfl
  | s + 1, n => by simp [be, be_length s]
theorem be_rng : ∀ (s : Nat) (n : Int), Rng (be s n)
  | 0, _ => rng_nil
  | s + 1, n => rng_append (be_rng s _) (rng_cons (by omega) (by omega) rng_nil)
theorem nb_snoc (l : List Int) (x : Int) : nb (l ++ [x]) = nb l * 256 + x := by simp [nb]
theorem nb_be : ∀ (s : Nat) (n : Int), 0 ≤ n → n < 256 ^ s → nb (be s n) = n
  | 0, n, h0, h1 => by
    have : n = 0 := by simp at h1; omega
    subst this
    rfl
  | s + 1, n, h0, h1 => by
    rw [be, nb_snoc, nb_be s (n / 256) (by omega) (by rw [Int.pow_succ] at h1; omega)]
    omega
theorem pow_pos' (s : Nat) : (0 : Int) < 256 ^ s := Int.pow_pos (by omega)
theorem list_snoc {α : Type} (l : List α) (s : Nat) (h : l.length = s + 1) : ∃ a x, l = a ++ [x] ∧ a.length = s := by
  have hne : l ≠ [] := by intro e; rw [e] at h; simp at h
  refine ⟨l.dropLast, l.getLast hne, (List.dropLast_concat_getLast hne).symm, by simp [h]⟩
theorem nb_fit : ∀ (s : Nat) (l : List Int), l.length = s → Rng l → 0 ≤ nb l ∧ nb l < 256 ^ s
  | 0, l, h, _ => by
    obtain rfl := List.eq_nil_of_length_eq_zero h
    simp [nb]
  | s + 1, l, h, hr => by
    obtain ⟨a, x, rfl, ha⟩ := list_snoc l s h
    have ih := nb_fit s a ha (rng_left hr)
    have hx := hr x (by simp)
    rw [nb_snoc, Int.pow_succ]
    omega
theorem be_nb : ∀ (s : Nat) (l : List Int), l.length = s → Rng l → be s (nb l) = l
  | 0, l, h, _ => by
    obtain rfl := List.eq_nil_of_length_eq_zero h
    rfl
  | s + 1, l, h, hr => by
    obtain ⟨a, x, rfl, ha⟩ := list_snoc l s h
    have ih := be_nb s a ha (rng_left hr)
    have hx := hr x (by simp)
    rw [nb_snoc, be, show (nb a * 256 + x) / 256 = nb a by omega, show (nb a * 256 + x) % 256 = x by omega, ih]
theorem fit_and {s : Nat} {n : Int} (h : fit s n = true) : 0 ≤ n ∧ n < 256 ^ s := of_decide_eq_true h
theorem fit_nb {l : List Int} (s : Nat) (h : l.length = s) (hr : Rng l) : fit s (nb l) = true := decide_eq_true (nb_fit s l h hr)


/-- A note, and a packet, as numbers and a list of bytes. -/
structure Nt where
  k : Int
  v : Int
  m0 : Int
  m1 : Int
  m2 : Int
  m3 : Int
  m4 : Int
  m5 : Int
  p : Int
  s : Int
  b : List Int
structure Pk where
  e : Int
  q : Int
  a : Int
  n : Nt
def ml (x : Nt) : List Int := [x.m0, x.m1, x.m2, x.m3, x.m4, x.m5]
structure NtB (x : Nt) : Prop where
  m : Rng (ml x)
  b : Rng x.b
def zeroN : Nt := ⟨0, 0, 0, 0, 0, 0, 0, 0, 0, 0, []⟩
def zeroP : Pk := ⟨0, 0, 0, zeroN⟩
theorem zero_ml : Rng (ml zeroN) := fun n hn => by simp [ml, zeroN] at hn; omega
theorem zeroN_B : NtB zeroN := ⟨zero_ml, rng_nil⟩

/-- Is a number from one to another one? -/
def wi (n lo hi : Int) : Bool := decide (lo ≤ n) && decide (n ≤ hi)
theorem wi_iff (n lo hi : Int) : wi n lo hi = true ↔ lo ≤ n ∧ n ≤ hi := by simp [wi]
def sq (n : Int) : Bool := wi n 0 1073741824
theorem sq_iff (n : Int) : sq n = true ↔ 0 ≤ n ∧ n ≤ 1073741824 := wi_iff _ _ _

/-- What a kind has: its fields as bits; and each field by itself. -/
def fo (k : Int) : Int := if k = 1 then 7 else if k = 2 then 3 else if k = 3 then 12 else if k = 4 then 12 else if k = 5 then 20 else if k = 6 then 12 else if k = 7 then 8 else if k = 8 then 29 else 0
def hs (F : Int) (j : Nat) : Bool := !(bits .and .i64 F (j : Int) == 0)
def hv (k : Int) : Bool := k == 1 || k == 2 || k == 8
def hm (k : Int) : Bool := k == 1 || k == 2
def hp (k : Int) : Bool := k == 1 || (decide (3 ≤ k) && decide (k ≤ 6)) || k == 8
def hst (k : Int) : Bool := k == 3 || k == 4 || (decide (6 ≤ k) && decide (k ≤ 8))
def hb (k : Int) : Bool := k == 5 || k == 8
theorem kinds9 (k : Int) : k = 1 ∨ k = 2 ∨ k = 3 ∨ k = 4 ∨ k = 5 ∨ k = 6 ∨ k = 7 ∨ k = 8 ∨ (fo k = 0 ∧ hv k = false ∧ hm k = false ∧ hp k = false ∧ hst k = false ∧ hb k = false) := by
  by_cases h1 : k = 1
  · exact Or.inl h1
  by_cases h2 : k = 2
  · simp [h2]
  by_cases h3 : k = 3
  · simp [h3]
  by_cases h4 : k = 4
  · simp [h4]
  by_cases h5 : k = 5
  · simp [h5]
  by_cases h6 : k = 6
  · simp [h6]
  by_cases h7 : k = 7
  · simp [h7]
  by_cases h8 : k = 8
  · simp [h8]
  refine Or.inr (Or.inr (Or.inr (Or.inr (Or.inr (Or.inr (Or.inr (Or.inr ⟨?_, ?_, ?_, ?_, ?_, ?_⟩)))))))
  · simp [fo, *]
  · simp [hv, *]
  · simp [hm, *]
  · simp only [hp, beq_eq_false_iff_ne.2 h1, beq_eq_false_iff_ne.2 h8, Bool.false_or, Bool.or_false, Bool.and_eq_false_iff, decide_eq_false_iff_not]; omega
  · simp only [hst, beq_eq_false_iff_ne.2 h3, beq_eq_false_iff_ne.2 h4, Bool.false_or, Bool.or_false, Bool.and_eq_false_iff, decide_eq_false_iff_not]; omega
  · simp [hb, *]
theorem hs0 (j : Nat) (h : j = 1 ∨ j = 2 ∨ j = 4 ∨ j = 8 ∨ j = 16) : hs 0 j = false := by
  rcases h with rfl | rfl | rfl | rfl | rfl <;> decide
theorem hs31 (j : Nat) (h : j = 1 ∨ j = 2 ∨ j = 4 ∨ j = 8 ∨ j = 16) : hs 31 j = true := by
  rcases h with rfl | rfl | rfl | rfl | rfl <;> decide
theorem hs_v (k : Int) : hs (fo k) 1 = hv k := by
  rcases kinds9 k with h | h | h | h | h | h | h | h | ⟨h, h1, h2, h3, h4, h5⟩
  all_goals first | (subst h; decide) | (rw [h, h1]; decide)
theorem hs_m (k : Int) : hs (fo k) 2 = hm k := by
  rcases kinds9 k with h | h | h | h | h | h | h | h | ⟨h, h1, h2, h3, h4, h5⟩
  all_goals first | (subst h; decide) | (rw [h, h2]; decide)
theorem hs_p (k : Int) : hs (fo k) 4 = hp k := by
  rcases kinds9 k with h | h | h | h | h | h | h | h | ⟨h, h1, h2, h3, h4, h5⟩
  all_goals first | (subst h; decide) | (rw [h, h3]; decide)
theorem hs_s (k : Int) : hs (fo k) 8 = hst k := by
  rcases kinds9 k with h | h | h | h | h | h | h | h | ⟨h, h1, h2, h3, h4, h5⟩
  all_goals first | (subst h; decide) | (rw [h, h4]; decide)
theorem hs_b (k : Int) : hs (fo k) 16 = hb k := by
  rcases kinds9 k with h | h | h | h | h | h | h | h | ⟨h, h1, h2, h3, h4, h5⟩
  all_goals first | (subst h; decide) | (rw [h, h5]; decide)

/-- May a note be? -/
def ms (k : Int) : Int := if k = 6 then 2 else if k = 8 then 250 else 1
def eq6 (a0 a1 a2 a3 a4 a5 b0 b1 b2 b3 b4 b5 : Int) : Bool := a0 == b0 && (a1 == b1 && (a2 == b2 && (a3 == b3 && (a4 == b4 && a5 == b5))))
def m0 (n : Nt) : Bool := eq6 n.m0 n.m1 n.m2 n.m3 n.m4 n.m5 0 0 0 0 0 0
def ft (n : Nt) (j : Nat) : Bool := if j = 1 then wi n.v 1 4094 else if j = 4 then wi n.p 0 1000 else if j = 8 then wi n.s 0 (ms n.k) else if j = 16 then decide ((n.b.length : Int) ≤ 1600) else true
def bl (n : Nt) (j : Nat) : Bool := if j = 1 then n.v == 0 else if j = 2 then m0 n else if j = 4 then n.p == 0 else if j = 8 then n.s == 0 else (n.b.length : Int) == 0
def ff (n : Nt) (j : Nat) : Bool := if hs (fo n.k) j then ft n j else bl n j
def rt (n : Nt) : Bool := wi n.k 0 8 && (ff n 1 && (ff n 2 && (ff n 4 && (ff n 8 && ff n 16))))
def rtp (p : Pk) : Bool := rt p.n && (sq p.e && (sq p.q && sq p.a))

/-- Its bytes. -/
def fb (n : Nt) (j : Nat) : List Int := if j = 1 then be 2 n.v else if j = 2 then ml n else if j = 4 then be 2 n.p else if j = 8 then be 1 n.s else be 2 (n.b.length : Int) ++ n.b
def fbs (n : Nt) (j : Nat) : List Int := if hs (fo n.k) j then fb n j else []
def hd (p : Pk) : List Int := be 4 p.e ++ be 4 p.q ++ be 4 p.a ++ be 1 p.n.k
def tl (n : Nt) : List Int := fbs n 1 ++ (fbs n 2 ++ (fbs n 4 ++ (fbs n 8 ++ fbs n 16)))
def enc (p : Pk) : List Int := hd p ++ tl p.n
def eb (p : Pk) : List Int := if rtp p then enc p else []
def ec (p : Pk) : Int := if rtp p then 0 else 1
theorem hd_length (p : Pk) : (hd p).length = 13 := by simp [hd, be_length]
theorem fb_rng {n : Nt} (h : NtB n) (j : Nat) : Rng (fb n j) := by
  unfold fb
  split
  · exact be_rng _ _
  split
  · exact h.m
  split
  · exact be_rng _ _
  split
  · exact be_rng _ _
  exact rng_append (be_rng _ _) h.b
theorem fbs_rng {n : Nt} (h : NtB n) (j : Nat) : Rng (fbs n j) := by
  unfold fbs
  split
  · exact fb_rng h j
  exact rng_nil
theorem hd_rng (p : Pk) : Rng (hd p) := rng_append (rng_append (rng_append (be_rng _ _) (be_rng _ _)) (be_rng _ _)) (be_rng _ _)
theorem enc_rng {p : Pk} (h : NtB p.n) : Rng (enc p) := rng_append (hd_rng p) (rng_append (fbs_rng h 1) (rng_append (fbs_rng h 2) (rng_append (fbs_rng h 4) (rng_append (fbs_rng h 8) (fbs_rng h 16)))))
theorem eb_rng {p : Pk} (h : NtB p.n) : Rng (eb p) := by
  unfold eb
  split
  · exact enc_rng h
  exact rng_nil

/-- Are two the same? -/
def neq (x y : Nt) : Bool := x.k == y.k && (x.v == y.v && (eq6 x.m0 x.m1 x.m2 x.m3 x.m4 x.m5 y.m0 y.m1 y.m2 y.m3 y.m4 y.m5 && (x.p == y.p && (x.s == y.s && decide (x.b = y.b)))))
def peq (x y : Pk) : Bool := x.e == y.e && (x.q == y.q && (x.a == y.a && neq x.n y.n))
theorem neq_iff (x y : Nt) : neq x y = true ↔ x = y := by
  obtain ⟨a, b, c0, c1, c2, c3, c4, c5, d, e, f⟩ := x
  obtain ⟨a', b', c0', c1', c2', c3', c4', c5', d', e', f'⟩ := y
  simp only [neq, eq6, Bool.and_eq_true, beq_iff_eq, decide_eq_true_eq, Nt.mk.injEq]
  constructor
  · rintro ⟨h1, h2, ⟨h3, h4, h5, h6, h7, h8⟩, h9, h10, h11⟩
    exact ⟨h1, h2, h3, h4, h5, h6, h7, h8, h9, h10, h11⟩
  · rintro ⟨h1, h2, h3, h4, h5, h6, h7, h8, h9, h10, h11⟩
    exact ⟨h1, h2, ⟨h3, h4, h5, h6, h7, h8⟩, h9, h10, h11⟩
theorem peq_iff (x y : Pk) : peq x y = true ↔ x = y := by
  obtain ⟨a, b, c, d⟩ := x
  obtain ⟨a', b', c', d'⟩ := y
  simp only [peq, Bool.and_eq_true, beq_iff_eq, neq_iff, Pk.mk.injEq]
theorem peq_dec (x y : Pk) : peq x y = true ∧ x = y ∨ peq x y = false ∧ ¬ x = y := by
  cases h : peq x y
  · exact Or.inr ⟨rfl, fun e => by rw [(peq_iff x y).2 e] at h; cases h⟩
  · exact Or.inl ⟨rfl, (peq_iff x y).1 h⟩
end Go.Proofs.YtgpdjfaklcmoiaaDoor.Ctl
/- Memory: a list of bytes; cells in a row; a note and a packet; the table of kinds; how they stay while others do something. -/
namespace Go.Proofs.YtgpdjfaklcmoiaaDoor.Ctl
open Go.RowKit

theorem bcell {W w1 : World} (hb : Below W.heap.size W w1) : (∀ b o, b < W.heap.size → w1.cell? ⟨b, o, none⟩ = W.cell? ⟨b, o, none⟩) ∧ (∀ b o, b < W.heap.size → w1.frozen? ⟨b, o, none⟩ = W.frozen? ⟨b, o, none⟩) :=
  ⟨fun b o h => hb.cell (p := ⟨b, o, none⟩) h, fun b o h => hb.frozen (p := ⟨b, o, none⟩) h⟩
theorem hide {p : Prop} (h : p) : Hid p := h
theorem ret_bool {a b : Bool} (h : a = b) : Ending.returned (.bool a) = .returned (.bool b) := by rw [h]
theorem ret_int {k : IntKind} {a b : Int} (h : a = b) : Ending.returned (.int k a) = .returned (.int k b) := by rw [h]
theorem belowOn {w wr w1 : World} (hB : Below w.heap.size w wr) (hb : Below wr.heap.size wr w1) : Below w.heap.size w w1 := hB.trans (hb.mono hB.size)
theorem below_alloc (w : World) (o : Obj) : Below w.heap.size w (w.alloc o) := (Below.refl _ _).alloc (Nat.le_refl _) o
theorem Tryd.cells3 : Tryd.prog.cellsOf 3 = 1 := by kernel_rfl
theorem Tryd.cells4 : Tryd.prog.cellsOf 4 = 1 := by kernel_rfl
theorem Tryd.cells5 : Tryd.prog.cellsOf 5 = 1 := by kernel_rfl
theorem Tryd.cells23 : Tryd.prog.cellsOf 23 = 6 := by kernel_rfl
theorem Tryd.cells24 : Tryd.prog.cellsOf 24 = 1 := by kernel_rfl
theorem Tryd.cells46 : Tryd.prog.cellsOf 46 = 11 := by kernel_rfl
theorem Tryd.cells48 : Tryd.prog.cellsOf 48 = 14 := by kernel_rfl
theorem Tryd.cells84 : Tryd.prog.cellsOf 84 = 2 := by kernel_rfl
theorem Tryd.info5 : (Tryd.prog.info? 5).map (fun i => (i.zero, i.size, i.bytes)) = some (some (.int .u8 0), 1, 1) := by kernel_rfl
theorem Tryd.size23 : (Tryd.prog.info? 23).map (·.size) = some 6 := by kernel_rfl
theorem Tryd.size46 : (Tryd.prog.info? 46).map (·.size) = some 11 := by kernel_rfl
theorem Tryd.size48 : (Tryd.prog.info? 48).map (·.size) = some 14 := by kernel_rfl

/-- The cells of an address, a note, a packet; s is the Body's slice. -/
def mcl (x : Nt) : List Value := [.int .u8 x.m0, .int .u8 x.m1, .int .u8 x.m2, .int .u8 x.m3, .int .u8 x.m4, .int .u8 x.m5]
def ncl (x : Nt) (s : Value) : List Value := .int .i64 x.k :: .int .i64 x.v :: (mcl x ++ [.int .i64 x.p, .int .i64 x.s, s])
def pcl (p : Pk) (s : Value) : List Value := .int .i64 p.e :: .int .i64 p.q :: .int .i64 p.a :: ncl p.n s
def MC (x : Nt) : Array Value := (mcl x).toArray
def NC (x : Nt) (s : Value) : Array Value := (ncl x s).toArray
def PC (p : Pk) (s : Value) : Array Value := (pcl p s).toArray
theorem mcl_length (x : Nt) : (mcl x).length = 6 := rfl
theorem ncl_length (x : Nt) (s : Value) : (ncl x s).length = 11 := rfl
theorem pcl_length (p : Pk) (s : Value) : (pcl p s).length = 14 := rfl
theorem NC_size (x : Nt) (s : Value) : (NC x s).size = 11 := rfl
theorem PC_size (p : Pk) (s : Value) : (PC p s).size = 14 := rfl

theorem NC0 (x : Nt) (s : Value) : (NC x s)[0]? = some (.int .i64 x.k) := rfl
theorem NC1 (x : Nt) (s : Value) : (NC x s)[1]? = some (.int .i64 x.v) := rfl
theorem NC2 (x : Nt) (s : Value) : (NC x s)[2]? = some (.int .u8 x.m0) := rfl
theorem NC3 (x : Nt) (s : Value) : (NC x s)[3]? = some (.int .u8 x.m1) := rfl
theorem NC4 (x : Nt) (s : Value) : (NC x s)[4]? = some (.int .u8 x.m2) := rfl
theorem NC5 (x : Nt) (s : Value) : (NC x s)[5]? = some (.int .u8 x.m3) := rfl
theorem NC6 (x : Nt) (s : Value) : (NC x s)[6]? = some (.int .u8 x.m4) := rfl
theorem NC7 (x : Nt) (s : Value) : (NC x s)[7]? = some (.int .u8 x.m5) := rfl
theorem NC8 (x : Nt) (s : Value) : (NC x s)[8]? = some (.int .i64 x.p) := rfl
theorem NC9 (x : Nt) (s : Value) : (NC x s)[9]? = some (.int .i64 x.s) := rfl
theorem NC10 (x : Nt) (s : Value) : (NC x s)[10]? = some (s) := rfl
theorem PC0 (p : Pk) (s : Value) : (PC p s)[0]? = some (.int .i64 p.e) := rfl
theorem PC1 (p : Pk) (s : Value) : (PC p s)[1]? = some (.int .i64 p.q) := rfl
theorem PC2 (p : Pk) (s : Value) : (PC p s)[2]? = some (.int .i64 p.a) := rfl
theorem PC3 (p : Pk) (s : Value) : (PC p s)[3]? = some (.int .i64 p.n.k) := rfl
theorem PC4 (p : Pk) (s : Value) : (PC p s)[4]? = some (.int .i64 p.n.v) := rfl
theorem PC5 (p : Pk) (s : Value) : (PC p s)[5]? = some (.int .u8 p.n.m0) := rfl
theorem PC6 (p : Pk) (s : Value) : (PC p s)[6]? = some (.int .u8 p.n.m1) := rfl
theorem PC7 (p : Pk) (s : Value) : (PC p s)[7]? = some (.int .u8 p.n.m2) := rfl
theorem PC8 (p : Pk) (s : Value) : (PC p s)[8]? = some (.int .u8 p.n.m3) := rfl
theorem PC9 (p : Pk) (s : Value) : (PC p s)[9]? = some (.int .u8 p.n.m4) := rfl
theorem PC10 (p : Pk) (s : Value) : (PC p s)[10]? = some (.int .u8 p.n.m5) := rfl
theorem PC11 (p : Pk) (s : Value) : (PC p s)[11]? = some (.int .i64 p.n.p) := rfl
theorem PC12 (p : Pk) (s : Value) : (PC p s)[12]? = some (.int .i64 p.n.s) := rfl
theorem PC13 (p : Pk) (s : Value) : (PC p s)[13]? = some (s) := rfl

/-- A slice's bytes. -/
structure Byt (w : World) (ao : Option Addr) (n c : Nat) (ns : List Int) : Prop where
  len : ns.length = n
  nil : ao = none → n = 0 ∧ c = 0
  cell : ∀ j, j < n → ∃ b o, ao = some ⟨b, o, none⟩ ∧ w.cell? ⟨b, o + j, none⟩ = some (.int .u8 (ns.getD j 0))
  le : n ≤ c
  mx : c ≤ maxLen
  rng : Rng ns

theorem Byt.on {w w1 : World} {ao : Option Addr} {n c : Nat} {ns : List Int} (h : Byt w ao n c ns) (hb : Below w.heap.size w w1) : Byt w1 ao n c ns :=
  ⟨h.len, h.nil, fun j hj => by
    obtain ⟨b, o, e, hc⟩ := h.cell j hj
    exact ⟨b, o, e, (hb.cell (p := ⟨b, o + j, none⟩) (World.block_lt_of_cell? w _ hc)).trans hc⟩, h.le, h.mx, h.rng⟩
theorem Byt.nothing (w : World) : Byt w none 0 0 [] := ⟨rfl, fun _ => ⟨rfl, rfl⟩, fun j hj => by omega, Nat.le_refl _, Nat.zero_le _, rng_nil⟩
theorem Byt.at {w : World} {ao : Option Addr} {n c : Nat} {ns : List Int} (h : Byt w ao n c ns) (hn : 0 < n) : ∃ b o, ao = some ⟨b, o, none⟩ ∧ (∀ j, j < n → w.cell? ⟨b, o + j, none⟩ = some (.int .u8 (ns.getD j 0))) ∧ b < w.heap.size := by
  obtain ⟨b, o, rfl, hc⟩ := h.cell 0 hn
  refine ⟨b, o, rfl, fun j hj => ?_, World.block_lt_of_cell? w _ hc⟩
  obtain ⟨b', o', e, hc'⟩ := h.cell j hj
  have e1 := Option.some.inj e
  injection e1 with e2 e3
  subst e2 e3
  exact hc'
theorem Byt.alloc {w : World} {ao : Option Addr} {n c : Nat} {ns : List Int} (h : Byt w ao n c ns) (o : Obj) : Byt (w.alloc o) ao n c ns := h.on (below_alloc w o)
theorem Byt.drew {w : World} {ao : Option Addr} {n c : Nat} {ns : List Int} (h : Byt w ao n c ns) : Byt w.drew ao n c ns := ⟨h.len, h.nil, h.cell, h.le, h.mx, h.rng⟩
theorem Byt.drewN {w : World} {ao : Option Addr} {n c : Nat} {ns : List Int} (h : Byt w ao n c ns) (m : Nat) : Byt (w.drewN m) ao n c ns := ⟨h.len, h.nil, h.cell, h.le, h.mx, h.rng⟩
theorem Byt.below {w w1 : World} {g : Nat} {ao : Option Addr} {n c : Nat} {ns : List Int} (h : Byt w ao n c ns) (hg : ∀ b o, ao = some ⟨b, o, none⟩ → 0 < n → b < g) (hb : Below g w w1) : Byt w1 ao n c ns :=
  ⟨h.len, h.nil, fun j hj => by
    obtain ⟨b, o, e, hc⟩ := h.cell j hj
    exact ⟨b, o, e, (hb.cell (p := ⟨b, o + j, none⟩) (hg b o e (by omega))).trans hc⟩, h.le, h.mx, h.rng⟩
theorem Byt.lt {w : World} {ao : Option Addr} {n c : Nat} {ns : List Int} (h : Byt w ao n c ns) : ∀ b o, ao = some ⟨b, o, none⟩ → 0 < n → b < w.heap.size := by
  intro b o e hn
  obtain ⟨b', o', e', hc⟩ := h.cell 0 hn
  rw [e] at e'
  injection Option.some.inj e' with e1 e2
  subst e1
  exact World.block_lt_of_cell? w _ hc
theorem Byt.kept {w w1 : World} {k : Nat} {ao : Option Addr} {n c : Nat} {ns : List Int} (h : Byt w ao n c ns) (hne : ∀ b o, ao = some ⟨b, o, none⟩ → 0 < n → b ≠ k) (hg : w.grownBy w1 (some k)) : Byt w1 ao n c ns :=
  ⟨h.len, h.nil, fun j hj => by
    obtain ⟨b, o, e, hc⟩ := h.cell j hj
    exact ⟨b, o, e, hg.cell hc (fun e2 => hne b o e (by omega) (Option.some.inj e2))⟩, h.le, h.mx, h.rng⟩
theorem Byt.src {w : World} {ad : Addr} {n c : Nat} {ns : List Int} (h : Byt w (some ad) n c ns) : ∀ j u, (ns.map (Value.int .u8))[j]? = some u → w.cell? (ad.add j) = some u := by
  intro j u hj
  rw [List.getElem?_map, Option.map_eq_some_iff] at hj
  obtain ⟨x, hx, rfl⟩ := hj
  have hl : j < ns.length := (List.getElem?_eq_some_iff.1 hx).1
  obtain ⟨b, o, e, hc⟩ := h.cell j (by rw [← h.len]; exact hl)
  obtain rfl := Option.some.inj e
  rw [List.getD_eq_getElem?_getD, hx] at hc
  rw [Addr.add_lit]
  exact hc
theorem Byt.srcAny {w : World} {ao : Option Addr} {n c : Nat} {ns : List Int} (h : Byt w ao n c ns) : ∀ ad, ao = some ad → ∀ j u, (ns.map (Value.int .u8))[j]? = some u → w.cell? (ad.add j) = some u := by
  intro ad e
  subst e
  exact h.src
theorem one_u8 (ns : List Int) : ∀ u ∈ ns.map (Value.int .u8), u.oneCell' = true := by
  intro u hu
  obtain ⟨x, _, rfl⟩ := List.mem_map.1 hu
  rfl
theorem byt_of_new (w : World) (cs : Array Value) (ns : List Int) (n : Nat) (hc : cs.toList = ns.map (Value.int .u8)) (hl : ns.length = n) (hn : n ≤ 100000) (hr : Rng ns) : Byt (w.alloc (.cells cs 5)) (some ⟨w.heap.size, 0, none⟩) n n ns :=
  ⟨hl, fun e => (by cases e), fun j hj => ⟨w.heap.size, 0, rfl, by
    rw [Nat.zero_add, World.cell?_alloc_at _ _ _ _ rfl, ← Array.getElem?_toList, hc, List.getElem?_map, List.getElem?_eq_getElem (by omega), List.getD_eq_getElem?_getD, List.getElem?_eq_getElem (by omega)]
    rfl⟩, Nat.le_refl _, by unfold maxLen; omega, hr⟩

/-- Cells in a row. -/
theorem rangeAt_left {w : World} {k o : Nat} {A B : List Value} (h : w.rangeAt k o (A ++ B)) : w.rangeAt k o A := fun j v hj => h j v (by
  rw [List.getElem?_append_left (List.getElem?_eq_some_iff.1 hj).1]; exact hj)
theorem rangeAt_right {w : World} {k o q : Nat} {A B : List Value} (h : w.rangeAt k o (A ++ B)) (hq : o + A.length = q) : w.rangeAt k q B := fun j v hj => by
  have := h (A.length + j) v (by rw [List.getElem?_append_right (by omega)]; simpa using hj)
  rw [← hq, Nat.add_assoc]; exact this
theorem rangeAt_join {w : World} {k o q : Nat} {A B : List Value} (h : w.rangeAt k o A) (g : w.rangeAt k q B) (hq : o + A.length = q) : w.rangeAt k o (A ++ B) := fun j v hj => by
  by_cases hl : j < A.length
  · rw [List.getElem?_append_left hl] at hj; exact h j v hj
  · rw [List.getElem?_append_right (by omega)] at hj
    have := g (j - A.length) v hj
    rw [← hq, Nat.add_assoc, show A.length + (j - A.length) = j by omega] at this
    exact this
/-- A variable of many cells. -/
structure Box (w : World) (k : Nat) (cs : List Value) : Prop where
  lt : k < w.heap.size
  at_ : w.rangeAt k 0 cs
  th : w.there k 0 cs.length
theorem Box.on {w w1 : World} {k : Nat} {cs : List Value} (h : Box w k cs) (hb : Below w.heap.size w w1) : Box w1 k cs :=
  ⟨Nat.lt_of_lt_of_le h.lt hb.size, fun j v hj => (hb.cell (p := ⟨k, 0 + j, none⟩) h.lt).trans (h.at_ j v hj), fun j hj => ⟨by rw [hb.cell (p := ⟨k, 0 + j, none⟩) h.lt]; exact (h.th j hj).1, by rw [hb.frozen (p := ⟨k, 0 + j, none⟩) h.lt]; exact (h.th j hj).2⟩⟩
theorem Box.below {w w1 : World} {k g : Nat} {cs : List Value} (h : Box w k cs) (hg : k < g) (hb : Below g w w1) : Box w1 k cs :=
  ⟨Nat.lt_of_lt_of_le h.lt hb.size, fun j v hj => (hb.cell (p := ⟨k, 0 + j, none⟩) hg).trans (h.at_ j v hj), fun j hj => ⟨by rw [hb.cell (p := ⟨k, 0 + j, none⟩) hg]; exact (h.th j hj).1, by rw [hb.frozen (p := ⟨k, 0 + j, none⟩) hg]; exact (h.th j hj).2⟩⟩
theorem Box.kept {w w1 : World} {k r : Nat} {cs : List Value} (h : Box w k cs) (hne : k ≠ r) (hg : w.grownBy w1 (some r)) : Box w1 k cs := by
  have hb : w1.heap[k]? = w.heap[k]? := hg.block k h.lt (fun e => hne (Option.some.inj e))
  exact ⟨Nat.lt_of_lt_of_le h.lt hg.size, fun j v hj => by rw [World.cell?_of_block (a := ⟨k, 0 + j, none⟩) hb]; exact h.at_ j v hj, fun j hj => ⟨by rw [World.cell?_of_block (a := ⟨k, 0 + j, none⟩) hb]; exact (h.th j hj).1, by rw [World.frozen?_of_block (a := ⟨k, 0 + j, none⟩) hb]; exact (h.th j hj).2⟩⟩
theorem Box.alloc {w : World} {k : Nat} {cs : List Value} (h : Box w k cs) (o : Obj) : Box (w.alloc o) k cs := h.on (below_alloc w o)
theorem Box.drewN {w : World} {k : Nat} {cs : List Value} (h : Box w k cs) (n : Nat) : Box (w.drewN n) k cs := ⟨h.lt, h.at_, h.th⟩
theorem Box.drew {w : World} {k : Nat} {cs : List Value} (h : Box w k cs) : Box w.drew k cs := ⟨h.lt, h.at_, h.th⟩
theorem Box.new (w : World) (cs : List Value) (e : TypeId) : Box (w.alloc (.cells cs.toArray e)) w.heap.size cs := by
  have hg : (w.alloc (.cells cs.toArray e)).heap[w.heap.size]? = some (.cells cs.toArray e (0, 0)) := heap_alloc_new w _
  refine ⟨by simp, fun j v hj => ?_, fun j hj => ⟨?_, ?_⟩⟩
  · rw [Nat.zero_add, cell_of_row _ _ j _ _ _ hg]; simpa using hj
  · rw [Nat.zero_add, cell_of_row _ _ j _ _ _ hg]; simp [hj]
  · rw [World.frozen?_alloc_at _ _ _ _ rfl]
theorem setCells_grown (b : Nat) : ∀ (vs : List Value) (o : Nat) (w : World), w.grownBy (w.setCells b o vs) (some b)
  | [], _, w => ⟨rfl, rfl, rfl, Nat.le_refl _, fun _ _ _ => rfl⟩
  | v :: r, o, w => by
    have h := setCells_grown b r (o + 1) (w.setCell ⟨b, o, none⟩ v)
    have hs : (w.setCell ⟨b, o, none⟩ v).heap.size = w.heap.size := by simp [World.setCell]
    refine ⟨h.os, h.tape, h.output, by have := h.size; rw [hs] at this; exact this, fun k hk hne => ?_⟩
    have e := h.block k (by rw [hs]; exact hk) hne
    rw [Below.heap_setCell _ _ _ _ (fun e => hne (by rw [e]))] at e
    exact e
theorem setCell_grown (w : World) (k i : Nat) (v : Value) : w.grownBy (w.setCell ⟨k, i, none⟩ v) (some k) := setCells_grown k [v] i w
theorem Box.put {w : World} {k o : Nat} {A B C B' : List Value} (h : Box w k (A ++ (B ++ C))) (hl : B'.length = B.length) (ho : A.length = o) : Box (w.setCells k o B') k (A ++ (B' ++ C)) := by
  have hG := setCells_grown k B' o w
  have hlen : (A ++ (B' ++ C)).length = (A ++ (B ++ C)).length := by simp [hl]
  have hth : w.there k o B'.length := fun j hj => by
    have := h.th (o + j) (by simp; omega)
    rw [Nat.zero_add] at this
    exact this
  refine ⟨Nat.lt_of_lt_of_le h.lt hG.size, ?_, ?_⟩
  · refine rangeAt_join (q := o) ?_ (rangeAt_join (q := o + B.length) ?_ ?_ (by rw [hl])) (by omega)
    · exact World.rangeAt_setCells_apart (rangeAt_left h.at_) k o B' (by omega)
    · exact World.rangeAt_setCells_same w k o B' hth
    · exact World.rangeAt_setCells_apart (rangeAt_right (rangeAt_right h.at_ (q := o) (by omega)) (q := o + B.length) rfl) k o B' (by omega)
  · rw [hlen]; exact World.there_setCells h.th k o B'
theorem Box.cell {w : World} {k : Nat} {cs : List Value} (h : Box w k cs) (j : Nat) (v : Value) (hj : cs[j]? = some v) : w.cell? ⟨k, j, none⟩ = some v := by
  have := h.at_ j v hj
  rwa [Nat.zero_add] at this
theorem Box.free {w : World} {k : Nat} {cs : List Value} (h : Box w k cs) (j : Nat) (hj : j < cs.length) : w.frozen? ⟨k, j, none⟩ = false := by
  have := (h.th j hj).2
  rwa [Nat.zero_add] at this

/-- A load of many cells, as one step. -/
theorem wpl_load {P : Program} {ops : Array Oper} {rest : List Oper} {op : Oper} {a : Act} {w : World} {Q : Exit → Act → World → Prop} (ty : TypeId) (x : Operand) (ho : op.op = .load ty x) (b o : Nat) (cs : List Value) (d : TypeDesc) (hc : w.rangeAt b o cs)
    (hu : P.underlying ty = some d) (hd : d.isRow = true) (hi : (P.info? ty).map (·.size) = some cs.length) (hw : Region.wanted op (yielded ops a.tmps) = true) (hx : a.eval x = .pointer (some ⟨b, o, none⟩))
    (h : wpList P ops Q rest (a.put op.dst (.agg cs.toArray)) w) : wpList P ops Q (op :: rest) a w :=
  wpList_step fun K hK => by rw [if_pos hw]; exact wp_load_mid ty x ho b o hx cs d hc hu hd hi (hK _ _ h)
theorem Box.note {w : World} {k : Nat} {p : Pk} {s : Value} (h : Box w k (pcl p s)) : w.rangeAt k 3 (ncl p.n s) := rangeAt_right (A := [.int .i64 p.e, .int .i64 p.q, .int .i64 p.a]) h.at_ (q := 3) rfl
theorem Box.mac {w : World} {k : Nat} {x : Nt} {s : Value} (h : Box w k (ncl x s)) : w.rangeAt k 2 (mcl x) := rangeAt_left (rangeAt_right (A := [.int .i64 x.k, .int .i64 x.v]) h.at_ (q := 2) rfl)
theorem wpl_pkt {ops : Array Oper} {rest : List Oper} {op : Oper} {a : Act} {w : World} {Q : Exit → Act → World → Prop} {k : Nat} {p : Pk} {s : Value} (x : Operand) (ho : op.op = .load 48 x) (hA : Box w k (pcl p s)) (hw : Region.wanted op (yielded ops a.tmps) = true) (hx : a.eval x = .pointer (some ⟨k, 0, none⟩))
    (h : wpList Tryd.prog ops Q rest (a.put op.dst (.agg (PC p s))) w) : wpList Tryd.prog ops Q (op :: rest) a w :=
  wpl_load 48 x ho k 0 _ _ hA.at_ Tryd.underlying48 rfl Tryd.size48 hw hx h
theorem wpl_note {ops : Array Oper} {rest : List Oper} {op : Oper} {a : Act} {w : World} {Q : Exit → Act → World → Prop} {k o : Nat} {i : Nt} {s : Value} (x : Operand) (ho : op.op = .load 46 x) (hA : w.rangeAt k o (ncl i s)) (hw : Region.wanted op (yielded ops a.tmps) = true) (hx : a.eval x = .pointer (some ⟨k, o, none⟩))
    (h : wpList Tryd.prog ops Q rest (a.put op.dst (.agg (NC i s))) w) : wpList Tryd.prog ops Q (op :: rest) a w :=
  wpl_load 46 x ho k o _ _ hA Tryd.underlying46 rfl Tryd.size46 hw hx h
theorem wpl_mac {ops : Array Oper} {rest : List Oper} {op : Oper} {a : Act} {w : World} {Q : Exit → Act → World → Prop} {k o : Nat} {i : Nt} (x : Operand) (ho : op.op = .load 23 x) (hA : w.rangeAt k o (mcl i)) (hw : Region.wanted op (yielded ops a.tmps) = true) (hx : a.eval x = .pointer (some ⟨k, o, none⟩))
    (h : wpList Tryd.prog ops Q rest (a.put op.dst (.agg (MC i))) w) : wpList Tryd.prog ops Q (op :: rest) a w :=
  wpl_load 23 x ho k o _ _ hA Tryd.underlying23 rfl Tryd.size23 hw hx h
theorem one_ncl' (x : Nt) (s : Value) (hs : s.oneCell' = true) : ∀ v ∈ ncl x s, v.oneCell' = true := by
  intro v hv
  simp only [ncl, mcl, List.mem_cons, List.mem_append, List.not_mem_nil, or_false] at hv
  rcases hv with rfl | rfl | (rfl | rfl | rfl | rfl | rfl | rfl) | rfl | rfl | rfl <;> first | rfl | exact hs
theorem one_ncl (x : Nt) (s : Value) (hs : s.oneCell' = true) : (NC x s).all (·.oneCell') = true := all_oneCell_toArray (one_ncl' x s hs)
theorem one_pcl (p : Pk) (s : Value) (hs : s.oneCell' = true) : (PC p s).all (·.oneCell') = true := all_oneCell_toArray (fun v hv => by
  rcases List.mem_cons.1 hv with rfl | hv
  · rfl
  rcases List.mem_cons.1 hv with rfl | hv
  · rfl
  rcases List.mem_cons.1 hv with rfl | hv
  · rfl
  exact one_ncl' _ _ hs v hv)
/-- One is stored into a variable of its own. -/
theorem wpl_putP {ops : Array Oper} {rest : List Oper} {op : Oper} {a : Act} {w : World} {Q : Exit → Act → World → Prop} {k : Nat} (p : Pk) (s : Value) (m : Pk) (s0 : Value) (hs : s.oneCell' = true) (x y : Operand) (ho : op.op = .store 48 x y) (ht : Box w k (pcl m s0)) (hw : Region.wanted op (yielded ops a.tmps) = true) (hx : a.eval x = .pointer (some ⟨k, 0, none⟩)) (hy : a.eval y = .agg (PC p s))
    (h : ∀ w', Box w' k (pcl p s) → w.grownBy w' (some k) → wpList Tryd.prog ops Q rest (a.put op.dst undef) w') : wpList Tryd.prog ops Q (op :: rest) a w :=
  wpList_step fun K hK => by
    rw [if_pos hw]
    refine wp_store_mid 48 x y ho k 0 (PC p s) hx hy ht.th Tryd.size48 (one_pcl p s hs) (hK _ _ (h _ ?_ (setCells_grown k _ 0 w)))
    have hb := Box.put (w := w) (k := k) (o := 0) (A := []) (B := pcl m s0) (C := []) (B' := pcl p s) (by simpa using ht) rfl rfl
    rw [List.append_nil, List.nil_append] at hb
    exact hb
theorem wpl_putN {ops : Array Oper} {rest : List Oper} {op : Oper} {a : Act} {w : World} {Q : Exit → Act → World → Prop} {k o : Nat} (i : Nt) (s : Value) (A : List Value) (m : Nt) (s0 : Value) (hs : s.oneCell' = true) (x y : Operand) (ho : op.op = .store 46 x y) (ht : Box w k (A ++ ncl m s0)) (hA : A.length = o) (hw : Region.wanted op (yielded ops a.tmps) = true) (hx : a.eval x = .pointer (some ⟨k, o, none⟩)) (hy : a.eval y = .agg (NC i s))
    (h : ∀ w', Box w' k (A ++ ncl i s) → w.grownBy w' (some k) → wpList Tryd.prog ops Q rest (a.put op.dst undef) w') : wpList Tryd.prog ops Q (op :: rest) a w :=
  wpList_step fun K hK => by
    rw [if_pos hw]
    refine wp_store_mid 46 x y ho k o (NC i s) hx hy (fun j hj => ?_) Tryd.size46 (one_ncl i s hs) (hK _ _ (h _ ?_ (setCells_grown k _ o w)))
    · have hj' : j < 11 := hj
      have := ht.th (o + j) (by simp [ncl_length]; omega)
      rw [Nat.zero_add] at this
      exact this
    · have hb := Box.put (w := w) (k := k) (o := o) (A := A) (B := ncl m s0) (C := []) (B' := ncl i s) (by simpa using ht) rfl hA
      rw [List.append_nil] at hb
      exact hb
/-- The bytes of a list of numbers, as a string has them. -/
def bs (ns : List Int) : ByteArray := ⟨(ns.map fun n => UInt8.ofNat n.toNat).toArray⟩
theorem bs_toList (ns : List Int) : (bs ns).toList = ns.map fun n => UInt8.ofNat n.toNat := by rw [ByteArray.toList_eq]; simp [bs]
theorem u8_inj {x y : Int} (hx : 0 ≤ x ∧ x ≤ 255) (hy : 0 ≤ y ∧ y ≤ 255) (h : UInt8.ofNat x.toNat = UInt8.ofNat y.toNat) : x = y := by
  have h1 := congrArg UInt8.toNat h
  simp at h1
  omega
theorem map_inj : ∀ {a b : List Int}, Rng a → Rng b → (a.map fun n => UInt8.ofNat n.toNat) = (b.map fun n => UInt8.ofNat n.toNat) → a = b
  | [], [], _, _, _ => rfl
  | [], _ :: _, _, _, h => by simp at h
  | _ :: _, [], _, _, h => by simp at h
  | x :: a, y :: b, ha, hb, h => by
    simp only [List.map_cons, List.cons.injEq] at h
    have e := u8_inj (ha x (by simp)) (hb y (by simp)) h.1
    have e2 := map_inj (fun n hn => ha n (by simp [hn])) (fun n hn => hb n (by simp [hn])) h.2
    rw [e, e2]
theorem bs_beq {a b : List Int} (ha : Rng a) (hb : Rng b) : ((bs a).toList == (bs b).toList) = decide (a = b) := by
  rw [bs_toList, bs_toList, Bool.eq_iff_iff]
  simp only [beq_iff_eq, decide_eq_true_eq]
  exact ⟨map_inj ha hb, fun h => by rw [h]⟩
theorem bs_beq_self (a : List Int) : ((bs a).toList == (bs a).toList) = true := by simp
/-- A []byte as a string. -/
theorem bytStr {w : World} {ao : Option Addr} {n c : Nat} {ns : List Int} (h : Byt w ao n c ns) :
    (convert 24 9 (.slice ao n c)).run Tryd.prog w = .ok (.string (bs ns)) w := by
  rw [run_convert_bytes_string w 24 9 5 _ _ _ Tryd.underlying24 Tryd.underlying5 Tryd.underlying9]
  cases ao with
  | none =>
    obtain ⟨rfl, rfl⟩ := h.nil rfl
    obtain rfl : ns = [] := List.eq_nil_of_length_eq_zero h.len
    rfl
  | some ad =>
    have hl := run_loadCells_list (P := Tryd.prog) w ad (ns.map (Value.int .u8)) h.src
    rw [List.length_map, h.len] at hl
    rw [run_bytesToString w _ _ _ ns (by simpa using hl), foldl_push_bytes]
    simp [bs]
theorem Box.set {w : World} {k o : Nat} {v v' : Value} {A C : List Value} (h : Box w k (A ++ (v :: C))) (ho : A.length = o) : Box (w.setCell ⟨k, o, none⟩ v') k (A ++ (v' :: C)) :=
  Box.put (B := [v]) (B' := [v']) (C := C) h rfl ho
/-- The zero values, as the walk lays them. -/
theorem ZN : (#[.int .i64 0, .int .i64 0, .int .u8 0, .int .u8 0, .int .u8 0, .int .u8 0, .int .u8 0, .int .u8 0, .int .i64 0, .int .i64 0, .slice none 0 0] : Array Value) = NC zeroN (.slice none 0 0) := rfl
theorem ZP : (#[.int .i64 0, .int .i64 0, .int .i64 0, .int .i64 0, .int .i64 0, .int .u8 0, .int .u8 0, .int .u8 0, .int .u8 0, .int .u8 0, .int .u8 0, .int .i64 0, .int .i64 0, .slice none 0 0] : Array Value) = PC zeroP (.slice none 0 0) := rfl
/-- The table of kinds lies in the first block. -/
def tab : List Int := [0, 7, 3, 12, 12, 20, 12, 8, 29]
structure KT (w : World) : Prop where
  cell : ∀ j, j < 9 → w.cell? ⟨0, j, none⟩ = some (.int .i64 (tab.getD j 0))
theorem KT.lt {w : World} (h : KT w) : 0 < w.heap.size := World.block_lt_of_cell? w _ (h.cell 0 (by omega))
theorem KT.below {w w1 : World} {g : Nat} (h : KT w) (hg : 0 < g) (hb : Below g w w1) : KT w1 := ⟨fun j hj => (hb.cell (p := ⟨0, j, none⟩) hg).trans (h.cell j hj)⟩
theorem KT.on {w w1 : World} (h : KT w) (hb : Below w.heap.size w w1) : KT w1 := h.below h.lt hb
theorem KT.alloc {w : World} (h : KT w) (o : Obj) : KT (w.alloc o) := h.on (below_alloc w o)
theorem KT.drew {w : World} (h : KT w) : KT w.drew := ⟨h.cell⟩
theorem KT.drewN {w : World} (h : KT w) (n : Nat) : KT (w.drewN n) := ⟨h.cell⟩
theorem KT.kept {w w1 : World} {k : Nat} (h : KT w) (hne : k ≠ 0) (hg : w.grownBy w1 (some k)) : KT w1 := ⟨fun j hj => hg.cell (h.cell j hj) (fun e => hne (Option.some.inj e).symm)⟩
end Go.Proofs.YtgpdjfaklcmoiaaDoor.Ctl
/- Appends: an own slice of bytes that grows; how worlds grow. -/
namespace Go.Proofs.YtgpdjfaklcmoiaaDoor.Ctl
open Go.RowKit

theorem grown_trans {w w1 w2 : World} {row : Option Nat} (h : w.grownBy w1 row) (k : w1.grownBy w2 row) : w.grownBy w2 row :=
  ⟨k.os.trans h.os, k.tape.trans h.tape, k.output.trans h.output, Nat.le_trans h.size k.size, fun i hi hne => (k.block i (Nat.lt_of_lt_of_le hi h.size) hne).trans (h.block i hi hne)⟩
theorem grown_new {w w1 w2 : World} {row : Option Nat} {k : Nat} (h : w.grownBy w1 row) (g : w1.grownBy w2 (some k)) (hk : w.heap.size ≤ k) : w.grownBy w2 row :=
  ⟨g.os.trans h.os, g.tape.trans h.tape, g.output.trans h.output, Nat.le_trans h.size g.size, fun i hi hne => (g.block i (Nat.lt_of_lt_of_le hi h.size) (fun e => by have := Option.some.inj e; omega)).trans (h.block i hi hne)⟩
theorem grown_alloc {w w1 : World} {row : Option Nat} (h : w.grownBy w1 row) (o : Obj) : w.grownBy (w1.alloc o) row := grown_trans h (World.grownBy_alloc w1 o row)
theorem grown_drew {w w1 : World} {row : Option Nat} (h : w.grownBy w1 row) : w.grownBy w1.drew row := ⟨h.os, h.tape, h.output, h.size, h.block⟩
theorem grown_drewN {w w1 : World} {row : Option Nat} (h : w.grownBy w1 row) (n : Nat) : w.grownBy (w1.drewN n) row := ⟨h.os, h.tape, h.output, h.size, h.block⟩
theorem grown_below {w w1 w2 : World} {row : Option Nat} (h : w.grownBy w1 row) (k : Below w1.heap.size w1 w2) : w.grownBy w2 row :=
  ⟨k.os.trans h.os, k.tape.trans h.tape, k.output.trans h.output, Nat.le_trans h.size k.size, fun i hi hne => (k.block i (Nat.lt_of_lt_of_le hi h.size)).trans (h.block i hi hne)⟩
theorem below_of_grown {B : Nat} {w w1 : World} {r : Nat} (h : w.grownBy w1 (some r)) (hr : B ≤ r) (hB : B ≤ w.heap.size) : Below B w w1 := (Below.refl _ _).grown h hB (fun k hk => by have := Option.some.inj hk; omega)
theorem below_grown {B : Nat} {w w1 w2 : World} {k : Nat} (hb : Below B w w1) (hg : w1.grownBy w2 (some k)) (hk : B ≤ k) (hs : B ≤ w1.heap.size) : Below B w w2 :=
  hb.grown hg hs (fun r hr => by have := Option.some.inj hr; omega)
theorem own_byt {w : World} {base : Nat} {v : Value} {n : Nat} {ns : List Int} (h : w.ownsRow base 5 1 v n (ns.map (Value.int .u8))) (hr : Rng ns) : ∃ ao c, v = .slice ao n c ∧ Byt w ao n c ns := by
  have hl : ns.length = n := by have := h.1; simpa using this
  rcases h.2 with ⟨rfl, rfl⟩ | ⟨g, cap, cur, rfl, hb, hg, hn, hm, hs, ht⟩
  · exact ⟨none, 0, rfl, ⟨hl, fun _ => ⟨rfl, rfl⟩, fun j hj => by omega, Nat.le_refl _, Nat.zero_le _, hr⟩⟩
  · refine ⟨_, _, rfl, ⟨hl, fun e => (by cases e), fun j hj => ⟨g, 0, rfl, ?_⟩, hn, hm, hr⟩⟩
    have hc := h.cells (g := g) rfl j (.int .u8 (ns.getD j 0)) (by
      rw [List.getElem?_map, List.getElem?_eq_getElem (by omega), List.getD_eq_getElem?_getD, List.getElem?_eq_getElem (by omega)]; rfl)
    rw [Addr.add_lit] at hc
    exact hc
/-- A slice of bytes of the call's own. -/
def Row (w : World) (base : Nat) (v : Value) (n : Nat) (ns : List Int) : Prop := w.ownsRow base 5 1 v n (ns.map (Value.int .u8))
theorem Row.nil (w : World) (base : Nat) : Row w base (.slice none 0 0) 0 [] := World.ownsRow_nil _ _ _ _
theorem Row.byt {w : World} {base : Nat} {v : Value} {n : Nat} {ns : List Int} (h : Row w base v n ns) (hr : Rng ns) : ∃ ao c, v = .slice ao n c ∧ Byt w ao n c ns := own_byt h hr
theorem Row.alloc {w : World} {base : Nat} {v : Value} {n : Nat} {ns : List Int} (h : Row w base v n ns) (o : Obj) : Row (w.alloc o) base v n ns := World.ownsRow.alloc h o
theorem Row.on {w w1 : World} {base : Nat} {v : Value} {n : Nat} {ns : List Int} (h : Row w base v n ns) (hb : Below w.heap.size w w1) : Row w1 base v n ns :=
  World.ownsRow.kept (row := none) h ⟨hb.os, hb.tape, hb.output, hb.size, fun k hk _ => hb.block k hk⟩ (by cases hv : v.ownBlock <;> simp)
theorem wpl_app {ops : Array Oper} {rest : List Oper} {o : Oper} {a : Act} {w : World} {Q : Exit → Act → World → Prop} (hgd : o.guard = none) (s x : Operand)
    (ho : o.op = .call { callee := .builtin .append, args := #[s, x], argTypes := #[24, 24] })
    (base : Nat) (v : Value) (n : Nat) (xs : List Int) (hs : a.eval s = v) (hown : Row w base v n xs) (ao : Option Addr) (m c : Nat) (ns : List Int) (hx : a.eval x = .slice ao m c) (hB : Byt w ao m c ns)
    (h1 : n + m ≤ 100000) (hbase : base ≤ w.heap.size)
    (h : ∀ v' w', Row w' base v' (n + m) (xs ++ ns) → Below base w w' → wpList Tryd.prog ops Q rest (a.put o.dst v') w') : wpList Tryd.prog ops Q (o :: rest) a w := by
  obtain ⟨i0, hi, hz0, hz1, hz2⟩ := info_parts Tryd.info5
  cases ao with
  | none =>
    obtain ⟨rfl, rfl⟩ := hB.nil rfl
    obtain rfl : ns = [] := List.eq_nil_of_length_eq_zero hB.len
    refine wpList_append_own_none hgd s x 24 ho base 5 i0 1 Tryd.underlying24 hi v n (xs.map (Value.int .u8)) hs hown hx ?_
    refine h v w ?_ (Below.refl _ _)
    rw [List.append_nil]
    exact hown
  | some ad =>
    refine wpList_append_own _ hgd s x 24 ho base 5 i0 (.int .u8 0) 1 1 Tryd.underlying24 hi hz0 hz1 hz2 rfl (by decide) v n (xs.map (Value.int .u8)) hs hown ad m c (ns.map (Value.int .u8)) hx (by simp [hB.len]) hB.src (one_u8 ns) (by unfold maxLen; omega) (by omega) hbase ?_
    intro v' w' h2 h3 _
    refine h v' w' ?_ ((Below.refl _ _).grown h3 hbase (fun k hk => (hown.lt k hk).1))
    unfold Row
    rw [List.map_append]
    exact h2

/-- The program's slice of room for C. -/
structure Own (w : World) (G C k : Nat) (ns : List Int) : Prop where
  row : w.ownsRow G 5 1 (.slice (some ⟨G, 0, none⟩) k C) k (ns.map (Value.int .u8))
  lt : G < w.heap.size
theorem Own.alloc {w : World} {G C k : Nat} {ns : List Int} (h : Own w G C k ns) (o : Obj) : Own (w.alloc o) G C k ns := ⟨World.ownsRow.alloc h.row o, by simp; have := h.lt; omega⟩
theorem Own.on {w w1 : World} {G C k : Nat} {ns : List Int} (h : Own w G C k ns) (hb : Below w.heap.size w w1) : Own w1 G C k ns :=
  ⟨World.ownsRow.kept (row := none) h.row ⟨hb.os, hb.tape, hb.output, hb.size, fun k hk _ => hb.block k hk⟩ (by simp [Value.ownBlock]), Nat.lt_of_lt_of_le h.lt hb.size⟩
theorem wpl_fit {ops : Array Oper} {rest : List Oper} {o : Oper} {a : Act} {w : World} {Q : Exit → Act → World → Prop} (hgd : o.guard = none) (s x : Operand)
    (ho : o.op = .call { callee := .builtin .append, args := #[s, x], argTypes := #[24, 24] })
    (G C k K : Nat) (ns : List Int) (hs : a.eval s = .slice (some ⟨G, 0, none⟩) k C) (hown : Own w G C k ns) (ao : Option Addr) (m c : Nat) (ms : List Int) (hx : a.eval x = .slice ao m c) (hB : Byt w ao m c ms)
    (hK : k + m = K) (h1 : K ≤ C)
    (h : ∀ w', Own w' G C K (ns ++ ms) → w.grownBy w' (some G) → wpList Tryd.prog ops Q rest (a.put o.dst (.slice (some ⟨G, 0, none⟩) K C)) w') : wpList Tryd.prog ops Q (o :: rest) a w := by
  subst hK
  obtain ⟨i0, hi, hz0, hz1, hz2⟩ := info_parts Tryd.info5
  refine wpList_append_fits_any _ hgd s x 24 ho G 5 i0 1 Tryd.underlying24 hi hz1 G k C _ hs hown.row ao m c (ms.map (Value.int .u8)) hx (by simp [hB.len]) hB.nil hB.srcAny (one_u8 ms) h1 ?_
  intro w1 h2 h3
  refine h w1 ⟨?_, Nat.lt_of_lt_of_le hown.lt h3.size⟩ h3
  rw [List.map_append]
  exact h2
theorem u8_mod (n : Int) : IntKind.u8.wrap n = n % 256 := by rw [IntKind.wrap_u8]
theorem byt1 (w : World) (x : Int) (h : 0 ≤ x ∧ x ≤ 255) : Byt (w.alloc (.cells #[.int .u8 x] 5)) (some ⟨w.heap.size, 0, none⟩) 1 1 [x] :=
  byt_of_new w _ [x] 1 rfl rfl (by omega) (rng_cons h.1 h.2 rng_nil)
theorem Row.lit {w : World} {base : Nat} (cs : Array Value) (ns : List Int) (n : Nat) (hc : cs.toList = ns.map (Value.int .u8)) (hl : cs.size = n) (hn : n ≤ 1000) (hb : base ≤ w.heap.size) : Row (w.alloc (.cells cs 5)) base (.slice (some ⟨w.heap.size, 0, none⟩) n n) n ns := by
  unfold Row
  rw [← hc]
  exact World.ownsRow_lit w cs n hb (by unfold maxLen; omega) (by omega)
end Go.Proofs.YtgpdjfaklcmoiaaDoor.Ctl
/- Contracts of the small functions of both: within, known, fieldsOf, rightSeq, mostStateOf, what a kind has; equality of addresses; fits and blank. -/
namespace Go.Proofs.YtgpdjfaklcmoiaaDoor.Ctl
open Go.RowKit

theorem Tryd.info5s : (Tryd.prog.info? 5).isSome = true := by kernel_rfl
theorem Tryd.info5e : ∃ i, Tryd.prog.info? 5 = some i := Option.isSome_iff_exists.1 Tryd.info5s

set_option maxRecDepth 100000 in
theorem eqMac (a0 a1 a2 a3 a4 a5 b0 b1 b2 b3 b4 b5 : Int) (w : World) :
    (Op.equalIn 10000 23 (.agg #[.int .u8 a0, .int .u8 a1, .int .u8 a2, .int .u8 a3, .int .u8 a4, .int .u8 a5]) (.agg #[.int .u8 b0, .int .u8 b1, .int .u8 b2, .int .u8 b3, .int .u8 b4, .int .u8 b5])).run Tryd.prog w = .ok (eq6 a0 a1 a2 a3 a4 a5 b0 b1 b2 b3 b4 b5) w := by
  obtain ⟨i, hi⟩ := Tryd.info5e
  rw [show (10000 : Nat) = 9999 + 1 from rfl, run_equalIn_array w 9999 _ _ Tryd.underlying23 hi, Tryd.cells5]
  have p0 : ∀ (c0 c1 c2 c3 c4 c5 : Int) (w : World), (part 5 #[.int .u8 c0, .int .u8 c1, .int .u8 c2, .int .u8 c3, .int .u8 c4, .int .u8 c5] 0).run Tryd.prog w = .ok (.int .u8 c0) w := fun _ _ _ _ _ _ _ => by kernel_rfl
  have p1 : ∀ (c0 c1 c2 c3 c4 c5 : Int) (w : World), (part 5 #[.int .u8 c0, .int .u8 c1, .int .u8 c2, .int .u8 c3, .int .u8 c4, .int .u8 c5] 1).run Tryd.prog w = .ok (.int .u8 c1) w := fun _ _ _ _ _ _ _ => by kernel_rfl
  have p2 : ∀ (c0 c1 c2 c3 c4 c5 : Int) (w : World), (part 5 #[.int .u8 c0, .int .u8 c1, .int .u8 c2, .int .u8 c3, .int .u8 c4, .int .u8 c5] 2).run Tryd.prog w = .ok (.int .u8 c2) w := fun _ _ _ _ _ _ _ => by kernel_rfl
  have p3 : ∀ (c0 c1 c2 c3 c4 c5 : Int) (w : World), (part 5 #[.int .u8 c0, .int .u8 c1, .int .u8 c2, .int .u8 c3, .int .u8 c4, .int .u8 c5] 3).run Tryd.prog w = .ok (.int .u8 c3) w := fun _ _ _ _ _ _ _ => by kernel_rfl
  have p4 : ∀ (c0 c1 c2 c3 c4 c5 : Int) (w : World), (part 5 #[.int .u8 c0, .int .u8 c1, .int .u8 c2, .int .u8 c3, .int .u8 c4, .int .u8 c5] 4).run Tryd.prog w = .ok (.int .u8 c4) w := fun _ _ _ _ _ _ _ => by kernel_rfl
  have p5 : ∀ (c0 c1 c2 c3 c4 c5 : Int) (w : World), (part 5 #[.int .u8 c0, .int .u8 c1, .int .u8 c2, .int .u8 c3, .int .u8 c4, .int .u8 c5] 5).run Tryd.prog w = .ok (.int .u8 c5) w := fun _ _ _ _ _ _ _ => by kernel_rfl
  have pe : ∀ (x y : Int) (w : World), (Op.equalIn 9999 5 (.int .u8 x) (.int .u8 y)).run Tryd.prog w = .ok (x == y) w := fun x y w => run_equalIn_int w 9998 5 _ _ x y Tryd.underlying5
  simp [Op.eqItems, show List.range 6 = [0, 1, 2, 3, 4, 5] from rfl, p0, p1, p2, p3, p4, p5, pe, eq6]
  by_cases e0 : a0 = b0
  · by_cases e1 : a1 = b1
    · by_cases e2 : a2 = b2
      · by_cases e3 : a3 = b3
        · by_cases e4 : a4 = b4
          · by_cases e5 : a5 = b5 <;> simp [e0, e1, e2, e3, e4, e5]
          · simp [e0, e1, e2, e3, e4]
        · simp [e0, e1, e2, e3]
      · simp [e0, e1, e2]
    · simp [e0, e1]
  · simp [e0]

theorem eqM (x y : Nt) (w : World) : (Op.equalIn 10000 23 (.agg (MC x)) (.agg (MC y))).run Tryd.prog w = .ok (eq6 x.m0 x.m1 x.m2 x.m3 x.m4 x.m5 y.m0 y.m1 y.m2 y.m3 y.m4 y.m5) w := eqMac _ _ _ _ _ _ _ _ _ _ _ _ w
theorem ZM : (#[.int .u8 0, .int .u8 0, .int .u8 0, .int .u8 0, .int .u8 0, .int .u8 0] : Array Value) = MC zeroN := rfl
set_option maxRecDepth 100000 in
theorem within44 (n lo hi : Int) (w : World) : Calls Tryd.prog 63 #[.int .i64 n, .int .i64 lo, .int .i64 hi] w fun e w' => e = .returned (.bool (wi n lo hi)) ∧ w' = w := by
  go_enter Tryd.func63, Tryd.ntmps63
  go_wp2
  all_goals
    go_ret
    exact ⟨ret_bool (by rw [Bool.eq_iff_iff]; simp only [wi, Bool.and_eq_true, decide_eq_true_eq]; first | omega | (simp; omega)), rfl⟩
set_option maxRecDepth 100000 in
theorem known35 (k : Int) (w : World) : Calls Tryd.prog 46 #[.int .i64 k] w fun e w' => e = .returned (.bool (wi k 0 8)) ∧ w' = w := by
  go_enter Tryd.func46, Tryd.ntmps46
  go_wp2_with (go_at_call 63; refine (within44 _ _ _ _).mono ?_; rintro e w' ⟨rfl, rfl⟩)
  go_ret
  exact ⟨rfl, rfl⟩
set_option maxRecDepth 100000 in
theorem seq43 (n : Int) (w : World) : Calls Tryd.prog 45 #[.int .i64 n] w fun e w' => e = .returned (.bool (sq n)) ∧ w' = w := by
  go_enter Tryd.func45, Tryd.ntmps45
  go_wp2_with (go_at_call 63; refine (within44 _ _ _ _).mono ?_; rintro e w' ⟨rfl, rfl⟩)
  go_ret
  exact ⟨rfl, rfl⟩
set_option maxRecDepth 100000 in
theorem most46 (k : Int) (w : World) : Calls Tryd.prog 76 #[.int .i64 k] w fun e w' => e = .returned (.int .i64 (ms k)) ∧ w' = w := by
  by_cases h6 : k = 6
  · subst h6
    go_enter Tryd.func76, Tryd.ntmps76
    go_wp2
    go_ret
    exact ⟨rfl, rfl⟩
  by_cases h8 : k = 8
  · subst h8
    go_enter Tryd.func76, Tryd.ntmps76
    go_wp2
    go_ret
    exact ⟨rfl, rfl⟩
  have e : ms k = 1 := by simp [ms, h6, h8]
  have b6 : (k == 6) = false := by simp [h6]
  have b8 : (k == 8) = false := by simp [h8]
  rw [e]
  clear e h6 h8
  go_enter Tryd.func76, Tryd.ntmps76
  go_wp2
  go_ret
  exact ⟨rfl, rfl⟩
theorem fo_tab (j : Nat) (h : j < 9) : fo (j : Int) = tab.getD j 0 := by
  rcases (show j = 0 ∨ j = 1 ∨ j = 2 ∨ j = 3 ∨ j = 4 ∨ j = 5 ∨ j = 6 ∨ j = 7 ∨ j = 8 by omega) with rfl | rfl | rfl | rfl | rfl | rfl | rfl | rfl | rfl <;> rfl
set_option maxRecDepth 100000 in
theorem fields25 (k : Int) (w : World) (hT : KT w) : Calls Tryd.prog 28 #[.int .i64 k] w fun e w' => e = .returned (.int .i64 (fo k)) ∧ w' = w := by
  cases hk : wi k 0 8
  · have e : fo k = 0 := by
      have hn : ¬ (0 ≤ k ∧ k ≤ 8) := fun h => by rw [(wi_iff k 0 8).2 h] at hk; cases hk
      unfold fo
      rw [if_neg (by omega), if_neg (by omega), if_neg (by omega), if_neg (by omega), if_neg (by omega), if_neg (by omega), if_neg (by omega), if_neg (by omega)]
    rw [e]
    clear e
    go_enter Tryd.func28, Tryd.ntmps28
    go_wp2_with (go_at_call 46; refine (known35 _ _).mono ?_; rw [hk]; rintro e w' ⟨rfl, rfl⟩)
    go_ret
    exact ⟨rfl, rfl⟩
  · have hb := (wi_iff k 0 8).1 hk
    obtain ⟨j, rfl⟩ := Int.eq_ofNat_of_zero_le hb.1
    have hj : j < 9 := by omega
    have hc := hT.cell j hj
    have l1 : (j : Int) < 9 := by omega
    rw [fo_tab j hj]
    generalize tab.getD j 0 = x at *
    clear hT hb
    go_enter Tryd.func28, Tryd.ntmps28
    go_wp2_with (go_at_call 46; refine (known35 _ _).mono ?_; rw [hk]; rintro e w' ⟨rfl, rfl⟩)
    go_ret
    exact ⟨rfl, rfl⟩
end Go.Proofs.YtgpdjfaklcmoiaaDoor.Ctl
/- Contracts of fits and blank: one field of a note. -/
namespace Go.Proofs.YtgpdjfaklcmoiaaDoor.Ctl
open Go.RowKit
theorem drewN_below {B : Nat} {a w : World} (h : Below B a w) (n : Nat) : Below B a (w.drewN n) := ⟨h.os, h.tape, h.output, h.size, h.block⟩
section
attribute [local go_sem] NC0 NC1 NC8 NC9 NC10 ZM
set_option maxRecDepth 100000 in
set_option maxHeartbeats 1000000 in
theorem fits37 (n : Nt) (a : Option Addr) (m c : Nat) (hl : n.b.length = m) (j : Nat) (hj : j = 1 ∨ j = 2 ∨ j = 4 ∨ j = 8 ∨ j = 16) (w : World) :
    Calls Tryd.prog 61 #[.agg (NC n (.slice a m c)), .int .i64 j] w fun e w' => e = .returned (.bool (ft n j)) ∧ Below w.heap.size w w' := by
  have B0 := below_alloc w (.cells (NC n (.slice a m c)) 46)
  rcases hj with rfl | rfl | rfl | rfl | rfl
  · have e : ft n 1 = wi n.v 1 4094 := rfl
    rw [e]
    go_enter Tryd.func61, Tryd.ntmps61
    go_wp2_with (go_at_call 63; refine (within44 _ _ _ _).mono ?_; rintro e w' ⟨rfl, rfl⟩)
    go_ret
    first | exact ⟨rfl, B0⟩ | exact ⟨rfl, drewN_below B0 _⟩
  · have e : ft n 2 = true := rfl
    rw [e]
    go_enter Tryd.func61, Tryd.ntmps61
    go_wp2
    go_ret
    first | exact ⟨rfl, B0⟩ | exact ⟨rfl, drewN_below B0 _⟩
  · have e : ft n 4 = wi n.p 0 1000 := rfl
    rw [e]
    go_enter Tryd.func61, Tryd.ntmps61
    go_wp2_with (go_at_call 63; refine (within44 _ _ _ _).mono ?_; rintro e w' ⟨rfl, rfl⟩)
    go_ret
    first | exact ⟨rfl, B0⟩ | exact ⟨rfl, drewN_below B0 _⟩
  · have e : ft n 8 = wi n.s 0 (ms n.k) := rfl
    rw [e]
    go_enter Tryd.func61, Tryd.ntmps61
    go_wp2_with fail
    go_quiet ((first | (go_at_call 76; exact Calls.quiet_of_same (most46 _ _)) | (go_at_call 63; exact Calls.quiet_of_same (within44 _ _ _ _))))
    go_wp2
    go_ret
    first | exact ⟨rfl, B0⟩ | exact ⟨rfl, drewN_below B0 _⟩
  · have e : ft n 16 = decide ((m : Int) ≤ 1600) := by rw [← hl]; rfl
    rw [e]
    go_enter Tryd.func61, Tryd.ntmps61
    go_wp2
    all_goals
      go_ret
      exact ⟨ret_bool (by simp [*]), B0⟩
set_option maxRecDepth 100000 in
set_option maxHeartbeats 1000000 in
theorem blank38 (n : Nt) (a : Option Addr) (m c : Nat) (hl : n.b.length = m) (j : Nat) (hj : j = 1 ∨ j = 2 ∨ j = 4 ∨ j = 8 ∨ j = 16) (w : World) :
    Calls Tryd.prog 62 #[.agg (NC n (.slice a m c)), .int .i64 j] w fun e w' => e = .returned (.bool (bl n j)) ∧ Below w.heap.size w w' := by
  have B0 := below_alloc w (.cells (NC n (.slice a m c)) 46)
  have A0 : Box (w.alloc (.cells (NC n (.slice a m c)) 46)) w.heap.size (ncl n (.slice a m c)) := Box.new w (ncl n (.slice a m c)) 46
  rcases hj with rfl | rfl | rfl | rfl | rfl
  · have e : bl n 1 = (n.v == 0) := rfl
    rw [e]
    go_enter Tryd.func62, Tryd.ntmps62
    go_wp2
    go_ret
    first | exact ⟨rfl, B0⟩ | exact ⟨rfl, drewN_below B0 _⟩
  · have e : bl n 2 = eq6 n.m0 n.m1 n.m2 n.m3 n.m4 n.m5 0 0 0 0 0 0 := rfl
    have he := eqM n zeroN
    have tk1 : True := trivial
    rw [e]
    go_enter Tryd.func62, Tryd.ntmps62
    go_wp2_with (have _t := tk1; refine wpl_mac (.tmp 13) rfl A0.mac ?_ ?_ ?_; rfl; rfl; clear tk1)
    go_ret
    first | exact ⟨rfl, B0⟩ | exact ⟨rfl, drewN_below B0 _⟩
  · have e : bl n 4 = (n.p == 0) := rfl
    rw [e]
    go_enter Tryd.func62, Tryd.ntmps62
    go_wp2
    go_ret
    first | exact ⟨rfl, B0⟩ | exact ⟨rfl, drewN_below B0 _⟩
  · have e : bl n 8 = (n.s == 0) := rfl
    rw [e]
    go_enter Tryd.func62, Tryd.ntmps62
    go_wp2
    go_ret
    first | exact ⟨rfl, B0⟩ | exact ⟨rfl, drewN_below B0 _⟩
  · have e : bl n 16 = ((m : Int) == 0) := by rw [← hl]; rfl
    rw [e]
    go_enter Tryd.func62, Tryd.ntmps62
    go_wp2
    go_ret
    first | exact ⟨rfl, B0⟩ | exact ⟨rfl, drewN_below B0 _⟩
end
end Go.Proofs.YtgpdjfaklcmoiaaDoor.Ctl
/- What a step of the walk through fields does, whichever function it is; contract of each with any step. -/
namespace Go.Proofs.YtgpdjfaklcmoiaaDoor.Ctl
open Go.RowKit

def J5 (j : Nat) : Prop := j = 1 ∨ j = 2 ∨ j = 4 ∨ j = 8 ∨ j = 16
/-- A function that is a step. -/
structure StepC {σ : Type} (f : Nat) (cap : Array Value) (F : Int) (Inv : Nat → σ → World → Prop) (st : Nat → σ → σ) : Prop where
  run : ∀ (j : Nat) (s : σ) (w : World), J5 j → hs F j = true → Inv j s w → Calls Tryd.prog f (#[.int .i64 j] ++ cap) w fun e w' => e = .returned (.tuple #[]) ∧ Inv (2 * j) (st j s) w'
  skip : ∀ (j : Nat) (s : σ) (w : World), J5 j → hs F j = false → Inv j s w → Inv (2 * j) s w
  ent : ∀ (args : Array Value) (w : World), (callFunc f args).run Tryd.prog w = .ok (.enter f args) w
def ev {σ : Type} (F : Int) (st : Nat → σ → σ) (j : Nat) (s : σ) : σ := if hs F j then st j s else s
theorem ev_yes {σ : Type} {F : Int} {st : Nat → σ → σ} {j : Nat} {s : σ} (h : hs F j = true) : ev F st j s = st j s := by simp [ev, h]
theorem ev_no {σ : Type} {F : Int} {st : Nat → σ → σ} {j : Nat} {s : σ} (h : hs F j = false) : ev F st j s = s := by simp [ev, h]
def evs {σ : Type} (F : Int) (st : Nat → σ → σ) (s : σ) : σ := ev F st 16 (ev F st 8 (ev F st 4 (ev F st 2 (ev F st 1 s))))
theorem hs_ne {F : Int} {j : Nat} {b : Bool} (h : hs F j = b) : (bits .and .i64 F (j : Int) != 0) = b := h
set_option maxRecDepth 100000 in
set_option maxHeartbeats 4000000 in
theorem each24 {σ : Type} {f : Nat} {x y : Value} {F : Int} {Inv : Nat → σ → World → Prop} {st : Nat → σ → σ} (hS : StepC f #[x, y] F Inv st) (s : σ) (w : World) (hI : Inv 1 s w) :
    Calls Tryd.prog 27 #[.int .i64 F, .func (.func f) #[] #[x, y]] w fun e w' => e = .returned (.tuple #[]) ∧ Inv 32 (evs F st s) w' := by
  have he := hS.ent
  go_enter Tryd.func27, Tryd.ntmps27
  go_wp2
  go_loopw [4] (fun v wr => (v = .int .i64 1 ∧ Inv 1 (s) wr) ∨ (v = .int .i64 2 ∧ Inv 2 (ev F st 1 s) wr) ∨ (v = .int .i64 4 ∧ Inv 4 (ev F st 2 (ev F st 1 s)) wr) ∨ (v = .int .i64 8 ∧ Inv 8 (ev F st 4 (ev F st 2 (ev F st 1 s))) wr) ∨ (v = .int .i64 16 ∧ Inv 16 (ev F st 8 (ev F st 4 (ev F st 2 (ev F st 1 s)))) wr) ∨ (v = .int .i64 32 ∧ Inv 32 (evs F st s) wr)) (fun v _ => 32 - (intOf v).toNat)
  case atStart => exact Or.inl ⟨rfl, hI⟩
  case round =>
    clear hI
    rcases hrel with ⟨rfl, hI⟩ | ⟨rfl, hI⟩ | ⟨rfl, hI⟩ | ⟨rfl, hI⟩ | ⟨rfl, hI⟩ | ⟨rfl, hI⟩
    · rcases Bool.eq_false_or_eq_true (hs F 1) with hf | hf
      · have hx : (bits .and .i64 F 1 != 0) = true := hs_ne hf
        have hc : Hid (Calls Tryd.prog f #[.int .i64 1, x, y] wr fun e w' => e = .returned (.tuple #[]) ∧ Inv 2 (st 1 (s)) w') := hide (hS.run 1 _ wr (by simp [J5]) hf hI)
        have ht : ev F st 1 s = st 1 (s) := ev_yes hf
        clear hI
        go_wp2_with fail
        refine hc.out.mono ?_
        rintro e w1 ⟨rfl, hI⟩
        rw [← ht] at hI
        clear hc
        go_wp2
        go_roundw
        case rel => exact Or.inr (Or.inl ⟨rfl, hI⟩)
        case measure => simp [intOf]
      · have hx : (bits .and .i64 F 1 != 0) = false := hs_ne hf
        have hI2 : Inv 2 (s) wr := hS.skip 1 _ wr (by simp [J5]) hf hI
        have ht : ev F st 1 s = s := ev_no hf
        rw [← ht] at hI2
        clear hI
        go_wp2
        go_roundw
        case rel => exact Or.inr (Or.inl ⟨rfl, hI2⟩)
        case measure => simp [intOf]
    · rcases Bool.eq_false_or_eq_true (hs F 2) with hf | hf
      · have hx : (bits .and .i64 F 2 != 0) = true := hs_ne hf
        have hc : Hid (Calls Tryd.prog f #[.int .i64 2, x, y] wr fun e w' => e = .returned (.tuple #[]) ∧ Inv 4 (st 2 (ev F st 1 s)) w') := hide (hS.run 2 _ wr (by simp [J5]) hf hI)
        have ht : ev F st 2 (ev F st 1 s) = st 2 (ev F st 1 s) := ev_yes hf
        clear hI
        go_wp2_with fail
        refine hc.out.mono ?_
        rintro e w1 ⟨rfl, hI⟩
        rw [← ht] at hI
        clear hc
        go_wp2
        go_roundw
        case rel => exact Or.inr (Or.inr (Or.inl ⟨rfl, hI⟩))
        case measure => simp [intOf]
      · have hx : (bits .and .i64 F 2 != 0) = false := hs_ne hf
        have hI2 : Inv 4 (ev F st 1 s) wr := hS.skip 2 _ wr (by simp [J5]) hf hI
        have ht : ev F st 2 (ev F st 1 s) = ev F st 1 s := ev_no hf
        rw [← ht] at hI2
        clear hI
        go_wp2
        go_roundw
        case rel => exact Or.inr (Or.inr (Or.inl ⟨rfl, hI2⟩))
        case measure => simp [intOf]
    · rcases Bool.eq_false_or_eq_true (hs F 4) with hf | hf
      · have hx : (bits .and .i64 F 4 != 0) = true := hs_ne hf
        have hc : Hid (Calls Tryd.prog f #[.int .i64 4, x, y] wr fun e w' => e = .returned (.tuple #[]) ∧ Inv 8 (st 4 (ev F st 2 (ev F st 1 s))) w') := hide (hS.run 4 _ wr (by simp [J5]) hf hI)
        have ht : ev F st 4 (ev F st 2 (ev F st 1 s)) = st 4 (ev F st 2 (ev F st 1 s)) := ev_yes hf
        clear hI
        go_wp2_with fail
        refine hc.out.mono ?_
        rintro e w1 ⟨rfl, hI⟩
        rw [← ht] at hI
        clear hc
        go_wp2
        go_roundw
        case rel => exact Or.inr (Or.inr (Or.inr (Or.inl ⟨rfl, hI⟩)))
        case measure => simp [intOf]
      · have hx : (bits .and .i64 F 4 != 0) = false := hs_ne hf
        have hI2 : Inv 8 (ev F st 2 (ev F st 1 s)) wr := hS.skip 4 _ wr (by simp [J5]) hf hI
        have ht : ev F st 4 (ev F st 2 (ev F st 1 s)) = ev F st 2 (ev F st 1 s) := ev_no hf
        rw [← ht] at hI2
        clear hI
        go_wp2
        go_roundw
        case rel => exact Or.inr (Or.inr (Or.inr (Or.inl ⟨rfl, hI2⟩)))
        case measure => simp [intOf]
    · rcases Bool.eq_false_or_eq_true (hs F 8) with hf | hf
      · have hx : (bits .and .i64 F 8 != 0) = true := hs_ne hf
        have hc : Hid (Calls Tryd.prog f #[.int .i64 8, x, y] wr fun e w' => e = .returned (.tuple #[]) ∧ Inv 16 (st 8 (ev F st 4 (ev F st 2 (ev F st 1 s)))) w') := hide (hS.run 8 _ wr (by simp [J5]) hf hI)
        have ht : ev F st 8 (ev F st 4 (ev F st 2 (ev F st 1 s))) = st 8 (ev F st 4 (ev F st 2 (ev F st 1 s))) := ev_yes hf
        clear hI
        go_wp2_with fail
        refine hc.out.mono ?_
        rintro e w1 ⟨rfl, hI⟩
        rw [← ht] at hI
        clear hc
        go_wp2
        go_roundw
        case rel => exact Or.inr (Or.inr (Or.inr (Or.inr (Or.inl ⟨rfl, hI⟩))))
        case measure => simp [intOf]
      · have hx : (bits .and .i64 F 8 != 0) = false := hs_ne hf
        have hI2 : Inv 16 (ev F st 4 (ev F st 2 (ev F st 1 s))) wr := hS.skip 8 _ wr (by simp [J5]) hf hI
        have ht : ev F st 8 (ev F st 4 (ev F st 2 (ev F st 1 s))) = ev F st 4 (ev F st 2 (ev F st 1 s)) := ev_no hf
        rw [← ht] at hI2
        clear hI
        go_wp2
        go_roundw
        case rel => exact Or.inr (Or.inr (Or.inr (Or.inr (Or.inl ⟨rfl, hI2⟩))))
        case measure => simp [intOf]
    · rcases Bool.eq_false_or_eq_true (hs F 16) with hf | hf
      · have hx : (bits .and .i64 F 16 != 0) = true := hs_ne hf
        have hc : Hid (Calls Tryd.prog f #[.int .i64 16, x, y] wr fun e w' => e = .returned (.tuple #[]) ∧ Inv 32 (st 16 (ev F st 8 (ev F st 4 (ev F st 2 (ev F st 1 s))))) w') := hide (hS.run 16 _ wr (by simp [J5]) hf hI)
        have ht : evs F st s = st 16 (ev F st 8 (ev F st 4 (ev F st 2 (ev F st 1 s)))) := ev_yes hf
        clear hI
        go_wp2_with fail
        refine hc.out.mono ?_
        rintro e w1 ⟨rfl, hI⟩
        rw [← ht] at hI
        clear hc
        go_wp2
        go_roundw
        case rel => exact Or.inr (Or.inr (Or.inr (Or.inr (Or.inr (⟨rfl, hI⟩)))))
        case measure => simp [intOf]
      · have hx : (bits .and .i64 F 16 != 0) = false := hs_ne hf
        have hI2 : Inv 32 (ev F st 8 (ev F st 4 (ev F st 2 (ev F st 1 s)))) wr := hS.skip 16 _ wr (by simp [J5]) hf hI
        have ht : evs F st s = ev F st 8 (ev F st 4 (ev F st 2 (ev F st 1 s))) := ev_no hf
        rw [← ht] at hI2
        clear hI
        go_wp2
        go_roundw
        case rel => exact Or.inr (Or.inr (Or.inr (Or.inr (Or.inr (⟨rfl, hI2⟩)))))
        case measure => simp [intOf]
    · go_wp2
      go_end0
      exact ⟨rfl, hI⟩
end Go.Proofs.YtgpdjfaklcmoiaaDoor.Ctl
/- The step that asks; contracts of the program's Right and rightPacket. -/
namespace Go.Proofs.YtgpdjfaklcmoiaaDoor.Ctl
open Go.RowKit
structure RtI (n : Nt) (s : Value) (w0 : World) (N : Nat) (b : Bool) (w : World) : Prop where
  nt : Box w N (ncl n s)
  vr : Box w (N + 1) [.bool b]
  bl : Below N w0 w
  kt : KT w
theorem RtI.on {n : Nt} {s : Value} {w0 : World} {N : Nat} {b : Bool} {w w1 : World} (h : RtI n s w0 N b w) (hb : Below w.heap.size w w1) : RtI n s w0 N b w1 :=
  ⟨h.nt.on hb, h.vr.on hb, h.bl.trans (hb.mono (Nat.le_of_lt h.nt.lt)), h.kt.on hb⟩
theorem RtI.put {n : Nt} {s : Value} {w0 : World} {N : Nat} {b : Bool} {w : World} (h : RtI n s w0 N b w) (b' : Bool) : RtI n s w0 N b' (w.setCell ⟨N + 1, 0, none⟩ (.bool b')) := by
  have g := setCell_grown w (N + 1) 0 (.bool b')
  exact ⟨h.nt.kept (by omega) g, Box.set (A := []) (C := []) h.vr rfl, below_grown h.bl g (by omega) (Nat.le_of_lt h.nt.lt), h.kt.kept (by omega) g⟩
section
attribute [local go_sem] NC0
set_option maxRecDepth 100000 in
set_option maxHeartbeats 2000000 in
theorem right36 (n : Nt) (a : Option Addr) (m c : Nat) (hl : n.b.length = m) (w0 : World) (N : Nat) (j : Nat) (hj : J5 j) (b : Bool) (w : World) (h : RtI n (.slice a m c) w0 N b w) :
    Calls Tryd.prog 60 #[.int .i64 j, .pointer (some ⟨N, 0, none⟩), .pointer (some ⟨N + 1, 0, none⟩)] w fun e w' => e = .returned (.tuple #[]) ∧ RtI n (.slice a m c) w0 N (b && ff n j) w' := by
  have c0 := h.nt.cell 0 _ rfl
  have v0 := h.vr.cell 0 _ rfl
  have z0 := h.vr.free 0 (by simp)
  have NA := h.nt.at_
  have K := h.kt
  have H := hide h
  rcases Bool.eq_false_or_eq_true (hs (fo n.k) j) with hf | hf
  · have hx : (bits .and .i64 (fo n.k) (j : Int) != 0) = true := hs_ne hf
    have e : ff n j = ft n j := by simp [ff, hf]
    rw [e]
    have C := hide (fun w => fits37 n a m c hl j hj w)
    clear e hf hj h
    cases b
    · go_enter Tryd.func60, Tryd.ntmps60
      go_wp2_with (go_at_call 28; refine (fields25 _ _ K).mono ?_; rintro e w' ⟨rfl, rfl⟩)
      go_end0
      exact ⟨rfl, H.out.put false⟩
    · go_enter Tryd.func60, Tryd.ntmps60
      go_wp2_with (first | (go_at_call 28; refine (fields25 _ _ K).mono ?_; rintro e w' ⟨rfl, rfl⟩) | (refine wpl_note (.tmp 1) rfl NA ?_ ?_ ?_; rfl; rfl))
      refine (C.out _).mono ?_
      rintro e w1 ⟨rfl, hb⟩
      replace H := hide (H.out.on hb)
      have v1 := H.out.vr.cell 0 _ rfl
      have z1 := H.out.vr.free 0 (by simp)
      clear hb c0 v0 z0 NA K C
      go_wp2
      go_end0
      exact ⟨rfl, H.out.put _⟩
  · have hx : (bits .and .i64 (fo n.k) (j : Int) != 0) = false := hs_ne hf
    have e : ff n j = bl n j := by simp [ff, hf]
    rw [e]
    have C := hide (fun w => blank38 n a m c hl j hj w)
    clear e hf hj h
    cases b
    · go_enter Tryd.func60, Tryd.ntmps60
      go_wp2_with (go_at_call 28; refine (fields25 _ _ K).mono ?_; rintro e w' ⟨rfl, rfl⟩)
      go_end0
      exact ⟨rfl, H.out.put false⟩
    · go_enter Tryd.func60, Tryd.ntmps60
      go_wp2_with (first | (go_at_call 28; refine (fields25 _ _ K).mono ?_; rintro e w' ⟨rfl, rfl⟩) | (refine wpl_note (.tmp 1) rfl NA ?_ ?_ ?_; rfl; rfl))
      refine (C.out _).mono ?_
      rintro e w1 ⟨rfl, hb⟩
      replace H := hide (H.out.on hb)
      have v1 := H.out.vr.cell 0 _ rfl
      have z1 := H.out.vr.free 0 (by simp)
      clear hb c0 v0 z0 NA K C
      go_wp2
      go_end0
      exact ⟨rfl, H.out.put _⟩
theorem ent36 (args : Array Value) (w : World) : (callFunc 60 args).run Tryd.prog w = .ok (.enter 60 args) w := by
  kernel_rfl
theorem stepRt (n : Nt) (a : Option Addr) (m c : Nat) (hl : n.b.length = m) (w0 : World) (N : Nat) : StepC 60 #[.pointer (some ⟨N, 0, none⟩), .pointer (some ⟨N + 1, 0, none⟩)] 31 (fun _ b w => RtI n (.slice a m c) w0 N b w) (fun j b => b && ff n j) where
  run := fun j s w hj _ h => right36 n a m c hl w0 N j hj s w h
  skip := fun j _ _ hj hf _ => by rw [hs31 j hj] at hf; cases hf
  ent := ent36
theorem evs31 (n : Nt) : evs 31 (fun j b => b && ff n j) true = (ff n 1 && (ff n 2 && (ff n 4 && (ff n 8 && ff n 16)))) := by
  simp only [evs]
  rw [ev_yes (hs31 1 (by simp)), ev_yes (hs31 2 (by simp)), ev_yes (hs31 4 (by simp)), ev_yes (hs31 8 (by simp)), ev_yes (hs31 16 (by simp))]
  simp only [Bool.true_and, Bool.and_assoc]
set_option maxRecDepth 100000 in
set_option maxHeartbeats 2000000 in
theorem right13 (n : Nt) (a : Option Addr) (m c : Nat) (hl : n.b.length = m) (w : World) (hT : KT w) :
    Calls Tryd.prog 44 #[.agg (NC n (.slice a m c))] w fun e w' => e = .returned (.bool (rt n)) ∧ Below w.heap.size w w' := by
  have B0 := below_alloc w (.cells (NC n (.slice a m c)) 46)
  cases hk : wi n.k 0 8
  · have e : rt n = false := by simp [rt, hk]
    rw [e]
    clear e
    go_enter Tryd.func44, Tryd.ntmps44
    go_wp2_with (go_at_call 46; refine (known35 _ _).mono ?_; rw [hk]; rintro e w' ⟨rfl, rfl⟩)
    go_ret
    exact ⟨rfl, B0⟩
  · have e : rt n = evs 31 (fun j b => b && ff n j) true := by rw [evs31, rt, hk, Bool.true_and]
    rw [e]
    have A0 : Box (w.alloc (.cells (NC n (.slice a m c)) 46)) w.heap.size (ncl n (.slice a m c)) := Box.new w (ncl n (.slice a m c)) 46
    have V0 : Box ((w.alloc (.cells (NC n (.slice a m c)) 46)).alloc (.cells #[.bool true] 4)) (w.heap.size + 1) [.bool true] := by
      have := Box.new (w.alloc (.cells (NC n (.slice a m c)) 46)) [.bool true] 4
      rwa [World.size_alloc] at this
    have I0 : Hid (RtI n (.slice a m c) w w.heap.size true ((w.alloc (.cells (NC n (.slice a m c)) 46)).alloc (.cells #[.bool true] 4))) :=
      hide ⟨A0.alloc _, V0, B0.trans ((below_alloc _ _).mono (by simp)), (hT.alloc _).alloc _⟩
    have C := hide (stepRt n a m c hl w w.heap.size)
    clear e A0 V0
    go_enter Tryd.func44, Tryd.ntmps44
    go_wp2_with (go_at_call 46; refine (known35 _ _).mono ?_; rw [hk]; rintro e w' ⟨rfl, rfl⟩)
    refine (each24 C.out true _ I0.out).mono ?_
    rintro e w1 ⟨rfl, I1⟩
    have v1 := I1.vr.cell 0 _ rfl
    have b1 := I1.bl
    clear I1 I0 C
    go_wp2
    go_ret
    exact ⟨rfl, b1⟩
end
section
attribute [local go_sem] PC0 PC1 PC2
set_option maxRecDepth 100000 in
set_option maxHeartbeats 2000000 in
theorem right22 (p : Pk) (a : Option Addr) (m c : Nat) (hl : p.n.b.length = m) (w : World) (hT : KT w) :
    Calls Tryd.prog 25 #[.agg (PC p (.slice a m c))] w fun e w' => e = .returned (.bool (rtp p)) ∧ Below w.heap.size w w' := by
  have A0 : Box (w.alloc (.cells (PC p (.slice a m c)) 48)) w.heap.size (pcl p (.slice a m c)) := Box.new w (pcl p (.slice a m c)) 48
  have B0 := below_alloc w (.cells (PC p (.slice a m c)) 48)
  have N0 := A0.note
  have K0 := hT.alloc (.cells (PC p (.slice a m c)) 48)
  go_enter Tryd.func25, Tryd.ntmps25
  have tk1 : True := trivial
  go_wp2_with (have _t := tk1; refine wpl_note (.tmp 3) rfl N0 ?_ ?_ ?_; rfl; rfl; clear tk1)
  refine (right13 p.n a m c hl _ K0).mono ?_
  rintro e w1 ⟨rfl, hb⟩
  replace A0 := A0.on hb
  have c0 := A0.cell 0 _ rfl
  have c1 := A0.cell 1 _ rfl
  have c2 := A0.cell 2 _ rfl
  replace B0 := belowOn B0 hb
  clear hb K0 N0 A0 hT
  go_wp2_with (go_at_call 45; refine (seq43 _ _).mono ?_; rintro e w' ⟨rfl, rfl⟩)
  all_goals
    go_ret
    exact ⟨ret_bool (by unfold rtp; simp [*]), B0⟩
end
end Go.Proofs.YtgpdjfaklcmoiaaDoor.Ctl
/- Contract of appendNumber: a number's bytes, put to a slice that has room. -/
namespace Go.Proofs.YtgpdjfaklcmoiaaDoor.Ctl
open Go.RowKit

set_option maxRecDepth 100000 in
set_option maxHeartbeats 4000000 in
theorem put23_1 (n : Int) (f : fit 1 n = true) (G C K : Nat) (ns : List Int) (w : World) (hO : Own w G C K ns) (hC : K + 1 ≤ C) :
    Calls Tryd.prog 26 #[.slice (some ⟨G, 0, none⟩) K C, .int .i64 n, .int .i64 1] w fun e w' => e = .returned (.slice (some ⟨G, 0, none⟩) (K + 1) C) ∧ Own w' G C (K + 1) (ns ++ be 1 n) ∧ w.grownBy w' (some G) := by
  obtain ⟨h0, h1⟩ := fit_and f
  have h2 : n < 256 := by simpa using h1
  clear f h1
  have hw : IntKind.i64.wrap n = n := IntWalk.i64_in _ (by omega)
  go_enter Tryd.func26, Tryd.ntmps26
  go_wp2
  go_loopw [0, 9] (fun v i wr => ∃ k : Nat, k ≤ 1 ∧ i = .int .i64 k ∧ v = .slice (some ⟨G, 0, none⟩) (K + k) C ∧ Own wr G C (K + k) (ns ++ (be 1 n).take k) ∧ w.grownBy wr (some G)) (fun _ i _ => 1 - (intOf i).toNat)
  case atStart => exact ⟨0, by omega, rfl, rfl, by rw [List.take_zero, List.append_nil]; exact hO, World.grownBy.refl _ _⟩
  case round =>
    clear hO
    obtain ⟨k, hk, rfl, rfl, hR, hG⟩ := hrel
    rcases (show k = 0 ∨ k = 1 by omega) with e | e <;> subst e
    · have hN : Hid (ns ++ (be 1 n).take 1 = (ns ++ (be 1 n).take 0) ++ [n % 256]) := by
        have ey : n % 256 = n % 256 := by omega
        rw [List.append_assoc, ← ey]
        exact hide rfl
      generalize ns ++ (be 1 n).take 0 = L at hR hN
      have BB := hide (byt1 wr (n % 256) (by omega))
      have hR2 := hide (hR.alloc (.cells #[.int .u8 (n % 256)] 5))
      have hG2 := grown_alloc hG (.cells #[.int .u8 (n % 256)] 5)
      clear hR hG h0 h2 hw
      go_wp2_with (at_builtin; refine wpl_fit rfl (.tmp 12) (.tmp 21) rfl G C (K + 0) (K + 1) L rfl hR2.out _ 1 1 _ rfl BB.out (by omega) (by omega) ?_)
      intro w2 hO2 hg2
      rw [← hN.out] at hO2
      have hG3 := grown_trans hG2 hg2
      clear hR2 hG2 hg2 BB
      go_wp2
      go_roundw
      case rel => exact ⟨1, by omega, rfl, rfl, hO2, hG3⟩
      case measure => simp [intOf]
    · have HR : Hid (Own wr G C (K + 1) (ns ++ be 1 n)) := by
        have e : (be 1 n).take 1 = be 1 n := rfl
        rw [e] at hR
        exact hide hR
      clear hR
      go_wp2
      go_ret
      exact ⟨rfl, HR.out, hG⟩
set_option maxRecDepth 100000 in
set_option maxHeartbeats 4000000 in
theorem put23_2 (n : Int) (f : fit 2 n = true) (G C K : Nat) (ns : List Int) (w : World) (hO : Own w G C K ns) (hC : K + 2 ≤ C) :
    Calls Tryd.prog 26 #[.slice (some ⟨G, 0, none⟩) K C, .int .i64 n, .int .i64 2] w fun e w' => e = .returned (.slice (some ⟨G, 0, none⟩) (K + 2) C) ∧ Own w' G C (K + 2) (ns ++ be 2 n) ∧ w.grownBy w' (some G) := by
  obtain ⟨h0, h1⟩ := fit_and f
  have h2 : n < 65536 := by simpa using h1
  clear f h1
  have hw : IntKind.i64.wrap n = n := IntWalk.i64_in _ (by omega)
  go_enter Tryd.func26, Tryd.ntmps26
  go_wp2
  go_loopw [0, 9] (fun v i wr => ∃ k : Nat, k ≤ 2 ∧ i = .int .i64 k ∧ v = .slice (some ⟨G, 0, none⟩) (K + k) C ∧ Own wr G C (K + k) (ns ++ (be 2 n).take k) ∧ w.grownBy wr (some G)) (fun _ i _ => 2 - (intOf i).toNat)
  case atStart => exact ⟨0, by omega, rfl, rfl, by rw [List.take_zero, List.append_nil]; exact hO, World.grownBy.refl _ _⟩
  case round =>
    clear hO
    obtain ⟨k, hk, rfl, rfl, hR, hG⟩ := hrel
    rcases (show k = 0 ∨ k = 1 ∨ k = 2 by omega) with e | e | e <;> subst e
    · have hN : Hid (ns ++ (be 2 n).take 1 = (ns ++ (be 2 n).take 0) ++ [n / 256 % 256]) := by
        have ey : n / 256 % 256 = n / 256 % 256 := by omega
        rw [List.append_assoc, ← ey]
        exact hide rfl
      generalize ns ++ (be 2 n).take 0 = L at hR hN
      have BB := hide (byt1 wr (n / 256 % 256) (by omega))
      have hR2 := hide (hR.alloc (.cells #[.int .u8 (n / 256 % 256)] 5))
      have hG2 := grown_alloc hG (.cells #[.int .u8 (n / 256 % 256)] 5)
      clear hR hG h0 h2 hw
      go_wp2_with (at_builtin; refine wpl_fit rfl (.tmp 12) (.tmp 21) rfl G C (K + 0) (K + 1) L rfl hR2.out _ 1 1 _ rfl BB.out (by omega) (by omega) ?_)
      intro w2 hO2 hg2
      rw [← hN.out] at hO2
      have hG3 := grown_trans hG2 hg2
      clear hR2 hG2 hg2 BB
      go_wp2
      go_roundw
      case rel => exact ⟨1, by omega, rfl, rfl, hO2, hG3⟩
      case measure => simp [intOf]
    · have hN : Hid (ns ++ (be 2 n).take 2 = (ns ++ (be 2 n).take 1) ++ [n % 256]) := by
        have ey : n % 256 = n % 256 := by omega
        rw [List.append_assoc, ← ey]
        exact hide rfl
      generalize ns ++ (be 2 n).take 1 = L at hR hN
      have BB := hide (byt1 wr (n % 256) (by omega))
      have hR2 := hide (hR.alloc (.cells #[.int .u8 (n % 256)] 5))
      have hG2 := grown_alloc hG (.cells #[.int .u8 (n % 256)] 5)
      clear hR hG h0 h2 hw
      go_wp2_with (at_builtin; refine wpl_fit rfl (.tmp 12) (.tmp 21) rfl G C (K + 1) (K + 2) L rfl hR2.out _ 1 1 _ rfl BB.out (by omega) (by omega) ?_)
      intro w2 hO2 hg2
      rw [← hN.out] at hO2
      have hG3 := grown_trans hG2 hg2
      clear hR2 hG2 hg2 BB
      go_wp2
      go_roundw
      case rel => exact ⟨2, by omega, rfl, rfl, hO2, hG3⟩
      case measure => simp [intOf]
    · have HR : Hid (Own wr G C (K + 2) (ns ++ be 2 n)) := by
        have e : (be 2 n).take 2 = be 2 n := rfl
        rw [e] at hR
        exact hide hR
      clear hR
      go_wp2
      go_ret
      exact ⟨rfl, HR.out, hG⟩
set_option maxRecDepth 100000 in
set_option maxHeartbeats 4000000 in
theorem put23_4 (n : Int) (f : fit 4 n = true) (G C K : Nat) (ns : List Int) (w : World) (hO : Own w G C K ns) (hC : K + 4 ≤ C) :
    Calls Tryd.prog 26 #[.slice (some ⟨G, 0, none⟩) K C, .int .i64 n, .int .i64 4] w fun e w' => e = .returned (.slice (some ⟨G, 0, none⟩) (K + 4) C) ∧ Own w' G C (K + 4) (ns ++ be 4 n) ∧ w.grownBy w' (some G) := by
  obtain ⟨h0, h1⟩ := fit_and f
  have h2 : n < 4294967296 := by simpa using h1
  clear f h1
  have hw : IntKind.i64.wrap n = n := IntWalk.i64_in _ (by omega)
  go_enter Tryd.func26, Tryd.ntmps26
  go_wp2
  go_loopw [0, 9] (fun v i wr => ∃ k : Nat, k ≤ 4 ∧ i = .int .i64 k ∧ v = .slice (some ⟨G, 0, none⟩) (K + k) C ∧ Own wr G C (K + k) (ns ++ (be 4 n).take k) ∧ w.grownBy wr (some G)) (fun _ i _ => 4 - (intOf i).toNat)
  case atStart => exact ⟨0, by omega, rfl, rfl, by rw [List.take_zero, List.append_nil]; exact hO, World.grownBy.refl _ _⟩
  case round =>
    clear hO
    obtain ⟨k, hk, rfl, rfl, hR, hG⟩ := hrel
    rcases (show k = 0 ∨ k = 1 ∨ k = 2 ∨ k = 3 ∨ k = 4 by omega) with e | e | e | e | e <;> subst e
    · have hN : Hid (ns ++ (be 4 n).take 1 = (ns ++ (be 4 n).take 0) ++ [n / 16777216 % 256]) := by
        have ey : n / 256 / 256 / 256 % 256 = n / 16777216 % 256 := by omega
        rw [List.append_assoc, ← ey]
        exact hide rfl
      generalize ns ++ (be 4 n).take 0 = L at hR hN
      have BB := hide (byt1 wr (n / 16777216 % 256) (by omega))
      have hR2 := hide (hR.alloc (.cells #[.int .u8 (n / 16777216 % 256)] 5))
      have hG2 := grown_alloc hG (.cells #[.int .u8 (n / 16777216 % 256)] 5)
      clear hR hG h0 h2 hw
      go_wp2_with (at_builtin; refine wpl_fit rfl (.tmp 12) (.tmp 21) rfl G C (K + 0) (K + 1) L rfl hR2.out _ 1 1 _ rfl BB.out (by omega) (by omega) ?_)
      intro w2 hO2 hg2
      rw [← hN.out] at hO2
      have hG3 := grown_trans hG2 hg2
      clear hR2 hG2 hg2 BB
      go_wp2
      go_roundw
      case rel => exact ⟨1, by omega, rfl, rfl, hO2, hG3⟩
      case measure => simp [intOf]
    · have hN : Hid (ns ++ (be 4 n).take 2 = (ns ++ (be 4 n).take 1) ++ [n / 65536 % 256]) := by
        have ey : n / 256 / 256 % 256 = n / 65536 % 256 := by omega
        rw [List.append_assoc, ← ey]
        exact hide rfl
      generalize ns ++ (be 4 n).take 1 = L at hR hN
      have BB := hide (byt1 wr (n / 65536 % 256) (by omega))
      have hR2 := hide (hR.alloc (.cells #[.int .u8 (n / 65536 % 256)] 5))
      have hG2 := grown_alloc hG (.cells #[.int .u8 (n / 65536 % 256)] 5)
      clear hR hG h0 h2 hw
      go_wp2_with (at_builtin; refine wpl_fit rfl (.tmp 12) (.tmp 21) rfl G C (K + 1) (K + 2) L rfl hR2.out _ 1 1 _ rfl BB.out (by omega) (by omega) ?_)
      intro w2 hO2 hg2
      rw [← hN.out] at hO2
      have hG3 := grown_trans hG2 hg2
      clear hR2 hG2 hg2 BB
      go_wp2
      go_roundw
      case rel => exact ⟨2, by omega, rfl, rfl, hO2, hG3⟩
      case measure => simp [intOf]
    · have hN : Hid (ns ++ (be 4 n).take 3 = (ns ++ (be 4 n).take 2) ++ [n / 256 % 256]) := by
        have ey : n / 256 % 256 = n / 256 % 256 := by omega
        rw [List.append_assoc, ← ey]
        exact hide rfl
      generalize ns ++ (be 4 n).take 2 = L at hR hN
      have BB := hide (byt1 wr (n / 256 % 256) (by omega))
      have hR2 := hide (hR.alloc (.cells #[.int .u8 (n / 256 % 256)] 5))
      have hG2 := grown_alloc hG (.cells #[.int .u8 (n / 256 % 256)] 5)
      clear hR hG h0 h2 hw
      go_wp2_with (at_builtin; refine wpl_fit rfl (.tmp 12) (.tmp 21) rfl G C (K + 2) (K + 3) L rfl hR2.out _ 1 1 _ rfl BB.out (by omega) (by omega) ?_)
      intro w2 hO2 hg2
      rw [← hN.out] at hO2
      have hG3 := grown_trans hG2 hg2
      clear hR2 hG2 hg2 BB
      go_wp2
      go_roundw
      case rel => exact ⟨3, by omega, rfl, rfl, hO2, hG3⟩
      case measure => simp [intOf]
    · have hN : Hid (ns ++ (be 4 n).take 4 = (ns ++ (be 4 n).take 3) ++ [n % 256]) := by
        have ey : n % 256 = n % 256 := by omega
        rw [List.append_assoc, ← ey]
        exact hide rfl
      generalize ns ++ (be 4 n).take 3 = L at hR hN
      have BB := hide (byt1 wr (n % 256) (by omega))
      have hR2 := hide (hR.alloc (.cells #[.int .u8 (n % 256)] 5))
      have hG2 := grown_alloc hG (.cells #[.int .u8 (n % 256)] 5)
      clear hR hG h0 h2 hw
      go_wp2_with (at_builtin; refine wpl_fit rfl (.tmp 12) (.tmp 21) rfl G C (K + 3) (K + 4) L rfl hR2.out _ 1 1 _ rfl BB.out (by omega) (by omega) ?_)
      intro w2 hO2 hg2
      rw [← hN.out] at hO2
      have hG3 := grown_trans hG2 hg2
      clear hR2 hG2 hg2 BB
      go_wp2
      go_roundw
      case rel => exact ⟨4, by omega, rfl, rfl, hO2, hG3⟩
      case measure => simp [intOf]
    · have HR : Hid (Own wr G C (K + 4) (ns ++ be 4 n)) := by
        have e : (be 4 n).take 4 = be 4 n := rfl
        rw [e] at hR
        exact hide hR
      clear hR
      go_wp2
      go_ret
      exact ⟨rfl, HR.out, hG⟩
end Go.Proofs.YtgpdjfaklcmoiaaDoor.Ctl
/- Contract of appendField: one field's bytes, put to a slice that has room. -/
namespace Go.Proofs.YtgpdjfaklcmoiaaDoor.Ctl
open Go.RowKit

theorem ms_le (k : Int) : ms k ≤ 250 := by unfold ms; split; omega; split <;> omega
theorem fit2 {n : Int} (h0 : 0 ≤ n) (h1 : n < 65536) : fit 2 n = true := decide_eq_true ⟨h0, by simpa using h1⟩
theorem fit1 {n : Int} (h0 : 0 ≤ n) (h1 : n < 256) : fit 1 n = true := decide_eq_true ⟨h0, by simpa using h1⟩
theorem fit4 {n : Int} (h0 : 0 ≤ n) (h1 : n < 4294967296) : fit 4 n = true := decide_eq_true ⟨h0, by simpa using h1⟩
theorem ft_v {n : Nt} (h : ft n 1 = true) : fit 2 n.v = true := by
  have := (wi_iff n.v 1 4094).1 h
  exact fit2 (by omega) (by omega)
theorem ft_p {n : Nt} (h : ft n 4 = true) : fit 2 n.p = true := by
  have := (wi_iff n.p 0 1000).1 h
  exact fit2 (by omega) (by omega)
theorem ft_s {n : Nt} (h : ft n 8 = true) : fit 1 n.s = true := by
  have := (wi_iff n.s 0 (ms n.k)).1 h
  have := ms_le n.k
  exact fit1 (by omega) (by omega)
theorem ft_b {n : Nt} (h : ft n 16 = true) : fit 2 (n.b.length : Int) = true ∧ n.b.length ≤ 1600 := by
  have : (n.b.length : Int) ≤ 1600 := of_decide_eq_true h
  exact ⟨fit2 (by omega) (by omega), by omega⟩
def fz (n : Nt) (j : Nat) : Nat := if j = 1 then 2 else if j = 2 then 6 else if j = 4 then 2 else if j = 8 then 1 else 2 + n.b.length
theorem fb_length (n : Nt) (j : Nat) : (fb n j).length = fz n j := by
  unfold fb fz
  split
  · exact be_length _ _
  split
  · rfl
  split
  · exact be_length _ _
  split
  · exact be_length _ _
  rw [List.length_append, be_length]
/-- The six bytes of a note in memory, as a slice. -/
theorem macByt {w : World} {k : Nat} {x : Nt} {s : Value} (h : Box w k (ncl x s)) (hr : Rng (ml x)) : Byt w (some ⟨k, 2, none⟩) 6 6 (ml x) := by
  refine ⟨rfl, fun e => (by cases e), fun j hj => ⟨k, 2, rfl, ?_⟩, Nat.le_refl _, by unfold maxLen; omega, hr⟩
  refine h.mac j _ ?_
  rcases (show j = 0 ∨ j = 1 ∨ j = 2 ∨ j = 3 ∨ j = 4 ∨ j = 5 by omega) with rfl | rfl | rfl | rfl | rfl | rfl <;> rfl
section
attribute [local go_sem] NC1 NC8 NC9 NC10
set_option maxRecDepth 100000 in
set_option maxHeartbeats 4000000 in
theorem field27 (n : Nt) (a : Option Addr) (m c : Nat) (hB : Rng (ml n)) (j : Nat) (hj : J5 j) (hf : ft n j = true) (G C K : Nat) (ns : List Int) (w : World) (hO : Own w G C K ns) (hY : Byt w a m c n.b)
    (hne : ∀ b o, a = some ⟨b, o, none⟩ → 0 < m → b ≠ G) (hC : K + fz n j ≤ C) :
    Calls Tryd.prog 30 #[.slice (some ⟨G, 0, none⟩) K C, .agg (NC n (.slice a m c)), .int .i64 j] w fun e w' => e = .returned (.slice (some ⟨G, 0, none⟩) (K + fz n j) C) ∧ Own w' G C (K + fz n j) (ns ++ fb n j) ∧ w.grownBy w' (some G) := by
  have A0 : Box (w.alloc (.cells (NC n (.slice a m c)) 46)) w.heap.size (ncl n (.slice a m c)) := Box.new w (ncl n (.slice a m c)) 46
  have O0 := hO.alloc (.cells (NC n (.slice a m c)) 46)
  have Y0 := hY.alloc (.cells (NC n (.slice a m c)) 46)
  have G0 : w.grownBy (w.alloc (.cells (NC n (.slice a m c)) 46)) (some G) := grown_alloc (World.grownBy.refl _ _) _
  rcases hj with rfl | rfl | rfl | rfl | rfl
  · have F := hide (fun W h1 h2 => put23_2 n.v (ft_v hf) G C K ns W h1 h2)
    have e1 : fz n 1 = 2 := rfl
    have e2 : fb n 1 = be 2 n.v := rfl
    rw [e1] at hC
    rw [e1, e2]
    have HC := hide hC
    clear hf hO hY hne e1 e2 A0 Y0 hB hC
    go_enter Tryd.func30, Tryd.ntmps30
    go_wp2_with fail
    refine (F.out _ O0 HC.out).mono ?_
    rintro e w1 ⟨rfl, O1, g1⟩
    clear F O0
    go_wp2
    go_ret
    exact ⟨rfl, O1, grown_trans G0 g1⟩
  · have e1 : fz n 2 = 6 := rfl
    have e2 : fb n 2 = ml n := rfl
    rw [e1] at hC
    rw [e1, e2]
    have YM := hide (macByt A0 hB)
    have HO := hide O0
    have HC := hide hC
    clear hf hO hY hne e1 e2 Y0 hB hC O0
    go_enter Tryd.func30, Tryd.ntmps30
    go_wp2_with (at_builtin; refine wpl_fit rfl (.tmp 16) (.tmp 18) rfl G C K (K + 6) ns rfl HO.out _ 6 6 _ rfl YM.out rfl HC.out ?_)
    intro w1 O1 g1
    clear HO YM
    go_wp2
    go_ret
    exact ⟨rfl, O1, grown_trans G0 g1⟩
  · have F := hide (fun W h1 h2 => put23_2 n.p (ft_p hf) G C K ns W h1 h2)
    have e1 : fz n 4 = 2 := rfl
    have e2 : fb n 4 = be 2 n.p := rfl
    rw [e1] at hC
    rw [e1, e2]
    have HC := hide hC
    clear hf hO hY hne e1 e2 A0 Y0 hB hC
    go_enter Tryd.func30, Tryd.ntmps30
    go_wp2_with fail
    refine (F.out _ O0 HC.out).mono ?_
    rintro e w1 ⟨rfl, O1, g1⟩
    clear F O0
    go_wp2
    go_ret
    exact ⟨rfl, O1, grown_trans G0 g1⟩
  · have F := hide (fun W h1 h2 => put23_1 n.s (ft_s hf) G C K ns W h1 h2)
    have e1 : fz n 8 = 1 := rfl
    have e2 : fb n 8 = be 1 n.s := rfl
    rw [e1] at hC
    rw [e1, e2]
    have HC := hide hC
    clear hf hO hY hne e1 e2 A0 Y0 hB hC
    go_enter Tryd.func30, Tryd.ntmps30
    go_wp2_with fail
    refine (F.out _ O0 HC.out).mono ?_
    rintro e w1 ⟨rfl, O1, g1⟩
    clear F O0
    go_wp2
    go_ret
    exact ⟨rfl, O1, grown_trans G0 g1⟩
  · have hl := hY.len
    have F := hide (fun W h1 h2 => put23_2 (n.b.length : Int) (ft_b hf).1 G C K ns W h1 h2)
    have e1 : fz n 16 = 2 + m := by rw [← hl]; rfl
    have e2 : fb n 16 = be 2 (n.b.length : Int) ++ n.b := rfl
    rw [e1] at hC
    rw [e1, e2]
    rw [hl] at F ⊢
    have HC := hide hC
    have HN := hide hne
    have HL := hide (show w.heap.size ≠ G by have := hO.lt; omega)
    clear hf hO hY hne e1 e2 hB hC hl
    go_enter Tryd.func30, Tryd.ntmps30
    go_wp2_with fail
    refine (F.out _ O0 (by have := HC.out; omega)).mono ?_
    rintro e w1 ⟨rfl, O1, g1⟩
    replace A0 := A0.kept HL.out g1
    replace Y0 := hide (Y0.kept HN.out g1)
    replace G0 := grown_trans G0 g1
    have c10 := A0.cell 10 (.slice a m c) rfl
    have HO := hide O1
    clear F O0 A0 O1 g1
    go_wp2_with (at_builtin; refine wpl_fit rfl (.tmp 37) (.tmp 39) rfl G C (K + 2) (K + (2 + m)) _ rfl HO.out _ m c _ rfl Y0.out (by omega) HC.out ?_)
    intro w2 O2 g2
    clear HO Y0 c10
    go_wp2
    go_ret
    exact ⟨rfl, O2, grown_trans G0 g2⟩
end
end Go.Proofs.YtgpdjfaklcmoiaaDoor.Ctl
/- The step that puts down; contract of the program's Encode. -/
namespace Go.Proofs.YtgpdjfaklcmoiaaDoor.Ctl
open Go.RowKit

/-- How many bytes there are at most ahead of a field. -/
def ahead (j : Nat) : Nat := if j = 1 then 13 else if j = 2 then 15 else if j = 4 then 21 else if j = 8 then 23 else if j = 16 then 24 else 0
structure EnI (p : Pk) (a : Option Addr) (m c : Nat) (w0 : World) (N G V : Nat) (j : Nat) (ns : List Int) (w : World) : Prop where
  pk : Box w N (pcl p (.slice a m c))
  vr : Box w V [.slice (some ⟨G, 0, none⟩) ns.length (26 + m)]
  own : Own w G (26 + m) ns.length ns
  byt : Byt w a m c p.n.b
  bl : Below N w0 w
  room : j ≤ 16 → ns.length ≤ ahead j
  nG : N < G
  nV : G < V
  ne : ∀ b o, a = some ⟨b, o, none⟩ → 0 < m → b < N
theorem fo_room (n : Nt) (j : Nat) (hj : J5 j) : ahead j + fz n j ≤ 26 + n.b.length ∧ (2 * j ≤ 16 → ahead j + fz n j ≤ ahead (2 * j)) := by
  rcases hj with rfl | rfl | rfl | rfl | rfl <;> simp [ahead, fz] <;> omega
theorem ahead_le (j : Nat) (hj : J5 j) : 2 * j ≤ 16 → ahead j ≤ ahead (2 * j) := by
  rcases hj with rfl | rfl | rfl | rfl | rfl <;> simp [ahead]
theorem rt_ff {n : Nt} (h : rt n = true) (j : Nat) (hj : J5 j) : ff n j = true := by
  simp only [rt, Bool.and_eq_true] at h
  obtain ⟨_, h1, h2, h3, h4, h5⟩ := h
  rcases hj with rfl | rfl | rfl | rfl | rfl <;> assumption
theorem rt_ft {n : Nt} (h : rt n = true) (j : Nat) (hj : J5 j) (hx : hs (fo n.k) j = true) : ft n j = true := by
  have := rt_ff h j hj
  simpa [ff, hx] using this
set_option maxRecDepth 100000 in
set_option maxHeartbeats 2000000 in
theorem put26 (p : Pk) (hB : Rng (ml p.n)) (hr : rt p.n = true) (a : Option Addr) (m c : Nat) (w0 : World) (N G V : Nat) (j : Nat) (hj : J5 j) (hx : hs (fo p.n.k) j = true) (ns : List Int) (w : World) (h : EnI p a m c w0 N G V j ns w) :
    Calls Tryd.prog 29 #[.int .i64 j, .pointer (some ⟨V, 0, none⟩), .pointer (some ⟨N, 0, none⟩)] w fun e w' => e = .returned (.tuple #[]) ∧ EnI p a m c w0 N G V (2 * j) (ns ++ fb p.n j) w' := by
  have c0 := h.vr.cell 0 _ rfl
  have NA := h.pk.note
  have H := hide h
  have hl := h.byt.len
  have R := fo_room p.n j hj
  have hj16 : j ≤ 16 := by rcases hj with e | e | e | e | e <;> omega
  have R2 := h.room hj16
  have F := hide (field27 p.n a m c hB j hj (rt_ft hr j hj hx) G (26 + m) ns.length ns w h.own h.byt (fun b o e hp => by have := h.ne b o e hp; have := h.nG; omega) (by rw [← hl]; omega))
  have HR := hide (And.intro R R2)
  clear h hl R R2 hx
  go_enter Tryd.func29, Tryd.ntmps29
  have tk1 : True := trivial
  go_wp2_with (have _t := tk1; refine wpl_note (.tmp 5) rfl NA ?_ ?_ ?_; rfl; rfl; clear tk1)
  refine F.out.mono ?_
  rintro e w1 ⟨rfl, O1, g1⟩
  have hnG := H.out.nG
  have hnV := H.out.nV
  have V1 := H.out.vr.kept (by omega) g1
  have P1 := H.out.pk.kept (by omega) g1
  have Y1 := H.out.byt.kept (fun b o e hp => by have := H.out.ne b o e hp; omega) g1
  have L1 := below_grown H.out.bl g1 (by omega) (Nat.le_of_lt H.out.pk.lt)
  have v0 := V1.cell 0 _ rfl
  have z0 := V1.free 0 (by simp)
  have hL : ns.length + fz p.n j = (ns ++ fb p.n j).length := by rw [List.length_append, fb_length]
  rw [hL] at O1
  rw [hL]
  have g2 := setCell_grown w1 V 0 (.slice (some ⟨G, 0, none⟩) (ns ++ fb p.n j).length (26 + m))
  have I2 : Hid (EnI p a m c w0 N G V (2 * j) (ns ++ fb p.n j) (w1.setCell ⟨V, 0, none⟩ (.slice (some ⟨G, 0, none⟩) (ns ++ fb p.n j).length (26 + m)))) := hide
    ⟨P1.kept (by omega) g2, Box.set (A := []) (C := []) V1 rfl, ⟨World.ownsRow.kept O1.row g2 (by simp [Value.ownBlock]; omega), Nat.lt_of_lt_of_le O1.lt g2.size⟩, Y1.kept (fun b o e hp => by have := H.out.ne b o e hp; omega) g2, below_grown L1 g2 (by omega) (Nat.le_of_lt P1.lt), fun h16 => by rw [← hL]; have := HR.out.1.2 h16; have := HR.out.2; omega, hnG, hnV, H.out.ne⟩
  clear V1 P1 Y1 L1 O1 g1 g2 c0 NA F HR H hL
  generalize (ns ++ fb p.n j).length = L at *
  go_wp2
  go_end0
  exact ⟨rfl, I2.out⟩
end Go.Proofs.YtgpdjfaklcmoiaaDoor.Ctl
