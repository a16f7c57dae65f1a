/- Memory: cells in a row; variables of many cells; how worlds grow. Nothing of this program. -/
import Derived.Test.YtmdbclhdbglppaaRows
import Derived.Deep.RegionHeld3
import Derived.ChangeKeysEq
import Derived.Laws.BytesArg
import Derived.BigQuiet
import Derived.Deep.MidRow
import Derived.Laws.AppendOwnNone
import Derived.Laws.OwnMore
import Derived.OwnWalk
import Derived.WalkLawsBesides
import Derived.PlainAid
namespace Go.Proofs.Ytmdbclhdbglppaa
open Go.RowKit

theorem bcell {W w1 : World} (hb : Below W.heap.size W w1) : (∀ b o, b < W.heap.size → w1.cell? ⟨b, o, none⟩ = W.cell? ⟨b, o, none⟩) ∧ (∀ b o, b < W.heap.size → w1.frozen? ⟨b, o, none⟩ = W.frozen? ⟨b, o, none⟩) :=
  ⟨fun b o h => hb.cell (p := ⟨b, o, none⟩) h, fun b o h => hb.frozen (p := ⟨b, o, none⟩) h⟩
theorem hide {p : Prop} (h : p) : Hid p := h
theorem ret_bool {a b : Bool} (h : a = b) : Ending.returned (.bool a) = .returned (.bool b) := by rw [h]
theorem ret_int {k : IntKind} {a b : Int} (h : a = b) : Ending.returned (.int k a) = .returned (.int k b) := by rw [h]
theorem belowOn {w wr w1 : World} (hB : Below w.heap.size w wr) (hb : Below wr.heap.size wr w1) : Below w.heap.size w w1 := hB.trans (hb.mono hB.size)
theorem below_alloc (w : World) (o : Obj) : Below w.heap.size w (w.alloc o) := (Below.refl _ _).alloc (Nat.le_refl _) o
/-- Cells in a row. -/
theorem rangeAt_left {w : World} {k o : Nat} {A B : List Value} (h : w.rangeAt k o (A ++ B)) : w.rangeAt k o A := fun j v hj => h j v (by
  rw [List.getElem?_append_left (List.getElem?_eq_some_iff.1 hj).1]; exact hj)
theorem rangeAt_right {w : World} {k o q : Nat} {A B : List Value} (h : w.rangeAt k o (A ++ B)) (hq : o + A.length = q) : w.rangeAt k q B := fun j v hj => by
  have := h (A.length + j) v (by rw [List.getElem?_append_right (by omega)]; simpa using hj)
  rw [← hq, Nat.add_assoc]; exact this
theorem rangeAt_join {w : World} {k o q : Nat} {A B : List Value} (h : w.rangeAt k o A) (g : w.rangeAt k q B) (hq : o + A.length = q) : w.rangeAt k o (A ++ B) := fun j v hj => by
  by_cases hl : j < A.length
  · rw [List.getElem?_append_left hl] at hj; exact h j v hj
  · rw [List.getElem?_append_right (by omega)] at hj
    have := g (j - A.length) v hj
    rw [← hq, Nat.add_assoc, show A.length + (j - A.length) = j by omega] at this
    exact this
/-- A variable of many cells. -/
structure Box (w : World) (k : Nat) (cs : List Value) : Prop where
  lt : k < w.heap.size
  at_ : w.rangeAt k 0 cs
  th : w.there k 0 cs.length
theorem Box.on {w w1 : World} {k : Nat} {cs : List Value} (h : Box w k cs) (hb : Below w.heap.size w w1) : Box w1 k cs :=
  ⟨Nat.lt_of_lt_of_le h.lt hb.size, fun j v hj => (hb.cell (p := ⟨k, 0 + j, none⟩) h.lt).trans (h.at_ j v hj), fun j hj => ⟨by rw [hb.cell (p := ⟨k, 0 + j, none⟩) h.lt]; exact (h.th j hj).1, by rw [hb.frozen (p := ⟨k, 0 + j, none⟩) h.lt]; exact (h.th j hj).2⟩⟩
theorem Box.below {w w1 : World} {k g : Nat} {cs : List Value} (h : Box w k cs) (hg : k < g) (hb : Below g w w1) : Box w1 k cs :=
  ⟨Nat.lt_of_lt_of_le h.lt hb.size, fun j v hj => (hb.cell (p := ⟨k, 0 + j, none⟩) hg).trans (h.at_ j v hj), fun j hj => ⟨by rw [hb.cell (p := ⟨k, 0 + j, none⟩) hg]; exact (h.th j hj).1, by rw [hb.frozen (p := ⟨k, 0 + j, none⟩) hg]; exact (h.th j hj).2⟩⟩
theorem Box.kept {w w1 : World} {k r : Nat} {cs : List Value} (h : Box w k cs) (hne : k ≠ r) (hg : w.grownBy w1 (some r)) : Box w1 k cs := by
  have hb : w1.heap[k]? = w.heap[k]? := hg.block k h.lt (fun e => hne (Option.some.inj e))
  exact ⟨Nat.lt_of_lt_of_le h.lt hg.size, fun j v hj => by rw [World.cell?_of_block (a := ⟨k, 0 + j, none⟩) hb]; exact h.at_ j v hj, fun j hj => ⟨by rw [World.cell?_of_block (a := ⟨k, 0 + j, none⟩) hb]; exact (h.th j hj).1, by rw [World.frozen?_of_block (a := ⟨k, 0 + j, none⟩) hb]; exact (h.th j hj).2⟩⟩
theorem Box.alloc {w : World} {k : Nat} {cs : List Value} (h : Box w k cs) (o : Obj) : Box (w.alloc o) k cs := h.on (below_alloc w o)
theorem Box.drewN {w : World} {k : Nat} {cs : List Value} (h : Box w k cs) (n : Nat) : Box (w.drewN n) k cs := ⟨h.lt, h.at_, h.th⟩
theorem Box.drew {w : World} {k : Nat} {cs : List Value} (h : Box w k cs) : Box w.drew k cs := ⟨h.lt, h.at_, h.th⟩
theorem Box.new (w : World) (cs : List Value) (e : TypeId) : Box (w.alloc (.cells cs.toArray e)) w.heap.size cs := by
  have hg : (w.alloc (.cells cs.toArray e)).heap[w.heap.size]? = some (.cells cs.toArray e (0, 0)) := heap_alloc_new w _
  refine ⟨by simp, fun j v hj => ?_, fun j hj => ⟨?_, ?_⟩⟩
  · rw [Nat.zero_add, cell_of_row _ _ j _ _ _ hg]; simpa using hj
  · rw [Nat.zero_add, cell_of_row _ _ j _ _ _ hg]; simp [hj]
  · rw [World.frozen?_alloc_at _ _ _ _ rfl]
theorem setCells_grown (b : Nat) : ∀ (vs : List Value) (o : Nat) (w : World), w.grownBy (w.setCells b o vs) (some b)
  | [], _, w => ⟨rfl, rfl, rfl, Nat.le_refl _, fun _ _ _ => rfl⟩
  | v :: r, o, w => by
    have h := setCells_grown b r (o + 1) (w.setCell ⟨b, o, none⟩ v)
    have hs : (w.setCell ⟨b, o, none⟩ v).heap.size = w.heap.size := by simp [World.setCell]
    refine ⟨h.os, h.tape, h.output, by have := h.size; rw [hs] at this; exact this, fun k hk hne => ?_⟩
    have e := h.block k (by rw [hs]; exact hk) hne
    rw [Below.heap_setCell _ _ _ _ (fun e => hne (by rw [e]))] at e
    exact e
theorem setCell_grown (w : World) (k i : Nat) (v : Value) : w.grownBy (w.setCell ⟨k, i, none⟩ v) (some k) := setCells_grown k [v] i w
theorem Box.put {w : World} {k o : Nat} {A B C B' : List Value} (h : Box w k (A ++ (B ++ C))) (hl : B'.length = B.length) (ho : A.length = o) : Box (w.setCells k o B') k (A ++ (B' ++ C)) := by
  have hG := setCells_grown k B' o w
  have hlen : (A ++ (B' ++ C)).length = (A ++ (B ++ C)).length := by simp [hl]
  have hth : w.there k o B'.length := fun j hj => by
    have := h.th (o + j) (by simp; omega)
    rw [Nat.zero_add] at this
    exact this
  refine ⟨Nat.lt_of_lt_of_le h.lt hG.size, ?_, ?_⟩
  · refine rangeAt_join (q := o) ?_ (rangeAt_join (q := o + B.length) ?_ ?_ (by rw [hl])) (by omega)
    · exact World.rangeAt_setCells_apart (rangeAt_left h.at_) k o B' (by omega)
    · exact World.rangeAt_setCells_same w k o B' hth
    · exact World.rangeAt_setCells_apart (rangeAt_right (rangeAt_right h.at_ (q := o) (by omega)) (q := o + B.length) rfl) k o B' (by omega)
  · rw [hlen]; exact World.there_setCells h.th k o B'
theorem Box.cell {w : World} {k : Nat} {cs : List Value} (h : Box w k cs) (j : Nat) (v : Value) (hj : cs[j]? = some v) : w.cell? ⟨k, j, none⟩ = some v := by
  have := h.at_ j v hj
  rwa [Nat.zero_add] at this
theorem Box.free {w : World} {k : Nat} {cs : List Value} (h : Box w k cs) (j : Nat) (hj : j < cs.length) : w.frozen? ⟨k, j, none⟩ = false := by
  have := (h.th j hj).2
  rwa [Nat.zero_add] at this

theorem grown_trans {w w1 w2 : World} {row : Option Nat} (h : w.grownBy w1 row) (k : w1.grownBy w2 row) : w.grownBy w2 row :=
  ⟨k.os.trans h.os, k.tape.trans h.tape, k.output.trans h.output, Nat.le_trans h.size k.size, fun i hi hne => (k.block i (Nat.lt_of_lt_of_le hi h.size) hne).trans (h.block i hi hne)⟩
theorem grown_new {w w1 w2 : World} {row : Option Nat} {k : Nat} (h : w.grownBy w1 row) (g : w1.grownBy w2 (some k)) (hk : w.heap.size ≤ k) : w.grownBy w2 row :=
  ⟨g.os.trans h.os, g.tape.trans h.tape, g.output.trans h.output, Nat.le_trans h.size g.size, fun i hi hne => (g.block i (Nat.lt_of_lt_of_le hi h.size) (fun e => by have := Option.some.inj e; omega)).trans (h.block i hi hne)⟩
theorem grown_alloc {w w1 : World} {row : Option Nat} (h : w.grownBy w1 row) (o : Obj) : w.grownBy (w1.alloc o) row := grown_trans h (World.grownBy_alloc w1 o row)
theorem grown_drew {w w1 : World} {row : Option Nat} (h : w.grownBy w1 row) : w.grownBy w1.drew row := ⟨h.os, h.tape, h.output, h.size, h.block⟩
theorem grown_drewN {w w1 : World} {row : Option Nat} (h : w.grownBy w1 row) (n : Nat) : w.grownBy (w1.drewN n) row := ⟨h.os, h.tape, h.output, h.size, h.block⟩
theorem grown_below {w w1 w2 : World} {row : Option Nat} (h : w.grownBy w1 row) (k : Below w1.heap.size w1 w2) : w.grownBy w2 row :=
  ⟨k.os.trans h.os, k.tape.trans h.tape, k.output.trans h.output, Nat.le_trans h.size k.size, fun i hi hne => (k.block i (Nat.lt_of_lt_of_le hi h.size)).trans (h.block i hi hne)⟩
theorem below_of_grown {B : Nat} {w w1 : World} {r : Nat} (h : w.grownBy w1 (some r)) (hr : B ≤ r) (hB : B ≤ w.heap.size) : Below B w w1 := (Below.refl _ _).grown h hB (fun k hk => by have := Option.some.inj hk; omega)
theorem below_grown {B : Nat} {w w1 w2 : World} {k : Nat} (hb : Below B w w1) (hg : w1.grownBy w2 (some k)) (hk : B ≤ k) (hs : B ≤ w1.heap.size) : Below B w w2 :=
  hb.grown hg hs (fun r hr => by have := Option.some.inj hr; omega)
/-- A load of many cells, as one step. -/
theorem wpl_load {P : Program} {ops : Array Oper} {rest : List Oper} {op : Oper} {a : Act} {w : World} {Q : Exit → Act → World → Prop} (ty : TypeId) (x : Operand) (ho : op.op = .load ty x) (b o : Nat) (cs : List Value) (d : TypeDesc) (hc : w.rangeAt b o cs)
    (hu : P.underlying ty = some d) (hd : d.isRow = true) (hi : (P.info? ty).map (·.size) = some cs.length) (hw : Region.wanted op (yielded ops a.tmps) = true) (hx : a.eval x = .pointer (some ⟨b, o, none⟩))
    (h : wpList P ops Q rest (a.put op.dst (.agg cs.toArray)) w) : wpList P ops Q (op :: rest) a w :=
  wpList_step fun K hK => by rw [if_pos hw]; exact wp_load_mid ty x ho b o hx cs d hc hu hd hi (hK _ _ h)
theorem Box.set {w : World} {k o : Nat} {v v' : Value} {A C : List Value} (h : Box w k (A ++ (v :: C))) (ho : A.length = o) : Box (w.setCell ⟨k, o, none⟩ v') k (A ++ (v' :: C)) :=
  Box.put (B := [v]) (B' := [v']) (C := C) h rfl ho
/-- What others' blocks are left as they were: those below N, and those from B on. -/
structure Mid (N B : Nat) (w w' : World) : Prop where
  os : w'.os = w.os
  tape : w'.tape = w.tape
  output : w'.output = w.output
  size : w.heap.size ≤ w'.heap.size
  block : ∀ i, i < w.heap.size → (i < N ∨ B ≤ i) → w'.heap[i]? = w.heap[i]?
theorem Mid.refl (N B : Nat) (w : World) : Mid N B w w := ⟨rfl, rfl, rfl, Nat.le_refl _, fun _ _ _ => rfl⟩
theorem Mid.trans {N B : Nat} {w w1 w2 : World} (h : Mid N B w w1) (k : Mid N B w1 w2) : Mid N B w w2 :=
  ⟨k.os.trans h.os, k.tape.trans h.tape, k.output.trans h.output, Nat.le_trans h.size k.size, fun i hi hb => (k.block i (Nat.lt_of_lt_of_le hi h.size) hb).trans (h.block i hi hb)⟩
theorem Mid.on {N B : Nat} {w w1 w2 : World} (h : Mid N B w w1) (k : Below w1.heap.size w1 w2) : Mid N B w w2 :=
  ⟨k.os.trans h.os, k.tape.trans h.tape, k.output.trans h.output, Nat.le_trans h.size k.size, fun i hi hb => (k.block i (Nat.lt_of_lt_of_le hi h.size)).trans (h.block i hi hb)⟩
theorem Mid.grown {N B k : Nat} {w w1 w2 : World} (h : Mid N B w w1) (g : w1.grownBy w2 (some k)) (hk : w.heap.size ≤ k ∨ (N ≤ k ∧ k < B)) : Mid N B w w2 :=
  ⟨g.os.trans h.os, g.tape.trans h.tape, g.output.trans h.output, Nat.le_trans h.size g.size, fun i hi hb => (g.block i (Nat.lt_of_lt_of_le hi h.size) (fun e => by have := Option.some.inj e; omega)).trans (h.block i hi hb)⟩
theorem Mid.below {N B : Nat} {w w1 : World} (h : Mid N B w w1) (hN : N ≤ w.heap.size) : Below N w w1 :=
  ⟨h.os, h.tape, h.output, h.size, fun i hi => h.block i (Nat.lt_of_lt_of_le hi hN) (Or.inl hi)⟩
theorem Box.block {w w1 : World} {k : Nat} {cs : List Value} (h : Box w k cs) (e : w1.heap[k]? = w.heap[k]?) : Box w1 k cs := by
  refine ⟨?_, fun j v hj => by rw [World.cell?_of_block (a := ⟨k, 0 + j, none⟩) e]; exact h.at_ j v hj, fun j hj => ⟨by rw [World.cell?_of_block (a := ⟨k, 0 + j, none⟩) e]; exact (h.th j hj).1, by rw [World.frozen?_of_block (a := ⟨k, 0 + j, none⟩) e]; exact (h.th j hj).2⟩⟩
  have hl := h.lt
  by_cases hk : k < w1.heap.size
  · exact hk
  · rw [Array.getElem?_eq_none (by omega), Array.getElem?_eq_getElem hl] at e
    cases e
/-- A number that an int holds. -/
def I64 (x : Int) : Prop := -9223372036854775808 ≤ x ∧ x ≤ 9223372036854775807
end Go.Proofs.Ytmdbclhdbglppaa
