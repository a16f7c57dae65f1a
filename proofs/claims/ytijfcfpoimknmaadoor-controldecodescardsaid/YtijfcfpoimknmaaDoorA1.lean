/- Memory: a list of bytes; cells in a row; a note and a packet; the table of kinds; how they stay while others do something. -/
import Derived.Test.YtijfcfpoimknmaaDoorRows
import Derived.Test.YtijfcfpoimknmaaDoorPlain
import Derived.Deep.RegionHeld3
import Derived.ChangeKeysEq
import Derived.Laws.BytesArg
import Derived.BigQuiet
import Derived.Deep.MidRow
import Derived.Laws.AppendOwnNone
import Derived.OwnWalk
import Derived.WalkLawsBesides
namespace Go.Proofs.YtijfcfpoimknmaaDoor
open Go.RowKit

theorem bcell {W w1 : World} (hb : Below W.heap.size W w1) : (∀ b o, b < W.heap.size → w1.cell? ⟨b, o, none⟩ = W.cell? ⟨b, o, none⟩) ∧ (∀ b o, b < W.heap.size → w1.frozen? ⟨b, o, none⟩ = W.frozen? ⟨b, o, none⟩) :=
  ⟨fun b o h => hb.cell (p := ⟨b, o, none⟩) h, fun b o h => hb.frozen (p := ⟨b, o, none⟩) h⟩
theorem hide {p : Prop} (h : p) : Hid p := h
theorem ret_bool {a b : Bool} (h : a = b) : Ending.returned (.bool a) = .returned (.bool b) := by rw [h]
theorem ret_int {k : IntKind} {a b : Int} (h : a = b) : Ending.returned (.int k a) = .returned (.int k b) := by rw [h]
theorem belowOn {w wr w1 : World} (hB : Below w.heap.size w wr) (hb : Below wr.heap.size wr w1) : Below w.heap.size w w1 := hB.trans (hb.mono hB.size)
theorem below_alloc (w : World) (o : Obj) : Below w.heap.size w (w.alloc o) := (Below.refl _ _).alloc (Nat.le_refl _) o
theorem Tryd.cells3 : Tryd.prog.cellsOf 3 = 1 := by kernel_rfl
theorem Tryd.cells4 : Tryd.prog.cellsOf 4 = 1 := by kernel_rfl
theorem Tryd.cells5 : Tryd.prog.cellsOf 5 = 1 := by kernel_rfl
theorem Tryd.cells23 : Tryd.prog.cellsOf 23 = 6 := by kernel_rfl
theorem Tryd.cells24 : Tryd.prog.cellsOf 24 = 1 := by kernel_rfl
theorem Tryd.cells26 : Tryd.prog.cellsOf 26 = 11 := by kernel_rfl
theorem Tryd.cells28 : Tryd.prog.cellsOf 28 = 14 := by kernel_rfl
theorem Tryd.cells58 : Tryd.prog.cellsOf 58 = 2 := by kernel_rfl
theorem Tryd.info5 : (Tryd.prog.info? 5).map (fun i => (i.zero, i.size, i.bytes)) = some (some (.int .u8 0), 1, 1) := by kernel_rfl
theorem Tryd.size23 : (Tryd.prog.info? 23).map (·.size) = some 6 := by kernel_rfl
theorem Tryd.size26 : (Tryd.prog.info? 26).map (·.size) = some 11 := by kernel_rfl
theorem Tryd.size28 : (Tryd.prog.info? 28).map (·.size) = some 14 := by kernel_rfl

/-- The cells of an address, a note, a packet; s is the Body's slice. -/
def mcl (x : Nt) : List Value := [.int .u8 x.m0, .int .u8 x.m1, .int .u8 x.m2, .int .u8 x.m3, .int .u8 x.m4, .int .u8 x.m5]
def ncl (x : Nt) (s : Value) : List Value := .int .i64 x.k :: .int .i64 x.v :: (mcl x ++ [.int .i64 x.p, .int .i64 x.s, s])
def pcl (p : Pk) (s : Value) : List Value := .int .i64 p.e :: .int .i64 p.q :: .int .i64 p.a :: ncl p.n s
def MC (x : Nt) : Array Value := (mcl x).toArray
def NC (x : Nt) (s : Value) : Array Value := (ncl x s).toArray
def PC (p : Pk) (s : Value) : Array Value := (pcl p s).toArray
theorem mcl_length (x : Nt) : (mcl x).length = 6 := rfl
theorem ncl_length (x : Nt) (s : Value) : (ncl x s).length = 11 := rfl
theorem pcl_length (p : Pk) (s : Value) : (pcl p s).length = 14 := rfl
theorem NC_size (x : Nt) (s : Value) : (NC x s).size = 11 := rfl
theorem PC_size (p : Pk) (s : Value) : (PC p s).size = 14 := rfl

theorem NC0 (x : Nt) (s : Value) : (NC x s)[0]? = some (.int .i64 x.k) := rfl
theorem NC1 (x : Nt) (s : Value) : (NC x s)[1]? = some (.int .i64 x.v) := rfl
theorem NC2 (x : Nt) (s : Value) : (NC x s)[2]? = some (.int .u8 x.m0) := rfl
theorem NC3 (x : Nt) (s : Value) : (NC x s)[3]? = some (.int .u8 x.m1) := rfl
theorem NC4 (x : Nt) (s : Value) : (NC x s)[4]? = some (.int .u8 x.m2) := rfl
theorem NC5 (x : Nt) (s : Value) : (NC x s)[5]? = some (.int .u8 x.m3) := rfl
theorem NC6 (x : Nt) (s : Value) : (NC x s)[6]? = some (.int .u8 x.m4) := rfl
theorem NC7 (x : Nt) (s : Value) : (NC x s)[7]? = some (.int .u8 x.m5) := rfl
theorem NC8 (x : Nt) (s : Value) : (NC x s)[8]? = some (.int .i64 x.p) := rfl
theorem NC9 (x : Nt) (s : Value) : (NC x s)[9]? = some (.int .i64 x.s) := rfl
theorem NC10 (x : Nt) (s : Value) : (NC x s)[10]? = some (s) := rfl
theorem PC0 (p : Pk) (s : Value) : (PC p s)[0]? = some (.int .i64 p.e) := rfl
theorem PC1 (p : Pk) (s : Value) : (PC p s)[1]? = some (.int .i64 p.q) := rfl
theorem PC2 (p : Pk) (s : Value) : (PC p s)[2]? = some (.int .i64 p.a) := rfl
theorem PC3 (p : Pk) (s : Value) : (PC p s)[3]? = some (.int .i64 p.n.k) := rfl
theorem PC4 (p : Pk) (s : Value) : (PC p s)[4]? = some (.int .i64 p.n.v) := rfl
theorem PC5 (p : Pk) (s : Value) : (PC p s)[5]? = some (.int .u8 p.n.m0) := rfl
theorem PC6 (p : Pk) (s : Value) : (PC p s)[6]? = some (.int .u8 p.n.m1) := rfl
theorem PC7 (p : Pk) (s : Value) : (PC p s)[7]? = some (.int .u8 p.n.m2) := rfl
theorem PC8 (p : Pk) (s : Value) : (PC p s)[8]? = some (.int .u8 p.n.m3) := rfl
theorem PC9 (p : Pk) (s : Value) : (PC p s)[9]? = some (.int .u8 p.n.m4) := rfl
theorem PC10 (p : Pk) (s : Value) : (PC p s)[10]? = some (.int .u8 p.n.m5) := rfl
theorem PC11 (p : Pk) (s : Value) : (PC p s)[11]? = some (.int .i64 p.n.p) := rfl
theorem PC12 (p : Pk) (s : Value) : (PC p s)[12]? = some (.int .i64 p.n.s) := rfl
theorem PC13 (p : Pk) (s : Value) : (PC p s)[13]? = some (s) := rfl

/-- A slice's bytes. -/
structure Byt (w : World) (ao : Option Addr) (n c : Nat) (ns : List Int) : Prop where
  len : ns.length = n
  nil : ao = none → n = 0 ∧ c = 0
  cell : ∀ j, j < n → ∃ b o, ao = some ⟨b, o, none⟩ ∧ w.cell? ⟨b, o + j, none⟩ = some (.int .u8 (ns.getD j 0))
  le : n ≤ c
  mx : c ≤ maxLen
  rng : Rng ns

theorem Byt.on {w w1 : World} {ao : Option Addr} {n c : Nat} {ns : List Int} (h : Byt w ao n c ns) (hb : Below w.heap.size w w1) : Byt w1 ao n c ns :=
  ⟨h.len, h.nil, fun j hj => by
    obtain ⟨b, o, e, hc⟩ := h.cell j hj
    exact ⟨b, o, e, (hb.cell (p := ⟨b, o + j, none⟩) (World.block_lt_of_cell? w _ hc)).trans hc⟩, h.le, h.mx, h.rng⟩
theorem Byt.nothing (w : World) : Byt w none 0 0 [] := ⟨rfl, fun _ => ⟨rfl, rfl⟩, fun j hj => by omega, Nat.le_refl _, Nat.zero_le _, rng_nil⟩
theorem Byt.at {w : World} {ao : Option Addr} {n c : Nat} {ns : List Int} (h : Byt w ao n c ns) (hn : 0 < n) : ∃ b o, ao = some ⟨b, o, none⟩ ∧ (∀ j, j < n → w.cell? ⟨b, o + j, none⟩ = some (.int .u8 (ns.getD j 0))) ∧ b < w.heap.size := by
  obtain ⟨b, o, rfl, hc⟩ := h.cell 0 hn
  refine ⟨b, o, rfl, fun j hj => ?_, World.block_lt_of_cell? w _ hc⟩
  obtain ⟨b', o', e, hc'⟩ := h.cell j hj
  have e1 := Option.some.inj e
  injection e1 with e2 e3
  subst e2 e3
  exact hc'
theorem Byt.alloc {w : World} {ao : Option Addr} {n c : Nat} {ns : List Int} (h : Byt w ao n c ns) (o : Obj) : Byt (w.alloc o) ao n c ns := h.on (below_alloc w o)
theorem Byt.drew {w : World} {ao : Option Addr} {n c : Nat} {ns : List Int} (h : Byt w ao n c ns) : Byt w.drew ao n c ns := ⟨h.len, h.nil, h.cell, h.le, h.mx, h.rng⟩
theorem Byt.drewN {w : World} {ao : Option Addr} {n c : Nat} {ns : List Int} (h : Byt w ao n c ns) (m : Nat) : Byt (w.drewN m) ao n c ns := ⟨h.len, h.nil, h.cell, h.le, h.mx, h.rng⟩
theorem Byt.below {w w1 : World} {g : Nat} {ao : Option Addr} {n c : Nat} {ns : List Int} (h : Byt w ao n c ns) (hg : ∀ b o, ao = some ⟨b, o, none⟩ → 0 < n → b < g) (hb : Below g w w1) : Byt w1 ao n c ns :=
  ⟨h.len, h.nil, fun j hj => by
    obtain ⟨b, o, e, hc⟩ := h.cell j hj
    exact ⟨b, o, e, (hb.cell (p := ⟨b, o + j, none⟩) (hg b o e (by omega))).trans hc⟩, h.le, h.mx, h.rng⟩
theorem Byt.lt {w : World} {ao : Option Addr} {n c : Nat} {ns : List Int} (h : Byt w ao n c ns) : ∀ b o, ao = some ⟨b, o, none⟩ → 0 < n → b < w.heap.size := by
  intro b o e hn
  obtain ⟨b', o', e', hc⟩ := h.cell 0 hn
  rw [e] at e'
  injection Option.some.inj e' with e1 e2
  subst e1
  exact World.block_lt_of_cell? w _ hc
theorem Byt.kept {w w1 : World} {k : Nat} {ao : Option Addr} {n c : Nat} {ns : List Int} (h : Byt w ao n c ns) (hne : ∀ b o, ao = some ⟨b, o, none⟩ → 0 < n → b ≠ k) (hg : w.grownBy w1 (some k)) : Byt w1 ao n c ns :=
  ⟨h.len, h.nil, fun j hj => by
    obtain ⟨b, o, e, hc⟩ := h.cell j hj
    exact ⟨b, o, e, hg.cell hc (fun e2 => hne b o e (by omega) (Option.some.inj e2))⟩, h.le, h.mx, h.rng⟩
theorem Byt.src {w : World} {ad : Addr} {n c : Nat} {ns : List Int} (h : Byt w (some ad) n c ns) : ∀ j u, (ns.map (Value.int .u8))[j]? = some u → w.cell? (ad.add j) = some u := by
  intro j u hj
  rw [List.getElem?_map, Option.map_eq_some_iff] at hj
  obtain ⟨x, hx, rfl⟩ := hj
  have hl : j < ns.length := (List.getElem?_eq_some_iff.1 hx).1
  obtain ⟨b, o, e, hc⟩ := h.cell j (by rw [← h.len]; exact hl)
  obtain rfl := Option.some.inj e
  rw [List.getD_eq_getElem?_getD, hx] at hc
  rw [Addr.add_lit]
  exact hc
theorem Byt.srcAny {w : World} {ao : Option Addr} {n c : Nat} {ns : List Int} (h : Byt w ao n c ns) : ∀ ad, ao = some ad → ∀ j u, (ns.map (Value.int .u8))[j]? = some u → w.cell? (ad.add j) = some u := by
  intro ad e
  subst e
  exact h.src
theorem one_u8 (ns : List Int) : ∀ u ∈ ns.map (Value.int .u8), u.oneCell' = true := by
  intro u hu
  obtain ⟨x, _, rfl⟩ := List.mem_map.1 hu
  rfl
theorem byt_of_new (w : World) (cs : Array Value) (ns : List Int) (n : Nat) (hc : cs.toList = ns.map (Value.int .u8)) (hl : ns.length = n) (hn : n ≤ 100000) (hr : Rng ns) : Byt (w.alloc (.cells cs 5)) (some ⟨w.heap.size, 0, none⟩) n n ns :=
  ⟨hl, fun e => (by cases e), fun j hj => ⟨w.heap.size, 0, rfl, by
    rw [Nat.zero_add, World.cell?_alloc_at _ _ _ _ rfl, ← Array.getElem?_toList, hc, List.getElem?_map, List.getElem?_eq_getElem (by omega), List.getD_eq_getElem?_getD, List.getElem?_eq_getElem (by omega)]
    rfl⟩, Nat.le_refl _, by unfold maxLen; omega, hr⟩

/-- Cells in a row. -/
theorem rangeAt_left {w : World} {k o : Nat} {A B : List Value} (h : w.rangeAt k o (A ++ B)) : w.rangeAt k o A := fun j v hj => h j v (by
  rw [List.getElem?_append_left (List.getElem?_eq_some_iff.1 hj).1]; exact hj)
theorem rangeAt_right {w : World} {k o q : Nat} {A B : List Value} (h : w.rangeAt k o (A ++ B)) (hq : o + A.length = q) : w.rangeAt k q B := fun j v hj => by
  have := h (A.length + j) v (by rw [List.getElem?_append_right (by omega)]; simpa using hj)
  rw [← hq, Nat.add_assoc]; exact this
theorem rangeAt_join {w : World} {k o q : Nat} {A B : List Value} (h : w.rangeAt k o A) (g : w.rangeAt k q B) (hq : o + A.length = q) : w.rangeAt k o (A ++ B) := fun j v hj => by
  by_cases hl : j < A.length
  · rw [List.getElem?_append_left hl] at hj; exact h j v hj
  · rw [List.getElem?_append_right (by omega)] at hj
    have := g (j - A.length) v hj
    rw [← hq, Nat.add_assoc, show A.length + (j - A.length) = j by omega] at this
    exact this
/-- A variable of many cells. -/
structure Box (w : World) (k : Nat) (cs : List Value) : Prop where
  lt : k < w.heap.size
  at_ : w.rangeAt k 0 cs
  th : w.there k 0 cs.length
theorem Box.on {w w1 : World} {k : Nat} {cs : List Value} (h : Box w k cs) (hb : Below w.heap.size w w1) : Box w1 k cs :=
  ⟨Nat.lt_of_lt_of_le h.lt hb.size, fun j v hj => (hb.cell (p := ⟨k, 0 + j, none⟩) h.lt).trans (h.at_ j v hj), fun j hj => ⟨by rw [hb.cell (p := ⟨k, 0 + j, none⟩) h.lt]; exact (h.th j hj).1, by rw [hb.frozen (p := ⟨k, 0 + j, none⟩) h.lt]; exact (h.th j hj).2⟩⟩
theorem Box.below {w w1 : World} {k g : Nat} {cs : List Value} (h : Box w k cs) (hg : k < g) (hb : Below g w w1) : Box w1 k cs :=
  ⟨Nat.lt_of_lt_of_le h.lt hb.size, fun j v hj => (hb.cell (p := ⟨k, 0 + j, none⟩) hg).trans (h.at_ j v hj), fun j hj => ⟨by rw [hb.cell (p := ⟨k, 0 + j, none⟩) hg]; exact (h.th j hj).1, by rw [hb.frozen (p := ⟨k, 0 + j, none⟩) hg]; exact (h.th j hj).2⟩⟩
theorem Box.kept {w w1 : World} {k r : Nat} {cs : List Value} (h : Box w k cs) (hne : k ≠ r) (hg : w.grownBy w1 (some r)) : Box w1 k cs := by
  have hb : w1.heap[k]? = w.heap[k]? := hg.block k h.lt (fun e => hne (Option.some.inj e))
  exact ⟨Nat.lt_of_lt_of_le h.lt hg.size, fun j v hj => by rw [World.cell?_of_block (a := ⟨k, 0 + j, none⟩) hb]; exact h.at_ j v hj, fun j hj => ⟨by rw [World.cell?_of_block (a := ⟨k, 0 + j, none⟩) hb]; exact (h.th j hj).1, by rw [World.frozen?_of_block (a := ⟨k, 0 + j, none⟩) hb]; exact (h.th j hj).2⟩⟩
theorem Box.alloc {w : World} {k : Nat} {cs : List Value} (h : Box w k cs) (o : Obj) : Box (w.alloc o) k cs := h.on (below_alloc w o)
theorem Box.drewN {w : World} {k : Nat} {cs : List Value} (h : Box w k cs) (n : Nat) : Box (w.drewN n) k cs := ⟨h.lt, h.at_, h.th⟩
theorem Box.drew {w : World} {k : Nat} {cs : List Value} (h : Box w k cs) : Box w.drew k cs := ⟨h.lt, h.at_, h.th⟩
theorem Box.new (w : World) (cs : List Value) (e : TypeId) : Box (w.alloc (.cells cs.toArray e)) w.heap.size cs := by
  have hg : (w.alloc (.cells cs.toArray e)).heap[w.heap.size]? = some (.cells cs.toArray e (0, 0)) := heap_alloc_new w _
  refine ⟨by simp, fun j v hj => ?_, fun j hj => ⟨?_, ?_⟩⟩
  · rw [Nat.zero_add, cell_of_row _ _ j _ _ _ hg]; simpa using hj
  · rw [Nat.zero_add, cell_of_row _ _ j _ _ _ hg]; simp [hj]
  · rw [World.frozen?_alloc_at _ _ _ _ rfl]
theorem setCells_grown (b : Nat) : ∀ (vs : List Value) (o : Nat) (w : World), w.grownBy (w.setCells b o vs) (some b)
  | [], _, w => ⟨rfl, rfl, rfl, Nat.le_refl _, fun _ _ _ => rfl⟩
  | v :: r, o, w => by
    have h := setCells_grown b r (o + 1) (w.setCell ⟨b, o, none⟩ v)
    have hs : (w.setCell ⟨b, o, none⟩ v).heap.size = w.heap.size := by simp [World.setCell]
    refine ⟨h.os, h.tape, h.output, by have := h.size; rw [hs] at this; exact this, fun k hk hne => ?_⟩
    have e := h.block k (by rw [hs]; exact hk) hne
    rw [Below.heap_setCell _ _ _ _ (fun e => hne (by rw [e]))] at e
    exact e
theorem setCell_grown (w : World) (k i : Nat) (v : Value) : w.grownBy (w.setCell ⟨k, i, none⟩ v) (some k) := setCells_grown k [v] i w
theorem Box.put {w : World} {k o : Nat} {A B C B' : List Value} (h : Box w k (A ++ (B ++ C))) (hl : B'.length = B.length) (ho : A.length = o) : Box (w.setCells k o B') k (A ++ (B' ++ C)) := by
  have hG := setCells_grown k B' o w
  have hlen : (A ++ (B' ++ C)).length = (A ++ (B ++ C)).length := by simp [hl]
  have hth : w.there k o B'.length := fun j hj => by
    have := h.th (o + j) (by simp; omega)
    rw [Nat.zero_add] at this
    exact this
  refine ⟨Nat.lt_of_lt_of_le h.lt hG.size, ?_, ?_⟩
  · refine rangeAt_join (q := o) ?_ (rangeAt_join (q := o + B.length) ?_ ?_ (by rw [hl])) (by omega)
    · exact World.rangeAt_setCells_apart (rangeAt_left h.at_) k o B' (by omega)
    · exact World.rangeAt_setCells_same w k o B' hth
    · exact World.rangeAt_setCells_apart (rangeAt_right (rangeAt_right h.at_ (q := o) (by omega)) (q := o + B.length) rfl) k o B' (by omega)
  · rw [hlen]; exact World.there_setCells h.th k o B'
theorem Box.cell {w : World} {k : Nat} {cs : List Value} (h : Box w k cs) (j : Nat) (v : Value) (hj : cs[j]? = some v) : w.cell? ⟨k, j, none⟩ = some v := by
  have := h.at_ j v hj
  rwa [Nat.zero_add] at this
theorem Box.free {w : World} {k : Nat} {cs : List Value} (h : Box w k cs) (j : Nat) (hj : j < cs.length) : w.frozen? ⟨k, j, none⟩ = false := by
  have := (h.th j hj).2
  rwa [Nat.zero_add] at this

/-- A load of many cells, as one step. -/
theorem wpl_load {P : Program} {ops : Array Oper} {rest : List Oper} {op : Oper} {a : Act} {w : World} {Q : Exit → Act → World → Prop} (ty : TypeId) (x : Operand) (ho : op.op = .load ty x) (b o : Nat) (cs : List Value) (d : TypeDesc) (hc : w.rangeAt b o cs)
    (hu : P.underlying ty = some d) (hd : d.isRow = true) (hi : (P.info? ty).map (·.size) = some cs.length) (hw : Region.wanted op (yielded ops a.tmps) = true) (hx : a.eval x = .pointer (some ⟨b, o, none⟩))
    (h : wpList P ops Q rest (a.put op.dst (.agg cs.toArray)) w) : wpList P ops Q (op :: rest) a w :=
  wpList_step fun K hK => by rw [if_pos hw]; exact wp_load_mid ty x ho b o hx cs d hc hu hd hi (hK _ _ h)
theorem Box.note {w : World} {k : Nat} {p : Pk} {s : Value} (h : Box w k (pcl p s)) : w.rangeAt k 3 (ncl p.n s) := rangeAt_right (A := [.int .i64 p.e, .int .i64 p.q, .int .i64 p.a]) h.at_ (q := 3) rfl
theorem Box.mac {w : World} {k : Nat} {x : Nt} {s : Value} (h : Box w k (ncl x s)) : w.rangeAt k 2 (mcl x) := rangeAt_left (rangeAt_right (A := [.int .i64 x.k, .int .i64 x.v]) h.at_ (q := 2) rfl)
theorem wpl_pkt {ops : Array Oper} {rest : List Oper} {op : Oper} {a : Act} {w : World} {Q : Exit → Act → World → Prop} {k : Nat} {p : Pk} {s : Value} (x : Operand) (ho : op.op = .load 28 x) (hA : Box w k (pcl p s)) (hw : Region.wanted op (yielded ops a.tmps) = true) (hx : a.eval x = .pointer (some ⟨k, 0, none⟩))
    (h : wpList Tryd.prog ops Q rest (a.put op.dst (.agg (PC p s))) w) : wpList Tryd.prog ops Q (op :: rest) a w :=
  wpl_load 28 x ho k 0 _ _ hA.at_ Tryd.underlying28 rfl Tryd.size28 hw hx h
theorem wpl_note {ops : Array Oper} {rest : List Oper} {op : Oper} {a : Act} {w : World} {Q : Exit → Act → World → Prop} {k o : Nat} {i : Nt} {s : Value} (x : Operand) (ho : op.op = .load 26 x) (hA : w.rangeAt k o (ncl i s)) (hw : Region.wanted op (yielded ops a.tmps) = true) (hx : a.eval x = .pointer (some ⟨k, o, none⟩))
    (h : wpList Tryd.prog ops Q rest (a.put op.dst (.agg (NC i s))) w) : wpList Tryd.prog ops Q (op :: rest) a w :=
  wpl_load 26 x ho k o _ _ hA Tryd.underlying26 rfl Tryd.size26 hw hx h
theorem wpl_mac {ops : Array Oper} {rest : List Oper} {op : Oper} {a : Act} {w : World} {Q : Exit → Act → World → Prop} {k o : Nat} {i : Nt} (x : Operand) (ho : op.op = .load 23 x) (hA : w.rangeAt k o (mcl i)) (hw : Region.wanted op (yielded ops a.tmps) = true) (hx : a.eval x = .pointer (some ⟨k, o, none⟩))
    (h : wpList Tryd.prog ops Q rest (a.put op.dst (.agg (MC i))) w) : wpList Tryd.prog ops Q (op :: rest) a w :=
  wpl_load 23 x ho k o _ _ hA Tryd.underlying23 rfl Tryd.size23 hw hx h
theorem one_ncl' (x : Nt) (s : Value) (hs : s.oneCell' = true) : ∀ v ∈ ncl x s, v.oneCell' = true := by
  intro v hv
  simp only [ncl, mcl, List.mem_cons, List.mem_append, List.not_mem_nil, or_false] at hv
  rcases hv with rfl | rfl | (rfl | rfl | rfl | rfl | rfl | rfl) | rfl | rfl | rfl <;> first | rfl | exact hs
theorem one_ncl (x : Nt) (s : Value) (hs : s.oneCell' = true) : (NC x s).all (·.oneCell') = true := all_oneCell_toArray (one_ncl' x s hs)
theorem one_pcl (p : Pk) (s : Value) (hs : s.oneCell' = true) : (PC p s).all (·.oneCell') = true := all_oneCell_toArray (fun v hv => by
  rcases List.mem_cons.1 hv with rfl | hv
  · rfl
  rcases List.mem_cons.1 hv with rfl | hv
  · rfl
  rcases List.mem_cons.1 hv with rfl | hv
  · rfl
  exact one_ncl' _ _ hs v hv)
/-- One is stored into a variable of its own. -/
theorem wpl_putP {ops : Array Oper} {rest : List Oper} {op : Oper} {a : Act} {w : World} {Q : Exit → Act → World → Prop} {k : Nat} (p : Pk) (s : Value) (m : Pk) (s0 : Value) (hs : s.oneCell' = true) (x y : Operand) (ho : op.op = .store 28 x y) (ht : Box w k (pcl m s0)) (hw : Region.wanted op (yielded ops a.tmps) = true) (hx : a.eval x = .pointer (some ⟨k, 0, none⟩)) (hy : a.eval y = .agg (PC p s))
    (h : ∀ w', Box w' k (pcl p s) → w.grownBy w' (some k) → wpList Tryd.prog ops Q rest (a.put op.dst undef) w') : wpList Tryd.prog ops Q (op :: rest) a w :=
  wpList_step fun K hK => by
    rw [if_pos hw]
    refine wp_store_mid 28 x y ho k 0 (PC p s) hx hy ht.th Tryd.size28 (one_pcl p s hs) (hK _ _ (h _ ?_ (setCells_grown k _ 0 w)))
    have hb := Box.put (w := w) (k := k) (o := 0) (A := []) (B := pcl m s0) (C := []) (B' := pcl p s) (by simpa using ht) rfl rfl
    rw [List.append_nil, List.nil_append] at hb
    exact hb
theorem wpl_putN {ops : Array Oper} {rest : List Oper} {op : Oper} {a : Act} {w : World} {Q : Exit → Act → World → Prop} {k o : Nat} (i : Nt) (s : Value) (A : List Value) (m : Nt) (s0 : Value) (hs : s.oneCell' = true) (x y : Operand) (ho : op.op = .store 26 x y) (ht : Box w k (A ++ ncl m s0)) (hA : A.length = o) (hw : Region.wanted op (yielded ops a.tmps) = true) (hx : a.eval x = .pointer (some ⟨k, o, none⟩)) (hy : a.eval y = .agg (NC i s))
    (h : ∀ w', Box w' k (A ++ ncl i s) → w.grownBy w' (some k) → wpList Tryd.prog ops Q rest (a.put op.dst undef) w') : wpList Tryd.prog ops Q (op :: rest) a w :=
  wpList_step fun K hK => by
    rw [if_pos hw]
    refine wp_store_mid 26 x y ho k o (NC i s) hx hy (fun j hj => ?_) Tryd.size26 (one_ncl i s hs) (hK _ _ (h _ ?_ (setCells_grown k _ o w)))
    · have hj' : j < 11 := hj
      have := ht.th (o + j) (by simp [ncl_length]; omega)
      rw [Nat.zero_add] at this
      exact this
    · have hb := Box.put (w := w) (k := k) (o := o) (A := A) (B := ncl m s0) (C := []) (B' := ncl i s) (by simpa using ht) rfl hA
      rw [List.append_nil] at hb
      exact hb
/-- The bytes of a list of numbers, as a string has them. -/
def bs (ns : List Int) : ByteArray := ⟨(ns.map fun n => UInt8.ofNat n.toNat).toArray⟩
theorem bs_toList (ns : List Int) : (bs ns).toList = ns.map fun n => UInt8.ofNat n.toNat := by rw [ByteArray.toList_eq]; simp [bs]
theorem u8_inj {x y : Int} (hx : 0 ≤ x ∧ x ≤ 255) (hy : 0 ≤ y ∧ y ≤ 255) (h : UInt8.ofNat x.toNat = UInt8.ofNat y.toNat) : x = y := by
  have h1 := congrArg UInt8.toNat h
  simp at h1
  omega
theorem map_inj : ∀ {a b : List Int}, Rng a → Rng b → (a.map fun n => UInt8.ofNat n.toNat) = (b.map fun n => UInt8.ofNat n.toNat) → a = b
  | [], [], _, _, _ => rfl
  | [], _ :: _, _, _, h => by simp at h
  | _ :: _, [], _, _, h => by simp at h
  | x :: a, y :: b, ha, hb, h => by
    simp only [List.map_cons, List.cons.injEq] at h
    have e := u8_inj (ha x (by simp)) (hb y (by simp)) h.1
    have e2 := map_inj (fun n hn => ha n (by simp [hn])) (fun n hn => hb n (by simp [hn])) h.2
    rw [e, e2]
theorem bs_beq {a b : List Int} (ha : Rng a) (hb : Rng b) : ((bs a).toList == (bs b).toList) = decide (a = b) := by
  rw [bs_toList, bs_toList, Bool.eq_iff_iff]
  simp only [beq_iff_eq, decide_eq_true_eq]
  exact ⟨map_inj ha hb, fun h => by rw [h]⟩
theorem bs_beq_self (a : List Int) : ((bs a).toList == (bs a).toList) = true := by simp
/-- A []byte as a string. -/
theorem bytStr {w : World} {ao : Option Addr} {n c : Nat} {ns : List Int} (h : Byt w ao n c ns) :
    (convert 24 9 (.slice ao n c)).run Tryd.prog w = .ok (.string (bs ns)) w := by
  rw [run_convert_bytes_string w 24 9 5 _ _ _ Tryd.underlying24 Tryd.underlying5 Tryd.underlying9]
  cases ao with
  | none =>
    obtain ⟨rfl, rfl⟩ := h.nil rfl
    obtain rfl : ns = [] := List.eq_nil_of_length_eq_zero h.len
    rfl
  | some ad =>
    have hl := run_loadCells_list (P := Tryd.prog) w ad (ns.map (Value.int .u8)) h.src
    rw [List.length_map, h.len] at hl
    rw [run_bytesToString w _ _ _ ns (by simpa using hl), foldl_push_bytes]
    simp [bs]
theorem Box.set {w : World} {k o : Nat} {v v' : Value} {A C : List Value} (h : Box w k (A ++ (v :: C))) (ho : A.length = o) : Box (w.setCell ⟨k, o, none⟩ v') k (A ++ (v' :: C)) :=
  Box.put (B := [v]) (B' := [v']) (C := C) h rfl ho
/-- The zero values, as the walk lays them. -/
theorem ZN : (#[.int .i64 0, .int .i64 0, .int .u8 0, .int .u8 0, .int .u8 0, .int .u8 0, .int .u8 0, .int .u8 0, .int .i64 0, .int .i64 0, .slice none 0 0] : Array Value) = NC zeroN (.slice none 0 0) := rfl
theorem ZP : (#[.int .i64 0, .int .i64 0, .int .i64 0, .int .i64 0, .int .i64 0, .int .u8 0, .int .u8 0, .int .u8 0, .int .u8 0, .int .u8 0, .int .u8 0, .int .i64 0, .int .i64 0, .slice none 0 0] : Array Value) = PC zeroP (.slice none 0 0) := rfl
/-- The table of kinds lies in the first block. -/
def tab : List Int := [0, 7, 3, 12, 12, 20, 12, 8, 29]
structure KT (w : World) : Prop where
  cell : ∀ j, j < 9 → w.cell? ⟨0, j, none⟩ = some (.int .i64 (tab.getD j 0))
theorem KT.lt {w : World} (h : KT w) : 0 < w.heap.size := World.block_lt_of_cell? w _ (h.cell 0 (by omega))
theorem KT.below {w w1 : World} {g : Nat} (h : KT w) (hg : 0 < g) (hb : Below g w w1) : KT w1 := ⟨fun j hj => (hb.cell (p := ⟨0, j, none⟩) hg).trans (h.cell j hj)⟩
theorem KT.on {w w1 : World} (h : KT w) (hb : Below w.heap.size w w1) : KT w1 := h.below h.lt hb
theorem KT.alloc {w : World} (h : KT w) (o : Obj) : KT (w.alloc o) := h.on (below_alloc w o)
theorem KT.drew {w : World} (h : KT w) : KT w.drew := ⟨h.cell⟩
theorem KT.drewN {w : World} (h : KT w) (n : Nat) : KT (w.drewN n) := ⟨h.cell⟩
theorem KT.kept {w w1 : World} {k : Nat} (h : KT w) (hne : k ≠ 0) (hg : w.grownBy w1 (some k)) : KT w1 := ⟨fun j hj => hg.cell (h.cell j hj) (fun e => hne (Option.some.inj e).symm)⟩
end Go.Proofs.YtijfcfpoimknmaaDoor
