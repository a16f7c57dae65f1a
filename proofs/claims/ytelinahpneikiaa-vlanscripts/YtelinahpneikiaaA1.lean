/- Memory: bytes, numbers, cells in a row, a frame; how worlds grow. -/
import Derived.Test.YtelinahpneikiaaRows
import Derived.Test.YtelinahpneikiaaPlain
import Derived.Deep.RegionHeld3
import Derived.ChangeKeysEq
import Derived.Laws.BytesArg
import Derived.BigQuiet
import Derived.Deep.MidRow
import Derived.Laws.AppendOwnNone
import Derived.OwnWalk
import Derived.WalkLawsBesides
namespace Go.Proofs.Ytelinahpneikiaa
open Go.RowKit

theorem bcell {W w1 : World} (hb : Below W.heap.size W w1) : (∀ b o, b < W.heap.size → w1.cell? ⟨b, o, none⟩ = W.cell? ⟨b, o, none⟩) ∧ (∀ b o, b < W.heap.size → w1.frozen? ⟨b, o, none⟩ = W.frozen? ⟨b, o, none⟩) :=
  ⟨fun b o h => hb.cell (p := ⟨b, o, none⟩) h, fun b o h => hb.frozen (p := ⟨b, o, none⟩) h⟩
theorem hide {p : Prop} (h : p) : Hid p := h
theorem ret_bool {a b : Bool} (h : a = b) : Ending.returned (.bool a) = .returned (.bool b) := by rw [h]
theorem ret_int {k : IntKind} {a b : Int} (h : a = b) : Ending.returned (.int k a) = .returned (.int k b) := by rw [h]
theorem belowOn {w wr w1 : World} (hB : Below w.heap.size w wr) (hb : Below wr.heap.size wr w1) : Below w.heap.size w w1 := hB.trans (hb.mono hB.size)
theorem below_alloc (w : World) (o : Obj) : Below w.heap.size w (w.alloc o) := (Below.refl _ _).alloc (Nat.le_refl _) o
theorem Try.cells3 : Try.prog.cellsOf 3 = 1 := by kernel_rfl
theorem Try.cells4 : Try.prog.cellsOf 4 = 1 := by kernel_rfl
theorem Try.cells5 : Try.prog.cellsOf 5 = 1 := by kernel_rfl
theorem Try.cells34 : Try.prog.cellsOf 34 = 6 := by kernel_rfl
theorem Try.cells35 : Try.prog.cellsOf 35 = 1 := by kernel_rfl
theorem Try.cells37 : Try.prog.cellsOf 37 = 17 := by kernel_rfl
theorem Try.cells48 : Try.prog.cellsOf 48 = 4 := by kernel_rfl
theorem Try.cells29 : Try.prog.cellsOf 29 = 1 := by kernel_rfl
theorem Try.cells61 : Try.prog.cellsOf 61 = 2 := by kernel_rfl
theorem Try.cells63 : Try.prog.cellsOf 63 = 1 := by kernel_rfl
theorem Try.cells65 : Try.prog.cellsOf 65 = 3 := by kernel_rfl
theorem Try.cells73 : Try.prog.cellsOf 73 = 3 := by kernel_rfl
theorem Try.cells77 : Try.prog.cellsOf 77 = 1 := by kernel_rfl
theorem Try.cells80 : Try.prog.cellsOf 80 = 2 := by kernel_rfl
theorem Try.cells59 : Try.prog.cellsOf 59 = 1 := by kernel_rfl
theorem Try.info5 : (Try.prog.info? 5).map (fun i => (i.zero, i.size, i.bytes)) = some (some (.int .u8 0), 1, 1) := by kernel_rfl
theorem Try.info3 : (Try.prog.info? 3).map (fun i => (i.zero, i.size, i.bytes)) = some (some (.int .i64 0), 1, 8) := by kernel_rfl
theorem Try.info73 : (Try.prog.info? 73).map (fun i => (i.zero, i.size, i.bytes)) = some (some (.agg #[.int .i64 0, .int .i64 0, .bool false]), 3, 24) := by kernel_rfl
theorem Try.size34 : (Try.prog.info? 34).map (·.size) = some 6 := by kernel_rfl
theorem Try.size37 : (Try.prog.info? 37).map (·.size) = some 17 := by kernel_rfl
theorem Try.size48 : (Try.prog.info? 48).map (·.size) = some 4 := by kernel_rfl

/-- The cells of a frame; s is the Body's slice. -/
def dcl (x : Fd) : List Value := [.int .u8 x.d0, .int .u8 x.d1, .int .u8 x.d2, .int .u8 x.d3, .int .u8 x.d4, .int .u8 x.d5]
def scl (x : Fd) : List Value := [.int .u8 x.s0, .int .u8 x.s1, .int .u8 x.s2, .int .u8 x.s3, .int .u8 x.s4, .int .u8 x.s5]
def fcl (x : Fd) (s : Value) : List Value := dcl x ++ (scl x ++ [.bool x.tg, .int .i64 x.vl, .int .i64 x.pr, .int .i64 x.ty, s])
def FC (x : Fd) (s : Value) : Array Value := (fcl x s).toArray
theorem fcl_length (x : Fd) (s : Value) : (fcl x s).length = 17 := rfl
theorem FC_size (x : Fd) (s : Value) : (FC x s).size = 17 := rfl
theorem FC0 (x : Fd) (s : Value) : (FC x s)[0]? = some (.int .u8 x.d0) := rfl
theorem FC1 (x : Fd) (s : Value) : (FC x s)[1]? = some (.int .u8 x.d1) := rfl
theorem FC2 (x : Fd) (s : Value) : (FC x s)[2]? = some (.int .u8 x.d2) := rfl
theorem FC3 (x : Fd) (s : Value) : (FC x s)[3]? = some (.int .u8 x.d3) := rfl
theorem FC4 (x : Fd) (s : Value) : (FC x s)[4]? = some (.int .u8 x.d4) := rfl
theorem FC5 (x : Fd) (s : Value) : (FC x s)[5]? = some (.int .u8 x.d5) := rfl
theorem FC6 (x : Fd) (s : Value) : (FC x s)[6]? = some (.int .u8 x.s0) := rfl
theorem FC7 (x : Fd) (s : Value) : (FC x s)[7]? = some (.int .u8 x.s1) := rfl
theorem FC8 (x : Fd) (s : Value) : (FC x s)[8]? = some (.int .u8 x.s2) := rfl
theorem FC9 (x : Fd) (s : Value) : (FC x s)[9]? = some (.int .u8 x.s3) := rfl
theorem FC10 (x : Fd) (s : Value) : (FC x s)[10]? = some (.int .u8 x.s4) := rfl
theorem FC11 (x : Fd) (s : Value) : (FC x s)[11]? = some (.int .u8 x.s5) := rfl
theorem FC12 (x : Fd) (s : Value) : (FC x s)[12]? = some (.bool x.tg) := rfl
theorem FC13 (x : Fd) (s : Value) : (FC x s)[13]? = some (.int .i64 x.vl) := rfl
theorem FC14 (x : Fd) (s : Value) : (FC x s)[14]? = some (.int .i64 x.pr) := rfl
theorem FC15 (x : Fd) (s : Value) : (FC x s)[15]? = some (.int .i64 x.ty) := rfl
theorem FC16 (x : Fd) (s : Value) : (FC x s)[16]? = some s := rfl
theorem ZF : (#[.int .u8 0, .int .u8 0, .int .u8 0, .int .u8 0, .int .u8 0, .int .u8 0, .int .u8 0, .int .u8 0, .int .u8 0, .int .u8 0, .int .u8 0, .int .u8 0, .bool false, .int .i64 0, .int .i64 0, .int .i64 0, .slice none 0 0] : Array Value) = FC zeroF (.slice none 0 0) := rfl

/-- A slice's bytes. -/
structure Byt (w : World) (ao : Option Addr) (n c : Nat) (ns : List Int) : Prop where
  len : ns.length = n
  nil : ao = none → n = 0 ∧ c = 0
  cell : ∀ j, j < n → ∃ b o, ao = some ⟨b, o, none⟩ ∧ w.cell? ⟨b, o + j, none⟩ = some (.int .u8 (ns.getD j 0))
  le : n ≤ c
  mx : c ≤ maxLen
  rng : Rng ns

theorem Byt.on {w w1 : World} {ao : Option Addr} {n c : Nat} {ns : List Int} (h : Byt w ao n c ns) (hb : Below w.heap.size w w1) : Byt w1 ao n c ns :=
  ⟨h.len, h.nil, fun j hj => by
    obtain ⟨b, o, e, hc⟩ := h.cell j hj
    exact ⟨b, o, e, (hb.cell (p := ⟨b, o + j, none⟩) (World.block_lt_of_cell? w _ hc)).trans hc⟩, h.le, h.mx, h.rng⟩
theorem Byt.nothing (w : World) : Byt w none 0 0 [] := ⟨rfl, fun _ => ⟨rfl, rfl⟩, fun j hj => by omega, Nat.le_refl _, Nat.zero_le _, rng_nil⟩
theorem Byt.at {w : World} {ao : Option Addr} {n c : Nat} {ns : List Int} (h : Byt w ao n c ns) (hn : 0 < n) : ∃ b o, ao = some ⟨b, o, none⟩ ∧ (∀ j, j < n → w.cell? ⟨b, o + j, none⟩ = some (.int .u8 (ns.getD j 0))) ∧ b < w.heap.size := by
  obtain ⟨b, o, rfl, hc⟩ := h.cell 0 hn
  refine ⟨b, o, rfl, fun j hj => ?_, World.block_lt_of_cell? w _ hc⟩
  obtain ⟨b', o', e, hc'⟩ := h.cell j hj
  have e1 := Option.some.inj e
  injection e1 with e2 e3
  subst e2 e3
  exact hc'
theorem Byt.alloc {w : World} {ao : Option Addr} {n c : Nat} {ns : List Int} (h : Byt w ao n c ns) (o : Obj) : Byt (w.alloc o) ao n c ns := h.on (below_alloc w o)
theorem Byt.drew {w : World} {ao : Option Addr} {n c : Nat} {ns : List Int} (h : Byt w ao n c ns) : Byt w.drew ao n c ns := ⟨h.len, h.nil, h.cell, h.le, h.mx, h.rng⟩
theorem Byt.drewN {w : World} {ao : Option Addr} {n c : Nat} {ns : List Int} (h : Byt w ao n c ns) (m : Nat) : Byt (w.drewN m) ao n c ns := ⟨h.len, h.nil, h.cell, h.le, h.mx, h.rng⟩
theorem Byt.below {w w1 : World} {g : Nat} {ao : Option Addr} {n c : Nat} {ns : List Int} (h : Byt w ao n c ns) (hg : ∀ b o, ao = some ⟨b, o, none⟩ → 0 < n → b < g) (hb : Below g w w1) : Byt w1 ao n c ns :=
  ⟨h.len, h.nil, fun j hj => by
    obtain ⟨b, o, e, hc⟩ := h.cell j hj
    exact ⟨b, o, e, (hb.cell (p := ⟨b, o + j, none⟩) (hg b o e (by omega))).trans hc⟩, h.le, h.mx, h.rng⟩
theorem Byt.lt {w : World} {ao : Option Addr} {n c : Nat} {ns : List Int} (h : Byt w ao n c ns) : ∀ b o, ao = some ⟨b, o, none⟩ → 0 < n → b < w.heap.size := by
  intro b o e hn
  obtain ⟨b', o', e', hc⟩ := h.cell 0 hn
  rw [e] at e'
  injection Option.some.inj e' with e1 e2
  subst e1
  exact World.block_lt_of_cell? w _ hc
theorem Byt.kept {w w1 : World} {k : Nat} {ao : Option Addr} {n c : Nat} {ns : List Int} (h : Byt w ao n c ns) (hne : ∀ b o, ao = some ⟨b, o, none⟩ → 0 < n → b ≠ k) (hg : w.grownBy w1 (some k)) : Byt w1 ao n c ns :=
  ⟨h.len, h.nil, fun j hj => by
    obtain ⟨b, o, e, hc⟩ := h.cell j hj
    exact ⟨b, o, e, hg.cell hc (fun e2 => hne b o e (by omega) (Option.some.inj e2))⟩, h.le, h.mx, h.rng⟩
theorem Byt.src {w : World} {ad : Addr} {n c : Nat} {ns : List Int} (h : Byt w (some ad) n c ns) : ∀ j u, (ns.map (Value.int .u8))[j]? = some u → w.cell? (ad.add j) = some u := by
  intro j u hj
  rw [List.getElem?_map, Option.map_eq_some_iff] at hj
  obtain ⟨x, hx, rfl⟩ := hj
  have hl : j < ns.length := (List.getElem?_eq_some_iff.1 hx).1
  obtain ⟨b, o, e, hc⟩ := h.cell j (by rw [← h.len]; exact hl)
  obtain rfl := Option.some.inj e
  rw [List.getD_eq_getElem?_getD, hx] at hc
  rw [Addr.add_lit]
  exact hc
theorem Byt.srcAny {w : World} {ao : Option Addr} {n c : Nat} {ns : List Int} (h : Byt w ao n c ns) : ∀ ad, ao = some ad → ∀ j u, (ns.map (Value.int .u8))[j]? = some u → w.cell? (ad.add j) = some u := by
  intro ad e
  subst e
  exact h.src
theorem one_u8 (ns : List Int) : ∀ u ∈ ns.map (Value.int .u8), u.oneCell' = true := by
  intro u hu
  obtain ⟨x, _, rfl⟩ := List.mem_map.1 hu
  rfl
theorem byt_of_new (w : World) (cs : Array Value) (ns : List Int) (n : Nat) (hc : cs.toList = ns.map (Value.int .u8)) (hl : ns.length = n) (hn : n ≤ 100000) (hr : Rng ns) : Byt (w.alloc (.cells cs 5)) (some ⟨w.heap.size, 0, none⟩) n n ns :=
  ⟨hl, fun e => (by cases e), fun j hj => ⟨w.heap.size, 0, rfl, by
    rw [Nat.zero_add, World.cell?_alloc_at _ _ _ _ rfl, ← Array.getElem?_toList, hc, List.getElem?_map, List.getElem?_eq_getElem (by omega), List.getD_eq_getElem?_getD, List.getElem?_eq_getElem (by omega)]
    rfl⟩, Nat.le_refl _, by unfold maxLen; omega, hr⟩

/-- Cells in a row. -/
theorem rangeAt_left {w : World} {k o : Nat} {A B : List Value} (h : w.rangeAt k o (A ++ B)) : w.rangeAt k o A := fun j v hj => h j v (by
  rw [List.getElem?_append_left (List.getElem?_eq_some_iff.1 hj).1]; exact hj)
theorem rangeAt_right {w : World} {k o q : Nat} {A B : List Value} (h : w.rangeAt k o (A ++ B)) (hq : o + A.length = q) : w.rangeAt k q B := fun j v hj => by
  have := h (A.length + j) v (by rw [List.getElem?_append_right (by omega)]; simpa using hj)
  rw [← hq, Nat.add_assoc]; exact this
theorem rangeAt_join {w : World} {k o q : Nat} {A B : List Value} (h : w.rangeAt k o A) (g : w.rangeAt k q B) (hq : o + A.length = q) : w.rangeAt k o (A ++ B) := fun j v hj => by
  by_cases hl : j < A.length
  · rw [List.getElem?_append_left hl] at hj; exact h j v hj
  · rw [List.getElem?_append_right (by omega)] at hj
    have := g (j - A.length) v hj
    rw [← hq, Nat.add_assoc, show A.length + (j - A.length) = j by omega] at this
    exact this
/-- A variable of many cells. -/
structure Box (w : World) (k : Nat) (cs : List Value) : Prop where
  lt : k < w.heap.size
  at_ : w.rangeAt k 0 cs
  th : w.there k 0 cs.length
theorem Box.on {w w1 : World} {k : Nat} {cs : List Value} (h : Box w k cs) (hb : Below w.heap.size w w1) : Box w1 k cs :=
  ⟨Nat.lt_of_lt_of_le h.lt hb.size, fun j v hj => (hb.cell (p := ⟨k, 0 + j, none⟩) h.lt).trans (h.at_ j v hj), fun j hj => ⟨by rw [hb.cell (p := ⟨k, 0 + j, none⟩) h.lt]; exact (h.th j hj).1, by rw [hb.frozen (p := ⟨k, 0 + j, none⟩) h.lt]; exact (h.th j hj).2⟩⟩
theorem Box.below {w w1 : World} {k g : Nat} {cs : List Value} (h : Box w k cs) (hg : k < g) (hb : Below g w w1) : Box w1 k cs :=
  ⟨Nat.lt_of_lt_of_le h.lt hb.size, fun j v hj => (hb.cell (p := ⟨k, 0 + j, none⟩) hg).trans (h.at_ j v hj), fun j hj => ⟨by rw [hb.cell (p := ⟨k, 0 + j, none⟩) hg]; exact (h.th j hj).1, by rw [hb.frozen (p := ⟨k, 0 + j, none⟩) hg]; exact (h.th j hj).2⟩⟩
theorem Box.kept {w w1 : World} {k r : Nat} {cs : List Value} (h : Box w k cs) (hne : k ≠ r) (hg : w.grownBy w1 (some r)) : Box w1 k cs := by
  have hb : w1.heap[k]? = w.heap[k]? := hg.block k h.lt (fun e => hne (Option.some.inj e))
  exact ⟨Nat.lt_of_lt_of_le h.lt hg.size, fun j v hj => by rw [World.cell?_of_block (a := ⟨k, 0 + j, none⟩) hb]; exact h.at_ j v hj, fun j hj => ⟨by rw [World.cell?_of_block (a := ⟨k, 0 + j, none⟩) hb]; exact (h.th j hj).1, by rw [World.frozen?_of_block (a := ⟨k, 0 + j, none⟩) hb]; exact (h.th j hj).2⟩⟩
theorem Box.alloc {w : World} {k : Nat} {cs : List Value} (h : Box w k cs) (o : Obj) : Box (w.alloc o) k cs := h.on (below_alloc w o)
theorem Box.drewN {w : World} {k : Nat} {cs : List Value} (h : Box w k cs) (n : Nat) : Box (w.drewN n) k cs := ⟨h.lt, h.at_, h.th⟩
theorem Box.drew {w : World} {k : Nat} {cs : List Value} (h : Box w k cs) : Box w.drew k cs := ⟨h.lt, h.at_, h.th⟩
theorem Box.new (w : World) (cs : List Value) (e : TypeId) : Box (w.alloc (.cells cs.toArray e)) w.heap.size cs := by
  have hg : (w.alloc (.cells cs.toArray e)).heap[w.heap.size]? = some (.cells cs.toArray e (0, 0)) := heap_alloc_new w _
  refine ⟨by simp, fun j v hj => ?_, fun j hj => ⟨?_, ?_⟩⟩
  · rw [Nat.zero_add, cell_of_row _ _ j _ _ _ hg]; simpa using hj
  · rw [Nat.zero_add, cell_of_row _ _ j _ _ _ hg]; simp [hj]
  · rw [World.frozen?_alloc_at _ _ _ _ rfl]
theorem setCells_grown (b : Nat) : ∀ (vs : List Value) (o : Nat) (w : World), w.grownBy (w.setCells b o vs) (some b)
  | [], _, w => ⟨rfl, rfl, rfl, Nat.le_refl _, fun _ _ _ => rfl⟩
  | v :: r, o, w => by
    have h := setCells_grown b r (o + 1) (w.setCell ⟨b, o, none⟩ v)
    have hs : (w.setCell ⟨b, o, none⟩ v).heap.size = w.heap.size := by simp [World.setCell]
    refine ⟨h.os, h.tape, h.output, by have := h.size; rw [hs] at this; exact this, fun k hk hne => ?_⟩
    have e := h.block k (by rw [hs]; exact hk) hne
    rw [Below.heap_setCell _ _ _ _ (fun e => hne (by rw [e]))] at e
    exact e
theorem setCell_grown (w : World) (k i : Nat) (v : Value) : w.grownBy (w.setCell ⟨k, i, none⟩ v) (some k) := setCells_grown k [v] i w
theorem Box.put {w : World} {k o : Nat} {A B C B' : List Value} (h : Box w k (A ++ (B ++ C))) (hl : B'.length = B.length) (ho : A.length = o) : Box (w.setCells k o B') k (A ++ (B' ++ C)) := by
  have hG := setCells_grown k B' o w
  have hlen : (A ++ (B' ++ C)).length = (A ++ (B ++ C)).length := by simp [hl]
  have hth : w.there k o B'.length := fun j hj => by
    have := h.th (o + j) (by simp; omega)
    rw [Nat.zero_add] at this
    exact this
  refine ⟨Nat.lt_of_lt_of_le h.lt hG.size, ?_, ?_⟩
  · refine rangeAt_join (q := o) ?_ (rangeAt_join (q := o + B.length) ?_ ?_ (by rw [hl])) (by omega)
    · exact World.rangeAt_setCells_apart (rangeAt_left h.at_) k o B' (by omega)
    · exact World.rangeAt_setCells_same w k o B' hth
    · exact World.rangeAt_setCells_apart (rangeAt_right (rangeAt_right h.at_ (q := o) (by omega)) (q := o + B.length) rfl) k o B' (by omega)
  · rw [hlen]; exact World.there_setCells h.th k o B'
theorem Box.cell {w : World} {k : Nat} {cs : List Value} (h : Box w k cs) (j : Nat) (v : Value) (hj : cs[j]? = some v) : w.cell? ⟨k, j, none⟩ = some v := by
  have := h.at_ j v hj
  rwa [Nat.zero_add] at this
theorem Box.free {w : World} {k : Nat} {cs : List Value} (h : Box w k cs) (j : Nat) (hj : j < cs.length) : w.frozen? ⟨k, j, none⟩ = false := by
  have := (h.th j hj).2
  rwa [Nat.zero_add] at this

theorem grown_trans {w w1 w2 : World} {row : Option Nat} (h : w.grownBy w1 row) (k : w1.grownBy w2 row) : w.grownBy w2 row :=
  ⟨k.os.trans h.os, k.tape.trans h.tape, k.output.trans h.output, Nat.le_trans h.size k.size, fun i hi hne => (k.block i (Nat.lt_of_lt_of_le hi h.size) hne).trans (h.block i hi hne)⟩
theorem grown_new {w w1 w2 : World} {row : Option Nat} {k : Nat} (h : w.grownBy w1 row) (g : w1.grownBy w2 (some k)) (hk : w.heap.size ≤ k) : w.grownBy w2 row :=
  ⟨g.os.trans h.os, g.tape.trans h.tape, g.output.trans h.output, Nat.le_trans h.size g.size, fun i hi hne => (g.block i (Nat.lt_of_lt_of_le hi h.size) (fun e => by have := Option.some.inj e; omega)).trans (h.block i hi hne)⟩
theorem grown_alloc {w w1 : World} {row : Option Nat} (h : w.grownBy w1 row) (o : Obj) : w.grownBy (w1.alloc o) row := grown_trans h (World.grownBy_alloc w1 o row)
theorem grown_drew {w w1 : World} {row : Option Nat} (h : w.grownBy w1 row) : w.grownBy w1.drew row := ⟨h.os, h.tape, h.output, h.size, h.block⟩
theorem grown_drewN {w w1 : World} {row : Option Nat} (h : w.grownBy w1 row) (n : Nat) : w.grownBy (w1.drewN n) row := ⟨h.os, h.tape, h.output, h.size, h.block⟩
theorem grown_below {w w1 w2 : World} {row : Option Nat} (h : w.grownBy w1 row) (k : Below w1.heap.size w1 w2) : w.grownBy w2 row :=
  ⟨k.os.trans h.os, k.tape.trans h.tape, k.output.trans h.output, Nat.le_trans h.size k.size, fun i hi hne => (k.block i (Nat.lt_of_lt_of_le hi h.size)).trans (h.block i hi hne)⟩
theorem below_of_grown {B : Nat} {w w1 : World} {r : Nat} (h : w.grownBy w1 (some r)) (hr : B ≤ r) (hB : B ≤ w.heap.size) : Below B w w1 := (Below.refl _ _).grown h hB (fun k hk => by have := Option.some.inj hk; omega)
theorem below_grown {B : Nat} {w w1 w2 : World} {k : Nat} (hb : Below B w w1) (hg : w1.grownBy w2 (some k)) (hk : B ≤ k) (hs : B ≤ w1.heap.size) : Below B w w2 :=
  hb.grown hg hs (fun r hr => by have := Option.some.inj hr; omega)
/-- A load of many cells, as one step. -/
theorem wpl_load {P : Program} {ops : Array Oper} {rest : List Oper} {op : Oper} {a : Act} {w : World} {Q : Exit → Act → World → Prop} (ty : TypeId) (x : Operand) (ho : op.op = .load ty x) (b o : Nat) (cs : List Value) (d : TypeDesc) (hc : w.rangeAt b o cs)
    (hu : P.underlying ty = some d) (hd : d.isRow = true) (hi : (P.info? ty).map (·.size) = some cs.length) (hw : Region.wanted op (yielded ops a.tmps) = true) (hx : a.eval x = .pointer (some ⟨b, o, none⟩))
    (h : wpList P ops Q rest (a.put op.dst (.agg cs.toArray)) w) : wpList P ops Q (op :: rest) a w :=
  wpList_step fun K hK => by rw [if_pos hw]; exact wp_load_mid ty x ho b o hx cs d hc hu hd hi (hK _ _ h)
theorem wpl_frame {ops : Array Oper} {rest : List Oper} {op : Oper} {a : Act} {w : World} {Q : Exit → Act → World → Prop} {k : Nat} {p : Fd} {s : Value} (x : Operand) (ho : op.op = .load 37 x) (hA : Box w k (fcl p s)) (hw : Region.wanted op (yielded ops a.tmps) = true) (hx : a.eval x = .pointer (some ⟨k, 0, none⟩))
    (h : wpList Try.prog ops Q rest (a.put op.dst (.agg (FC p s))) w) : wpList Try.prog ops Q (op :: rest) a w :=
  wpl_load 37 x ho k 0 _ _ hA.at_ Try.underlying37 rfl Try.size37 hw hx h
theorem one_fcl (x : Fd) (s : Value) (hs : s.oneCell' = true) : (FC x s).all (·.oneCell') = true := all_oneCell_toArray (fun v hv => by
  simp only [fcl, dcl, scl, List.mem_cons, List.mem_append, List.not_mem_nil, or_false] at hv
  rcases hv with (rfl | rfl | rfl | rfl | rfl | rfl) | (rfl | rfl | rfl | rfl | rfl | rfl) | rfl | rfl | rfl | rfl | rfl <;> first | rfl | exact hs)
/-- One is stored into a variable of its own. -/
theorem wpl_putF {ops : Array Oper} {rest : List Oper} {op : Oper} {a : Act} {w : World} {Q : Exit → Act → World → Prop} {k : Nat} (p : Fd) (s : Value) (m : Fd) (s0 : Value) (hs : s.oneCell' = true) (x y : Operand) (ho : op.op = .store 37 x y) (ht : Box w k (fcl m s0)) (hw : Region.wanted op (yielded ops a.tmps) = true) (hx : a.eval x = .pointer (some ⟨k, 0, none⟩)) (hy : a.eval y = .agg (FC p s))
    (h : ∀ w', Box w' k (fcl p s) → w.grownBy w' (some k) → wpList Try.prog ops Q rest (a.put op.dst undef) w') : wpList Try.prog ops Q (op :: rest) a w :=
  wpList_step fun K hK => by
    rw [if_pos hw]
    refine wp_store_mid 37 x y ho k 0 (FC p s) hx hy ht.th Try.size37 (one_fcl p s hs) (hK _ _ (h _ ?_ (setCells_grown k _ 0 w)))
    have hb := Box.put (w := w) (k := k) (o := 0) (A := []) (B := fcl m s0) (C := []) (B' := fcl p s) (by simpa using ht) rfl rfl
    rw [List.append_nil, List.nil_append] at hb
    exact hb
/-- The bytes of a list of numbers, as a string has them. -/
def bs (ns : List Int) : ByteArray := ⟨(ns.map fun n => UInt8.ofNat n.toNat).toArray⟩
theorem bs_toList (ns : List Int) : (bs ns).toList = ns.map fun n => UInt8.ofNat n.toNat := by rw [ByteArray.toList_eq]; simp [bs]
theorem u8_inj {x y : Int} (hx : 0 ≤ x ∧ x ≤ 255) (hy : 0 ≤ y ∧ y ≤ 255) (h : UInt8.ofNat x.toNat = UInt8.ofNat y.toNat) : x = y := by
  have h1 := congrArg UInt8.toNat h
  simp at h1
  omega
theorem map_inj : ∀ {a b : List Int}, Rng a → Rng b → (a.map fun n => UInt8.ofNat n.toNat) = (b.map fun n => UInt8.ofNat n.toNat) → a = b
  | [], [], _, _, _ => rfl
  | [], _ :: _, _, _, h => by simp at h
  | _ :: _, [], _, _, h => by simp at h
  | x :: a, y :: b, ha, hb, h => by
    simp only [List.map_cons, List.cons.injEq] at h
    have e := u8_inj (ha x (by simp)) (hb y (by simp)) h.1
    have e2 := map_inj (fun n hn => ha n (by simp [hn])) (fun n hn => hb n (by simp [hn])) h.2
    rw [e, e2]
theorem bs_beq {a b : List Int} (ha : Rng a) (hb : Rng b) : ((bs a).toList == (bs b).toList) = decide (a = b) := by
  rw [bs_toList, bs_toList, Bool.eq_iff_iff]
  simp only [beq_iff_eq, decide_eq_true_eq]
  exact ⟨map_inj ha hb, fun h => by rw [h]⟩
theorem bs_beq_self (a : List Int) : ((bs a).toList == (bs a).toList) = true := by simp
/-- A []byte as a string. -/
theorem bytStr {w : World} {ao : Option Addr} {n c : Nat} {ns : List Int} (h : Byt w ao n c ns) :
    (convert 35 9 (.slice ao n c)).run Try.prog w = .ok (.string (bs ns)) w := by
  rw [run_convert_bytes_string w 35 9 5 _ _ _ Try.underlying35 Try.underlying5 Try.underlying9]
  cases ao with
  | none =>
    obtain ⟨rfl, rfl⟩ := h.nil rfl
    obtain rfl : ns = [] := List.eq_nil_of_length_eq_zero h.len
    rfl
  | some ad =>
    have hl := run_loadCells_list (P := Try.prog) w ad (ns.map (Value.int .u8)) h.src
    rw [List.length_map, h.len] at hl
    rw [run_bytesToString w _ _ _ ns (by simpa using hl), foldl_push_bytes]
    simp [bs]
theorem Box.set {w : World} {k o : Nat} {v v' : Value} {A C : List Value} (h : Box w k (A ++ (v :: C))) (ho : A.length = o) : Box (w.setCell ⟨k, o, none⟩ v') k (A ++ (v' :: C)) :=
  Box.put (B := [v]) (B' := [v']) (C := C) h rfl ho
theorem own_byt {w : World} {base : Nat} {v : Value} {n : Nat} {ns : List Int} (h : w.ownsRow base 5 1 v n (ns.map (Value.int .u8))) (hr : Rng ns) : ∃ ao c, v = .slice ao n c ∧ Byt w ao n c ns := by
  have hl : ns.length = n := by have := h.1; simpa using this
  rcases h.2 with ⟨rfl, rfl⟩ | ⟨g, cap, cur, rfl, hb, hg, hn, hm, hs, ht⟩
  · exact ⟨none, 0, rfl, ⟨hl, fun _ => ⟨rfl, rfl⟩, fun j hj => by omega, Nat.le_refl _, Nat.zero_le _, hr⟩⟩
  · refine ⟨_, _, rfl, ⟨hl, fun e => (by cases e), fun j hj => ⟨g, 0, rfl, ?_⟩, hn, hm, hr⟩⟩
    have hc := h.cells (g := g) rfl j (.int .u8 (ns.getD j 0)) (by
      rw [List.getElem?_map, List.getElem?_eq_getElem (by omega), List.getD_eq_getElem?_getD, List.getElem?_eq_getElem (by omega)]; rfl)
    rw [Addr.add_lit] at hc
    exact hc
/-- A slice of bytes of the call's own. -/
def Row (w : World) (base : Nat) (v : Value) (n : Nat) (ns : List Int) : Prop := w.ownsRow base 5 1 v n (ns.map (Value.int .u8))
theorem Row.nil (w : World) (base : Nat) : Row w base (.slice none 0 0) 0 [] := World.ownsRow_nil _ _ _ _
theorem Row.byt {w : World} {base : Nat} {v : Value} {n : Nat} {ns : List Int} (h : Row w base v n ns) (hr : Rng ns) : ∃ ao c, v = .slice ao n c ∧ Byt w ao n c ns := own_byt h hr
theorem Row.alloc {w : World} {base : Nat} {v : Value} {n : Nat} {ns : List Int} (h : Row w base v n ns) (o : Obj) : Row (w.alloc o) base v n ns := World.ownsRow.alloc h o
theorem Row.on {w w1 : World} {base : Nat} {v : Value} {n : Nat} {ns : List Int} (h : Row w base v n ns) (hb : Below w.heap.size w w1) : Row w1 base v n ns :=
  World.ownsRow.kept (row := none) h ⟨hb.os, hb.tape, hb.output, hb.size, fun k hk _ => hb.block k hk⟩ (by cases hv : v.ownBlock <;> simp)
theorem wpl_app {ops : Array Oper} {rest : List Oper} {o : Oper} {a : Act} {w : World} {Q : Exit → Act → World → Prop} (hgd : o.guard = none) (s x : Operand)
    (ho : o.op = .call { callee := .builtin .append, args := #[s, x], argTypes := #[35, 35] })
    (base : Nat) (v : Value) (n : Nat) (xs : List Int) (hs : a.eval s = v) (hown : Row w base v n xs) (ao : Option Addr) (m c : Nat) (ns : List Int) (hx : a.eval x = .slice ao m c) (hB : Byt w ao m c ns)
    (h1 : n + m ≤ 100000) (hbase : base ≤ w.heap.size)
    (h : ∀ v' w', Row w' base v' (n + m) (xs ++ ns) → Below base w w' → wpList Try.prog ops Q rest (a.put o.dst v') w') : wpList Try.prog ops Q (o :: rest) a w := by
  obtain ⟨i0, hi, hz0, hz1, hz2⟩ := info_parts Try.info5
  cases ao with
  | none =>
    obtain ⟨rfl, rfl⟩ := hB.nil rfl
    obtain rfl : ns = [] := List.eq_nil_of_length_eq_zero hB.len
    refine wpList_append_own_none hgd s x 35 ho base 5 i0 1 Try.underlying35 hi v n (xs.map (Value.int .u8)) hs hown hx ?_
    refine h v w ?_ (Below.refl _ _)
    rw [List.append_nil]
    exact hown
  | some ad =>
    refine wpList_append_own _ hgd s x 35 ho base 5 i0 (.int .u8 0) 1 1 Try.underlying35 hi hz0 hz1 hz2 rfl (by decide) v n (xs.map (Value.int .u8)) hs hown ad m c (ns.map (Value.int .u8)) hx (by simp [hB.len]) hB.src (one_u8 ns) (by unfold maxLen; omega) (by omega) hbase ?_
    intro v' w' h2 h3 _
    refine h v' w' ?_ ((Below.refl _ _).grown h3 hbase (fun k hk => (hown.lt k hk).1))
    unfold Row
    rw [List.map_append]
    exact h2

theorem Row.lit {w : World} {base : Nat} (cs : Array Value) (ns : List Int) (n : Nat) (hc : cs.toList = ns.map (Value.int .u8)) (hl : cs.size = n) (hn : n ≤ 1000) (hb : base ≤ w.heap.size) : Row (w.alloc (.cells cs 5)) base (.slice (some ⟨w.heap.size, 0, none⟩) n n) n ns := by
  unfold Row
  rw [← hc]
  exact World.ownsRow_lit w cs n hb (by unfold maxLen; omega) (by omega)
/-- What others' blocks are left as they were: those below N, and those from B on. -/
structure Mid (N B : Nat) (w w' : World) : Prop where
  os : w'.os = w.os
  tape : w'.tape = w.tape
  output : w'.output = w.output
  size : w.heap.size ≤ w'.heap.size
  block : ∀ i, i < w.heap.size → (i < N ∨ B ≤ i) → w'.heap[i]? = w.heap[i]?
theorem Mid.refl (N B : Nat) (w : World) : Mid N B w w := ⟨rfl, rfl, rfl, Nat.le_refl _, fun _ _ _ => rfl⟩
theorem Mid.trans {N B : Nat} {w w1 w2 : World} (h : Mid N B w w1) (k : Mid N B w1 w2) : Mid N B w w2 :=
  ⟨k.os.trans h.os, k.tape.trans h.tape, k.output.trans h.output, Nat.le_trans h.size k.size, fun i hi hb => (k.block i (Nat.lt_of_lt_of_le hi h.size) hb).trans (h.block i hi hb)⟩
theorem Mid.on {N B : Nat} {w w1 w2 : World} (h : Mid N B w w1) (k : Below w1.heap.size w1 w2) : Mid N B w w2 :=
  ⟨k.os.trans h.os, k.tape.trans h.tape, k.output.trans h.output, Nat.le_trans h.size k.size, fun i hi hb => (k.block i (Nat.lt_of_lt_of_le hi h.size)).trans (h.block i hi hb)⟩
theorem Mid.grown {N B k : Nat} {w w1 w2 : World} (h : Mid N B w w1) (g : w1.grownBy w2 (some k)) (hk : w.heap.size ≤ k ∨ (N ≤ k ∧ k < B)) : Mid N B w w2 :=
  ⟨g.os.trans h.os, g.tape.trans h.tape, g.output.trans h.output, Nat.le_trans h.size g.size, fun i hi hb => (g.block i (Nat.lt_of_lt_of_le hi h.size) (fun e => by have := Option.some.inj e; omega)).trans (h.block i hi hb)⟩
theorem Mid.below {N B : Nat} {w w1 : World} (h : Mid N B w w1) (hN : N ≤ w.heap.size) : Below N w w1 :=
  ⟨h.os, h.tape, h.output, h.size, fun i hi => h.block i (Nat.lt_of_lt_of_le hi hN) (Or.inl hi)⟩
/-- A slice of numbers, in blocks from B on. -/
structure Its (w : World) (B : Nat) (ao : Option Addr) (n c : Nat) (ns : List Int) : Prop where
  len : ns.length = n
  nil : ao = none → n = 0 ∧ c = 0
  cell : ∀ j, j < n → ∃ b o, ao = some ⟨b, o, none⟩ ∧ B ≤ b ∧ w.cell? ⟨b, o + j, none⟩ = some (.int .i64 (ns.getD j 0))
  le : n ≤ c
  mx : c ≤ maxLen
theorem Its.mid {w w1 : World} {N M B : Nat} {ao : Option Addr} {n c : Nat} {ns : List Int} (h : Its w B ao n c ns) (hb : Mid N M w w1) (hM : M ≤ B) : Its w1 B ao n c ns :=
  ⟨h.len, h.nil, fun j hj => by
    obtain ⟨b, o, e, hB, hc⟩ := h.cell j hj
    have hl := World.block_lt_of_cell? w _ hc
    refine ⟨b, o, e, hB, ?_⟩
    rw [World.cell?_of_block (a := ⟨b, o + j, none⟩) (hb.block b hl (Or.inr (by omega)))]
    exact hc, h.le, h.mx⟩
theorem Its.on {w w1 : World} {B : Nat} {ao : Option Addr} {n c : Nat} {ns : List Int} (h : Its w B ao n c ns) (hb : Below w.heap.size w w1) : Its w1 B ao n c ns :=
  ⟨h.len, h.nil, fun j hj => by
    obtain ⟨b, o, e, hB, hc⟩ := h.cell j hj
    exact ⟨b, o, e, hB, (hb.cell (p := ⟨b, o + j, none⟩) (World.block_lt_of_cell? w _ hc)).trans hc⟩, h.le, h.mx⟩
theorem Its.mono {w : World} {B B' : Nat} {ao : Option Addr} {n c : Nat} {ns : List Int} (h : Its w B ao n c ns) (hB : B' ≤ B) : Its w B' ao n c ns :=
  ⟨h.len, h.nil, fun j hj => by
    obtain ⟨b, o, e, hB', hc⟩ := h.cell j hj
    exact ⟨b, o, e, by omega, hc⟩, h.le, h.mx⟩
theorem Its.drew {w : World} {B : Nat} {ao : Option Addr} {n c : Nat} {ns : List Int} (h : Its w B ao n c ns) : Its w.drew B ao n c ns := ⟨h.len, h.nil, h.cell, h.le, h.mx⟩
theorem Its.at {w : World} {B : Nat} {ao : Option Addr} {n c : Nat} {ns : List Int} (h : Its w B ao n c ns) (hn : 0 < n) : ∃ b o, ao = some ⟨b, o, none⟩ ∧ (∀ j, j < n → w.cell? ⟨b, o + j, none⟩ = some (.int .i64 (ns.getD j 0))) ∧ b < w.heap.size := by
  obtain ⟨b, o, rfl, _, hc⟩ := h.cell 0 hn
  refine ⟨b, o, rfl, fun j hj => ?_, World.block_lt_of_cell? w _ hc⟩
  obtain ⟨b', o', e, _, hc'⟩ := h.cell j hj
  have e1 := Option.some.inj e
  injection e1 with e2 e3
  subst e2 e3
  exact hc'
/-- A slice of numbers of the call's own. -/
def IRow (w : World) (base : Nat) (v : Value) (n : Nat) (ns : List Int) : Prop := w.ownsRow base 3 1 v n (ns.map (Value.int .i64))
theorem IRow.nil (w : World) (base : Nat) : IRow w base (.slice none 0 0) 0 [] := World.ownsRow_nil _ _ _ _
theorem IRow.its {w : World} {base : Nat} {v : Value} {n : Nat} {ns : List Int} (h : IRow w base v n ns) : ∃ ao c, v = .slice ao n c ∧ Its w base ao n c ns := by
  have hl : ns.length = n := by have := h.1; simpa using this
  have h0 := h
  unfold IRow at h0
  rcases h.2 with ⟨rfl, rfl⟩ | ⟨g, cap, cur, rfl, hb, hg, hn, hm, hs, ht⟩
  · exact ⟨none, 0, rfl, ⟨hl, fun _ => ⟨rfl, rfl⟩, fun j hj => by omega, Nat.le_refl _, Nat.zero_le _⟩⟩
  · refine ⟨_, _, rfl, ⟨hl, fun e => (by cases e), fun j hj => ⟨g, 0, rfl, hb, ?_⟩, hn, hm⟩⟩
    have hc := h0.cells (g := g) rfl j (.int .i64 (ns.getD j 0)) (by
      rw [List.getElem?_map, List.getElem?_eq_getElem (by omega), List.getD_eq_getElem?_getD, List.getElem?_eq_getElem (by omega)]; rfl)
    rw [Addr.add_lit] at hc
    exact hc
theorem IRow.alloc {w : World} {base : Nat} {v : Value} {n : Nat} {ns : List Int} (h : IRow w base v n ns) (o : Obj) : IRow (w.alloc o) base v n ns := World.ownsRow.alloc h o
theorem IRow.on {w w1 : World} {base : Nat} {v : Value} {n : Nat} {ns : List Int} (h : IRow w base v n ns) (hb : Below w.heap.size w w1) : IRow w1 base v n ns :=
  World.ownsRow.kept (row := none) h ⟨hb.os, hb.tape, hb.output, hb.size, fun k hk _ => hb.block k hk⟩ (by cases hv : v.ownBlock <;> simp)
theorem one_i64 (ns : List Int) : ∀ u ∈ ns.map (Value.int .i64), u.oneCell' = true := by
  intro u hu
  obtain ⟨x, _, rfl⟩ := List.mem_map.1 hu
  rfl
/-- One number more. -/
theorem wpl_iapp {ops : Array Oper} {rest : List Oper} {o : Oper} {a : Act} {w : World} {Q : Exit → Act → World → Prop} (hgd : o.guard = none) (s x : Operand)
    (ho : o.op = .call { callee := .builtin .append, args := #[s, x], argTypes := #[29, 29] })
    (base : Nat) (v : Value) (n : Nat) (xs : List Int) (hs : a.eval s = v) (hown : IRow w base v n xs) (ad : Addr) (y : Int) (hx : a.eval x = .slice (some ad) 1 1) (hB : w.cell? ad = some (.int .i64 y))
    (h1 : n + 1 ≤ 100000) (hbase : base ≤ w.heap.size)
    (h : ∀ v' w', IRow w' base v' (n + 1) (xs ++ [y]) → Below base w w' → w.grownBy w' v.ownBlock → wpList Try.prog ops Q rest (a.put o.dst v') w') : wpList Try.prog ops Q (o :: rest) a w := by
  obtain ⟨i0, hi, hz0, hz1, hz2⟩ := info_parts Try.info3
  refine wpList_append_own _ hgd s x 29 ho base 3 i0 (.int .i64 0) 1 8 Try.underlying29 hi hz0 hz1 hz2 rfl (by decide) v n (xs.map (Value.int .i64)) hs hown ad 1 1 [.int .i64 y] hx (by simp) ?_ (by intro u hu; simp at hu; subst hu; rfl) (by unfold maxLen; omega) (by omega) hbase ?_
  · intro j u hj
    cases j with
    | zero =>
      simp at hj
      subst hj
      obtain ⟨b, o, sp⟩ := ad
      simpa [Addr.add] using hB
    | succ j => simp at hj
  · intro v' w' h2 h3 _
    refine h v' w' ?_ ((Below.refl _ _).grown h3 hbase (fun k hk => (hown.lt k hk).1)) h3
    unfold IRow
    rw [List.map_append]
    exact h2
end Go.Proofs.Ytelinahpneikiaa
