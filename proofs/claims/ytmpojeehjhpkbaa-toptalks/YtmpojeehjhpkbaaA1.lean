/- Memory: a list of bytes, and a frame; how both stay while others do something. Contracts of Right, as the program and as the document has it. -/
import Derived.Test.YtmpojeehjhpkbaaRows
import Derived.Test.YtmpojeehjhpkbaaPlain
import Derived.Deep.RegionHeld3
import Derived.ChangeKeysEq
import Derived.Laws.BytesArg
import Derived.BigQuiet
import Derived.Deep.MidRow
namespace Go.Proofs.Ytmpojeehjhpkbaa
open Go.RowKit

theorem bcell {W w1 : World} (hb : Below W.heap.size W w1) : (∀ b o, b < W.heap.size → w1.cell? ⟨b, o, none⟩ = W.cell? ⟨b, o, none⟩) ∧ (∀ b o, b < W.heap.size → w1.frozen? ⟨b, o, none⟩ = W.frozen? ⟨b, o, none⟩) :=
  ⟨fun b o h => hb.cell (p := ⟨b, o, none⟩) h, fun b o h => hb.frozen (p := ⟨b, o, none⟩) h⟩
theorem hide {p : Prop} (h : p) : Hid p := h
theorem ret_bool {a b : Bool} (h : a = b) : Ending.returned (.bool a) = .returned (.bool b) := by rw [h]
theorem ret_int {k : IntKind} {a b : Int} (h : a = b) : Ending.returned (.int k a) = .returned (.int k b) := by rw [h]
theorem belowOn {w wr w1 : World} (hB : Below w.heap.size w wr) (hb : Below wr.heap.size wr w1) : Below w.heap.size w w1 := hB.trans (hb.mono hB.size)
theorem Try.cells5 : Try.prog.cellsOf 5 = 1 := by kernel_rfl
theorem Try.cells23 : Try.prog.cellsOf 23 = 6 := by kernel_rfl
theorem Try.cells26 : Try.prog.cellsOf 26 = 17 := by kernel_rfl
theorem Try.info5 : (Try.prog.info? 5).map (fun i => (i.zero, i.size, i.bytes)) = some (some (.int .u8 0), 1, 1) := by kernel_rfl

/-- A slice's bytes. -/
structure Byt (w : World) (ao : Option Addr) (n c : Nat) (ns : List Int) : Prop where
  len : ns.length = n
  nil : ao = none → n = 0 ∧ c = 0
  cell : ∀ j, j < n → ∃ b o, ao = some ⟨b, o, none⟩ ∧ w.cell? ⟨b, o + j, none⟩ = some (.int .u8 (ns.getD j 0))
  le : n ≤ c
  mx : c ≤ maxLen
  rng : Rng ns

theorem Byt.on {w w1 : World} {ao : Option Addr} {n c : Nat} {ns : List Int} (h : Byt w ao n c ns) (hb : Below w.heap.size w w1) : Byt w1 ao n c ns :=
  ⟨h.len, h.nil, fun j hj => by
    obtain ⟨b, o, e, hc⟩ := h.cell j hj
    exact ⟨b, o, e, (hb.cell (p := ⟨b, o + j, none⟩) (World.block_lt_of_cell? w _ hc)).trans hc⟩, h.le, h.mx, h.rng⟩
theorem Byt.nothing (w : World) : Byt w none 0 0 [] := ⟨rfl, fun _ => ⟨rfl, rfl⟩, fun j hj => by omega, Nat.le_refl _, Nat.zero_le _, rng_nil⟩
theorem Byt.at {w : World} {ao : Option Addr} {n c : Nat} {ns : List Int} (h : Byt w ao n c ns) (hn : 0 < n) : ∃ b o, ao = some ⟨b, o, none⟩ ∧ (∀ j, j < n → w.cell? ⟨b, o + j, none⟩ = some (.int .u8 (ns.getD j 0))) ∧ b < w.heap.size := by
  obtain ⟨b, o, rfl, hc⟩ := h.cell 0 hn
  refine ⟨b, o, rfl, fun j hj => ?_, World.block_lt_of_cell? w _ hc⟩
  obtain ⟨b', o', e, hc'⟩ := h.cell j hj
  have e1 := Option.some.inj e
  injection e1 with e2 e3
  subst e2 e3
  exact hc'

/-- A frame in memory. -/
structure AtF (w : World) (k : Nat) (f : Fd) (b : Value) : Prop where
  lt : k < w.heap.size
  c0 : w.cell? ⟨k, 0, none⟩ = some (.int .u8 f.d0)
  c1 : w.cell? ⟨k, 1, none⟩ = some (.int .u8 f.d1)
  c2 : w.cell? ⟨k, 2, none⟩ = some (.int .u8 f.d2)
  c3 : w.cell? ⟨k, 3, none⟩ = some (.int .u8 f.d3)
  c4 : w.cell? ⟨k, 4, none⟩ = some (.int .u8 f.d4)
  c5 : w.cell? ⟨k, 5, none⟩ = some (.int .u8 f.d5)
  c6 : w.cell? ⟨k, 6, none⟩ = some (.int .u8 f.s0)
  c7 : w.cell? ⟨k, 7, none⟩ = some (.int .u8 f.s1)
  c8 : w.cell? ⟨k, 8, none⟩ = some (.int .u8 f.s2)
  c9 : w.cell? ⟨k, 9, none⟩ = some (.int .u8 f.s3)
  c10 : w.cell? ⟨k, 10, none⟩ = some (.int .u8 f.s4)
  c11 : w.cell? ⟨k, 11, none⟩ = some (.int .u8 f.s5)
  c12 : w.cell? ⟨k, 12, none⟩ = some (.bool f.tg)
  c13 : w.cell? ⟨k, 13, none⟩ = some (.int .i64 f.vl)
  c14 : w.cell? ⟨k, 14, none⟩ = some (.int .i64 f.pr)
  c15 : w.cell? ⟨k, 15, none⟩ = some (.int .i64 f.ty)
  c16 : w.cell? ⟨k, 16, none⟩ = some b

theorem AtF.on {w w1 : World} {k : Nat} {f : Fd} {b : Value} (h : AtF w k f b) (hb : Below w.heap.size w w1) : AtF w1 k f b := by
  have e : ∀ i, w1.cell? ⟨k, i, none⟩ = w.cell? ⟨k, i, none⟩ := fun i => hb.cell (p := ⟨k, i, none⟩) h.lt
  exact ⟨Nat.lt_of_lt_of_le h.lt hb.size, by rw [e]; exact h.c0, by rw [e]; exact h.c1, by rw [e]; exact h.c2, by rw [e]; exact h.c3, by rw [e]; exact h.c4, by rw [e]; exact h.c5, by rw [e]; exact h.c6, by rw [e]; exact h.c7, by rw [e]; exact h.c8, by rw [e]; exact h.c9, by rw [e]; exact h.c10, by rw [e]; exact h.c11, by rw [e]; exact h.c12, by rw [e]; exact h.c13, by rw [e]; exact h.c14, by rw [e]; exact h.c15, by rw [e]; exact h.c16⟩
theorem AtF.new (w : World) (f : Fd) (b : Value) : AtF (w.alloc (.cells #[.int .u8 f.d0, .int .u8 f.d1, .int .u8 f.d2, .int .u8 f.d3, .int .u8 f.d4, .int .u8 f.d5, .int .u8 f.s0, .int .u8 f.s1, .int .u8 f.s2, .int .u8 f.s3, .int .u8 f.s4, .int .u8 f.s5, .bool f.tg, .int .i64 f.vl, .int .i64 f.pr, .int .i64 f.ty, b] 26)) w.heap.size f b :=
  ⟨by simp, by simp, by simp, by simp, by simp, by simp, by simp, by simp, by simp, by simp, by simp, by simp, by simp, by simp, by simp, by simp, by simp, by simp⟩
theorem below_alloc (w : World) (o : Obj) : Below w.heap.size w (w.alloc o) := (Below.refl _ _).alloc (Nat.le_refl _) o
theorem AtF.alloc {w : World} {k : Nat} {f : Fd} {b : Value} (h : AtF w k f b) (o : Obj) : AtF (w.alloc o) k f b := h.on (below_alloc w o)
theorem Byt.alloc {w : World} {ao : Option Addr} {n c : Nat} {ns : List Int} (h : Byt w ao n c ns) (o : Obj) : Byt (w.alloc o) ao n c ns := h.on (below_alloc w o)

theorem AtF.all {w : World} {k : Nat} {f : Fd} {b : Value} (h : AtF w k f b) : w.rangeAt k 0 [.int .u8 f.d0, .int .u8 f.d1, .int .u8 f.d2, .int .u8 f.d3, .int .u8 f.d4, .int .u8 f.d5, .int .u8 f.s0, .int .u8 f.s1, .int .u8 f.s2, .int .u8 f.s3, .int .u8 f.s4, .int .u8 f.s5, .bool f.tg, .int .i64 f.vl, .int .i64 f.pr, .int .i64 f.ty, b] := by
  intro j v hj
  rw [Nat.zero_add]
  match j, hj with
  | 0, hj => simp at hj; subst hj; exact h.c0
  | 1, hj => simp at hj; subst hj; exact h.c1
  | 2, hj => simp at hj; subst hj; exact h.c2
  | 3, hj => simp at hj; subst hj; exact h.c3
  | 4, hj => simp at hj; subst hj; exact h.c4
  | 5, hj => simp at hj; subst hj; exact h.c5
  | 6, hj => simp at hj; subst hj; exact h.c6
  | 7, hj => simp at hj; subst hj; exact h.c7
  | 8, hj => simp at hj; subst hj; exact h.c8
  | 9, hj => simp at hj; subst hj; exact h.c9
  | 10, hj => simp at hj; subst hj; exact h.c10
  | 11, hj => simp at hj; subst hj; exact h.c11
  | 12, hj => simp at hj; subst hj; exact h.c12
  | 13, hj => simp at hj; subst hj; exact h.c13
  | 14, hj => simp at hj; subst hj; exact h.c14
  | 15, hj => simp at hj; subst hj; exact h.c15
  | 16, hj => simp at hj; subst hj; exact h.c16
theorem AtF.dst {w : World} {k : Nat} {f : Fd} {b : Value} (h : AtF w k f b) : w.rangeAt k 0 [.int .u8 f.d0, .int .u8 f.d1, .int .u8 f.d2, .int .u8 f.d3, .int .u8 f.d4, .int .u8 f.d5] := by
  intro j v hj
  rw [Nat.zero_add]
  match j, hj with
  | 0, hj => simp at hj; subst hj; exact h.c0
  | 1, hj => simp at hj; subst hj; exact h.c1
  | 2, hj => simp at hj; subst hj; exact h.c2
  | 3, hj => simp at hj; subst hj; exact h.c3
  | 4, hj => simp at hj; subst hj; exact h.c4
  | 5, hj => simp at hj; subst hj; exact h.c5
theorem AtF.src {w : World} {k : Nat} {f : Fd} {b : Value} (h : AtF w k f b) : w.rangeAt k 6 [.int .u8 f.s0, .int .u8 f.s1, .int .u8 f.s2, .int .u8 f.s3, .int .u8 f.s4, .int .u8 f.s5] := by
  intro j v hj
  match j, hj with
  | 0, hj => simp at hj; subst hj; exact h.c6
  | 1, hj => simp at hj; subst hj; exact h.c7
  | 2, hj => simp at hj; subst hj; exact h.c8
  | 3, hj => simp at hj; subst hj; exact h.c9
  | 4, hj => simp at hj; subst hj; exact h.c10
  | 5, hj => simp at hj; subst hj; exact h.c11
/-- A load of many cells, as one step. -/
theorem wpl_load {P : Program} {ops : Array Oper} {rest : List Oper} {op : Oper} {a : Act} {w : World} {Q : Exit → Act → World → Prop} (ty : TypeId) (x : Operand) (ho : op.op = .load ty x) (b o : Nat) (cs : List Value) (d : TypeDesc) (hc : w.rangeAt b o cs)
    (hu : P.underlying ty = some d) (hd : d.isRow = true) (hi : (P.info? ty).map (·.size) = some cs.length) (hw : Region.wanted op (yielded ops a.tmps) = true) (hx : a.eval x = .pointer (some ⟨b, o, none⟩))
    (h : wpList P ops Q rest (a.put op.dst (.agg cs.toArray)) w) : wpList P ops Q (op :: rest) a w :=
  wpList_step fun K hK => by rw [if_pos hw]; exact wp_load_mid ty x ho b o hx cs d hc hu hd hi (hK _ _ h)
theorem Try.size26 : (Try.prog.info? 26).map (·.size) = some 17 := by kernel_rfl
theorem Try.size23 : (Try.prog.info? 23).map (·.size) = some 6 := by kernel_rfl
/-- A frame is loaded. -/
theorem wpl_frame {ops : Array Oper} {rest : List Oper} {op : Oper} {a : Act} {w : World} {Q : Exit → Act → World → Prop} {k : Nat} {f : Fd} {b : Value} (x : Operand) (ho : op.op = .load 26 x) (hA : AtF w k f b) (hw : Region.wanted op (yielded ops a.tmps) = true) (hx : a.eval x = .pointer (some ⟨k, 0, none⟩))
    (h : wpList Try.prog ops Q rest (a.put op.dst (.agg #[.int .u8 f.d0, .int .u8 f.d1, .int .u8 f.d2, .int .u8 f.d3, .int .u8 f.d4, .int .u8 f.d5, .int .u8 f.s0, .int .u8 f.s1, .int .u8 f.s2, .int .u8 f.s3, .int .u8 f.s4, .int .u8 f.s5, .bool f.tg, .int .i64 f.vl, .int .i64 f.pr, .int .i64 f.ty, b])) w) : wpList Try.prog ops Q (op :: rest) a w :=
  wpl_load 26 x ho k 0 _ _ hA.all Try.underlying26 rfl Try.size26 hw hx h
theorem wpl_dst {ops : Array Oper} {rest : List Oper} {op : Oper} {a : Act} {w : World} {Q : Exit → Act → World → Prop} {k : Nat} {f : Fd} {b : Value} (x : Operand) (ho : op.op = .load 23 x) (hA : AtF w k f b) (hw : Region.wanted op (yielded ops a.tmps) = true) (hx : a.eval x = .pointer (some ⟨k, 0, none⟩))
    (h : wpList Try.prog ops Q rest (a.put op.dst (.agg #[.int .u8 f.d0, .int .u8 f.d1, .int .u8 f.d2, .int .u8 f.d3, .int .u8 f.d4, .int .u8 f.d5])) w) : wpList Try.prog ops Q (op :: rest) a w :=
  wpl_load 23 x ho k 0 _ _ hA.dst Try.underlying23 rfl Try.size23 hw hx h
theorem wpl_src {ops : Array Oper} {rest : List Oper} {op : Oper} {a : Act} {w : World} {Q : Exit → Act → World → Prop} {k : Nat} {f : Fd} {b : Value} (x : Operand) (ho : op.op = .load 23 x) (hA : AtF w k f b) (hw : Region.wanted op (yielded ops a.tmps) = true) (hx : a.eval x = .pointer (some ⟨k, 6, none⟩))
    (h : wpList Try.prog ops Q rest (a.put op.dst (.agg #[.int .u8 f.s0, .int .u8 f.s1, .int .u8 f.s2, .int .u8 f.s3, .int .u8 f.s4, .int .u8 f.s5])) w) : wpList Try.prog ops Q (op :: rest) a w :=
  wpl_load 23 x ho k 6 _ _ hA.src Try.underlying23 rfl Try.size23 hw hx h
theorem AtF.of {w : World} {k : Nat} {f : Fd} {b : Value} (h : w.rangeAt k 0 [.int .u8 f.d0, .int .u8 f.d1, .int .u8 f.d2, .int .u8 f.d3, .int .u8 f.d4, .int .u8 f.d5, .int .u8 f.s0, .int .u8 f.s1, .int .u8 f.s2, .int .u8 f.s3, .int .u8 f.s4, .int .u8 f.s5, .bool f.tg, .int .i64 f.vl, .int .i64 f.pr, .int .i64 f.ty, b]) : AtF w k f b :=
  ⟨World.block_lt_of_cell? w _ (h 0 _ rfl), (h 0 _ rfl), (h 1 _ rfl), (h 2 _ rfl), (h 3 _ rfl), (h 4 _ rfl), (h 5 _ rfl), (h 6 _ rfl), (h 7 _ rfl), (h 8 _ rfl), (h 9 _ rfl), (h 10 _ rfl), (h 11 _ rfl), (h 12 _ rfl), (h 13 _ rfl), (h 14 _ rfl), (h 15 _ rfl), (h 16 _ rfl)⟩
theorem setCells_grown (b : Nat) : ∀ (vs : List Value) (o : Nat) (w : World), w.grownBy (w.setCells b o vs) (some b)
  | [], _, w => ⟨rfl, rfl, rfl, Nat.le_refl _, fun _ _ _ => rfl⟩
  | v :: r, o, w => by
    have h := setCells_grown b r (o + 1) (w.setCell ⟨b, o, none⟩ v)
    have hs : (w.setCell ⟨b, o, none⟩ v).heap.size = w.heap.size := by simp [World.setCell]
    refine ⟨h.os, h.tape, h.output, by have := h.size; rw [hs] at this; exact this, fun k hk hne => ?_⟩
    have e := h.block k (by rw [hs]; exact hk) hne
    rw [Below.heap_setCell _ _ _ _ (fun e => hne (by rw [e]))] at e
    exact e
/-- A frame is stored into a block of its own. -/
theorem wpl_put {ops : Array Oper} {rest : List Oper} {op : Oper} {a : Act} {w : World} {Q : Exit → Act → World → Prop} {k : Nat} (f : Fd) (ao : Option Addr) (n c : Nat) (x y : Operand) (ho : op.op = .store 26 x y) (ht : w.there k 0 17) (hw : Region.wanted op (yielded ops a.tmps) = true) (hx : a.eval x = .pointer (some ⟨k, 0, none⟩)) (hy : a.eval y = .agg #[.int .u8 f.d0, .int .u8 f.d1, .int .u8 f.d2, .int .u8 f.d3, .int .u8 f.d4, .int .u8 f.d5, .int .u8 f.s0, .int .u8 f.s1, .int .u8 f.s2, .int .u8 f.s3, .int .u8 f.s4, .int .u8 f.s5, .bool f.tg, .int .i64 f.vl, .int .i64 f.pr, .int .i64 f.ty, (.slice ao n c)])
    (h : ∀ w', AtF w' k f (.slice ao n c) → w'.there k 0 17 → w.grownBy w' (some k) → wpList Try.prog ops Q rest (a.put op.dst undef) w') : wpList Try.prog ops Q (op :: rest) a w :=
  wpList_step fun K hK => by
    rw [if_pos hw]
    refine wp_store_mid 26 x y ho k 0 #[.int .u8 f.d0, .int .u8 f.d1, .int .u8 f.d2, .int .u8 f.d3, .int .u8 f.d4, .int .u8 f.d5, .int .u8 f.s0, .int .u8 f.s1, .int .u8 f.s2, .int .u8 f.s3, .int .u8 f.s4, .int .u8 f.s5, .bool f.tg, .int .i64 f.vl, .int .i64 f.pr, .int .i64 f.ty, (.slice ao n c)] hx hy ht Try.size26 (by simp [Value.oneCell']) (hK _ _ (h _ ?_ (World.there_setCells ht k 0 _) ?_))
    · exact AtF.of (World.rangeAt_setCells_same w k 0 _ ht)
    · exact setCells_grown k _ 0 w
end Go.Proofs.Ytmpojeehjhpkbaa
