/- Memory: a list of ints; an own one that grows. -/
import Derived.Test.YtmpojeehjhpkbaaRs
namespace Go.Proofs.Ytmpojeehjhpkbaa
open Go.RowKit Go.PlainAid

/-- A slice of numbers, in blocks from B on. -/
structure Its (w : World) (B : Nat) (ao : Option Addr) (n c : Nat) (ns : List Int) : Prop where
  len : ns.length = n
  nil : ao = none → n = 0 ∧ c = 0
  cell : ∀ j, j < n → ∃ b o, ao = some ⟨b, o, none⟩ ∧ B ≤ b ∧ w.cell? ⟨b, o + j, none⟩ = some (.int .i64 (ns.getD j 0))
  le : n ≤ c
  mx : c ≤ maxLen
theorem Its.on {w w1 : World} {B : Nat} {ao : Option Addr} {n c : Nat} {ns : List Int} (h : Its w B ao n c ns) (hb : Below w.heap.size w w1) : Its w1 B ao n c ns :=
  ⟨h.len, h.nil, fun j hj => by
    obtain ⟨b, o, e, hB, hc⟩ := h.cell j hj
    exact ⟨b, o, e, hB, (hb.cell (p := ⟨b, o + j, none⟩) (World.block_lt_of_cell? w _ hc)).trans hc⟩, h.le, h.mx⟩
theorem Its.mono {w : World} {B B' : Nat} {ao : Option Addr} {n c : Nat} {ns : List Int} (h : Its w B ao n c ns) (hB : B' ≤ B) : Its w B' ao n c ns :=
  ⟨h.len, h.nil, fun j hj => by
    obtain ⟨b, o, e, hB', hc⟩ := h.cell j hj
    exact ⟨b, o, e, by omega, hc⟩, h.le, h.mx⟩
theorem Its.drew {w : World} {B : Nat} {ao : Option Addr} {n c : Nat} {ns : List Int} (h : Its w B ao n c ns) : Its w.drew B ao n c ns := ⟨h.len, h.nil, h.cell, h.le, h.mx⟩
theorem Its.at {w : World} {B : Nat} {ao : Option Addr} {n c : Nat} {ns : List Int} (h : Its w B ao n c ns) (hn : 0 < n) : ∃ b o, ao = some ⟨b, o, none⟩ ∧ (∀ j, j < n → w.cell? ⟨b, o + j, none⟩ = some (.int .i64 (ns.getD j 0))) ∧ b < w.heap.size := by
  obtain ⟨b, o, rfl, _, hc⟩ := h.cell 0 hn
  refine ⟨b, o, rfl, fun j hj => ?_, World.block_lt_of_cell? w _ hc⟩
  obtain ⟨b', o', e, _, hc'⟩ := h.cell j hj
  have e1 := Option.some.inj e
  injection e1 with e2 e3
  subst e2 e3
  exact hc'
/-- A slice of numbers of the call's own. -/
def IRow (w : World) (base : Nat) (v : Value) (n : Nat) (ns : List Int) : Prop := w.ownsRow base 3 1 v n (ns.map (Value.int .i64))
theorem IRow.nil (w : World) (base : Nat) : IRow w base (.slice none 0 0) 0 [] := World.ownsRow_nil _ _ _ _
theorem IRow.its {w : World} {base : Nat} {v : Value} {n : Nat} {ns : List Int} (h : IRow w base v n ns) : ∃ ao c, v = .slice ao n c ∧ Its w base ao n c ns := by
  have hl : ns.length = n := by have := h.1; simpa using this
  have h0 := h
  unfold IRow at h0
  rcases h.2 with ⟨rfl, rfl⟩ | ⟨g, cap, cur, rfl, hb, hg, hn, hm, hs, ht⟩
  · exact ⟨none, 0, rfl, ⟨hl, fun _ => ⟨rfl, rfl⟩, fun j hj => by omega, Nat.le_refl _, Nat.zero_le _⟩⟩
  · refine ⟨_, _, rfl, ⟨hl, fun e => (by cases e), fun j hj => ⟨g, 0, rfl, hb, ?_⟩, hn, hm⟩⟩
    have hc := h0.cells (g := g) rfl j (.int .i64 (ns.getD j 0)) (by
      rw [List.getElem?_map, List.getElem?_eq_getElem (by omega), List.getD_eq_getElem?_getD, List.getElem?_eq_getElem (by omega)]; rfl)
    rw [Addr.add_lit] at hc
    exact hc
theorem IRow.alloc {w : World} {base : Nat} {v : Value} {n : Nat} {ns : List Int} (h : IRow w base v n ns) (o : Obj) : IRow (w.alloc o) base v n ns := World.ownsRow.alloc h o
theorem IRow.on {w w1 : World} {base : Nat} {v : Value} {n : Nat} {ns : List Int} (h : IRow w base v n ns) (hb : Below w.heap.size w w1) : IRow w1 base v n ns :=
  World.ownsRow.kept (row := none) h ⟨hb.os, hb.tape, hb.output, hb.size, fun k hk _ => hb.block k hk⟩ (by cases hv : v.ownBlock <;> simp)
theorem one_i64 (ns : List Int) : ∀ u ∈ ns.map (Value.int .i64), u.oneCell' = true := by
  intro u hu
  obtain ⟨x, _, rfl⟩ := List.mem_map.1 hu
  rfl
theorem Try.infoI : (Try.prog.info? 3).map (fun i => (i.zero, i.size, i.bytes)) = some (some (.int .i64 0), 1, 8) := by kernel_rfl
/-- Ints to be put behind others. -/
structure Isr (w : World) (ao : Option Addr) (n c : Nat) (ns : List Int) : Prop where
  len : ns.length = n
  nil : ao = none → n = 0 ∧ c = 0
  src : ∀ a, ao = some a → ∀ j u, (ns.map (Value.int .i64))[j]? = some u → w.cell? (a.add j) = some u
theorem Its.isr {w : World} {B : Nat} {ao : Option Addr} {n c : Nat} {ns : List Int} (h : Its w B ao n c ns) : Isr w ao n c ns :=
  ⟨h.len, h.nil, fun a e j u hj => by
    rw [List.getElem?_map, Option.map_eq_some_iff] at hj
    obtain ⟨x, hx, rfl⟩ := hj
    have hl : j < ns.length := (List.getElem?_eq_some_iff.1 hx).1
    obtain ⟨b, o, rfl, hc, _⟩ := h.at (by rw [← h.len]; omega)
    obtain rfl := Option.some.inj e
    have := hc j (by rw [← h.len]; exact hl)
    rw [List.getD_eq_getElem?_getD, hx] at this
    rw [Addr.add_lit]
    exact this⟩
theorem wpl_iapp {ops : Array Oper} {rest : List Oper} {o : Oper} {a : Act} {w : World} {Q : Exit → Act → World → Prop} (hgd : o.guard = none) (s x : Operand)
    (ho : o.op = .call { callee := .builtin .append, args := #[s, x], argTypes := #[32, 32] })
    (base : Nat) (v : Value) (n : Nat) (xs : List Int) (hs : a.eval s = v) (hown : IRow w base v n xs) (ao : Option Addr) (m c : Nat) (ns : List Int) (hx : a.eval x = .slice ao m c) (hB : Isr w ao m c ns)
    (h1 : n + m ≤ 1000000) (hbase : base ≤ w.heap.size)
    (h : ∀ v' w', IRow w' base v' (n + m) (xs ++ ns) → Below base w w' → wpList Try.prog ops Q rest (a.put o.dst v') w') : wpList Try.prog ops Q (o :: rest) a w := by
  obtain ⟨i0, hi, hz0, hz1, hz2⟩ := info_parts Try.infoI
  cases ao with
  | none =>
    obtain ⟨rfl, rfl⟩ := hB.nil rfl
    obtain rfl : ns = [] := List.eq_nil_of_length_eq_zero hB.len
    refine wpList_append_own_none hgd s x 32 ho base 3 i0 1 Try.underlying32 hi v n (xs.map (Value.int .i64)) hs hown hx ?_
    refine h v w ?_ (Below.refl _ _)
    rw [List.append_nil]
    exact hown
  | some ad =>
    refine wpList_append_own _ hgd s x 32 ho base 3 i0 (.int .i64 0) 1 8 Try.underlying32 hi hz0 hz1 hz2 rfl (by decide) v n (xs.map (Value.int .i64)) hs hown ad m c (ns.map (Value.int .i64)) hx (by simp [hB.len]) (hB.src ad rfl) (one_i64 ns) (by unfold maxLen; omega) (by omega) hbase ?_
    intro v' w' h2 h3 _
    refine h v' w' ?_ ((Below.refl _ _).grown h3 hbase (fun k hk => (hown.lt k hk).1))
    unfold IRow
    rw [List.map_append]
    exact h2
end Go.Proofs.Ytmpojeehjhpkbaa
