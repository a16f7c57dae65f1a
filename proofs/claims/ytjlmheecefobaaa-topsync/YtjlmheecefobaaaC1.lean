/- The document's table in memory; rows of entries that grow. -/
import Derived.Test.YtjlmheecefobaaaA6
import Derived.Deep.RegionLaw
import Derived.Deep.DrawnRows
namespace Go.Proofs.Ytjlmheecefobaaa
open Go.RowKit Go.PlainAid

theorem Try.info36 : (Try.prog.info? 36).map (fun i => (i.zero, i.size, i.bytes)) = some (some (.agg (EC zE)), 10, 40) := by kernel_rfl
/-- A slice of members, to be put behind others. -/
structure Ers (w : World) (ao : Option Addr) (n c : Nat) (l : List En) : Prop where
  len : l.length = n
  nil : ao = none → n = 0 ∧ c = 0
  src : ∀ a, ao = some a → ∀ j u, (es l)[j]? = some u → w.cell? (a.add j) = some u
theorem one_es (l : List En) : ∀ u ∈ es l, u.oneCell' = true := by
  intro u hu
  simp only [es, List.mem_flatMap] at hu
  obtain ⟨m, _, hm⟩ := hu
  exact one_ecl m u hm
theorem eapp_run {w : World} {base : Nat} {v : Value} {n : Nat} {xs : List En} (hown : w.ownsRow base 36 10 v n (es xs)) {ao : Option Addr} {m c : Nat} {ns : List En} (hB : Ers w ao m c ns) (h1 : n + m ≤ 100000) (hbase : base ≤ w.heap.size) :
    ∃ v' w', (Builtin.append_ #[47, 47] 47 #[v, .slice ao m c]).run Try.prog w = .ok v' w' ∧ w'.ownsRow base 36 10 v' (n + m) (es (xs ++ ns)) ∧ w.grownBy w' v.ownBlock := by
  obtain ⟨i0, hi, hz0, hz1, hz2⟩ := info_parts Try.info36
  cases ao with
  | none =>
    obtain ⟨rfl, rfl⟩ := hB.nil rfl
    obtain rfl : ns = [] := List.eq_nil_of_length_eq_zero hB.len
    refine ⟨v, w, run_append_owned_none w base 47 47 36 i0 10 Try.underlying47 hi v n _ hown, ?_, World.grownBy.refl _ _⟩
    rw [List.append_nil]
    exact hown
  | some a =>
    obtain ⟨v', w', h2, h3, h4, -⟩ := run_append_own w base 47 47 36 i0 _ 10 40 Try.underlying47 hi hz0 hz1 hz2 rfl (by decide) v n (es xs) hown a m c (es ns) (by rw [es_length, hB.len]) (hB.src a rfl) (one_es ns) (by unfold maxLen; omega) (by omega) hbase
    refine ⟨v', w', h2, ?_, h4⟩
    rw [es_append]
    exact h3
/-- At a plain region's list. -/
theorem wpl_eapp {ops : Array Oper} {rest : List Oper} {o : Oper} {a : Act} {w : World} {Q : Exit → Act → World → Prop} (hgd : o.guard = none) (hty : o.type = 47) (s x : Operand)
    (ho : o.op = .call { callee := .builtin .append, args := #[s, x], argTypes := #[47, 47] })
    (base : Nat) (v : Value) (n : Nat) (xs : List En) (hs : a.eval s = v) (hown : w.ownsRow base 36 10 v n (es xs)) (ao : Option Addr) (m c : Nat) (ns : List En) (hx : a.eval x = .slice ao m c) (hB : Ers w ao m c ns)
    (h1 : n + m ≤ 100000) (hbase : base ≤ w.heap.size)
    (h : ∀ v' w', w'.ownsRow base 36 10 v' (n + m) (es (xs ++ ns)) → w.grownBy w' v.ownBlock → wpList Try.prog ops Q rest (a.put o.dst v') w') : wpList Try.prog ops Q (o :: rest) a w := by
  obtain ⟨v', w', hr, h2, h3⟩ := eapp_run hown hB h1 hbase
  have hk := h v' w' h2 h3
  refine wpList_plain hgd fun K hK => ?_
  unfold Oper.wp execOp
  simp only [ho, hty, resolve, invoke, builtin, Sem.run_bind, Sem.run_pure, Result.andThen_ok, List.map_toArray, List.map_cons, List.map_nil, hs, hx, hr]
  exact hK _ _ hk
/-- At a step of a region that draws its order. -/
theorem step_eapp {ops : Array Oper} {o : Oper} {a : Act} {w : World} {C : Act → World → Prop} {Q : Exit → Act → World → Prop} {E : Prop} (hgd : o.guard = none) (hty : o.type = 47) (s x : Operand)
    (ho : o.op = .call { callee := .builtin .append, args := #[s, x], argTypes := #[47, 47] })
    (base : Nat) (v : Value) (n : Nat) (xs : List En) (hs : a.eval s = v) (hown : w.ownsRow base 36 10 v n (es xs)) (ao : Option Addr) (m c : Nat) (ns : List En) (hx : a.eval x = .slice ao m c) (hB : Ers w ao m c ns)
    (h1 : n + m ≤ 100000) (hbase : base ≤ w.heap.size)
    (h : ∀ v' w', w'.ownsRow base 36 10 v' (n + m) (es (xs ++ ns)) → w.grownBy w' v.ownBlock → C (a.put o.dst v') w') : if Region.wanted o (yielded ops a.tmps) = true then Oper.wp Try.prog o a w C Q else E := by
  have hw : Region.wanted o (yielded ops a.tmps) = true := by simp [Region.wanted, hgd]
  rw [if_pos hw]
  obtain ⟨v', w', hr, h2, h3⟩ := eapp_run hown hB h1 hbase
  have hk := h v' w' h2 h3
  unfold Oper.wp execOp
  simp only [ho, hty, resolve, invoke, builtin, Sem.run_bind, Sem.run_pure, Result.andThen_ok, List.map_toArray, List.map_cons, List.map_nil, hs, hx, hr]
  exact hk
theorem own_form {w : World} {base : Nat} {e : TypeId} {size : Nat} {v : Value} {n : Nat} {xs : List Value} (h : w.ownsRow base e size v n xs) : ∃ ao c, v = .slice ao n c := by
  rcases h.2 with ⟨h1, h2⟩ | ⟨b, cap, cur, h1, _⟩
  · exact ⟨none, 0, by rw [h1, h2]⟩
  · exact ⟨_, _, h1⟩
theorem Ers.grown {w w1 : World} {row : Option Nat} {ao : Option Addr} {n c : Nat} {l : List En} (h : Ers w ao n c l) (g : w.grownBy w1 row) (hne : ∀ a, ao = some a → ∃ b o, a = ⟨b, o, none⟩ ∧ some b ≠ row) : Ers w1 ao n c l :=
  ⟨h.len, h.nil, fun a e j u hj => by
    obtain ⟨b, o, rfl, hb⟩ := hne a e
    have := h.src _ e j u hj
    rw [Addr.add_lit] at this ⊢
    exact g.cell this hb⟩
/-- The document's table: itself in block g, its entries in a block behind. -/
structure RT (w : World) (g : Nat) (lv : Value) (T : Tb) : Prop where
  bx : Box w g [.int .i64 T.n, lv]
  row : w.ownsRow (g + 1) 36 10 lv T.l.length (es T.l)
  wf : Wf T
theorem RT.lt {w : World} {g : Nat} {lv : Value} {T : Tb} (H : RT w g lv T) : g + 1 ≤ w.heap.size := by have := H.bx.lt; omega
theorem row_mid {w w1 : World} {N M g : Nat} {lv : Value} {n : Nat} {xs : List Value} (hr : w.ownsRow g 36 10 lv n xs) (hb : Mid N M w w1) (hM : M ≤ g) : w1.ownsRow g 36 10 lv n xs := by
  refine ⟨hr.1, ?_⟩
  rcases hr.2 with h | ⟨b, cap, cur, rfl, hb', hc, r⟩
  · exact Or.inl h
  · have hbl : b < w.heap.size := (Array.getElem?_eq_some_iff.1 hc).1
    exact Or.inr ⟨b, cap, cur, rfl, hb', (hb.block b hbl (Or.inr (by omega))).trans hc, r⟩
theorem RT.mid {w w1 : World} {N M g : Nat} {lv : Value} {T : Tb} (H : RT w g lv T) (hb : Mid N M w w1) (hM : M ≤ g) : RT w1 g lv T := by
  have hl := H.lt
  exact ⟨H.bx.block (hb.block _ (by omega) (Or.inr (by omega))), row_mid H.row hb (by omega), H.wf⟩
theorem mid_of_below {w w1 : World} (hb : Below w.heap.size w w1) (N : Nat) : Mid N N w w1 := ⟨hb.os, hb.tape, hb.output, hb.size, fun k hk _ => hb.block k hk⟩
theorem RT.on {w w1 : World} {g : Nat} {lv : Value} {T : Tb} (H : RT w g lv T) (hb : Below w.heap.size w w1) : RT w1 g lv T := H.mid (mid_of_below hb g) (Nat.le_refl _)
theorem RT.drew {w : World} {g : Nat} {lv : Value} {T : Tb} (H : RT w g lv T) : RT w.drew g lv T := ⟨⟨H.bx.lt, H.bx.at_, H.bx.th⟩, H.row, H.wf⟩
theorem box_of_row {w : World} {base b n cap : Nat} {xs : List Value} (hr : w.ownsRow base 36 10 (.slice (some ⟨b, 0, none⟩) n cap) n xs) (hl : xs.length = n * 10) : Box w b xs ∧ base ≤ b ∧ b < w.heap.size ∧ n ≤ cap ∧ cap ≤ maxLen := by
  rcases hr.2 with ⟨h1, _⟩ | ⟨b', cap', cur, e, hb, hc, hn, hm, r⟩
  · cases h1
  · injection e with e1 e2 e3
    injection Option.some.inj e1 with e4
    subst e4 e3
    have hlt : b < w.heap.size := (Array.getElem?_eq_some_iff.1 hc).1
    have hcell : ∀ j, j < xs.length → w.cell? ⟨b, j, none⟩ = xs[j]? := fun j hj => hr.cellAt j (by omega)
    refine ⟨⟨hlt, fun j v hj => ?_, fun j hj => ⟨?_, hr.frozenAt _⟩⟩, hb, hlt, hn, hm⟩
    · rw [Nat.zero_add, hcell j (List.getElem?_eq_some_iff.1 hj).1]; exact hj
    · rw [Nat.zero_add, hcell j hj]; simp [hj]
theorem RT.at {w : World} {g : Nat} {lv : Value} {T : Tb} (H : RT w g lv T) : (lv = .slice none 0 0 ∧ T.l = []) ∨ ∃ b cap, lv = .slice (some ⟨b, 0, none⟩) T.l.length cap ∧ g + 1 ≤ b ∧ b < w.heap.size ∧ T.l.length ≤ cap ∧ cap ≤ maxLen ∧ Box w b (es T.l) := by
  have hr := H.row
  rcases hr.2 with ⟨h1, h2⟩ | ⟨b, cap, cur, rfl, hb, hc, hn, hm, r⟩
  · exact Or.inl ⟨h1, List.eq_nil_of_length_eq_zero h2⟩
  · obtain ⟨p1, p2, p3, p4, p5⟩ := box_of_row hr (es_length _)
    exact Or.inr ⟨b, cap, rfl, p2, p3, p4, p5, p1⟩
/-- The entries stand in a new block. -/
theorem RT.fresh {w w1 : World} {g : Nat} {lv lv' : Value} {T T' : Tb} (H : RT w g lv T) (hB : Below (g + 1) w w1) (hn : T'.n = T.n) (hw : Wf T') (hr : w1.ownsRow (g + 1) 36 10 lv' T'.l.length (es T'.l)) :
    RT (w1.setCell ⟨g, 1, none⟩ lv') g lv' T' ∧ Below g w (w1.setCell ⟨g, 1, none⟩ lv') := by
  have hl := H.lt
  have g1 := setCell_grown w1 g 1 lv'
  have hl1 := hB.size
  refine ⟨⟨?_, ?_, hw⟩, (hB.mono (by omega)).grown g1 (by omega) (fun k hk => by have := Option.some.inj hk; omega)⟩
  · have b := H.bx.below (g := g + 1) (by omega) hB
    rw [hn]
    exact Box.set (A := [.int .i64 T.n]) (C := []) b rfl
  · refine World.ownsRow.kept hr g1 ?_
    rcases hr.2 with ⟨h, _⟩ | ⟨b, _, _, h, hb, _⟩
    · rw [h]; exact Or.inl rfl
    · rw [h]
      refine Or.inr (fun e => ?_)
      have := Option.some.inj e
      simp at this
      omega
theorem RT.ers {w : World} {g : Nat} {lv : Value} {T : Tb} (H : RT w g lv T) : ∃ ao c, lv = .slice ao T.l.length c ∧ Ers w ao T.l.length c T.l ∧ (∀ a, ao = some a → ∃ b, a = ⟨b, 0, none⟩ ∧ g + 1 ≤ b ∧ b < w.heap.size) := by
  have hr := H.row
  rcases hr.2 with ⟨h1, h2⟩ | ⟨b, cap, cur, h1, hb, hc, r⟩
  · refine ⟨none, 0, by rw [h1, h2], ⟨rfl, fun _ => ⟨h2, rfl⟩, fun a e => (by cases e)⟩, fun a e => (by cases e)⟩
  · subst h1
    refine ⟨_, cap, rfl, ⟨rfl, fun e => (by cases e), fun a e => ?_⟩, fun a e => ?_⟩
    · obtain rfl := Option.some.inj e
      exact hr.cells (g := b) rfl
    · obtain rfl := Option.some.inj e
      exact ⟨b, rfl, hb, (Array.getElem?_eq_some_iff.1 hc).1⟩
end Go.Proofs.Ytjlmheecefobaaa
