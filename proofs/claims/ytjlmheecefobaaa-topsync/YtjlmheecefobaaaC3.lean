/- Memory: rows of changes. -/
import Derived.Test.YtjlmheecefobaaaM7
namespace Go.Proofs.Ytjlmheecefobaaa
open Go.RowKit Go.PlainAid

theorem Try.info54 : (Try.prog.info? 54).map (fun i => (i.zero, i.size, i.bytes)) = some (some (.agg (CC zC)), 12, 56) := by kernel_rfl
def chs (l : List Ch) : List Value := l.flatMap ccl
theorem chs_length : ∀ l : List Ch, (chs l).length = l.length * 12
  | [] => rfl
  | x :: r => by
    have := chs_length r
    unfold chs at this ⊢
    rw [List.flatMap_cons, List.length_append, this, ccl_length, List.length_cons]
    omega
theorem chs_append (a b : List Ch) : chs (a ++ b) = chs a ++ chs b := by simp [chs]
theorem chs_cons (x : Ch) (r : List Ch) : chs (x :: r) = ccl x ++ chs r := rfl
theorem chs_parts {l : List Ch} {j : Nat} {x : Ch} (h : l[j]? = some x) : chs l = chs (l.take j) ++ (ccl x ++ chs (l.drop (j + 1))) := by
  obtain ⟨hl, e⟩ := List.getElem?_eq_some_iff.1 h
  rw [← chs_cons, ← chs_append]
  congr 1
  rw [← e, List.getElem_cons_drop, List.take_append_drop]
theorem chs_set {l : List Ch} {j : Nat} {x : Ch} (y : Ch) (h : l[j]? = some x) : chs (l.set j y) = chs (l.take j) ++ (ccl y ++ chs (l.drop (j + 1))) := by
  obtain ⟨hl, e⟩ := List.getElem?_eq_some_iff.1 h
  have h2 : (l.set j y)[j]? = some y := by rw [List.getElem?_set_self hl]
  rw [chs_parts h2, List.take_set_of_le (Nat.le_refl _), List.drop_set_of_lt (by omega)]
theorem chs_take_len {l : List Ch} {j : Nat} {x : Ch} (h : l[j]? = some x) : (chs (l.take j)).length = j * 12 := by
  have := (List.getElem?_eq_some_iff.1 h).1
  rw [chs_length, List.length_take]; omega
theorem Box.chg {w : World} {k : Nat} {l : List Ch} (h : Box w k (chs l)) {j : Nat} {x : Ch} (hj : l[j]? = some x) : w.rangeAt k (j * 12) (ccl x) := by
  have h1 := h.at_
  rw [chs_parts hj] at h1
  exact rangeAt_left (rangeAt_right h1 (by rw [chs_take_len hj]; omega))
theorem Box.putC {w : World} {k : Nat} {l : List Ch} (h : Box w k (chs l)) {j : Nat} {x : Ch} (hj : l[j]? = some x) (y : Ch) : Box (w.setCells k (j * 12) (ccl y)) k (chs (l.set j y)) := by
  rw [chs_parts hj] at h
  rw [chs_set y hj]
  exact h.put (by rw [ccl_length, ccl_length]) (chs_take_len hj)
theorem Box.thC {w : World} {k : Nat} {l : List Ch} (h : Box w k (chs l)) {j : Nat} (hj : j < l.length) : w.there k (j * 12) 12 := fun i hi => by
  have := h.th (j * 12 + i) (by rw [chs_length]; omega)
  rw [Nat.zero_add] at this
  exact this
structure Crs (w : World) (ao : Option Addr) (n c : Nat) (l : List Ch) : Prop where
  len : l.length = n
  nil : ao = none → n = 0 ∧ c = 0
  src : ∀ a, ao = some a → ∀ j u, (chs l)[j]? = some u → w.cell? (a.add j) = some u
theorem one_chs (l : List Ch) : ∀ u ∈ chs l, u.oneCell' = true := by
  intro u hu
  simp only [chs, List.mem_flatMap] at hu
  obtain ⟨m, _, hm⟩ := hu
  exact one_ccl m u hm
theorem capp_run {w : World} {base : Nat} {v : Value} {n : Nat} {xs : List Ch} (hown : w.ownsRow base 54 12 v n (chs xs)) {ao : Option Addr} {m c : Nat} {ns : List Ch} (hB : Crs w ao m c ns) (h1 : n + m ≤ 100000) (hbase : base ≤ w.heap.size) :
    ∃ v' w', (Builtin.append_ #[40, 40] 40 #[v, .slice ao m c]).run Try.prog w = .ok v' w' ∧ w'.ownsRow base 54 12 v' (n + m) (chs (xs ++ ns)) ∧ w.grownBy w' v.ownBlock := by
  obtain ⟨i0, hi, hz0, hz1, hz2⟩ := info_parts Try.info54
  cases ao with
  | none =>
    obtain ⟨rfl, rfl⟩ := hB.nil rfl
    obtain rfl : ns = [] := List.eq_nil_of_length_eq_zero hB.len
    refine ⟨v, w, run_append_owned_none w base 40 40 54 i0 12 Try.underlying40 hi v n _ hown, ?_, World.grownBy.refl _ _⟩
    rw [List.append_nil]
    exact hown
  | some a =>
    obtain ⟨v', w', h2, h3, h4, -⟩ := run_append_own w base 40 40 54 i0 _ 12 56 Try.underlying40 hi hz0 hz1 hz2 rfl (by decide) v n (chs xs) hown a m c (chs ns) (by rw [chs_length, hB.len]) (hB.src a rfl) (one_chs ns) (by unfold maxLen; omega) (by omega) hbase
    refine ⟨v', w', h2, ?_, h4⟩
    rw [chs_append]
    exact h3
theorem wpl_capp {ops : Array Oper} {rest : List Oper} {o : Oper} {a : Act} {w : World} {Q : Exit → Act → World → Prop} (hgd : o.guard = none) (hty : o.type = 40) (s x : Operand)
    (ho : o.op = .call { callee := .builtin .append, args := #[s, x], argTypes := #[40, 40] })
    (base : Nat) (v : Value) (n : Nat) (xs : List Ch) (hs : a.eval s = v) (hown : w.ownsRow base 54 12 v n (chs xs)) (ao : Option Addr) (m c : Nat) (ns : List Ch) (hx : a.eval x = .slice ao m c) (hB : Crs w ao m c ns)
    (h1 : n + m ≤ 100000) (hbase : base ≤ w.heap.size)
    (h : ∀ v' w', w'.ownsRow base 54 12 v' (n + m) (chs (xs ++ ns)) → w.grownBy w' v.ownBlock → wpList Try.prog ops Q rest (a.put o.dst v') w') : wpList Try.prog ops Q (o :: rest) a w := by
  obtain ⟨v', w', hr, h2, h3⟩ := capp_run hown hB h1 hbase
  have hk := h v' w' h2 h3
  refine wpList_plain hgd fun K hK => ?_
  unfold Oper.wp execOp
  simp only [ho, hty, resolve, invoke, builtin, Sem.run_bind, Sem.run_pure, Result.andThen_ok, List.map_toArray, List.map_cons, List.map_nil, hs, hx, hr]
  exact hK _ _ hk
theorem step_capp {ops : Array Oper} {o : Oper} {a : Act} {w : World} {C : Act → World → Prop} {Q : Exit → Act → World → Prop} {E : Prop} (hgd : o.guard = none) (hty : o.type = 40) (s x : Operand)
    (ho : o.op = .call { callee := .builtin .append, args := #[s, x], argTypes := #[40, 40] })
    (base : Nat) (v : Value) (n : Nat) (xs : List Ch) (hs : a.eval s = v) (hown : w.ownsRow base 54 12 v n (chs xs)) (ao : Option Addr) (m c : Nat) (ns : List Ch) (hx : a.eval x = .slice ao m c) (hB : Crs w ao m c ns)
    (h1 : n + m ≤ 100000) (hbase : base ≤ w.heap.size)
    (h : ∀ v' w', w'.ownsRow base 54 12 v' (n + m) (chs (xs ++ ns)) → w.grownBy w' v.ownBlock → C (a.put o.dst v') w') : if Region.wanted o (yielded ops a.tmps) = true then Oper.wp Try.prog o a w C Q else E := by
  have hw : Region.wanted o (yielded ops a.tmps) = true := by simp [Region.wanted, hgd]
  rw [if_pos hw]
  obtain ⟨v', w', hr, h2, h3⟩ := capp_run hown hB h1 hbase
  have hk := h v' w' h2 h3
  unfold Oper.wp execOp
  simp only [ho, hty, resolve, invoke, builtin, Sem.run_bind, Sem.run_pure, Result.andThen_ok, List.map_toArray, List.map_cons, List.map_nil, hs, hx, hr]
  exact hk
theorem Crs.grown {w w1 : World} {row : Option Nat} {ao : Option Addr} {n c : Nat} {l : List Ch} (h : Crs w ao n c l) (g : w.grownBy w1 row) (hne : ∀ a, ao = some a → ∃ b o, a = ⟨b, o, none⟩ ∧ some b ≠ row) : Crs w1 ao n c l :=
  ⟨h.len, h.nil, fun a e j u hj => by
    obtain ⟨b, o, rfl, hb⟩ := hne a e
    have := h.src _ e j u hj
    rw [Addr.add_lit] at this ⊢
    exact g.cell this hb⟩
theorem row_mid54 {w w1 : World} {N M g : Nat} {lv : Value} {n : Nat} {xs : List Value} (hr : w.ownsRow g 54 12 lv n xs) (hb : Mid N M w w1) (hM : M ≤ g) : w1.ownsRow g 54 12 lv n xs := by
  refine ⟨hr.1, ?_⟩
  rcases hr.2 with h | ⟨b, cap, cur, rfl, hb', hc, r⟩
  · exact Or.inl h
  · have hbl : b < w.heap.size := (Array.getElem?_eq_some_iff.1 hc).1
    exact Or.inr ⟨b, cap, cur, rfl, hb', (hb.block b hbl (Or.inr (by omega))).trans hc, r⟩
theorem box_of_row54 {w : World} {base b n cap : Nat} {xs : List Value} (hr : w.ownsRow base 54 12 (.slice (some ⟨b, 0, none⟩) n cap) n xs) (hl : xs.length = n * 12) : Box w b xs ∧ base ≤ b ∧ b < w.heap.size ∧ n ≤ cap ∧ cap ≤ maxLen := by
  rcases hr.2 with ⟨h1, _⟩ | ⟨b', cap', cur, e, hb, hc, hn, hm, r⟩
  · cases h1
  · injection e with e1 e2 e3
    injection Option.some.inj e1 with e4
    subst e4 e3
    have hlt : b < w.heap.size := (Array.getElem?_eq_some_iff.1 hc).1
    have hcell : ∀ j, j < xs.length → w.cell? ⟨b, j, none⟩ = xs[j]? := fun j hj => hr.cellAt j (by omega)
    refine ⟨⟨hlt, fun j v hj => ?_, fun j hj => ⟨?_, hr.frozenAt _⟩⟩, hb, hlt, hn, hm⟩
    · rw [Nat.zero_add, hcell j (List.getElem?_eq_some_iff.1 hj).1]; exact hj
    · rw [Nat.zero_add, hcell j hj]; simp [hj]
structure Cts (w : World) (B : Nat) (ao : Option Addr) (n c : Nat) (l : List Ch) : Prop where
  len : l.length = n
  nil : ao = none → n = 0
  bx : ∀ a, ao = some a → ∃ b, a = ⟨b, 0, none⟩ ∧ B ≤ b ∧ Box w b (chs l)
  le : n ≤ c
  mx : c ≤ maxLen
theorem Cts.mid {w w1 : World} {N M B : Nat} {ao : Option Addr} {n c : Nat} {l : List Ch} (h : Cts w B ao n c l) (hb : Mid N M w w1) (hM : M ≤ B) : Cts w1 B ao n c l :=
  ⟨h.len, h.nil, fun a e => by
    obtain ⟨b, e1, e2, e3⟩ := h.bx a e
    exact ⟨b, e1, e2, e3.block (hb.block b e3.lt (Or.inr (by omega)))⟩, h.le, h.mx⟩
theorem Cts.on {w w1 : World} {B : Nat} {ao : Option Addr} {n c : Nat} {l : List Ch} (h : Cts w B ao n c l) (hb : Below w.heap.size w w1) : Cts w1 B ao n c l :=
  h.mid (mid_of_below hb B) (Nat.le_refl _)
theorem Cts.mono {w : World} {B B' : Nat} {ao : Option Addr} {n c : Nat} {l : List Ch} (h : Cts w B ao n c l) (hB : B' ≤ B) : Cts w B' ao n c l :=
  ⟨h.len, h.nil, fun a e => by obtain ⟨b, e1, e2, e3⟩ := h.bx a e; exact ⟨b, e1, by omega, e3⟩, h.le, h.mx⟩
theorem Cts.at {w : World} {B : Nat} {ao : Option Addr} {n c : Nat} {l : List Ch} (h : Cts w B ao n c l) {j : Nat} {x : Ch} (hj : l[j]? = some x) : ∃ b, ao = some ⟨b, 0, none⟩ ∧ B ≤ b ∧ b < w.heap.size ∧ w.rangeAt b (j * 12) (ccl x) := by
  cases ao with
  | none =>
    have := h.nil rfl
    have := h.len
    have := (List.getElem?_eq_some_iff.1 hj).1
    omega
  | some a =>
    obtain ⟨b, e1, e2, e3⟩ := h.bx a rfl
    exact ⟨b, by rw [e1], e2, e3.lt, e3.chg hj⟩
theorem row_cts {w : World} {B : Nat} {v : Value} {l : List Ch} (h : w.ownsRow B 54 12 v l.length (chs l)) : ∃ ao c, v = .slice ao l.length c ∧ Cts w B ao l.length c l := by
  rcases h.2 with ⟨h1, h2⟩ | ⟨b, cap, cur, rfl, hb, hc, hn, hm, r⟩
  · refine ⟨none, 0, by rw [h1, h2], ⟨rfl, fun _ => h2, fun a e => (by cases e), by omega, by unfold maxLen; omega⟩⟩
  · obtain ⟨p1, p2, p3, p4, p5⟩ := box_of_row54 h (chs_length _)
    exact ⟨_, cap, rfl, ⟨rfl, fun e => (by cases e), fun a e => ⟨b, (Option.some.inj e).symm, p2, p1⟩, p4, p5⟩⟩
theorem row_on54 {w w1 : World} {g : Nat} {lv : Value} {n : Nat} {xs : List Value} (hr : w.ownsRow g 54 12 lv n xs) (hb : Below w.heap.size w w1) : w1.ownsRow g 54 12 lv n xs := row_mid54 hr (mid_of_below hb g) (Nat.le_refl _)
set_option maxRecDepth 100000 in
theorem run_bs54 (e : Ch) (w : World) : (Instr.buildSlice 40 1 #[(0, .agg (CC e))]).run Try.prog w = .ok (.slice (some ⟨w.heap.size, 0, none⟩) 1 1) (w.alloc (.cells (CC e) 54)) := by kernel_rfl
theorem wpl_bs54 {ops : Array Oper} {rest : List Oper} {o : Oper} {a : Act} {w : World} {Q : Exit → Act → World → Prop} (hgd : o.guard = none) (x : Operand) (e : Ch) (ho : o.op = .buildSlice 40 1 #[(0, x)]) (hx : a.eval x = .agg (CC e))
    (h : wpList Try.prog ops Q rest (a.put o.dst (.slice (some ⟨w.heap.size, 0, none⟩) 1 1)) (w.alloc (.cells (CC e) 54))) : wpList Try.prog ops Q (o :: rest) a w := by
  refine wpList_plain hgd fun K hK => ?_
  unfold Oper.wp execOp
  simp only [ho, List.map_toArray, List.map_cons, List.map_nil, hx, run_bs54, Sem.run_bind, Sem.run_pure, Result.andThen_ok]
  exact hK _ _ h
theorem crs_one (w : World) (x : Ch) : Crs (w.alloc (.cells (CC x) 54)) (some ⟨w.heap.size, 0, none⟩) 1 1 [x] := ⟨rfl, fun e => (by cases e), fun a e j u hj => by
  obtain rfl := Option.some.inj e
  rw [Addr.add_lit, Nat.zero_add, World.cell?_alloc_at _ _ _ _ rfl]
  have hj' : (ccl x ++ [])[j]? = some u := hj
  rw [List.append_nil] at hj'
  show (ccl x).toArray[j]? = some u
  rw [List.getElem?_toArray]
  exact hj'⟩
theorem row_mono54 {w : World} {g g' : Nat} {lv : Value} {n : Nat} {xs : List Value} (hg : g' ≤ g) (hr : w.ownsRow g 54 12 lv n xs) : w.ownsRow g' 54 12 lv n xs := by
  refine ⟨hr.1, ?_⟩
  rcases hr.2 with h | ⟨b, cap, cur, e, hb, r⟩
  · exact Or.inl h
  · exact Or.inr ⟨b, cap, cur, e, by omega, r⟩
theorem rowN54 {w : World} {g : Nat} {lv : Value} {n : Nat} {xs : List Value} (h : w.ownsRow g 54 12 lv n xs) (q : Nat) : (w.drewN q).ownsRow g 54 12 lv n xs := h
theorem crs_none (w : World) : Crs w none 0 0 [] := ⟨rfl, fun _ => ⟨rfl, rfl⟩, fun a e => (by cases e)⟩
theorem crs_nil (w : World) (a : Addr) (c : Nat) : Crs w (some a) 0 c [] := ⟨rfl, fun e => (by cases e), fun a e j u hj => (by simp [chs] at hj)⟩
theorem chs_take' (l : List Ch) (k : Nat) (hk : k ≤ l.length) : chs (l.take k) = (chs l).take (k * 12) := by
  have e := chs_append (l.take k) (l.drop k)
  rw [List.take_append_drop] at e
  have h2 : (chs (l.take k)).length = k * 12 := by rw [chs_length, List.length_take]; omega
  rw [e, ← h2]
  simp
theorem chs_drop' (l : List Ch) (k : Nat) (hk : k ≤ l.length) : chs (l.drop k) = (chs l).drop (k * 12) := by
  have e := chs_append (l.take k) (l.drop k)
  rw [List.take_append_drop] at e
  have h2 : (chs (l.take k)).length = k * 12 := by rw [chs_length, List.length_take]; omega
  rw [e, ← h2]
  simp
theorem crs_take {w : World} {b : Nat} {l : List Ch} (h : Box w b (chs l)) {k : Nat} (hk : k ≤ l.length) (c : Nat) : Crs w (some ⟨b, 0, none⟩) k c (l.take k) :=
  ⟨by rw [List.length_take]; omega, fun e => (by cases e), fun a e j u hj => by
    obtain rfl := Option.some.inj e
    rw [chs_take' l k hk, List.getElem?_take] at hj
    split at hj
    · rw [Addr.add_lit]; exact h.at_ j u hj
    · cases hj⟩
theorem crs_drop {w : World} {b : Nat} {l : List Ch} (h : Box w b (chs l)) {k : Nat} (hk : k ≤ l.length) (cap : Nat) (hc : l.length ≤ cap) : Crs w (if cap = k then some ⟨b, 0, none⟩ else some ⟨b, k * 12, none⟩) (l.length - k) (cap - k) (l.drop k) :=
  ⟨by rw [List.length_drop], fun e => (by split at e <;> cases e), fun a e j u hj => by
    have hlt := (List.getElem?_eq_some_iff.1 hj).1
    rw [chs_length, List.length_drop] at hlt
    rw [if_neg (by omega)] at e
    obtain rfl := Option.some.inj e
    rw [chs_drop' l k hk, List.getElem?_drop] at hj
    have := h.at_ _ u hj
    rw [Nat.zero_add] at this
    rw [Addr.add_lit]
    exact this⟩
theorem Cts.sl {w : World} {B : Nat} {ao : Option Addr} {n c : Nat} {l : List Ch} (h : Cts w B ao n c l) : Sl ccl 12 w w.heap.size ao n c l :=
  ⟨h.len, h.nil, fun j s hj => by
    obtain ⟨b, e, _, hl, hr⟩ := h.at hj
    exact ⟨b, 0, e, hl, by rw [Nat.zero_add]; exact hr⟩, h.le, h.mx⟩
end Go.Proofs.Ytjlmheecefobaaa
