/- Memory: the document's queue. -/
import Derived.Test.YtmdbclhdbglppaaGb
import Derived.Test.YtmdbclhdbglppaaQp
import Derived.Deep.RegionLaw
import Derived.Deep.DrawnRows
namespace Go.Proofs.Ytmdbclhdbglppaa
open Go.RowKit Go.PlainAid

/-- A class, and a slice of bytes. -/
structure Wv where
  c : Int
  a : Option Addr
  n : Nat
  p : Nat
def wcl (x : Wv) : List Value := [.int .i64 x.c, .slice x.a x.n x.p]
def zV : Wv := ⟨0, none, 0, 0⟩
theorem wcl_length (x : Wv) : (wcl x).length = 2 := rfl
theorem one_wcl (x : Wv) : ∀ v ∈ wcl x, v.oneCell' = true := by
  intro v hv
  simp only [wcl, List.mem_cons, List.not_mem_nil, or_false] at hv
  rcases hv with rfl | rfl <;> rfl
def wvs (l : List Wv) : List Value := l.flatMap wcl
theorem wvs_length : ∀ l : List Wv, (wvs l).length = l.length * 2
  | [] => rfl
  | x :: r => by
    have := wvs_length r
    unfold wvs at this ⊢
    rw [List.flatMap_cons, List.length_append, this, wcl_length, List.length_cons]
    omega
theorem wvs_append (a b : List Wv) : wvs (a ++ b) = wvs a ++ wvs b := by simp [wvs]
theorem wvs_cons (x : Wv) (r : List Wv) : wvs (x :: r) = wcl x ++ wvs r := rfl
theorem wvs_parts {l : List Wv} {j : Nat} {x : Wv} (h : l[j]? = some x) : wvs l = wvs (l.take j) ++ (wcl x ++ wvs (l.drop (j + 1))) := by
  obtain ⟨hl, e⟩ := List.getElem?_eq_some_iff.1 h
  rw [← wvs_cons, ← wvs_append]
  congr 1
  rw [← e, List.getElem_cons_drop, List.take_append_drop]
theorem wvs_take_len {l : List Wv} {j : Nat} (h : j ≤ l.length) : (wvs (l.take j)).length = j * 2 := by
  rw [wvs_length, List.length_take]; omega
theorem wvs_take (l : List Wv) (j : Nat) (h : j ≤ l.length) : wvs (l.take j) = (wvs l).take (j * 2) := by
  have e := wvs_append (l.take j) (l.drop j)
  rw [List.take_append_drop] at e
  rw [e, List.take_left' (wvs_take_len h)]
theorem wvs_drop (l : List Wv) (j : Nat) (h : j ≤ l.length) : wvs (l.drop j) = (wvs l).drop (j * 2) := by
  have e := wvs_append (l.take j) (l.drop j)
  rw [List.take_append_drop] at e
  rw [e, List.drop_left' (wvs_take_len h)]
theorem Try.info56 : (Try.prog.info? 56).map (fun i => (i.zero, i.size, i.bytes)) = some (some (.agg #[.int .i64 0, .slice none 0 0]), 2, 32) := by kernel_rfl
structure Wrs (w : World) (ao : Option Addr) (n c : Nat) (l : List Wv) : Prop where
  len : l.length = n
  nil : ao = none → n = 0 ∧ c = 0
  src : ∀ a, ao = some a → ∀ j u, (wvs l)[j]? = some u → w.cell? (a.add j) = some u
theorem one_wvs (l : List Wv) : ∀ u ∈ wvs l, u.oneCell' = true := by
  intro u hu
  simp only [wvs, List.mem_flatMap] at hu
  obtain ⟨m, _, hm⟩ := hu
  exact one_wcl m u hm
theorem wapp_run {w : World} {base : Nat} {v : Value} {n : Nat} {xs : List Wv} (hown : w.ownsRow base 56 2 v n (wvs xs)) {ao : Option Addr} {m c : Nat} {ns : List Wv} (hB : Wrs w ao m c ns) (h1 : n + m ≤ 100000) (hbase : base ≤ w.heap.size) :
    ∃ v' w', (Builtin.append_ #[51, 51] 51 #[v, .slice ao m c]).run Try.prog w = .ok v' w' ∧ w'.ownsRow base 56 2 v' (n + m) (wvs (xs ++ ns)) ∧ w.grownBy w' v.ownBlock := by
  obtain ⟨i0, hi, hz0, hz1, hz2⟩ := info_parts Try.info56
  cases ao with
  | none =>
    obtain ⟨rfl, rfl⟩ := hB.nil rfl
    obtain rfl : ns = [] := List.eq_nil_of_length_eq_zero hB.len
    refine ⟨v, w, run_append_owned_none w base 51 51 56 i0 2 Try.underlying51 hi v n _ hown, ?_, World.grownBy.refl _ _⟩
    rw [List.append_nil]
    exact hown
  | some a =>
    obtain ⟨v', w', h2, h3, h4, -⟩ := run_append_own w base 51 51 56 i0 _ 2 32 Try.underlying51 hi hz0 hz1 hz2 rfl (by decide) v n (wvs xs) hown a m c (wvs ns) (by rw [wvs_length, hB.len]) (hB.src a rfl) (one_wvs ns) (by unfold maxLen; omega) (by omega) hbase
    refine ⟨v', w', h2, ?_, h4⟩
    rw [wvs_append]
    exact h3
theorem wpl_wapp {ops : Array Oper} {rest : List Oper} {o : Oper} {a : Act} {w : World} {Q : Exit → Act → World → Prop} (hgd : o.guard = none) (hty : o.type = 51) (s x : Operand)
    (ho : o.op = .call { callee := .builtin .append, args := #[s, x], argTypes := #[51, 51] })
    (base : Nat) (v : Value) (n : Nat) (xs : List Wv) (hs : a.eval s = v) (hown : w.ownsRow base 56 2 v n (wvs xs)) (ao : Option Addr) (m c : Nat) (ns : List Wv) (hx : a.eval x = .slice ao m c) (hB : Wrs w ao m c ns)
    (h1 : n + m ≤ 100000) (hbase : base ≤ w.heap.size)
    (h : ∀ v' w', w'.ownsRow base 56 2 v' (n + m) (wvs (xs ++ ns)) → w.grownBy w' v.ownBlock → wpList Try.prog ops Q rest (a.put o.dst v') w') : wpList Try.prog ops Q (o :: rest) a w := by
  obtain ⟨v', w', hr, h2, h3⟩ := wapp_run hown hB h1 hbase
  have hk := h v' w' h2 h3
  refine wpList_plain hgd fun K hK => ?_
  unfold Oper.wp execOp
  simp only [ho, hty, resolve, invoke, builtin, Sem.run_bind, Sem.run_pure, Result.andThen_ok, List.map_toArray, List.map_cons, List.map_nil, hs, hx, hr]
  exact hK _ _ hk
theorem step_wapp {ops : Array Oper} {o : Oper} {a : Act} {w : World} {C : Act → World → Prop} {Q : Exit → Act → World → Prop} {E : Prop} (hgd : o.guard = none) (hty : o.type = 51) (s x : Operand)
    (ho : o.op = .call { callee := .builtin .append, args := #[s, x], argTypes := #[51, 51] })
    (base : Nat) (v : Value) (n : Nat) (xs : List Wv) (hs : a.eval s = v) (hown : w.ownsRow base 56 2 v n (wvs xs)) (ao : Option Addr) (m c : Nat) (ns : List Wv) (hx : a.eval x = .slice ao m c) (hB : Wrs w ao m c ns)
    (h1 : n + m ≤ 100000) (hbase : base ≤ w.heap.size)
    (h : ∀ v' w', w'.ownsRow base 56 2 v' (n + m) (wvs (xs ++ ns)) → w.grownBy w' v.ownBlock → C (a.put o.dst v') w') : if Region.wanted o (yielded ops a.tmps) = true then Oper.wp Try.prog o a w C Q else E := by
  have hw : Region.wanted o (yielded ops a.tmps) = true := by simp [Region.wanted, hgd]
  rw [if_pos hw]
  obtain ⟨v', w', hr, h2, h3⟩ := wapp_run hown hB h1 hbase
  have hk := h v' w' h2 h3
  unfold Oper.wp execOp
  simp only [ho, hty, resolve, invoke, builtin, Sem.run_bind, Sem.run_pure, Result.andThen_ok, List.map_toArray, List.map_cons, List.map_nil, hs, hx, hr]
  exact hk
theorem Wrs.grown {w w1 : World} {row : Option Nat} {ao : Option Addr} {n c : Nat} {l : List Wv} (h : Wrs w ao n c l) (g : w.grownBy w1 row) (hne : ∀ a, ao = some a → ∃ b o, a = ⟨b, o, none⟩ ∧ some b ≠ row) : Wrs w1 ao n c l :=
  ⟨h.len, h.nil, fun a e j u hj => by
    obtain ⟨b, o, rfl, hb⟩ := hne a e
    have := h.src _ e j u hj
    rw [Addr.add_lit] at this ⊢
    exact g.cell this hb⟩
theorem box_of_rowW {w : World} {base b n cap : Nat} {xs : List Value} (hr : w.ownsRow base 56 2 (.slice (some ⟨b, 0, none⟩) n cap) n xs) (hl : xs.length = n * 2) : Box w b xs ∧ base ≤ b ∧ b < w.heap.size ∧ n ≤ cap ∧ cap ≤ maxLen := by
  rcases hr.2 with ⟨h1, _⟩ | ⟨b', cap', cur, e, hb, hc, hn, hm, r⟩
  · cases h1
  · injection e with e1 e2 e3
    injection Option.some.inj e1 with e4
    subst e4 e3
    have hlt : b < w.heap.size := (Array.getElem?_eq_some_iff.1 hc).1
    have hcell : ∀ j, j < xs.length → w.cell? ⟨b, j, none⟩ = xs[j]? := fun j hj => hr.cellAt j (by omega)
    refine ⟨⟨hlt, fun j v hj => ?_, fun j hj => ⟨?_, hr.frozenAt _⟩⟩, hb, hlt, hn, hm⟩
    · rw [Nat.zero_add, hcell j (List.getElem?_eq_some_iff.1 hj).1]; exact hj
    · rw [Nat.zero_add, hcell j hj]; simp [hj]

/-- A slice of them, in a block of some. -/
structure Wvl (w : World) (K : Nat → Prop) (ao : Option Addr) (n c : Nat) (V : List Wv) : Prop where
  len : V.length = n
  nil : ao = none → n = 0 ∧ c = 0
  bx : ∀ a, ao = some a → ∃ b o, a = ⟨b, o, none⟩ ∧ K b ∧ b < w.heap.size ∧ w.rangeAt b o (wvs V)
  le : n ≤ c
  mx : c ≤ maxLen
theorem range_keep {w w1 : World} {b o : Nat} {cs : List Value} (h : w.rangeAt b o cs) (e : w1.heap[b]? = w.heap[b]?) : w1.rangeAt b o cs := fun j v hj => by
  rw [World.cell?_of_block (a := ⟨b, o + j, none⟩) e]; exact h j v hj
theorem Wvl.keep {w w1 : World} {K : Nat → Prop} {ao : Option Addr} {n c : Nat} {V : List Wv} (h : Wvl w K ao n c V) (e : Kp K w w1) : Wvl w1 K ao n c V :=
  ⟨h.len, h.nil, fun a eq => by
    obtain ⟨b, o, e1, e2, e3, e4⟩ := h.bx a eq
    exact ⟨b, o, e1, e2, Nat.lt_of_lt_of_le e3 e.size, range_keep e4 (e.block b e2 e3)⟩, h.le, h.mx⟩
theorem Wvl.mono {w : World} {K K' : Nat → Prop} {ao : Option Addr} {n c : Nat} {V : List Wv} (h : Wvl w K ao n c V) (e : ∀ i, K i → K' i) : Wvl w K' ao n c V :=
  ⟨h.len, h.nil, fun a eq => by
    obtain ⟨b, o, e1, e2, e3⟩ := h.bx a eq
    exact ⟨b, o, e1, e b e2, e3⟩, h.le, h.mx⟩
theorem Wvl.cell {w : World} {K : Nat → Prop} {ao : Option Addr} {n c : Nat} {V : List Wv} (h : Wvl w K ao n c V) {j : Nat} {x : Wv} (hj : V[j]? = some x) : ∃ b o, ao = some ⟨b, o, none⟩ ∧ K b ∧ b < w.heap.size ∧ w.cell? ⟨b, o + j * 2, none⟩ = some (.int .i64 x.c) ∧ w.cell? ⟨b, o + j * 2 + 1, none⟩ = some (.slice x.a x.n x.p) := by
  cases ao with
  | none =>
    have := (h.nil rfl).1
    have := h.len
    have := (List.getElem?_eq_some_iff.1 hj).1
    omega
  | some a =>
    obtain ⟨b, o, e1, e2, e3, e4⟩ := h.bx a rfl
    subst e1
    refine ⟨b, o, rfl, e2, e3, ?_⟩
    rw [wvs_parts hj] at e4
    have e5 := rangeAt_left (rangeAt_right e4 (q := o + j * 2) (by rw [wvs_take_len (Nat.le_of_lt (List.getElem?_eq_some_iff.1 hj).1)]))
    exact ⟨by have := e5 0 _ rfl; rwa [Nat.add_zero] at this, e5 1 _ rfl⟩
/-- What they tell. -/
structure Mt (w : World) (K : Nat → Prop) (V : List Wv) (L : List Wt) : Prop where
  len : V.length = L.length
  each : ∀ (j : Nat) (v : Wv) (x : Wt), V[j]? = some v → L[j]? = some x → v.c = x.c ∧ By w K v.a v.n v.p x.b
theorem Mt.keep {w w1 : World} {K : Nat → Prop} {V : List Wv} {L : List Wt} (h : Mt w K V L) (e : Kp K w w1) : Mt w1 K V L := ⟨h.len, fun j v x hv hx => ⟨(h.each j v x hv hx).1, (h.each j v x hv hx).2.keep e⟩⟩
theorem Mt.mono {w : World} {K K' : Nat → Prop} {V : List Wv} {L : List Wt} (h : Mt w K V L) (e : ∀ i, K i → K' i) : Mt w K' V L := ⟨h.len, fun j v x hv hx => ⟨(h.each j v x hv hx).1, (h.each j v x hv hx).2.mono e⟩⟩
theorem mt_nil (w : World) (K : Nat → Prop) : Mt w K [] [] := ⟨rfl, fun j v x h => by simp at h⟩
theorem Mt.add {w : World} {K : Nat → Prop} {V : List Wv} {L : List Wt} (h : Mt w K V L) {v : Wv} {x : Wt} (hc : v.c = x.c) (hb : By w K v.a v.n v.p x.b) : Mt w K (V ++ [v]) (L ++ [x]) := by
  refine ⟨by simp [h.len], fun j u y hu hy => ?_⟩
  by_cases hj : j < L.length
  · rw [List.getElem?_append_left (by rw [h.len]; exact hj)] at hu
    rw [List.getElem?_append_left hj] at hy
    exact h.each j u y hu hy
  · have hl := (List.getElem?_eq_some_iff.1 hy).1
    simp at hl
    obtain rfl : j = L.length := by omega
    rw [← h.len, List.getElem?_append_right (Nat.le_refl _), Nat.sub_self] at hu
    rw [List.getElem?_append_right (Nat.le_refl _), Nat.sub_self] at hy
    obtain rfl : v = u := by simpa using hu
    obtain rfl : x = y := by simpa using hy
    exact ⟨hc, hb⟩
theorem Mt.out {w : World} {K : Nat → Prop} {V : List Wv} {L : List Wt} (h : Mt w K V L) (j : Nat) : Mt w K (V.eraseIdx j) (L.eraseIdx j) := by
  refine ⟨by rw [List.length_eraseIdx, List.length_eraseIdx, h.len], fun m v x hv hx => ?_⟩
  rw [List.getElem?_eraseIdx] at hv hx
  split at hv
  · next c => rw [if_pos c] at hx; exact h.each _ _ _ hv hx
  · next c => rw [if_neg c] at hx; exact h.each _ _ _ hv hx
theorem Mt.at {w : World} {K : Nat → Prop} {V : List Wv} {L : List Wt} (h : Mt w K V L) {j : Nat} {x : Wt} (hx : L[j]? = some x) : ∃ v, V[j]? = some v ∧ v.c = x.c ∧ By w K v.a v.n v.p x.b := by
  have hl := (List.getElem?_eq_some_iff.1 hx).1
  have e := List.getElem?_eq_getElem (show j < V.length by rw [h.len]; exact hl)
  exact ⟨_, e, h.each j _ x e hx⟩
/-- The document's queue: itself in block g, all else in blocks F. -/
def qcl (n : Nat) (lv : Value) (ls : List Nat) : List Value := .int .i64 n :: lv :: ls.map (fun x : Nat => Value.int .i64 x)
structure RQ (w : World) (g : Nat) (F : Nat → Prop) (n : Nat) (ao : Option Addr) (m c : Nat) (V : List Wv) (L : List Wt) (ls : List Nat) : Prop where
  bx : Box w g (qcl n (.slice ao m c) ls)
  ll : ls.length = 8
  sl : Wvl w F ao m c V
  mt : Mt w F V L
  ng : ∀ i, F i → g < i ∧ i < w.heap.size
  n1 : 1 ≤ n
  n2 : n ≤ 1000
theorem RQ.keep {w w1 : World} {g : Nat} {F : Nat → Prop} {n : Nat} {ao : Option Addr} {m c : Nat} {V : List Wv} {L : List Wt} {ls : List Nat} (h : RQ w g F n ao m c V L ls) (e : Kp (fun i => i = g ∨ F i) w w1) : RQ w1 g F n ao m c V L ls :=
  ⟨h.bx.block (e.block g (Or.inl rfl) h.bx.lt), h.ll, h.sl.keep (e.mono (fun _ hi => Or.inr hi)), h.mt.keep (e.mono (fun _ hi => Or.inr hi)), fun i hi => ⟨(h.ng i hi).1, Nat.lt_of_lt_of_le (h.ng i hi).2 e.size⟩, h.n1, h.n2⟩
theorem RQ.on {w w1 : World} {g : Nat} {F : Nat → Prop} {n : Nat} {ao : Option Addr} {m c : Nat} {V : List Wv} {L : List Wt} {ls : List Nat} (h : RQ w g F n ao m c V L ls) (e : Below w.heap.size w w1) : RQ w1 g F n ao m c V L ls := h.keep (kp_below e)
theorem Row.by {w : World} {base : Nat} {v : Value} {n : Nat} {ns : List Int} (h : Row w base v n ns) (hr : Rng ns) : ∃ ao c, v = .slice ao n c ∧ By w (fun i => base ≤ i ∧ i < w.heap.size) ao n c ns := by
  obtain ⟨ao, c, rfl, hb⟩ := h.byt hr
  refine ⟨ao, c, rfl, hb, fun b o e hn => ⟨?_, hb.lt b o e hn⟩⟩
  rcases h.2 with ⟨h1, _⟩ | ⟨b', _, _, h1, h2, _⟩
  · subst e; cases h1
  · subst e
    injection h1 with h3
    injection Option.some.inj h3 with h4
    omega
theorem row_wvl {w : World} {base b n c : Nat} {V : List Wv} (h : w.ownsRow base 56 2 (.slice (some ⟨b, 0, none⟩) n c) n (wvs V)) (hl : V.length = n) : Wvl w (fun i => base ≤ i ∧ i < w.heap.size) (some ⟨b, 0, none⟩) n c V := by
  obtain ⟨p1, p2, p3, p4, p5⟩ := box_of_rowW h (by rw [wvs_length, hl])
  exact ⟨hl, fun e => (by cases e), fun a e => ⟨b, 0, (Option.some.inj e).symm, ⟨p2, p3⟩, p3, p1.at_⟩, p4, p5⟩
theorem Wvl.wrs {w : World} {K : Nat → Prop} {ao : Option Addr} {n c : Nat} {V : List Wv} (h : Wvl w K ao n c V) : Wrs w ao n c V :=
  ⟨h.len, h.nil, fun a e j u hj => by
    obtain ⟨b, o, e1, _, _, hr⟩ := h.bx a e
    rw [e1, Addr.add_lit]
    exact hr j u hj⟩
end Go.Proofs.Ytmdbclhdbglppaa
