/- Plain: what was put, by classes, and how much of it was got. Memory: eight rows of strings. -/
import Derived.Test.YtmdbclhdbglppaaSu
import Derived.Deep.RegionLaw
import Derived.Deep.DrawnRows
import Derived.Maps.AppendAt
namespace Go.Proofs.Ytmdbclhdbglppaa
open Go.RowKit Go.PlainAid

def pk (P : List (List (List Int))) (k : Nat) : List (List Int) := P[k]?.getD []
def pa (P : List (List (List Int))) (k : Nat) (b : List Int) : List (List (List Int)) := P.set k (pk P k ++ [b])
theorem pk_pa {P : List (List (List Int))} {k : Nat} (h : k < P.length) (b : List Int) (j : Nat) : pk (pa P k b) j = if j = k then pk P k ++ [b] else pk P j := by
  unfold pa
  show ((P.set k (pk P k ++ [b]))[j]?.getD []) = _
  rw [List.getElem?_set]
  by_cases e : k = j
  · rw [if_pos e, if_pos h, if_pos e.symm]; rfl
  · rw [if_neg e, if_neg (fun x => e x.symm)]; rfl
/-- What was put of a class is what was got, and what waits. -/
structure Ord (P : List (List (List Int))) (B : List Nat) (L : List Wt) : Prop where
  p : P.length = 8
  b : B.length = 8
  le : ∀ k : Nat, k < 8 → gt B k ≤ (pk P k).length
  eq : ∀ k : Nat, k < 8 → (pk P k).drop (gt B k) = cl L k
def zP : List (List (List Int)) := [[], [], [], [], [], [], [], []]
theorem ord_start : Ord zP z8 [] := ⟨rfl, rfl, fun k hk => by match k, hk with | 0, _ | 1, _ | 2, _ | 3, _ | 4, _ | 5, _ | 6, _ | 7, _ => decide, fun k hk => by match k, hk with | 0, _ | 1, _ | 2, _ | 3, _ | 4, _ | 5, _ | 6, _ | 7, _ => rfl⟩
theorem ord_put {P : List (List (List Int))} {B : List Nat} {L : List Wt} {q : Nat} (h : Ord P B L) (hq : q < 8) (b : List Int) : Ord (pa P q b) B (L ++ [⟨q, b⟩]) := by
  refine ⟨by unfold pa; rw [List.length_set]; exact h.p, h.b, fun k hk => ?_, fun k hk => ?_⟩
  · rw [pk_pa (by rw [h.p]; exact hq)]
    have := h.le k hk
    split
    · next e => subst e; rw [List.length_append]; omega
    · exact this
  · rw [pk_pa (by rw [h.p]; exact hq), cl_add]
    by_cases e : k = q
    · subst e
      rw [if_pos rfl, if_pos rfl, List.drop_append_of_le_length (h.le k hk), h.eq k hk]
    · rw [if_neg e, if_neg (fun x => e (by have : (q : Int) = (k : Int) := x; omega)), h.eq k hk]
theorem ord_get {P : List (List (List Int))} {B : List Nat} {L : List Wt} {j q : Nat} {x : Wt} (h : Ord P B L) (hj : bi L L.length = some j) (hx : L[j]? = some x) (hq : x.c = (q : Int)) (hq8 : q < 8) :
    (pk P q)[gt B q]? = some x.b ∧ Ord P (up1 B q) (L.eraseIdx j) ∧ ∀ k : Nat, q < k → k < 8 → gt (up1 B q) k = (pk P k).length := by
  obtain ⟨e1, e2, e3⟩ := best_cl hj hx
  have h1 := h.eq q hq8
  rw [hq] at e1
  rw [e1] at h1
  have h2 : (pk P q)[gt B q]? = some x.b := by
    have := congrArg (·[0]?) h1
    simpa using this
  have hlt := (List.getElem?_eq_some_iff.1 h2).1
  refine ⟨h2, ⟨h.p, by rw [up1_length]; exact h.b, fun k hk => ?_, fun k hk => ?_⟩, fun k hk1 hk2 => ?_⟩
  · rw [gt_up (by rw [h.b]; exact hq8)]
    have := h.le k hk
    split
    · next e => subst e; omega
    · exact this
  · rw [gt_up (by rw [h.b]; exact hq8)]
    by_cases e : k = q
    · subst e
      rw [if_pos rfl, ← List.drop_drop, h1]; rfl
    · rw [if_neg e, Nat.add_zero, h.eq k hk, e2 k (by omega)]
  · rw [gt_up (by rw [h.b]; exact hq8), if_neg (by omega)]
    have h3 := h.eq k hk2
    rw [e3 k (by omega)] at h3
    have h4 := List.drop_eq_nil_iff.1 h3
    have := h.le k hk2
    omega
theorem ord_all {P : List (List (List Int))} {B : List Nat} (h : Ord P B []) : ∀ k : Nat, k < 8 → gt B k = (pk P k).length := fun k hk => by
  have h3 := h.eq k hk
  rw [cl_nil] at h3
  have h4 := List.drop_eq_nil_iff.1 h3
  have := h.le k hk
  omega
/-- Strings in a row. -/
def sts (l : List (List Int)) : List Value := l.map (fun b => Value.string (bs b))
theorem sts_length (l : List (List Int)) : (sts l).length = l.length := by simp [sts]
theorem sts_append (a b : List (List Int)) : sts (a ++ b) = sts a ++ sts b := by simp [sts]
theorem one_sts (l : List (List Int)) : ∀ u ∈ sts l, u.oneCell' = true := by
  intro u hu
  obtain ⟨x, _, rfl⟩ := List.mem_map.1 hu
  rfl
theorem Try.infoS : (Try.prog.info? 9).map (fun i => (i.zero, i.size, i.bytes)) = some (some (.string .empty), 1, 16) := by kernel_rfl
theorem strs_run {w : World} {base : Nat} {v : Value} {n : Nat} {xs : List (List Int)} (hown : w.ownsRow base 9 1 v n (sts xs)) {a : Addr} {b : List Int} (hB : w.cell? a = some (.string (bs b))) (h1 : n + 1 ≤ 100000) (hbase : base ≤ w.heap.size) (ha : a.add 0 = a) :
    ∃ v' w', (Builtin.append_ #[37, 37] 37 #[v, .slice (some a) 1 1]).run Try.prog w = .ok v' w' ∧ w'.ownsRow base 9 1 v' (n + 1) (sts (xs ++ [b])) ∧ w.grownBy w' v.ownBlock ∧ (v'.ownBlock = v.ownBlock ∨ ∀ i, v'.ownBlock = some i → w.heap.size ≤ i) := by
  obtain ⟨i0, hi, hz0, hz1, hz2⟩ := info_parts Try.infoS
  obtain ⟨v', w', h2, h3, h4, -, h5⟩ := run_append_own_at w base 37 37 9 i0 _ 1 16 Try.underlying37 hi hz0 hz1 hz2 rfl (by decide) v n (sts xs) hown a 1 1 (sts [b]) rfl (fun j u hj => by
    have hlt := (List.getElem?_eq_some_iff.1 hj).1
    obtain rfl : j = 0 := by simp [sts] at hlt; omega
    have hj' : some (Value.string (bs b)) = some u := hj
    rw [ha, ← hj']; exact hB) (one_sts _) (by unfold maxLen; omega) (by omega) hbase
  refine ⟨v', w', h2, ?_, h4, h5.imp id (fun h i hi => by rw [h] at hi; have := Option.some.inj hi; omega)⟩
  rw [sts_append]
  exact h3
theorem step_sapp {ops : Array Oper} {o : Oper} {a : Act} {w : World} {C : Act → World → Prop} {Q : Exit → Act → World → Prop} {E : Prop} (hgd : o.guard = none) (hty : o.type = 37) (s x : Operand)
    (ho : o.op = .call { callee := .builtin .append, args := #[s, x], argTypes := #[37, 37] })
    (base : Nat) (v : Value) (n : Nat) (xs : List (List Int)) (hs : a.eval s = v) (hown : w.ownsRow base 9 1 v n (sts xs)) (k : Nat) (b : List Int) (hx : a.eval x = .slice (some ⟨k, 0, none⟩) 1 1) (hB : w.cell? ⟨k, 0, none⟩ = some (.string (bs b)))
    (h1 : n + 1 ≤ 100000) (hbase : base ≤ w.heap.size)
    (h : ∀ v' w', w'.ownsRow base 9 1 v' (n + 1) (sts (xs ++ [b])) → w.grownBy w' v.ownBlock → (v'.ownBlock = v.ownBlock ∨ ∀ i, v'.ownBlock = some i → w.heap.size ≤ i) → C (a.put o.dst v') w') : if Region.wanted o (yielded ops a.tmps) = true then Oper.wp Try.prog o a w C Q else E := by
  have hw : Region.wanted o (yielded ops a.tmps) = true := by simp [Region.wanted, hgd]
  rw [if_pos hw]
  obtain ⟨v', w', hr, h2, h3, h4⟩ := strs_run hown hB h1 hbase (Addr.add_lit k 0 0)
  have hk := h v' w' h2 h3 h4
  unfold Oper.wp execOp
  simp only [ho, hty, resolve, invoke, builtin, Sem.run_bind, Sem.run_pure, Result.andThen_ok, List.map_toArray, List.map_cons, List.map_nil, hs, hx, hr]
  exact hk
theorem wp_bsS {o : Oper} {a : Act} {w : World} {C : Act → World → Prop} {Q : Exit → Act → World → Prop} (x : Operand) (e : ByteArray) (ho : o.op = .buildSlice 37 1 #[(0, x)]) (hx : a.eval x = .string e)
    (h : C (a.put o.dst (.slice (some ⟨w.heap.size, 0, none⟩) 1 1)) (w.alloc (.cells #[.string e] 9))) : Oper.wp Try.prog o a w C Q := by
  have hr : (Instr.buildSlice 37 1 #[(0, .string e)]).run Try.prog w = .ok (.slice (some ⟨w.heap.size, 0, none⟩) 1 1) (w.alloc (.cells #[.string e] 9)) := by kernel_rfl
  unfold Oper.wp execOp
  simp only [ho, List.map_toArray, List.map_cons, List.map_nil, hx, hr, Sem.run_bind, Sem.run_pure, Result.andThen_ok]
  exact h
theorem wp_sapp {o : Oper} {a : Act} {w : World} {C : Act → World → Prop} {Q : Exit → Act → World → Prop} (hty : o.type = 37) (s x : Operand)
    (ho : o.op = .call { callee := .builtin .append, args := #[s, x], argTypes := #[37, 37] })
    (base : Nat) (v : Value) (n : Nat) (xs : List (List Int)) (hs : a.eval s = v) (hown : w.ownsRow base 9 1 v n (sts xs)) (k : Nat) (b : List Int) (hx : a.eval x = .slice (some ⟨k, 0, none⟩) 1 1) (hB : w.cell? ⟨k, 0, none⟩ = some (.string (bs b)))
    (h1 : n + 1 ≤ 100000) (hbase : base ≤ w.heap.size)
    (h : ∀ v' w', w'.ownsRow base 9 1 v' (n + 1) (sts (xs ++ [b])) → w.grownBy w' v.ownBlock → (v'.ownBlock = v.ownBlock ∨ ∀ i, v'.ownBlock = some i → w.heap.size ≤ i) → C (a.put o.dst v') w') : Oper.wp Try.prog o a w C Q := by
  obtain ⟨v', w', hr, h2, h3, h4⟩ := strs_run hown hB h1 hbase (Addr.add_lit k 0 0)
  have hk := h v' w' h2 h3 h4
  unfold Oper.wp execOp
  simp only [ho, hty, resolve, invoke, builtin, Sem.run_bind, Sem.run_pure, Result.andThen_ok, List.map_toArray, List.map_cons, List.map_nil, hs, hx, hr]
  exact hk
theorem row_keep {w w1 : World} {base : Nat} {e : TypeId} {size : Nat} {v : Value} {n : Nat} {xs : List Value} (hr : w.ownsRow base e size v n xs) (hk : ∀ b, v.ownBlock = some b → b < w.heap.size → w1.heap[b]? = w.heap[b]?) : w1.ownsRow base e size v n xs := by
  refine ⟨hr.1, ?_⟩
  rcases hr.2 with h | ⟨b, cap, cur, rfl, hb', hc, r⟩
  · exact Or.inl h
  · have hbl : b < w.heap.size := (Array.getElem?_eq_some_iff.1 hc).1
    exact Or.inr ⟨b, cap, cur, rfl, hb', (hk b rfl hbl).trans hc, r⟩
theorem row_lt {w : World} {base : Nat} {e : TypeId} {size : Nat} {v : Value} {n : Nat} {xs : List Value} (hr : w.ownsRow base e size v n xs) {b : Nat} (h : v.ownBlock = some b) : base ≤ b ∧ b < w.heap.size := by
  rcases hr.2 with ⟨h1, _⟩ | ⟨b', cap, cur, rfl, hb', hc, r⟩
  · rw [h1] at h; cases h
  · have := Option.some.inj h
    subst this
    exact ⟨hb', (Array.getElem?_eq_some_iff.1 hc).1⟩
/-- Eight rows of strings, their slices in block kP; kB is another variable. -/
structure Ln (w : World) (G : Nat) (S : Nat → Prop) (kP kB : Nat) (vs : List Value) (P : List (List (List Int))) : Prop where
  v : Vr w G S kP vs
  lv : vs.length = 8
  row : ∀ (k : Nat) (v : Value), vs[k]? = some v → w.ownsRow G 9 1 v (pk P k).length (sts (pk P k))
  ns : ∀ (k : Nat) (v : Value), vs[k]? = some v → ∀ b, v.ownBlock = some b → ¬ S b ∧ b ≠ kP ∧ b ≠ kB
  dj : ∀ (k k' : Nat) (v v' : Value), vs[k]? = some v → vs[k']? = some v' → k ≠ k' → ∀ b, v.ownBlock = some b → v'.ownBlock ≠ some b
section
variable {w w1 : World} {G : Nat} {S S' : Nat → Prop} {kP kB : Nat} {vs : List Value} {P : List (List (List Int))}
theorem Ln.on (H : Ln w G S kP kB vs P) (C : Below w.heap.size w w1) : Ln w1 G S kP kB vs P :=
  ⟨H.v.on C, H.lv, fun k v hk => row_keep (H.row k v hk) (fun b _ hl => C.block b hl), H.ns, H.dj⟩
theorem Ln.prog (H : Ln w G S kP kB vs P) (C : Chg S w w1) (hS : ∀ i, S' i → S i ∨ w.heap.size ≤ i) : Ln w1 G S' kP kB vs P :=
  ⟨H.v.prog C hS, H.lv, fun k v hk => row_keep (H.row k v hk) (fun b hb hl => C.block b hl (H.ns k v hk b hb).1), fun k v hk b hb => ⟨fun h => by
    rcases hS b h with h | h
    · exact (H.ns k v hk b hb).1 h
    · have := (row_lt (H.row k v hk) hb).2; omega, (H.ns k v hk b hb).2⟩, H.dj⟩
theorem Ln.count (H : Ln w G S kP kB vs P) {q : Nat} {u : Value} (hne : kP ≠ kB) : Ln (w.setCell ⟨kB, q, none⟩ u) G S kP kB vs P :=
  ⟨H.v.other hne, H.lv, fun k v hk => row_keep (H.row k v hk) (fun b hb hl => (setCell_grown w kB q u).block b hl (fun e => (H.ns k v hk b hb).2.2 (Option.some.inj e))), H.ns, H.dj⟩
theorem Ln.form (H : Ln w G S kP kB vs P) {k : Nat} (hk : k < 8) : ∃ ao c, vs[k]? = some (.slice ao (pk P k).length c) := by
  have e := List.getElem?_eq_getElem (show k < vs.length by rw [H.lv]; exact hk)
  obtain ⟨ao, c, h⟩ := own_formW (H.row k _ e)
  exact ⟨ao, c, by rw [e, h]⟩
theorem Ln.str (H : Ln w G S kP kB vs P) {k j c : Nat} {ao : Option Addr} {b : List Int} (hv : vs[k]? = some (.slice ao (pk P k).length c)) (hj : (pk P k)[j]? = some b) : ∃ q, ao = some ⟨q, 0, none⟩ ∧ w.cell? ⟨q, j, none⟩ = some (.string (bs b)) := by
  have hr := H.row k _ hv
  have hl := (List.getElem?_eq_some_iff.1 hj).1
  rcases hr.2 with ⟨h1, h2⟩ | ⟨q, cap, cur, h1, _⟩
  · omega
  · injection h1 with h3 h4 h5
    subst h3
    refine ⟨q, rfl, ?_⟩
    have := hr.cells (g := q) rfl j (.string (bs b)) (by unfold sts; rw [List.getElem?_map, hj]; rfl)
    rw [Addr.add_lit, Nat.zero_add] at this
    exact this
/-- One more string behind a row. -/
theorem Ln.app (H : Ln w G S kP kB vs P) (hp : P.length = 8) {k : Nat} {v v' : Value} {b : List Int} (hk : k < 8) (hv : vs[k]? = some v) (hS : ∀ i, S i → i < w.heap.size) (hB : kB < w.heap.size) (g : w.grownBy w1 v.ownBlock) (hr : w1.ownsRow G 9 1 v' ((pk P k).length + 1) (sts (pk P k ++ [b])))
    (hn : v'.ownBlock = v.ownBlock ∨ ∀ i, v'.ownBlock = some i → w.heap.size ≤ i) : Ln (w1.setCell ⟨kP, k, none⟩ v') G S kP kB (vs.set k v') (pa P k b) := by
  have hkv : k < vs.length := by rw [H.lv]; exact hk
  have hlP := H.v.bx.lt
  have bx1 : Box w1 kP vs := H.v.bx.block (g.block kP hlP (fun e => (H.ns k v hv kP (by rw [← e])).2.1 rfl))
  have bx2 : Box (w1.setCell ⟨kP, k, none⟩ v') kP (vs.set k v') := by
    have e : vs = vs.take k ++ (vs[k] :: vs.drop (k + 1)) := by rw [List.getElem_cons_drop, List.take_append_drop]
    rw [List.set_eq_take_append_cons_drop, if_pos hkv]
    rw [e] at bx1
    exact Box.set (o := k) bx1 (by rw [List.length_take]; omega)
  have new : ∀ i, v'.ownBlock = some i → ¬ S i ∧ i ≠ kP ∧ i ≠ kB := fun i hi => by
    rcases hn with h | h
    · rw [h] at hi; exact H.ns k v hv i hi
    · have := h i hi
      exact ⟨fun hs => by have := hS i hs; omega, by omega, by omega⟩
  have g2 := setCell_grown w1 kP k v'
  have old : ∀ j u, j ≠ k → vs[j]? = some u → (w1.setCell ⟨kP, k, none⟩ v').ownsRow G 9 1 u (pk P j).length (sts (pk P j)) := fun j u hj hu => by
    refine row_keep (row_keep (H.row j u hu) (fun i hi hl => g.block i hl (fun e => H.dj j k u v hu hv hj i hi e.symm))) (fun i hi hl => g2.block i hl (fun e => (H.ns j u hu i hi).2.1 (Option.some.inj e)))
  have get : ∀ j u, (vs.set k v')[j]? = some u → (j = k ∧ u = v') ∨ (j ≠ k ∧ vs[j]? = some u) := fun j u hu => by
    rw [List.getElem?_set] at hu
    by_cases e : k = j
    · rw [if_pos e, if_pos hkv] at hu
      exact Or.inl ⟨e.symm, (Option.some.inj hu).symm⟩
    · rw [if_neg e] at hu
      exact Or.inr ⟨fun x => e x.symm, hu⟩
  refine ⟨⟨bx2, H.v.lo, H.v.ns⟩, by rw [List.length_set]; exact H.lv, fun j u hu => ?_, fun j u hu i hi => ?_, fun j j' u u' hu hu' hne i hi => ?_⟩
  · rw [pk_pa (by rw [hp]; exact hk)]
    rcases get j u hu with ⟨rfl, rfl⟩ | ⟨h1, h2⟩
    · rw [if_pos rfl, List.length_append]
      exact row_keep hr (fun i hi hl => g2.block i hl (fun e => (new i hi).2.1 (Option.some.inj e)))
    · rw [if_neg h1]; exact old j u h1 h2
  · rcases get j u hu with ⟨rfl, rfl⟩ | ⟨h1, h2⟩
    · exact new i hi
    · exact H.ns j u h2 i hi
  · rcases get j u hu with ⟨rfl, rfl⟩ | ⟨h1, h2⟩
    · rcases get j' u' hu' with ⟨rfl, rfl⟩ | ⟨h3, h4⟩
      · exact absurd rfl hne
      · intro hi'
        rcases hn with h | h
        · rw [h] at hi; exact H.dj j' j u' v h4 hv h3 i hi' hi
        · have := h i hi
          have := (row_lt (H.row j' u' h4) hi').2; omega
    · rcases get j' u' hu' with ⟨rfl, rfl⟩ | ⟨h3, h4⟩
      · intro hi'
        rcases hn with h | h
        · rw [h] at hi'; exact H.dj j j' u v h2 hv h1 i hi hi'
        · have := h i hi'
          have := (row_lt (H.row j u h2) hi).2; omega
      · exact H.dj j j' u u' h2 h4 hne i hi
end
end Go.Proofs.Ytmdbclhdbglppaa
