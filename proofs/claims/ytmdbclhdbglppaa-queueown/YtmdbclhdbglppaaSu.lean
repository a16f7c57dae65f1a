/- Plain: counts by classes. Memory: eight counts. -/
import Derived.Test.YtmdbclhdbglppaaCp
import Derived.Test.YtmdbclhdbglppaaAw
namespace Go.Proofs.Ytmdbclhdbglppaa
open Go.RowKit Go.PlainAid

def gt (l : List Nat) (k : Nat) : Nat := l[k]?.getD 0
theorem gt_up {l : List Nat} {k : Nat} (h : k < l.length) (j : Nat) : gt (up1 l k) j = gt l j + if j = k then 1 else 0 := by
  unfold gt up1
  rw [List.getElem?_set]
  by_cases e : k = j
  · subst e; rw [if_pos rfl, if_pos h, if_pos rfl]; rfl
  · rw [if_neg e, if_neg (fun x => e x.symm)]; omega
/-- What was asked for is what was got, waits, or is lost. -/
structure Sum (A B : List Nat) (L : List Wt) (ls : List Nat) : Prop where
  a : A.length = 8
  b : B.length = 8
  l : ls.length = 8
  eq : ∀ k : Nat, k < 8 → gt A k = gt B k + cnt L k + gt ls k
theorem sum_start : Sum z8 z8 [] z8 := ⟨rfl, rfl, rfl, fun k hk => by match k, hk with | 0, _ | 1, _ | 2, _ | 3, _ | 4, _ | 5, _ | 6, _ | 7, _ => decide⟩
theorem sum_put {A B : List Nat} {L : List Wt} {ls : List Nat} {n q : Nat} (h : Sum A B L ls) (hq : q < 8) (b : List Int) : Sum (up1 A q) B (pL n L q b) (pG n L ls q) := by
  have hk : isC (q : Int) = true := isC_iff.2 (by omega)
  by_cases hf : n ≤ cnt L q
  · have e := pE_full (n := n) (L := L) hk hf
    unfold pL pG
    rw [e, if_neg (by decide), if_pos rfl]
    refine ⟨by rw [up1_length]; exact h.a, h.b, by rw [up1_length]; exact h.l, fun k hk2 => ?_⟩
    rw [gt_up (by rw [h.a]; exact hq), show ((q : Int)).toNat = q from Int.toNat_natCast q, gt_up (by rw [h.l]; exact hq), h.eq k hk2]; omega
  · have e := pE_ok (n := n) (L := L) hk hf
    unfold pL pG
    rw [e, if_pos rfl, if_neg (by decide)]
    refine ⟨by rw [up1_length]; exact h.a, h.b, h.l, fun k hk2 => ?_⟩
    rw [gt_up (by rw [h.a]; exact hq), h.eq k hk2]
    unfold cnt
    rw [cl_add]
    by_cases c : (q : Int) = (k : Int)
    · rw [if_pos c, if_pos (by omega), List.length_append]; show _ = _ + (_ + 1) + _; omega
    · rw [if_neg c, if_neg (by omega)]; omega
theorem sum_get {A B : List Nat} {L : List Wt} {ls : List Nat} {j q : Nat} {x : Wt} (h : Sum A B L ls) (hj : bi L L.length = some j) (hx : L[j]? = some x) (hq : x.c = (q : Int)) (hq8 : q < 8) : Sum A (up1 B q) (L.eraseIdx j) ls := by
  obtain ⟨e1, e2, _⟩ := best_cl hj hx
  refine ⟨h.a, by rw [up1_length]; exact h.b, h.l, fun k hk => ?_⟩
  rw [gt_up (by rw [h.b]; exact hq8), h.eq k hk]
  by_cases c : k = q
  · subst c
    rw [hq] at e1
    unfold cnt
    rw [e1, if_pos rfl, List.length_cons]; omega
  · rw [if_neg c]
    unfold cnt
    rw [e2 k (by omega)]; omega
/-- Eight counts in memory. -/
def arr (l : List Nat) : List Value := l.map (fun x : Nat => Value.int .i64 x)
theorem arr_length (l : List Nat) : (arr l).length = l.length := by simp [arr]
theorem arr_at {l : List Nat} {k : Nat} (h : k < l.length) : (arr l)[k]? = some (.int .i64 (gt l k : Nat)) := by
  unfold arr gt
  rw [List.getElem?_map, List.getElem?_eq_getElem h]; rfl
theorem arr_set {l : List Nat} {k x : Nat} (h : k < l.length) : arr l = (l.take k).map (fun x : Nat => Value.int .i64 x) ++ (Value.int .i64 (gt l k : Nat) :: (l.drop (k + 1)).map (fun x : Nat => Value.int .i64 x)) ∧ arr (l.set k x) = (l.take k).map (fun x : Nat => Value.int .i64 x) ++ (Value.int .i64 x :: (l.drop (k + 1)).map (fun x : Nat => Value.int .i64 x)) := by
  have e : l = l.take k ++ (l[k] :: l.drop (k + 1)) := by rw [List.getElem_cons_drop, List.take_append_drop]
  constructor
  · unfold arr gt
    rw [List.getElem?_eq_getElem h]
    conv => lhs; rw [e]
    rw [List.map_append, List.map_cons]; rfl
  · unfold arr
    rw [List.set_eq_take_append_cons_drop, if_pos h, List.map_append, List.map_cons]
theorem box_up {w : World} {b : Nat} {l : List Nat} {k : Nat} (h : Box w b (arr l)) (hk : k < l.length) : Box (w.setCell ⟨b, k, none⟩ (.int .i64 ((gt l k : Nat) + 1 : Int))) b (arr (up1 l k)) := by
  obtain ⟨e1, e2⟩ := arr_set (x := gt l k + 1) hk
  have e3 : up1 l k = l.set k (gt l k + 1) := rfl
  rw [e3, e2]
  rw [e1] at h
  have := Box.set (o := k) (v' := .int .i64 ((gt l k + 1 : Nat) : Int)) h (by rw [List.length_map, List.length_take]; omega)
  rw [show ((gt l k + 1 : Nat) : Int) = (gt l k : Int) + 1 by omega] at this ⊢
  exact this
theorem Pw.put {w0 w : World} {G : Nat} {p : Addr} {S : Nat → Prop} {n : Nat} {L : List Wt} {ls : List Nat} (H : Pw w0 w G p S n L ls) {q k : Nat} {v : Value} (hq : G ≤ q) (hn : ¬ S q) : Pw w0 (w.setCell ⟨q, k, none⟩ v) G p S n L ls :=
  have g := setCell_grown w q k v
  ⟨H.P.keep ⟨g.size, fun i hi hl => g.block i hl (fun e => by have e := Option.some.inj e; subst e; exact hn hi)⟩, H.lo, Nat.le_trans H.sz g.size, H.BB.trans (below_of_grown g hq H.sz)⟩
/-- A variable of the law's own beside the program's queue. -/
structure Vr (w : World) (G : Nat) (S : Nat → Prop) (b : Nat) (cs : List Value) : Prop where
  bx : Box w b cs
  lo : G ≤ b
  ns : ¬ S b
section
variable {w w1 : World} {G : Nat} {S S' : Nat → Prop} {b : Nat} {cs : List Value}
theorem Vr.on (H : Vr w G S b cs) (C : Below w.heap.size w w1) : Vr w1 G S b cs := ⟨H.bx.on C, H.lo, H.ns⟩
theorem Vr.prog (H : Vr w G S b cs) (C : Chg S w w1) (hS : ∀ i, S' i → S i ∨ w.heap.size ≤ i) : Vr w1 G S' b cs := ⟨H.bx.block (C.block b H.bx.lt H.ns), H.lo, fun h => by
  rcases hS b h with h | h
  · exact H.ns h
  · have := H.bx.lt; omega⟩
theorem Vr.other (H : Vr w G S b cs) {q k : Nat} {v : Value} (hne : b ≠ q) : Vr (w.setCell ⟨q, k, none⟩ v) G S b cs := ⟨H.bx.kept hne (setCell_grown w q k v), H.lo, H.ns⟩
theorem Vr.up {l : List Nat} (H : Vr w G S b (arr l)) {k : Nat} (hk : k < l.length) : Vr (w.setCell ⟨b, k, none⟩ (.int .i64 ((gt l k : Nat) + 1 : Int))) G S b (arr (up1 l k)) := ⟨box_up H.bx hk, H.lo, H.ns⟩
end
end Go.Proofs.Ytmdbclhdbglppaa
