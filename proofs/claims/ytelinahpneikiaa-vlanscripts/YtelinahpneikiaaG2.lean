/- A range over the program's map, under way; the iterator of its VLANs. -/
import Derived.Test.YtelinahpneikiaaA2
import Derived.RangeFuncBox
import Derived.RangeFuncLeaves
import Derived.Shelf.Abstract
import Derived.WalkKit
import Derived.OwnWalkIn
import Derived.TacticsInMore
import Derived.LoopNIn
import Derived.LoopIn
import Derived.Maps.AppendAt
import Derived.Sort.MapsRangeIn
namespace Go.Proofs.Ytelinahpneikiaa
open Go.RowKit Go.MapKept Go.Shelf
open Go.ChangeMaps (setBlock heap_setBlock_same heap_setBlock_other)

/-- The VLAN of an entry. -/
def vlanOf (e : MapEntry) : Int := match e.key with
  | .agg #[.int _ v, _] => v
  | _ => 0
/-- The range under way: what has come, by its VLANs. -/
def Rg (w : World) (b r : Nat) (l : List Mm) (gone : List Int) : Prop :=
  ∃ es clock since seen c0, ∃ g : List MapEntry, w.heap[b]? = some (.map es clock) ∧ Stamped es clock ∧ (es.toList.map fun e => (e.key, e.val)) = (l.map fun m => (KV m.v m.p, EV m.t)) ∧
    w.heap[r]? = some (.mapIter (some b) since seen c0) ∧ (∀ x ∈ es.toList, x.born < since) ∧ since ≤ c0 ∧ since ≤ clock ∧ es.toList.Perm (g ++ (leftOf es seen).toList) ∧ g.map vlanOf = gone
theorem vlan_map {es : Array MapEntry} {l : List Mm} (h : (es.toList.map fun e => (e.key, e.val)) = l.map fun m => (KV m.v m.p, EV m.t)) : es.toList.map vlanOf = l.map (·.v) := by
  have h1 : es.toList.map (fun e => e.key) = l.map (fun m => KV m.v m.p) := by
    have := congrArg (List.map Prod.fst) h
    simpa [Function.comp_def] using this
  have h2 := congrArg (List.map (fun k : Value => match k with | .agg #[.int _ v, _] => v | _ => 0)) h1
  rw [List.map_map, List.map_map] at h2
  exact h2
theorem perm_out : ∀ {L : List MapEntry} {e : MapEntry}, (L.map (·.born)).Nodup → e ∈ L → L.Perm (e :: L.filter (fun x => !(x.born == e.born)))
  | [], _, _, h => by simp at h
  | x :: r, e, hn, h => by
    simp only [List.map_cons, List.nodup_cons] at hn
    rcases List.mem_cons.1 h with rfl | h
    · have : (e :: r).filter (fun x => !(x.born == e.born)) = r := by
        rw [List.filter_cons]
        simp only [beq_self_eq_true, Bool.not_true, Bool.false_eq_true, if_false]
        refine List.filter_eq_self.2 (fun y hy => ?_)
        have : y.born ≠ e.born := fun e' => hn.1 (by rw [← e']; exact List.mem_map.2 ⟨y, hy, rfl⟩)
        simp [this]
      rw [this]
    · have hne : x.born ≠ e.born := fun e' => hn.1 (by rw [e']; exact List.mem_map.2 ⟨e, h, rfl⟩)
      rw [List.filter_cons]
      have : (!(x.born == e.born)) = true := by simp [hne]
      rw [this, if_pos rfl]
      exact ((perm_out hn.2 h).cons x).trans (List.Perm.swap _ _ _)
theorem left_push {es : Array MapEntry} {seen : Array Nat} {e : MapEntry} (hn : (es.toList.map (·.born)).Nodup) (he : e ∈ (leftOf es seen).toList) : (leftOf es seen).toList.Perm (e :: (leftOf es (seen.push e.born)).toList) := by
  have h1 : (leftOf es (seen.push e.born)).toList = (leftOf es seen).toList.filter (fun x => !(x.born == e.born)) := by
    unfold leftOf
    rw [Array.toList_filter, Array.toList_filter, List.filter_filter]
    refine List.filter_congr (fun x _ => ?_)
    rw [contains_push]
    cases seen.contains x.born <;> cases (x.born == e.born) <;> rfl
  rw [h1]
  refine perm_out ?_ he
  have hsub : (leftOf es seen).toList.Sublist es.toList := by
    unfold leftOf
    rw [Array.toList_filter]
    exact List.filter_sublist
  exact (hsub.map _).nodup hn
theorem Rg.start {w : World} {b : Nat} {l : List Mm} (h : Mp w b l) : ∃ w', (Instr.range 59 (.map (some b))).run Try.prog w = .ok (.pointer (some ⟨w.heap.size, 0, none⟩)) w' ∧ Rg w' b w.heap.size l [] ∧ w.grownBy w' none := by
  have hlt := h.lt
  obtain ⟨es, clock, hb, hst, hl⟩ := h
  refine ⟨_, run_range_map w 59 80 77 b es clock Try.underlying59 hb, ⟨es, clock, clock, #[], clock, [], ((MapKept.heap_alloc w _).2 b hlt).trans hb, hst, hl, (MapKept.heap_alloc w _).1, hst.1, Nat.le_refl _, Nat.le_refl _, ?_, rfl⟩, World.grownBy_alloc w _ none⟩
  have : (leftOf es #[]).toList = es.toList := by
    unfold leftOf
    rw [Array.toList_filter]
    exact List.filter_eq_self.2 (fun x _ => by simp)
  rw [this]
  exact List.Perm.refl _
theorem Rg.walk {w : World} {b r : Nat} {l : List Mm} {gone : List Int} (h : Rg w b r l gone) : ∃ o : Obj, w.heap[r]? = some o ∧ o.isWalk = true := by
  obtain ⟨es, clock, since, seen, c0, g, _, _, _, hr, _⟩ := h
  exact ⟨_, hr, rfl⟩
theorem Rg.keep {w w1 : World} {b r : Nat} {l : List Mm} {gone : List Int} (h : Rg w b r l gone) (k : KeepsWalks w w1) : Rg w1 b r l gone := by
  obtain ⟨es, clock, since, seen, c0, g, hb, h1, h2, hr, rest⟩ := h
  exact ⟨es, clock, since, seen, c0, g, k.same b _ hb rfl, h1, h2, k.same r _ hr rfl, rest⟩
theorem Rg.left {w w1 : World} {b r : Nat} {l : List Mm} {gone : List Int} (h : Rg w b r l gone) (k : KeepsWalks w w1) : w1.rangeLeft b r = w.rangeLeft b r := by
  obtain ⟨es, clock, since, seen, c0, g, hb, h1, h2, hr, rest⟩ := h
  simp only [World.rangeLeft, hb, hr, k.same b _ hb rfl, k.same r _ hr rfl]
theorem Rg.next {w : World} {b r : Nat} {l : List Mm} {gone : List Int} (h : Rg w b r l gone) (ty : TypeId) :
    (gone.Perm (l.map (·.v)) ∧ (Instr.next (.pointer (some ⟨r, 0, none⟩)) false ty).run Try.prog w = .ok (.tuple #[.bool false]) w) ∨
    ∃ (m : Mm) (w' : World), (Instr.next (.pointer (some ⟨r, 0, none⟩)) false ty).run Try.prog w = .ok (.tuple #[.bool true, KV m.v m.p, EV m.t]) w' ∧ Rg w' b r l (gone ++ [m.v]) ∧ gone.length < l.length ∧ w'.rangeLeft b r < w.rangeLeft b r ∧ w.grownBy w' (some r) ∧
      (Instr.entry (.pointer (some ⟨r, 0, none⟩))).run Try.prog w' = .ok (.tuple #[KV m.v m.p, EV m.t]) w' := by
  obtain ⟨es, clock, since, seen, c0, g, hb, hst, hl, hr, hold, hsc, hsk, hp, rfl⟩ := h
  have hne : r ≠ b := fun e => by rw [e, hb] at hr; cases hr
  have hn := ((stamped_iff es clock).1 hst).2.1
  have hlen : es.toList.length = l.length := by have := congrArg List.length hl; simpa using this
  rcases run_next_at (P := Try.prog) w ty r b since c0 seen es clock hr hb hold hsc with ⟨h0, hrun⟩ | ⟨e, he, w1, hal, hrun⟩
  · refine Or.inl ⟨?_, hrun⟩
    have : leftOf es seen = #[] := Array.eq_empty_of_size_eq_zero h0
    rw [this] at hp
    simp only [List.append_nil] at hp
    rw [← vlan_map hl]
    exact (hp.map vlanOf).symm
  · obtain ⟨hem, hes⟩ := mem_left he
    obtain ⟨j, hj⟩ := List.getElem?_of_mem hem
    obtain ⟨m, hm, hk, hv⟩ := mp_get hl hj
    have hr1 : w1.heap[r]? = some (.mapIter (some b) since seen c0) := by rcases hal with rfl | rfl <;> exact hr
    have hb1 : w1.heap[b]? = some (.map es clock) := by rcases hal with rfl | rfl <;> exact hb
    have hset := heap_set (o' := .mapIter (some b) since (seen.push e.born) clock) hr1
    have hb' : (setBlock w1 r (.mapIter (some b) since (seen.push e.born) clock)).heap[b]? = some (.map es clock) := (hset.2 b (fun e1 => hne e1.symm)).trans hb1
    have hpl := left_push hn he
    have hvm : vlanOf e = m.v := by unfold vlanOf; rw [hk]; rfl
    refine Or.inr ⟨m, setBlock w1 r (.mapIter (some b) since (seen.push e.born) clock), by rw [hrun, hk, hv], ⟨es, clock, since, seen.push e.born, clock, g ++ [e], hb', hst, hl, hset.1, hold, hsk, hsk, ?_, by simp [hvm]⟩, ?_, ?_, ?_, ?_⟩
    · refine hp.trans ?_
      rw [List.append_assoc]
      exact hpl.append_left g
    · have h1 := hp.length_eq
      have h2 := hpl.length_eq
      simp at h1 h2
      simp
      simp at hlen
      omega
    · simp only [World.rangeLeft, hb, hr, hb', show (setBlock w1 r (.mapIter (some b) since (seen.push e.born) clock)).heap[r]? = _ from hset.1]
      exact left_shrinks es seen e he
    · rcases hal with rfl | rfl <;> exact ⟨rfl, rfl, rfl, by simp [setBlock], fun i _ hi => hset.2 i (fun e1 => hi (by rw [e1]))⟩
    · have := run_entry_at (P := Try.prog) _ r b since seen es clock e hset.1 hb' hem hn
      rw [hk, hv] at this
      exact this
section
variable {F : Fence} {n : Nat} (w : World) {ops : Array Oper} {rest : List Oper} {o : Oper} {a : Act} {Q : Exit → Act → World → Prop}
theorem wpl_range (hg : o.guard = none) (m : Operand) (hop : o.op = Op.range 59 m) (b : Nat) (l : List Mm) (hm : a.eval m = .map (some b)) (h : Mp w b l)
    (hK : ∀ w', Rg w' b w.heap.size l [] → w.grownBy w' none → wpListIn F n Try.prog ops Q rest (a.put o.dst (.pointer (some ⟨w.heap.size, 0, none⟩))) w') : wpListIn F n Try.prog ops Q (o :: rest) a w := by
  refine wpListIn_plain hg fun K' hK' => ?_
  obtain ⟨w', hrun, r1, r2⟩ := Rg.start h
  unfold Oper.wpIn
  refine ⟨?_, ?_⟩
  · simp [Oper.about, hop]
  · rw [Oper.semAt_plain F _ _ (by rw [hop]; intro c hc'; cases hc')]
    simp [execOp, hop, hm, hrun, Result.andThen]
    exact hK' _ _ (hK w' r1 r2)
theorem wpl_next (hg : o.guard = none) (it : Operand) (hop : o.op = Op.next it false) (b r : Nat) (l : List Mm) (gone : List Int) (hit : a.eval it = .pointer (some ⟨r, 0, none⟩)) (h : Rg w b r l gone)
    (hDone : gone.Perm (l.map (·.v)) → wpListIn F n Try.prog ops Q rest (a.put o.dst (.tuple #[.bool false])) w)
    (hMore : ∀ (m : Mm) (w' : World), Rg w' b r l (gone ++ [m.v]) → gone.length < l.length → w'.rangeLeft b r < w.rangeLeft b r → w.grownBy w' (some r) →
      (Instr.entry (.pointer (some ⟨r, 0, none⟩))).run Try.prog w' = .ok (.tuple #[.agg #[.int .i64 m.v, .int .i64 m.p], .agg #[.bool m.t]]) w' → wpListIn F n Try.prog ops Q rest (a.put o.dst (.tuple #[.bool true, .agg #[.int .i64 m.v, .int .i64 m.p], .agg #[.bool m.t]])) w') :
    wpListIn F n Try.prog ops Q (o :: rest) a w := by
  refine wpListIn_plain hg fun K' hK' => ?_
  unfold Oper.wpIn
  refine ⟨by simp [Oper.about, hop], ?_⟩
  rw [Oper.semAt_plain F _ _ (by rw [hop]; intro c hc'; cases hc')]
  rcases h.next o.type with ⟨h0, hrun⟩ | ⟨m, w', hrun, h1, h2, h3, h4, h5⟩
  · simp [execOp, hop, hit, hrun, Result.andThen]
    exact hK' _ _ (hDone h0)
  · simp [execOp, hop, hit, hrun, Result.andThen]
    exact hK' _ _ (hMore m w' h1 h2 h3 h4 h5)
end
end Go.Proofs.Ytelinahpneikiaa
