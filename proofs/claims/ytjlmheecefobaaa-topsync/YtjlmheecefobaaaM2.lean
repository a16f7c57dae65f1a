/- A range over the program's map of stations, under way. -/
import Derived.Test.YtjlmheecefobaaaM1
import Derived.Test.YtjlmheecefobaaaC1
import Derived.Maps.RangeWalk
import Derived.RangeFuncSeq
namespace Go.Proofs.Ytjlmheecefobaaa
open Go.RowKit Go.MapKept
open Go.ChangeMaps (setBlock heap_setBlock_same heap_setBlock_other)

/-- The entry that cells are. -/
def enOf (e : MapEntry) : En := match e.val with
  | .agg #[.int _ v, .int _ a, .int _ b, .int _ c, .int _ d, .int _ f, .int _ g, .int _ p, .int _ t, .bool s] => ⟨v, ⟨a, b, c, d, f, g⟩, p, t, s⟩
  | _ => zE
def prs (l : List En) : List (Value × Value) := l.map fun x => (KV x.v x.m, .agg (EC x))
/-- The range under way: the entries that have come. -/
def Rn (w : World) (b r : Nat) (l : List En) (gone : List En) : Prop :=
  ∃ es clock since seen c0, ∃ g : List MapEntry, w.heap[b]? = some (.map es clock) ∧ Stamped es clock ∧ (es.toList.map fun e => (e.key, e.val)) = (l.map fun x => (KV x.v x.m, .agg (EC x))) ∧
    w.heap[r]? = some (.mapIter (some b) since seen c0) ∧ (∀ x ∈ es.toList, x.born < since) ∧ since ≤ c0 ∧ since ≤ clock ∧ es.toList.Perm (g ++ (leftOf es seen).toList) ∧ g.map enOf = gone
theorem en_map {es : Array MapEntry} {l : List En} (h : (es.toList.map fun e => (e.key, e.val)) = l.map fun x => (KV x.v x.m, .agg (EC x))) : es.toList.map enOf = l := by
  have h1 : es.toList.map (fun e => e.val) = l.map (fun x => Value.agg (EC x)) := by
    have := congrArg (List.map Prod.snd) h
    simpa [Function.comp_def] using this
  have h2 := congrArg (List.map (fun v : Value => enOf ⟨v, v, 0⟩)) h1
  rw [List.map_map, List.map_map] at h2
  have h3 : es.toList.map enOf = es.toList.map ((fun v : Value => enOf ⟨v, v, 0⟩) ∘ fun e => e.val) := rfl
  rw [h3, h2]
  have h4 : ∀ x : En, ((fun v : Value => enOf ⟨v, v, 0⟩) ∘ fun x => Value.agg (EC x)) x = x := fun x => rfl
  rw [List.map_congr_left (fun x _ => h4 x), List.map_id']
theorem perm_out : ∀ {L : List MapEntry} {e : MapEntry}, (L.map (·.born)).Nodup → e ∈ L → L.Perm (e :: L.filter (fun x => !(x.born == e.born)))
  | [], _, _, h => by simp at h
  | x :: r, e, hn, h => by
    simp only [List.map_cons, List.nodup_cons] at hn
    rcases List.mem_cons.1 h with rfl | h
    · have : (e :: r).filter (fun x => !(x.born == e.born)) = r := by
        rw [List.filter_cons]
        simp only [beq_self_eq_true, Bool.not_true, Bool.false_eq_true, if_false]
        refine List.filter_eq_self.2 (fun y hy => ?_)
        have : y.born ≠ e.born := fun e' => hn.1 (by rw [← e']; exact List.mem_map.2 ⟨y, hy, rfl⟩)
        simp [this]
      rw [this]
    · have hne : x.born ≠ e.born := fun e' => hn.1 (by rw [e']; exact List.mem_map.2 ⟨e, h, rfl⟩)
      rw [List.filter_cons]
      have : (!(x.born == e.born)) = true := by simp [hne]
      rw [this, if_pos rfl]
      exact ((perm_out hn.2 h).cons x).trans (List.Perm.swap _ _ _)
theorem left_push {es : Array MapEntry} {seen : Array Nat} {e : MapEntry} (hn : (es.toList.map (·.born)).Nodup) (he : e ∈ (leftOf es seen).toList) : (leftOf es seen).toList.Perm (e :: (leftOf es (seen.push e.born)).toList) := by
  have h1 : (leftOf es (seen.push e.born)).toList = (leftOf es seen).toList.filter (fun x => !(x.born == e.born)) := by
    unfold leftOf
    rw [Array.toList_filter, Array.toList_filter, List.filter_filter]
    refine List.filter_congr (fun x _ => ?_)
    rw [contains_push]
    cases seen.contains x.born <;> cases (x.born == e.born) <;> rfl
  rw [h1]
  refine perm_out ?_ he
  have hsub : (leftOf es seen).toList.Sublist es.toList := by
    unfold leftOf
    rw [Array.toList_filter]
    exact List.filter_sublist
  exact (hsub.map _).nodup hn
theorem Rn.start {w : World} {b : Nat} {l : List En} (h : Mp w b l) : ∃ w', (Instr.range 81 (.map (some b))).run Try.prog w = .ok (.pointer (some ⟨w.heap.size, 0, none⟩)) w' ∧ Rn w' b w.heap.size l [] ∧ w.grownBy w' none ∧ w'.heap.size = w.heap.size + 1 := by
  have hlt := h.lt
  obtain ⟨es, clock, hb, hst, hl⟩ := h
  refine ⟨_, run_range_map w 81 83 36 b es clock Try.underlying81 hb, ⟨es, clock, clock, #[], clock, [], ((MapKept.heap_alloc w _).2 b hlt).trans hb, hst, hl, (MapKept.heap_alloc w _).1, hst.1, Nat.le_refl _, Nat.le_refl _, ?_, rfl⟩, World.grownBy_alloc w _ none, by simp⟩
  have : (leftOf es #[]).toList = es.toList := by
    unfold leftOf
    rw [Array.toList_filter]
    exact List.filter_eq_self.2 (fun x _ => by simp)
  rw [this]
  exact List.Perm.refl _
theorem Rn.keep {w w1 : World} {b r : Nat} {l gone : List En} (h : Rn w b r l gone) (e1 : w1.heap[b]? = w.heap[b]?) (e2 : w1.heap[r]? = w.heap[r]?) : Rn w1 b r l gone ∧ w1.rangeLeft b r = w.rangeLeft b r := by
  obtain ⟨es, clock, since, seen, c0, g, hb, h1, h2, hr, rest⟩ := h
  refine ⟨⟨es, clock, since, seen, c0, g, e1.trans hb, h1, h2, e2.trans hr, rest⟩, ?_⟩
  simp only [World.rangeLeft, e1, e2]
theorem Rn.lt {w : World} {b r : Nat} {l gone : List En} (h : Rn w b r l gone) : b < w.heap.size ∧ r < w.heap.size := by
  obtain ⟨es, clock, since, seen, c0, g, hb, h1, h2, hr, rest⟩ := h
  exact ⟨(Array.getElem?_eq_some_iff.1 hb).1, (Array.getElem?_eq_some_iff.1 hr).1⟩
theorem Rn.below {w w1 : World} {b r g : Nat} {l gone : List En} (h : Rn w b r l gone) (hb : Below g w w1) (h1 : b < g) (h2 : r < g) : Rn w1 b r l gone ∧ w1.rangeLeft b r = w.rangeLeft b r :=
  h.keep (hb.block b h1) (hb.block r h2)
theorem Rn.next {w : World} {b r : Nat} {l gone : List En} (h : Rn w b r l gone) (ty : TypeId) :
    (gone.Perm l ∧ (Instr.next (.pointer (some ⟨r, 0, none⟩)) false ty).run Try.prog w = .ok (.tuple #[.bool false]) w) ∨
    ∃ (x : En) (w' : World), (Instr.next (.pointer (some ⟨r, 0, none⟩)) false ty).run Try.prog w = .ok (.tuple #[.bool true, KV x.v x.m, .agg (EC x)]) w' ∧ x ∈ l ∧ Rn w' b r l (gone ++ [x]) ∧ gone.length < l.length ∧ w'.rangeLeft b r < w.rangeLeft b r ∧ w.grownBy w' (some r) ∧ w'.heap.size = w.heap.size ∧
      (Instr.entry (.pointer (some ⟨r, 0, none⟩))).run Try.prog w' = .ok (.tuple #[KV x.v x.m, .agg (EC x)]) w' := by
  obtain ⟨es, clock, since, seen, c0, g, hb, hst, hl, hr, hold, hsc, hsk, hp, rfl⟩ := h
  have hne : r ≠ b := fun e => by rw [e, hb] at hr; cases hr
  have hn := ((stamped_iff es clock).1 hst).2.1
  have hlen : es.toList.length = l.length := by have := congrArg List.length hl; simpa using this
  rcases run_next_at (P := Try.prog) w ty r b since c0 seen es clock hr hb hold hsc with ⟨h0, hrun⟩ | ⟨e, he, w1, hal, hrun⟩
  · refine Or.inl ⟨?_, hrun⟩
    have : leftOf es seen = #[] := Array.eq_empty_of_size_eq_zero h0
    rw [this] at hp
    simp only [List.append_nil] at hp
    rw [← en_map hl]
    exact (hp.map enOf).symm
  · obtain ⟨hem, hes⟩ := mem_left he
    obtain ⟨j, hj⟩ := List.getElem?_of_mem hem
    obtain ⟨m, hm, hk, hv⟩ := mp_get hl hj
    have hr1 : w1.heap[r]? = some (.mapIter (some b) since seen c0) := by rcases hal with rfl | rfl <;> exact hr
    have hb1 : w1.heap[b]? = some (.map es clock) := by rcases hal with rfl | rfl <;> exact hb
    have hset := heap_set (o' := .mapIter (some b) since (seen.push e.born) clock) hr1
    have hb' : (setBlock w1 r (.mapIter (some b) since (seen.push e.born) clock)).heap[b]? = some (.map es clock) := (hset.2 b (fun e1 => hne e1.symm)).trans hb1
    have hpl := left_push hn he
    have hvm : enOf e = m := by unfold enOf; rw [hv]; rfl
    refine Or.inr ⟨m, setBlock w1 r (.mapIter (some b) since (seen.push e.born) clock), by rw [hrun, hk, hv], List.mem_of_getElem? hm, ⟨es, clock, since, seen.push e.born, clock, g ++ [e], hb', hst, hl, hset.1, hold, hsk, hsk, ?_, by simp [hvm]⟩, ?_, ?_, ?_, ?_, ?_⟩
    · refine hp.trans ?_
      rw [List.append_assoc]
      exact hpl.append_left g
    · have h1 := hp.length_eq
      have h2 := hpl.length_eq
      simp at h1 h2
      simp
      simp at hlen
      omega
    · simp only [World.rangeLeft, hb, hr, hb', show (setBlock w1 r (.mapIter (some b) since (seen.push e.born) clock)).heap[r]? = _ from hset.1]
      exact left_shrinks es seen e he
    · rcases hal with rfl | rfl <;> exact ⟨rfl, rfl, rfl, by simp [setBlock], fun i _ hi => hset.2 i (fun e1 => hi (by rw [e1]))⟩
    · rcases hal with rfl | rfl <;> simp [setBlock]
    · have := run_entry_at (P := Try.prog) _ r b since seen es clock e hset.1 hb' hem hn
      rw [hk, hv] at this
      exact this
section
variable (w : World) {ops : Array Oper} {rest : List Oper} {o : Oper} {a : Act} {Q : Exit → Act → World → Prop}
theorem wpl_range (hg : o.guard = none) (m : Operand) (hop : o.op = Op.range 81 m) (b : Nat) (l : List En) (hm : a.eval m = .map (some b)) (h : Mp w b l)
    (hK : ∀ w', Rn w' b w.heap.size l [] → w.grownBy w' none → w'.heap.size = w.heap.size + 1 → wpList Try.prog ops Q rest (a.put o.dst (.pointer (some ⟨w.heap.size, 0, none⟩))) w') : wpList Try.prog ops Q (o :: rest) a w := by
  refine wpList_plain hg fun K' hK' => ?_
  obtain ⟨w', hrun, r1, r2, r3⟩ := Rn.start h
  unfold Oper.wp
  simp [execOp, hop, hm, hrun, Result.andThen]
  exact hK' _ _ (hK w' r1 r2 r3)
theorem wpl_next (hg : o.guard = none) (it : Operand) (hop : o.op = Op.next it false) (b r : Nat) (l gone : List En) (hit : a.eval it = .pointer (some ⟨r, 0, none⟩)) (h : Rn w b r l gone)
    (hDone : gone.Perm l → wpList Try.prog ops Q rest (a.put o.dst (.tuple #[.bool false])) w)
    (hMore : ∀ (x : En) (w' : World), x ∈ l → Rn w' b r l (gone ++ [x]) → gone.length < l.length → w'.rangeLeft b r < w.rangeLeft b r → w.grownBy w' (some r) → w'.heap.size = w.heap.size →
      (Instr.entry (.pointer (some ⟨r, 0, none⟩))).run Try.prog w' = .ok (.tuple #[.agg (KC x.v x.m), .agg (EC x)]) w' → wpList Try.prog ops Q rest (a.put o.dst (.tuple #[.bool true, .agg (KC x.v x.m), .agg (EC x)])) w') :
    wpList Try.prog ops Q (o :: rest) a w := by
  refine wpList_plain hg fun K' hK' => ?_
  unfold Oper.wp
  rcases h.next o.type with ⟨h0, hrun⟩ | ⟨x, w', hrun, h1, h2, h3, h4, h5, h6, h7⟩
  · simp [execOp, hop, hit, hrun, Result.andThen]
    exact hK' _ _ (hDone h0)
  · simp [execOp, hop, hit, hrun, Result.andThen]
    exact hK' _ _ (hMore x w' h1 h2 h3 h4 h5 h6 h7)
end
end Go.Proofs.Ytjlmheecefobaaa
