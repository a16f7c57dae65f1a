/- Contract of Vlans, of the program. -/
import Derived.Test.YtelinahpneikiaaG4
import Derived.Test.YtelinahpneikiaaG3
import Derived.Test.YtelinahpneikiaaG1
namespace Go.Proofs.Ytelinahpneikiaa
open Go.RowKit Go.Shelf
attribute [local go_sem] Oper.semAt_some

theorem keepsWalks_of {W W' : World} (h : KeepsOthers W W') : KeepsWalks W W' := ⟨h.size, fun k o hk ho => h.same k o hk (Obj.not_cells_of_walk ho)⟩
set_option maxRecDepth 100000 in
set_option maxHeartbeats 4000000 in
theorem vlans15 (h : Nat) (T : Tb) (w : World) (P : PT w h T) (hL : T.l.length ≤ 1000) :
    Calls Try.prog 15 #[.pointer (some ⟨h + 2, 0, none⟩)] w fun e w' => ∃ ao c, e = .returned (.slice ao (vls T.l 4094).length c) ∧ Its w' w.heap.size ao (vls T.l 4094).length c (vls T.l 4094) ∧ Below w.heap.size w w' := by
  obtain ⟨i0, hi, hz0, hz1, hz2⟩ := info_parts Try.info3
  have hmem : ∀ m ∈ T.l, 1 ≤ m.v ∧ m.v ≤ 4094 := fun m hm => ⟨(P.wf.mem m hm).1, (P.wf.mem m hm).2.1⟩
  refine (callsIn_wide (n := 6)).1 ?_
  refine callsIn_of_wp_marks Try.func15 rfl trivial ?_ rfl
  simp only [Try.ntmps15, List.size_toArray, List.length_cons, List.length_nil, Nat.reduceAdd, Nat.reduceSub, Array.replicate_succ, Array.replicate_zero, List.push_toArray, List.append_toArray, List.nil_append, List.cons_append]
  gi_wp2_with (refine ⟨trivial, ?_⟩; gi_at_call 30; refine (each30_in _ _ trivial rfl _ _).mono ?_; rintro e w' ⟨rfl, rfl⟩)
  have bO := Boxed.new w 29 (.slice none 0 0)
  have bN := Boxed.new (w.alloc (.cells #[.slice none 0 0] 29)) 24 (.pointer (some ⟨h + 2, 0, none⟩))
  rw [World.size_alloc] at bN
  have hB0 : Below w.heap.size w ((w.alloc (.cells #[.slice none 0 0] 29)).alloc (.cells #[.pointer (some ⟨h + 2, 0, none⟩)] 24)) := ((Below.refl _ w).alloc (Nat.le_refl _) _).alloc (by simp) _
  refine wpIn_rangeFunc_ownG (α := Int) rfl (by omega) (gf := 45) (lb := #[.pointer (some ⟨w.heap.size + 1, 0, none⟩)]) rfl trivial (enters_of Try.func45 (by kernel_rfl) rfl)
    (each_stops Fence.wide (6 - 1) trivial rfl (by omega) (w.heap.size + 1) h T _ (by simp) bN.cell (P.on hB0)) walksK_t walksK_b (Below.refl _ _) (fun _ => rfl)
    (fun pre W => (∃ v, Boxed W w.heap.size 29 v ∧ W.ownsRow w.heap.size 3 1 v pre.length (pre.map (Value.int .i64)) ∧ True) ∧ Below w.heap.size w W)
    (fun _ _ _ => False)
    (OwnFrom.and (Own.from (holdsRow_own w.heap.size w.heap.size 29 3 1 (fun pre : List Int => pre.length) (fun pre => pre.map (Value.int .i64)) (fun _ _ => True)) _) (ownFrom_below (Nat.le_refl _) (by simp; omega)))
    (fun _ _ _ _ _ hs _ _ => hs)
    ⟨⟨_, bO.alloc _, World.ownsRow_nil _ _ _ _, trivial⟩, hB0⟩
    (fun x => { tmps := #[.pointer (some ⟨h + 2, 0, none⟩), undef, .slice none 0 0, .pointer (some ⟨w.heap.size, 0, none⟩), .int .i64 x, .pointer (some ⟨h + 2, 0, none⟩), .func (.func 45) #[] #[.pointer (some ⟨w.heap.size + 1, 0, none⟩)], .int .i64 x, undef, undef, undef, undef, undef, undef, undef, undef], defers := [] }) ?assign ?body ?done ?stop
  case assign =>
    intro l x W K hK
    gi_wp2
    exact hK
  case body =>
    rintro l pre x W ⟨⟨v, hv, hrow, -⟩, hB⟩ hlt
    have hc := hv.cell
    gi_wp2_with (gi_at_builtin; refine wpListIn_append_own _ rfl _ _ 29 rfl w.heap.size 3 i0 (.int .i64 0) 1 8 Try.underlying29 hi hz0 hz1 hz2 rfl (by decide) _ _ _ rfl (hrow.alloc _) ⟨W.heap.size, 0, none⟩ 1 1 [.int .i64 x] rfl rfl (cell_one_new _ _ _) (by simp [Value.oneCell']) (by unfold maxLen; omega) (by omega) (by have := hB.size; simp; omega) ?_; intro v' w1 hown' hgrow _; obtain ⟨g', cap', rfl⟩ := ownsRow_succ hown'; obtain ⟨hv1, hv2, hr2, hk2, hb2⟩ := hv.appended (by decide) hrow hB.size (Nat.le_refl _) hown' hgrow; have hc1 := hv1.cell; have hf1 := hv1.frozen)
    exact ⟨hk2.from _, keepsWalks_of hk2, ⟨_, hv2, by simpa using hr2, trivial⟩, hB.trans hb2⟩
  case done =>
    rintro D ys W hD hperm ⟨⟨v, hv, hrow, -⟩, hB⟩ hK
    have hc := hv.cell
    have hEQ := vlans_eq hperm hmem
    have hlen : ys.length ≤ 100000 := by have := hperm.length_eq; simp at this; omega
    have hDn : ∀ {W : World} {v : Value} {k : Nat} {zs : List Value}, W.ownsRow w.heap.size 3 1 v k zs → W.heap[D]? = some (.deferred (some [])) → some D ≠ v.ownBlock := fun hr hk e => by
      rcases hr.2 with ⟨rfl, _⟩ | ⟨g, cap, cur, rfl, _, hgb, _⟩
      · cases e
      · obtain rfl : D = g := by simpa [Value.ownBlock] using e
        rw [hgb] at hk
        cases hk
    have hDlt : ∀ {W : World}, W.heap[D]? = some (.deferred (some [])) → D < W.heap.size := fun hk => (Array.getElem?_eq_some_iff.1 hk).1
    gi_wp2_with fail
    refine ⟨trivial, (callsIn_wide.2 (sort31 w.heap.size v ys.length ys W hrow hlen)).mono ?_⟩
    rintro e W1 ⟨rfl, hr1, hg1⟩
    have hv1 := hv.kept hg1 (hv.not_row (by decide) hrow)
    have hc1 := hv1.cell
    have hK1 := (hg1.block D (hDlt hK) (hDn hrow hK)).trans hK
    have hB1 := hB.grown hg1 hB.size (fun k hk => (hrow.lt k hk).1)
    clear hc
    gi_wp2_with fail
    refine ⟨trivial, (callsIn_wide.2 (compact32 w.heap.size v ys.length _ W1 hr1 hlen)).mono ?_⟩
    rintro e W2 ⟨v2, rfl, hr2, hg2⟩
    have hK2 := (hg2.block D (hDlt hK1) (hDn hr1 hK1)).trans hK1
    have hB2 := hB1.grown hg2 hB1.size (fun k hk => (hr1.lt k hk).1)
    rw [hEQ] at hr2
    clear hc1
    gi_wp2
    refine ⟨by simp, .inl ⟨_, _, rfl, run_takeDeferred hK2, ?_⟩⟩
    have hr3 : IRow (W2.putObj D (.deferred none)) w.heap.size v2 (vls T.l 4094).length (vls T.l 4094) := ownsRow_putObj hr2 _ hK2 rfl
    obtain ⟨ao, c, rfl, hI⟩ := hr3.its
    exact ⟨_, results_tmp rfl _ _ _, ao, c, rfl, hI, hB2.trans (belowK_b (w := w) (Nat.le_refl _) W2 D _ _ (by simp at hD; omega) hK2 rfl rfl)⟩
  case stop =>
    rintro D c pre W _ _ h _
    exact h.elim
end Go.Proofs.Ytelinahpneikiaa
