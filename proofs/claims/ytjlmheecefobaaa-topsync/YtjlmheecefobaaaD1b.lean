/- Contracts of Compare, Or and the closure that orders entries, in worlds that only grow; the library's SortFunc. -/
import Derived.Test.YtjlmheecefobaaaD1
namespace Go.Proofs.Ytjlmheecefobaaa
open Go.Shelf Go.RowKit Go.Lib Go.Sort Go.PlainAid

set_option maxRecDepth 100000 in
set_option maxHeartbeats 2000000 in
theorem order55 (x y : En) (w : World) (hx : Mok x.m) (hy : Mok y.m) :
    Calls Try.prog 55 #[.agg (EC x), .agg (EC y)] w fun e w' => e = .returned (.int .i64 (cfE x y)) ∧ Grw w w' := by
  have W0 : Hid (Grw w ((w.alloc (.cells (EC x) 36)).alloc (.cells (EC y) 36))) := hide (((Grw.refl w).alloc _).alloc _)
  obtain ⟨A, B⟩ := box_e2 w x y
  have HA := hide A
  have HB := hide B
  have HX := hide hx
  have HY := hide hy
  clear A B hx hy
  go_enter Try.func55, Try.ntmps55
  go_wp2_with fail
  generalize (w.alloc (.cells (EC x) 36)).alloc (.cells (EC y) 36) = W1 at *
  generalize w.heap.size = k0 at *
  obtain ⟨k1, hk1⟩ : ∃ k1, k1 = k0 + 1 := ⟨_, rfl⟩
  rw [← hk1] at HB ⊢
  clear hk1
  refine wp_region_held_drew (S := fun w' => Box w' k0 (ecl x) ∧ Box w' k1 (ecl y)) (by kernel_rfl) ⟨HA.out.drew, HB.out.drew⟩ (fun hHeld => ?_)
  replace W0 := hide W0.out.drew
  clear HA HB
  generalize W1.drew = u0 at *
  refine wpAnyH_take (i := 0) (v := .pointer (some ⟨k0, 0, none⟩)) rfl (by kernel_rfl) (by kernel_rfl) (by kernel_rfl) (fun _ _ _ h => h) (Or.inl ⟨by rfl, ?_⟩) hHeld ?_
  · intro W hW; (try dsimp only at hW); go_simp
  change wpAnyH _ _ _ _ _ _ _ ⟨#[_, _, .pointer (some ⟨k0, 0, none⟩), .pointer (some ⟨k1, 0, none⟩), _, .pointer (some ⟨k0, 0, none⟩), _, _, _, _, _, _, _, _, _, _, _], []⟩ _
  refine wpAnyH_take (i := 1) (v := .int .i64 x.v) rfl (by kernel_rfl) (by kernel_rfl) (by kernel_rfl) (fun _ _ _ h => h) (Or.inl ⟨by rfl, ?_⟩) hHeld ?_
  · intro W hW; (try dsimp only at hW); have hc := hW.1.cell 0 _ rfl; clear hW; go_simp
  change wpAnyH _ _ _ _ _ _ _ ⟨#[_, _, .pointer (some ⟨k0, 0, none⟩), .pointer (some ⟨k1, 0, none⟩), _, .pointer (some ⟨k0, 0, none⟩), .int .i64 x.v, _, _, _, _, _, _, _, _, _, _], []⟩ _
  refine wpAnyH_take (i := 2) (v := .pointer (some ⟨k1, 0, none⟩)) rfl (by kernel_rfl) (by kernel_rfl) (by kernel_rfl) (fun _ _ _ h => h) (Or.inl ⟨by rfl, ?_⟩) hHeld ?_
  · intro W hW; (try dsimp only at hW); go_simp
  change wpAnyH _ _ _ _ _ _ _ ⟨#[_, _, .pointer (some ⟨k0, 0, none⟩), .pointer (some ⟨k1, 0, none⟩), _, .pointer (some ⟨k0, 0, none⟩), .int .i64 x.v, .pointer (some ⟨k1, 0, none⟩), _, _, _, _, _, _, _, _, _], []⟩ _
  refine wpAnyH_take (i := 3) (v := .int .i64 y.v) rfl (by kernel_rfl) (by kernel_rfl) (by kernel_rfl) (fun _ _ _ h => h) (Or.inl ⟨by rfl, ?_⟩) hHeld ?_
  · intro W hW; (try dsimp only at hW); have hc := hW.2.cell 0 _ rfl; clear hW; go_simp
  change wpAnyH _ _ _ _ _ _ _ ⟨#[_, _, .pointer (some ⟨k0, 0, none⟩), .pointer (some ⟨k1, 0, none⟩), _, .pointer (some ⟨k0, 0, none⟩), .int .i64 x.v, .pointer (some ⟨k1, 0, none⟩), .int .i64 y.v, _, _, _, _, _, _, _, _], []⟩ _
  refine wpAnyH_take (i := 5) (v := .pointer (some ⟨k0, 1, none⟩)) rfl (by kernel_rfl) (by kernel_rfl) (by kernel_rfl) (fun _ _ _ h => h) (Or.inl ⟨by rfl, ?_⟩) hHeld ?_
  · intro W hW; (try dsimp only at hW); go_simp
  change wpAnyH _ _ _ _ _ _ _ ⟨#[_, _, .pointer (some ⟨k0, 0, none⟩), .pointer (some ⟨k1, 0, none⟩), _, .pointer (some ⟨k0, 0, none⟩), .int .i64 x.v, .pointer (some ⟨k1, 0, none⟩), .int .i64 y.v, _, .pointer (some ⟨k0, 1, none⟩), _, _, _, _, _, _], []⟩ _
  refine wpAnyH_take (i := 6) (v := .agg (MC x.m)) rfl (by kernel_rfl) (by kernel_rfl) (by kernel_rfl) (fun _ _ _ h => h) (yieldsIf_load_mid (by rfl) 34 (.tmp 10) rfl k0 1 rfl (mcl x.m) _ (fun W hW => mac_of hW.1) Try.underlying34 rfl Try.size34) hHeld ?_
  change wpAnyH _ _ _ _ _ _ _ ⟨#[_, _, .pointer (some ⟨k0, 0, none⟩), .pointer (some ⟨k1, 0, none⟩), _, .pointer (some ⟨k0, 0, none⟩), .int .i64 x.v, .pointer (some ⟨k1, 0, none⟩), .int .i64 y.v, _, .pointer (some ⟨k0, 1, none⟩), .agg (MC x.m), _, _, _, _, _], []⟩ _
  refine wpAnyH_take (i := 7) (v := .pointer (some ⟨k1, 1, none⟩)) rfl (by kernel_rfl) (by kernel_rfl) (by kernel_rfl) (fun _ _ _ h => h) (Or.inl ⟨by rfl, ?_⟩) hHeld ?_
  · intro W hW; (try dsimp only at hW); go_simp
  change wpAnyH _ _ _ _ _ _ _ ⟨#[_, _, .pointer (some ⟨k0, 0, none⟩), .pointer (some ⟨k1, 0, none⟩), _, .pointer (some ⟨k0, 0, none⟩), .int .i64 x.v, .pointer (some ⟨k1, 0, none⟩), .int .i64 y.v, _, .pointer (some ⟨k0, 1, none⟩), .agg (MC x.m), .pointer (some ⟨k1, 1, none⟩), _, _, _, _], []⟩ _
  refine wpAnyH_take (i := 8) (v := .agg (MC y.m)) rfl (by kernel_rfl) (by kernel_rfl) (by kernel_rfl) (fun _ _ _ h => h) (yieldsIf_load_mid (by rfl) 34 (.tmp 12) rfl k1 1 rfl (mcl y.m) _ (fun W hW => mac_of hW.2) Try.underlying34 rfl Try.size34) hHeld ?_
  change wpAnyH _ _ _ _ _ _ _ ⟨#[_, _, .pointer (some ⟨k0, 0, none⟩), .pointer (some ⟨k1, 0, none⟩), _, .pointer (some ⟨k0, 0, none⟩), .int .i64 x.v, .pointer (some ⟨k1, 0, none⟩), .int .i64 y.v, _, .pointer (some ⟨k0, 1, none⟩), .agg (MC x.m), .pointer (some ⟨k1, 1, none⟩), .agg (MC y.m), _, _, _], []⟩ _
  refine wpAnyH_ready (rs := [4]) (by kernel_rfl) (by simp) ?_
  refine AllReadyH.cons rfl (fun K hK => ?_) AllReadyH.nil
  go_simp
  refine (cmp52 x.v y.v _).mono ?_
  rintro e u1 ⟨rfl, rfl⟩
  refine hK.out _ _ hHeld (fun hHeld => ?_)
  clear hK K
  change wpAnyH _ _ _ _ _ _ _ ⟨#[_, _, .pointer (some ⟨k0, 0, none⟩), .pointer (some ⟨k1, 0, none⟩), _, .pointer (some ⟨k0, 0, none⟩), .int .i64 x.v, .pointer (some ⟨k1, 0, none⟩), .int .i64 y.v, .int .i64 (cmp3 x.v y.v), .pointer (some ⟨k0, 1, none⟩), .agg (MC x.m), .pointer (some ⟨k1, 1, none⟩), .agg (MC y.m), _, _, _], []⟩ _
  refine wpAnyH_ready (rs := [9]) (by kernel_rfl) (by simp) ?_
  refine AllReadyH.cons rfl (fun K hK => ?_) AllReadyH.nil
  go_simp
  refine (compare53g x.m y.m _ HX.out HY.out).mono ?_
  rintro e u2 ⟨rfl, hg⟩
  replace W0 := hide (W0.out.trans hg)
  refine hK.out _ _ ⟨hHeld.1.on hg.below, hHeld.2.on hg.below⟩ (fun hHeld => ?_)
  clear hK K hg
  change wpAnyH _ _ _ _ _ _ _ ⟨#[_, _, .pointer (some ⟨k0, 0, none⟩), .pointer (some ⟨k1, 0, none⟩), _, .pointer (some ⟨k0, 0, none⟩), .int .i64 x.v, .pointer (some ⟨k1, 0, none⟩), .int .i64 y.v, .int .i64 (cmp3 x.v y.v), .pointer (some ⟨k0, 1, none⟩), .agg (MC x.m), .pointer (some ⟨k1, 1, none⟩), .agg (MC y.m), .int .i64 (cmp3 (num x.m) (num y.m)), _, _], []⟩ _
  refine wpAnyH_ready (rs := [10]) (by kernel_rfl) (by simp) ?_
  refine AllReadyH.cons rfl (fun K hK => ?_) AllReadyH.nil
  go_simp
  have c0 : (u2.alloc (.cells #[.int .i64 (cmp3 x.v y.v), .int .i64 (cmp3 (num x.m) (num y.m))] 3)).cell? ⟨u2.heap.size, 0, none⟩ = some (.int .i64 (cmp3 x.v y.v)) := by rw [World.cell?_alloc_at _ _ _ _ rfl]; rfl
  have c1 : (u2.alloc (.cells #[.int .i64 (cmp3 x.v y.v), .int .i64 (cmp3 (num x.m) (num y.m))] 3)).cell? ⟨u2.heap.size, 1, none⟩ = some (.int .i64 (cmp3 (num x.m) (num y.m))) := by rw [World.cell?_alloc_at _ _ _ _ rfl]; rfl
  replace W0 := hide (W0.out.alloc (.cells #[.int .i64 (cmp3 x.v y.v), .int .i64 (cmp3 (num x.m) (num y.m))] 3))
  refine hK.out _ _ ⟨hHeld.1.alloc _, hHeld.2.alloc _⟩ (fun hHeld => ?_)
  clear hK K
  generalize (u2.alloc (.cells #[.int .i64 (cmp3 x.v y.v), .int .i64 (cmp3 (num x.m) (num y.m))] 3)) = u3 at *
  generalize u2.heap.size = kb at *
  change wpAnyH _ _ _ _ _ _ _ ⟨#[_, _, .pointer (some ⟨k0, 0, none⟩), .pointer (some ⟨k1, 0, none⟩), _, .pointer (some ⟨k0, 0, none⟩), .int .i64 x.v, .pointer (some ⟨k1, 0, none⟩), .int .i64 y.v, .int .i64 (cmp3 x.v y.v), .pointer (some ⟨k0, 1, none⟩), .agg (MC x.m), .pointer (some ⟨k1, 1, none⟩), .agg (MC y.m), .int .i64 (cmp3 (num x.m) (num y.m)), .slice (some ⟨kb, 0, none⟩) 2 2, _], []⟩ _
  refine wpAnyH_ready (rs := [11]) (by kernel_rfl) (by simp) ?_
  refine AllReadyH.cons rfl (fun K hK => ?_) AllReadyH.nil
  go_simp
  refine (or51 kb (cmp3 x.v y.v) (cmp3 (num x.m) (num y.m)) _ c0 c1).mono ?_
  rintro e u4 ⟨rfl, rfl⟩
  refine hK.out _ _ hHeld (fun hHeld => ?_)
  clear hK K
  change wpAnyH _ _ _ _ _ _ _ ⟨#[_, _, .pointer (some ⟨k0, 0, none⟩), .pointer (some ⟨k1, 0, none⟩), _, .pointer (some ⟨k0, 0, none⟩), .int .i64 x.v, .pointer (some ⟨k1, 0, none⟩), .int .i64 y.v, .int .i64 (cmp3 x.v y.v), .pointer (some ⟨k0, 1, none⟩), .agg (MC x.m), .pointer (some ⟨k1, 1, none⟩), .agg (MC y.m), .int .i64 (cmp3 (num x.m) (num y.m)), .slice (some ⟨kb, 0, none⟩) 2 2, .int .i64 (cfE x y)], []⟩ _
  refine wpAnyH_take (i := 12) (v := .int .i64 (cfE x y)) rfl (by kernel_rfl) (by kernel_rfl) (by kernel_rfl) (fun _ _ _ h => h) (Or.inl ⟨by rfl, ?_⟩) hHeld ?_
  · intro W hW; (try dsimp only at hW); go_simp
  change wpAnyH _ _ _ _ _ _ _ ⟨#[_, _, .pointer (some ⟨k0, 0, none⟩), .pointer (some ⟨k1, 0, none⟩), .int .i64 (cfE x y), .pointer (some ⟨k0, 0, none⟩), .int .i64 x.v, .pointer (some ⟨k1, 0, none⟩), .int .i64 y.v, .int .i64 (cmp3 x.v y.v), .pointer (some ⟨k0, 1, none⟩), .agg (MC x.m), .pointer (some ⟨k1, 1, none⟩), .agg (MC y.m), .int .i64 (cmp3 (num x.m) (num y.m)), .slice (some ⟨kb, 0, none⟩) 2 2, .int .i64 (cfE x y)], []⟩ _
  refine wpAnyH_done (by kernel_rfl) ?_ _
  go_wp2
  go_ret
  exact ⟨rfl, W0.out⟩
end Go.Proofs.Ytjlmheecefobaaa
