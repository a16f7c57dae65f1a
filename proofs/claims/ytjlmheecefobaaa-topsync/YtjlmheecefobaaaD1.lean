/- Contracts of Compare, Or and the closure that orders entries, in worlds that only grow; the library's SortFunc. -/
import Derived.Test.YtjlmheecefobaaaSh
import Derived.Test.YtjlmheecefobaaaA6
namespace Go.Proofs.Ytjlmheecefobaaa
open Go.Shelf Go.RowKit Go.Lib Go.Sort Go.PlainAid

/-- Nothing but draws and new blocks. -/
def Grw (w w' : World) : Prop := ∃ q os, w' = grow (w.drewN q) os
theorem grow_nil (w : World) : grow w #[] = w := by simp [grow]
theorem Grw.refl (w : World) : Grw w w := ⟨0, #[], by simp [grow, World.drewN]⟩
theorem Grw.trans {w w1 w2 : World} (h : Grw w w1) (k : Grw w1 w2) : Grw w w2 := by
  obtain ⟨q, os, rfl⟩ := h
  obtain ⟨q2, os2, rfl⟩ := k
  refine ⟨q + q2, os ++ os2, ?_⟩
  rw [← grow_grow]
  simp [grow, World.drewN, Nat.add_assoc]
theorem Grw.alloc {w w1 : World} (h : Grw w w1) (o : Obj) : Grw w (w1.alloc o) := h.trans ⟨0, #[o], by rw [alloc_eq_grow]; rfl⟩
theorem Grw.drew {w w1 : World} (h : Grw w w1) : Grw w w1.drew := h.trans ⟨1, #[], (grow_nil _).symm⟩
theorem Grw.drewN {w w1 : World} (h : Grw w w1) (n : Nat) : Grw w (w1.drewN n) := h.trans ⟨n, #[], (grow_nil _).symm⟩
theorem Grw.below {w w1 : World} (h : Grw w w1) : Below w.heap.size w w1 := by
  obtain ⟨q, os, rfl⟩ := h
  refine ⟨rfl, rfl, rfl, by simp [World.drewN], fun k hk => ?_⟩
  show (w.heap ++ os)[k]? = w.heap[k]?
  rw [Array.getElem?_append_left hk]
section
attribute [local go_sem] MC0 MC1 MC2 MC3 MC4 MC5
set_option maxRecDepth 100000 in
set_option maxHeartbeats 400000 in
theorem num64g (m : Mc) (w : World) (h : Mok m) : Calls Try.prog 64 #[.agg (MC m)] w fun e w' => e = .returned (.int .u64 (num m)) ∧ Grw w w' := by
  go_enter Try.func64, Try.ntmps64
  go_wp2
  go_rounds 7
  go_ret
  exact ⟨ret_int (or_num h), (Grw.refl w).alloc _⟩
set_option maxRecDepth 100000 in
set_option maxHeartbeats 1000000 in
theorem compare53g (x y : Mc) (w : World) (h : Mok x) (k : Mok y) :
    Calls Try.prog 53 #[.agg (MC x), .agg (MC y)] w fun e w' => e = .returned (.int .i64 (cmp3 (num x) (num y))) ∧ Grw w w' := by
  have he := eqMac x y
  have h6 := eqM_num h k
  have W0 : Hid (Grw w ((w.alloc (.cells (MC x) 34)).alloc (.cells (MC y) 34))) := hide (((Grw.refl w).alloc _).alloc _)
  by_cases hx : num x = num y
  · have ht : eqM x y = true := by rw [h6]; simp [hx]
    have hr : cmp3 (num x) (num y) = 0 := by simp [cmp3, hx]
    rw [hr]
    clear h6 hx hr
    obtain ⟨A, B⟩ := box_m2 w x y
    have A0 := A.at_
    have B0 := B.at_
    clear A B
    have tk1 : True := trivial
    have tk2 : True := trivial
    go_enter Try.func53, Try.ntmps53
    go_wp2_with (first | (have _t := tk1; refine wpl_mac (.tmp 2) rfl A0 ?_ ?_ ?_; rfl; rfl; clear tk1) | (have _t := tk2; refine wpl_mac (.tmp 3) rfl B0 ?_ ?_ ?_; rfl; rfl; clear tk2))
    go_ret
    exact ⟨rfl, W0.out⟩
  · have ht : eqM x y = false := by rw [h6]; simp [hx]
    clear h6
    have HX : Hid (¬ num x = num y) := hide hx
    clear hx
    obtain ⟨A, B⟩ := box_m2 w x y
    have A0 := A.at_
    have B0 := B.at_
    have HA := hide (mc_cells A)
    have HB := hide (mc_cells B)
    clear A B
    have hz : w.heap.size < w.heap.size + 1 + 1 := by omega
    have tk1 : True := trivial
    have tk2 : True := trivial
    go_enter Try.func53, Try.ntmps53
    go_wp2_with (first | (have _t := tk1; refine wpl_mac (.tmp 2) rfl A0 ?_ ?_ ?_; rfl; rfl; clear tk1) | (have _t := tk2; refine wpl_mac (.tmp 3) rfl B0 ?_ ?_ ?_; rfl; rfl; clear tk2))
    clear A0 B0
    obtain ⟨c0, c1, c2, c3, c4, c5⟩ := HA.out
    obtain ⟨d0, d1, d2, d3, d4, d5⟩ := HB.out
    go_region_held3 (fun w' => w'.cell? ⟨w.heap.size, 0, none⟩ = some (.int .u8 x.a) ∧ w'.cell? ⟨w.heap.size, 1, none⟩ = some (.int .u8 x.b) ∧ w'.cell? ⟨w.heap.size, 2, none⟩ = some (.int .u8 x.c) ∧ w'.cell? ⟨w.heap.size, 3, none⟩ = some (.int .u8 x.d) ∧ w'.cell? ⟨w.heap.size, 4, none⟩ = some (.int .u8 x.e) ∧ w'.cell? ⟨w.heap.size, 5, none⟩ = some (.int .u8 x.f) ∧ w'.cell? ⟨w.heap.size + 1, 0, none⟩ = some (.int .u8 y.a) ∧ w'.cell? ⟨w.heap.size + 1, 1, none⟩ = some (.int .u8 y.b) ∧ w'.cell? ⟨w.heap.size + 1, 2, none⟩ = some (.int .u8 y.c) ∧ w'.cell? ⟨w.heap.size + 1, 3, none⟩ = some (.int .u8 y.d) ∧ w'.cell? ⟨w.heap.size + 1, 4, none⟩ = some (.int .u8 y.e) ∧ w'.cell? ⟨w.heap.size + 1, 5, none⟩ = some (.int .u8 y.f)) (go_keep)
      (first | (go_at_call_of 64 x.a; refine (num64g x _ h).mono ?_; rintro e w1 ⟨rfl, hg⟩; have hb := hg.below; obtain ⟨hc, hf⟩ := bcell hb; have hz1 : w.heap.size + 1 < w1.heap.size := (by have := hb.size; simp at this; omega); have hz0 : w.heap.size < w1.heap.size := (by omega); have HG1 := hide hg) | (go_at_call_of 64 y.a; refine (num64g y _ k).mono ?_; rintro e w2 ⟨rfl, hg2⟩; have hd := hg2.below; obtain ⟨hc2, hf2⟩ := bcell hd; have HG2 := hide hg2))
    have hB : Hid (Grw w w2) := hide ((W0.out.drew.trans HG1.out).trans HG2.out)
    clear hc hf hb hd hc2 hf2
    go_wp2
    · go_ret
      exact ⟨ret_int (cmp3_lt (by assumption)).symm, hB.out⟩
    · go_ret
      have hx := HX.out
      exact ⟨ret_int (cmp3_gt (by omega)).symm, hB.out⟩
end
set_option maxRecDepth 100000 in
set_option maxHeartbeats 1000000 in
theorem or51 (b : Nat) (x y : Int) (w : World) (c0 : w.cell? ⟨b, 0, none⟩ = some (.int .i64 x)) (c1 : w.cell? ⟨b, 1, none⟩ = some (.int .i64 y)) :
    Calls Try.prog 51 #[.slice (some ⟨b, 0, none⟩) 2 2] w fun e w' => e = .returned (.int .i64 (if x = 0 then y else x)) ∧ w' = w := by
  by_cases hx : x = 0
  · subst hx
    rw [if_pos rfl]
    by_cases hy : y = 0
    · subst hy
      go_enter Try.func51, Try.ntmps51
      go_wp2
      go_rounds 3
      go_ret
      exact ⟨rfl, rfl⟩
    · have hy2 : (y != 0) = true := by simp [hy]
      go_enter Try.func51, Try.ntmps51
      go_wp2
      go_rounds 3
      go_ret
      exact ⟨rfl, rfl⟩
  · have hx2 : (x != 0) = true := by simp [hx]
    rw [if_neg hx]
    go_enter Try.func51, Try.ntmps51
    go_wp2
    go_rounds 3
    go_ret
    exact ⟨rfl, rfl⟩
/-- How the closure orders two entries. -/
def cfE (x y : En) : Int := if cmp3 x.v y.v = 0 then cmp3 (num x.m) (num y.m) else cmp3 x.v y.v
theorem box_e2 (w : World) (x y : En) : Box ((w.alloc (.cells (EC x) 36)).alloc (.cells (EC y) 36)) w.heap.size (ecl x) ∧ Box ((w.alloc (.cells (EC x) 36)).alloc (.cells (EC y) 36)) (w.heap.size + 1) (ecl y) := box_two w (ecl x) (ecl y) 36
set_option maxRecDepth 100000 in
set_option maxHeartbeats 2000000 in
theorem order50 (x y : En) (w : World) (hx : Mok x.m) (hy : Mok y.m) :
    Calls Try.prog 50 #[.agg (EC x), .agg (EC y)] w fun e w' => e = .returned (.int .i64 (cfE x y)) ∧ Grw w w' := by
  have W0 : Hid (Grw w ((w.alloc (.cells (EC x) 36)).alloc (.cells (EC y) 36))) := hide (((Grw.refl w).alloc _).alloc _)
  obtain ⟨A, B⟩ := box_e2 w x y
  have HA := hide A
  have HB := hide B
  have HX := hide hx
  have HY := hide hy
  clear A B hx hy
  go_enter Try.func50, Try.ntmps50
  go_wp2_with fail
  generalize (w.alloc (.cells (EC x) 36)).alloc (.cells (EC y) 36) = W1 at *
  generalize w.heap.size = k0 at *
  obtain ⟨k1, hk1⟩ : ∃ k1, k1 = k0 + 1 := ⟨_, rfl⟩
  rw [← hk1] at HB ⊢
  clear hk1
  refine wp_region_held_drew (S := fun w' => Box w' k0 (ecl x) ∧ Box w' k1 (ecl y)) (by kernel_rfl) ⟨HA.out.drew, HB.out.drew⟩ (fun hHeld => ?_)
  replace W0 := hide W0.out.drew
  clear HA HB
  generalize W1.drew = u0 at *
  refine wpAnyH_take (i := 0) (v := .pointer (some ⟨k0, 0, none⟩)) rfl (by kernel_rfl) (by kernel_rfl) (by kernel_rfl) (fun _ _ _ h => h) (Or.inl ⟨by rfl, ?_⟩) hHeld ?_
  · intro W hW; (try dsimp only at hW); go_simp
  change wpAnyH _ _ _ _ _ _ _ ⟨#[_, _, .pointer (some ⟨k0, 0, none⟩), .pointer (some ⟨k1, 0, none⟩), _, .pointer (some ⟨k0, 0, none⟩), _, _, _, _, _, _, _, _, _, _, _], []⟩ _
  refine wpAnyH_take (i := 1) (v := .int .i64 x.v) rfl (by kernel_rfl) (by kernel_rfl) (by kernel_rfl) (fun _ _ _ h => h) (Or.inl ⟨by rfl, ?_⟩) hHeld ?_
  · intro W hW; (try dsimp only at hW); have hc := hW.1.cell 0 _ rfl; clear hW; go_simp
  change wpAnyH _ _ _ _ _ _ _ ⟨#[_, _, .pointer (some ⟨k0, 0, none⟩), .pointer (some ⟨k1, 0, none⟩), _, .pointer (some ⟨k0, 0, none⟩), .int .i64 x.v, _, _, _, _, _, _, _, _, _, _], []⟩ _
  refine wpAnyH_take (i := 2) (v := .pointer (some ⟨k1, 0, none⟩)) rfl (by kernel_rfl) (by kernel_rfl) (by kernel_rfl) (fun _ _ _ h => h) (Or.inl ⟨by rfl, ?_⟩) hHeld ?_
  · intro W hW; (try dsimp only at hW); go_simp
  change wpAnyH _ _ _ _ _ _ _ ⟨#[_, _, .pointer (some ⟨k0, 0, none⟩), .pointer (some ⟨k1, 0, none⟩), _, .pointer (some ⟨k0, 0, none⟩), .int .i64 x.v, .pointer (some ⟨k1, 0, none⟩), _, _, _, _, _, _, _, _, _], []⟩ _
  refine wpAnyH_take (i := 3) (v := .int .i64 y.v) rfl (by kernel_rfl) (by kernel_rfl) (by kernel_rfl) (fun _ _ _ h => h) (Or.inl ⟨by rfl, ?_⟩) hHeld ?_
  · intro W hW; (try dsimp only at hW); have hc := hW.2.cell 0 _ rfl; clear hW; go_simp
  change wpAnyH _ _ _ _ _ _ _ ⟨#[_, _, .pointer (some ⟨k0, 0, none⟩), .pointer (some ⟨k1, 0, none⟩), _, .pointer (some ⟨k0, 0, none⟩), .int .i64 x.v, .pointer (some ⟨k1, 0, none⟩), .int .i64 y.v, _, _, _, _, _, _, _, _], []⟩ _
  refine wpAnyH_take (i := 5) (v := .pointer (some ⟨k0, 1, none⟩)) rfl (by kernel_rfl) (by kernel_rfl) (by kernel_rfl) (fun _ _ _ h => h) (Or.inl ⟨by rfl, ?_⟩) hHeld ?_
  · intro W hW; (try dsimp only at hW); go_simp
  change wpAnyH _ _ _ _ _ _ _ ⟨#[_, _, .pointer (some ⟨k0, 0, none⟩), .pointer (some ⟨k1, 0, none⟩), _, .pointer (some ⟨k0, 0, none⟩), .int .i64 x.v, .pointer (some ⟨k1, 0, none⟩), .int .i64 y.v, _, .pointer (some ⟨k0, 1, none⟩), _, _, _, _, _, _], []⟩ _
  refine wpAnyH_take (i := 6) (v := .agg (MC x.m)) rfl (by kernel_rfl) (by kernel_rfl) (by kernel_rfl) (fun _ _ _ h => h) (yieldsIf_load_mid (by rfl) 34 (.tmp 10) rfl k0 1 rfl (mcl x.m) _ (fun W hW => mac_of hW.1) Try.underlying34 rfl Try.size34) hHeld ?_
  change wpAnyH _ _ _ _ _ _ _ ⟨#[_, _, .pointer (some ⟨k0, 0, none⟩), .pointer (some ⟨k1, 0, none⟩), _, .pointer (some ⟨k0, 0, none⟩), .int .i64 x.v, .pointer (some ⟨k1, 0, none⟩), .int .i64 y.v, _, .pointer (some ⟨k0, 1, none⟩), .agg (MC x.m), _, _, _, _, _], []⟩ _
  refine wpAnyH_take (i := 7) (v := .pointer (some ⟨k1, 1, none⟩)) rfl (by kernel_rfl) (by kernel_rfl) (by kernel_rfl) (fun _ _ _ h => h) (Or.inl ⟨by rfl, ?_⟩) hHeld ?_
  · intro W hW; (try dsimp only at hW); go_simp
  change wpAnyH _ _ _ _ _ _ _ ⟨#[_, _, .pointer (some ⟨k0, 0, none⟩), .pointer (some ⟨k1, 0, none⟩), _, .pointer (some ⟨k0, 0, none⟩), .int .i64 x.v, .pointer (some ⟨k1, 0, none⟩), .int .i64 y.v, _, .pointer (some ⟨k0, 1, none⟩), .agg (MC x.m), .pointer (some ⟨k1, 1, none⟩), _, _, _, _], []⟩ _
  refine wpAnyH_take (i := 8) (v := .agg (MC y.m)) rfl (by kernel_rfl) (by kernel_rfl) (by kernel_rfl) (fun _ _ _ h => h) (yieldsIf_load_mid (by rfl) 34 (.tmp 12) rfl k1 1 rfl (mcl y.m) _ (fun W hW => mac_of hW.2) Try.underlying34 rfl Try.size34) hHeld ?_
  change wpAnyH _ _ _ _ _ _ _ ⟨#[_, _, .pointer (some ⟨k0, 0, none⟩), .pointer (some ⟨k1, 0, none⟩), _, .pointer (some ⟨k0, 0, none⟩), .int .i64 x.v, .pointer (some ⟨k1, 0, none⟩), .int .i64 y.v, _, .pointer (some ⟨k0, 1, none⟩), .agg (MC x.m), .pointer (some ⟨k1, 1, none⟩), .agg (MC y.m), _, _, _], []⟩ _
  refine wpAnyH_ready (rs := [4]) (by kernel_rfl) (by simp) ?_
  refine AllReadyH.cons rfl (fun K hK => ?_) AllReadyH.nil
  go_simp
  refine (cmp52 x.v y.v _).mono ?_
  rintro e u1 ⟨rfl, rfl⟩
  refine hK.out _ _ hHeld (fun hHeld => ?_)
  clear hK K
  change wpAnyH _ _ _ _ _ _ _ ⟨#[_, _, .pointer (some ⟨k0, 0, none⟩), .pointer (some ⟨k1, 0, none⟩), _, .pointer (some ⟨k0, 0, none⟩), .int .i64 x.v, .pointer (some ⟨k1, 0, none⟩), .int .i64 y.v, .int .i64 (cmp3 x.v y.v), .pointer (some ⟨k0, 1, none⟩), .agg (MC x.m), .pointer (some ⟨k1, 1, none⟩), .agg (MC y.m), _, _, _], []⟩ _
  refine wpAnyH_ready (rs := [9]) (by kernel_rfl) (by simp) ?_
  refine AllReadyH.cons rfl (fun K hK => ?_) AllReadyH.nil
  go_simp
  refine (compare53g x.m y.m _ HX.out HY.out).mono ?_
  rintro e u2 ⟨rfl, hg⟩
  replace W0 := hide (W0.out.trans hg)
  refine hK.out _ _ ⟨hHeld.1.on hg.below, hHeld.2.on hg.below⟩ (fun hHeld => ?_)
  clear hK K hg
  change wpAnyH _ _ _ _ _ _ _ ⟨#[_, _, .pointer (some ⟨k0, 0, none⟩), .pointer (some ⟨k1, 0, none⟩), _, .pointer (some ⟨k0, 0, none⟩), .int .i64 x.v, .pointer (some ⟨k1, 0, none⟩), .int .i64 y.v, .int .i64 (cmp3 x.v y.v), .pointer (some ⟨k0, 1, none⟩), .agg (MC x.m), .pointer (some ⟨k1, 1, none⟩), .agg (MC y.m), .int .i64 (cmp3 (num x.m) (num y.m)), _, _], []⟩ _
  refine wpAnyH_ready (rs := [10]) (by kernel_rfl) (by simp) ?_
  refine AllReadyH.cons rfl (fun K hK => ?_) AllReadyH.nil
  go_simp
  have c0 : (u2.alloc (.cells #[.int .i64 (cmp3 x.v y.v), .int .i64 (cmp3 (num x.m) (num y.m))] 3)).cell? ⟨u2.heap.size, 0, none⟩ = some (.int .i64 (cmp3 x.v y.v)) := by rw [World.cell?_alloc_at _ _ _ _ rfl]; rfl
  have c1 : (u2.alloc (.cells #[.int .i64 (cmp3 x.v y.v), .int .i64 (cmp3 (num x.m) (num y.m))] 3)).cell? ⟨u2.heap.size, 1, none⟩ = some (.int .i64 (cmp3 (num x.m) (num y.m))) := by rw [World.cell?_alloc_at _ _ _ _ rfl]; rfl
  replace W0 := hide (W0.out.alloc (.cells #[.int .i64 (cmp3 x.v y.v), .int .i64 (cmp3 (num x.m) (num y.m))] 3))
  refine hK.out _ _ ⟨hHeld.1.alloc _, hHeld.2.alloc _⟩ (fun hHeld => ?_)
  clear hK K
  generalize (u2.alloc (.cells #[.int .i64 (cmp3 x.v y.v), .int .i64 (cmp3 (num x.m) (num y.m))] 3)) = u3 at *
  generalize u2.heap.size = kb at *
  change wpAnyH _ _ _ _ _ _ _ ⟨#[_, _, .pointer (some ⟨k0, 0, none⟩), .pointer (some ⟨k1, 0, none⟩), _, .pointer (some ⟨k0, 0, none⟩), .int .i64 x.v, .pointer (some ⟨k1, 0, none⟩), .int .i64 y.v, .int .i64 (cmp3 x.v y.v), .pointer (some ⟨k0, 1, none⟩), .agg (MC x.m), .pointer (some ⟨k1, 1, none⟩), .agg (MC y.m), .int .i64 (cmp3 (num x.m) (num y.m)), .slice (some ⟨kb, 0, none⟩) 2 2, _], []⟩ _
  refine wpAnyH_ready (rs := [11]) (by kernel_rfl) (by simp) ?_
  refine AllReadyH.cons rfl (fun K hK => ?_) AllReadyH.nil
  go_simp
  refine (or51 kb (cmp3 x.v y.v) (cmp3 (num x.m) (num y.m)) _ c0 c1).mono ?_
  rintro e u4 ⟨rfl, rfl⟩
  refine hK.out _ _ hHeld (fun hHeld => ?_)
  clear hK K
  change wpAnyH _ _ _ _ _ _ _ ⟨#[_, _, .pointer (some ⟨k0, 0, none⟩), .pointer (some ⟨k1, 0, none⟩), _, .pointer (some ⟨k0, 0, none⟩), .int .i64 x.v, .pointer (some ⟨k1, 0, none⟩), .int .i64 y.v, .int .i64 (cmp3 x.v y.v), .pointer (some ⟨k0, 1, none⟩), .agg (MC x.m), .pointer (some ⟨k1, 1, none⟩), .agg (MC y.m), .int .i64 (cmp3 (num x.m) (num y.m)), .slice (some ⟨kb, 0, none⟩) 2 2, .int .i64 (cfE x y)], []⟩ _
  refine wpAnyH_take (i := 12) (v := .int .i64 (cfE x y)) rfl (by kernel_rfl) (by kernel_rfl) (by kernel_rfl) (fun _ _ _ h => h) (Or.inl ⟨by rfl, ?_⟩) hHeld ?_
  · intro W hW; (try dsimp only at hW); go_simp
  change wpAnyH _ _ _ _ _ _ _ ⟨#[_, _, .pointer (some ⟨k0, 0, none⟩), .pointer (some ⟨k1, 0, none⟩), .int .i64 (cfE x y), .pointer (some ⟨k0, 0, none⟩), .int .i64 x.v, .pointer (some ⟨k1, 0, none⟩), .int .i64 y.v, .int .i64 (cmp3 x.v y.v), .pointer (some ⟨k0, 1, none⟩), .agg (MC x.m), .pointer (some ⟨k1, 1, none⟩), .agg (MC y.m), .int .i64 (cmp3 (num x.m) (num y.m)), .slice (some ⟨kb, 0, none⟩) 2 2, .int .i64 (cfE x y)], []⟩ _
  refine wpAnyH_done (by kernel_rfl) ?_ _
  go_wp2
  go_ret
  exact ⟨rfl, W0.out⟩
end Go.Proofs.Ytjlmheecefobaaa
