/- Contract of Look. -/
import Derived.Test.YtjlmheecefobaaaB3
namespace Go.Proofs.Ytjlmheecefobaaa
open Go.RowKit Go.PlainAid

theorem res_ent_tmp {fn : Func} {p u : Tmp} (h : fn.results = #[.cell p 36, .tmp u]) {tmps : Array Value} {w : World} {k : Nat} {x : En} (hp : tmps.getD p undef = .pointer (some ⟨k, 0, none⟩)) (hA : Box w k (ecl x)) :
    (results fn tmps).run Try.prog w = .ok (.tuple #[.agg (EC x), tmps.getD u undef]) w := by
  have hl := run_loadVar_mid (P := Try.prog) w k 0 36 _ _ hA.at_ Try.underlying36 rfl Try.size36
  have hp' : tmps[p]?.getD undef = .pointer (some ⟨k, 0, none⟩) := by simpa using hp
  simp only [results, h]
  simp [hp', asAddr, hl, EC]
theorem hs_fre {T : Tb} (H : Wf T) (v : Int) (m : Mc) : (!fre (lk T.l v m)) = hs T.l v m := by
  rcases Bool.eq_false_or_eq_true (hs T.l v m) with hh | hh
  · rw [(H.gd _ (lk_mem hh)).fre, hh]; rfl
  · rw [lk_no _ _ _ hh, hh]; rfl
theorem belowOn' {N : Nat} {w w1 : World} (h : Below N w w1) : Below N w w1.drew := ⟨h.os, h.tape, h.output, h.size, h.block⟩
theorem below_more {w w1 w2 : World} {N : Nat} (h : Below N w w1) (hb : Below w1.heap.size w1 w2) (hN : N ≤ w1.heap.size) : Below N w w2 := h.trans (hb.mono hN)
attribute [local go_sem] ZE
set_option maxRecDepth 100000 in
set_option maxHeartbeats 4000000 in
theorem look27 (h : Nat) (ps : List En) (T : Tb) (v : Int) (m : Mc) (w : World) (hm : Mok m) (H : PT w h ps T) :
    Calls Try.prog 27 #[.pointer (some ⟨h + 1, 0, none⟩), .int .i64 v, .agg (MC m)] w fun e w' => e = .returned (.tuple #[.agg (EC (lk T.l v m)), .bool (hs T.l v m)]) ∧ Below w.heap.size w w' := by
  have n1 := H.wf.n1
  have n2 := H.wf.n2
  rw [← hs_fre H.wf]
  have M0 : Box ((w.alloc (.cells (MC m) 34)).alloc (.cells (EC zE) 36)) w.heap.size (mcl m) := (box_m w m).alloc _
  have Z0 : Box ((w.alloc (.cells (MC m) 34)).alloc (.cells (EC zE) 36)) (w.heap.size + 1) (ecl zE) := by
    have := box_e (w.alloc (.cells (MC m) 34)) zE
    rwa [World.size_alloc] at this
  have W0 : Below w.heap.size w ((w.alloc (.cells (MC m) 34)).alloc (.cells (EC zE) 36)) := by go_grown
  have P0 := H.on W0
  have HH := hide H
  have HM := hide hm
  have hlt := H.lt
  clear H hm
  have hk1 : Hid (h + 1 < w.heap.size ∧ w.heap.size < w.heap.size + 1) := hide ⟨by omega, by omega⟩
  go_enter Try.func27, Try.ntmps27
  go_wp2_with fail
  have HM0 := hide M0
  have HZ0 := hide Z0
  have HW0 := hide W0
  have HP0 := hide P0
  clear M0 Z0 W0 P0 hlt
  generalize (w.alloc (.cells (MC m) 34)).alloc (.cells (EC zE) 36) = W1 at *
  generalize hk : w.heap.size = k0 at *
  generalize hk' : k0 + 1 = k1 at *
  have hk2 : Hid (k0 < k1) := hide (by omega)
  clear hk'
  have HKK := hide hk
  clear hk
  refine wp_region_held_drew (S := fun w' => PT w' h ps T ∧ Box w' k0 (mcl m) ∧ Box w' k1 (ecl zE)) (by kernel_rfl) ⟨HP0.out.drew, HM0.out.drew, HZ0.out.drew⟩ (fun hHeld => ?_)
  have B := hide (belowOn' HW0.out)
  clear HP0 HM0 HZ0 HW0
  generalize W1.drew = u0 at *
  refine wpAnyH_take (i := 0) (v := .pointer (some ⟨h + 1, 0, none⟩)) rfl (by kernel_rfl) (by kernel_rfl) (by kernel_rfl) (fun _ _ _ h => h) (Or.inl ⟨by rfl, ?_⟩) hHeld ?_
  · intro W hW; (try dsimp only at hW); go_simp
  change wpAnyH _ _ _ _ _ _ _ ⟨#[.pointer (some ⟨h + 1, 0, none⟩), .int .i64 v, _, _, _, .pointer (some ⟨k0, 0, none⟩), .pointer (some ⟨k1, 0, none⟩), .bool false, _, .pointer (some ⟨h + 1, 0, none⟩), _, _, _, _, _, _, _, _, _, _, _, _, _], []⟩ _
  refine wpAnyH_take (i := 1) (v := .pointer (some ⟨h + 1, 0, none⟩)) rfl (by kernel_rfl) (by kernel_rfl) (by kernel_rfl) (fun _ _ _ h => h) (Or.inl ⟨by rfl, ?_⟩) hHeld ?_
  · intro W hW; (try dsimp only at hW); go_simp
  change wpAnyH _ _ _ _ _ _ _ ⟨#[.pointer (some ⟨h + 1, 0, none⟩), .int .i64 v, _, _, _, .pointer (some ⟨k0, 0, none⟩), .pointer (some ⟨k1, 0, none⟩), .bool false, _, .pointer (some ⟨h + 1, 0, none⟩), .pointer (some ⟨h + 1, 0, none⟩), _, _, _, _, _, _, _, _, _, _, _, _], []⟩ _
  refine wpAnyH_take (i := 2) (v := .pointer (some ⟨h + 1, 0, none⟩)) rfl (by kernel_rfl) (by kernel_rfl) (by kernel_rfl) (fun _ _ _ h => h) (Or.inl ⟨by rfl, ?_⟩) hHeld ?_
  · intro W hW; (try dsimp only at hW); go_simp
  change wpAnyH _ _ _ _ _ _ _ ⟨#[.pointer (some ⟨h + 1, 0, none⟩), .int .i64 v, _, _, _, .pointer (some ⟨k0, 0, none⟩), .pointer (some ⟨k1, 0, none⟩), .bool false, _, .pointer (some ⟨h + 1, 0, none⟩), .pointer (some ⟨h + 1, 0, none⟩), .pointer (some ⟨h + 1, 0, none⟩), _, _, _, _, _, _, _, _, _, _, _], []⟩ _
  refine wpAnyH_take (i := 3) (v := .slice (some ⟨h, 0, none⟩) (2 * T.n) (2 * T.n)) rfl (by kernel_rfl) (by kernel_rfl) (by kernel_rfl) (fun _ _ _ h => h) (Or.inl ⟨by rfl, ?_⟩) hHeld ?_
  · intro W hW; (try dsimp only at hW); have hc := hW.1.bx.cell 0 _ rfl; clear hW; go_simp
  change wpAnyH _ _ _ _ _ _ _ ⟨#[.pointer (some ⟨h + 1, 0, none⟩), .int .i64 v, _, _, _, .pointer (some ⟨k0, 0, none⟩), .pointer (some ⟨k1, 0, none⟩), .bool false, _, .pointer (some ⟨h + 1, 0, none⟩), .pointer (some ⟨h + 1, 0, none⟩), .pointer (some ⟨h + 1, 0, none⟩), .slice (some ⟨h, 0, none⟩) (2 * T.n) (2 * T.n), _, _, _, _, _, _, _, _, _, _], []⟩ _
  refine wpAnyH_take (i := 4) (v := .pointer (some ⟨h + 1, 0, none⟩)) rfl (by kernel_rfl) (by kernel_rfl) (by kernel_rfl) (fun _ _ _ h => h) (Or.inl ⟨by rfl, ?_⟩) hHeld ?_
  · intro W hW; (try dsimp only at hW); go_simp
  change wpAnyH _ _ _ _ _ _ _ ⟨#[.pointer (some ⟨h + 1, 0, none⟩), .int .i64 v, _, _, _, .pointer (some ⟨k0, 0, none⟩), .pointer (some ⟨k1, 0, none⟩), .bool false, _, .pointer (some ⟨h + 1, 0, none⟩), .pointer (some ⟨h + 1, 0, none⟩), .pointer (some ⟨h + 1, 0, none⟩), .slice (some ⟨h, 0, none⟩) (2 * T.n) (2 * T.n), .pointer (some ⟨h + 1, 0, none⟩), _, _, _, _, _, _, _, _, _], []⟩ _
  refine wpAnyH_take (i := 5) (v := .int .i64 v) rfl (by kernel_rfl) (by kernel_rfl) (by kernel_rfl) (fun _ _ _ h => h) (Or.inl ⟨by rfl, ?_⟩) hHeld ?_
  · intro W hW; (try dsimp only at hW); go_simp
  change wpAnyH _ _ _ _ _ _ _ ⟨#[.pointer (some ⟨h + 1, 0, none⟩), .int .i64 v, _, _, _, .pointer (some ⟨k0, 0, none⟩), .pointer (some ⟨k1, 0, none⟩), .bool false, _, .pointer (some ⟨h + 1, 0, none⟩), .pointer (some ⟨h + 1, 0, none⟩), .pointer (some ⟨h + 1, 0, none⟩), .slice (some ⟨h, 0, none⟩) (2 * T.n) (2 * T.n), .pointer (some ⟨h + 1, 0, none⟩), .int .i64 v, _, _, _, _, _, _, _, _], []⟩ _
  refine wpAnyH_take (i := 6) (v := .agg (MC m)) rfl (by kernel_rfl) (by kernel_rfl) (by kernel_rfl) (fun _ _ _ h => h) (yieldsIf_load_mid (by rfl) 34 (.tmp 5) rfl k0 0 rfl (mcl m) _ (fun W hW => hW.2.1.at_) Try.underlying34 rfl Try.size34) hHeld ?_
  change wpAnyH _ _ _ _ _ _ _ ⟨#[.pointer (some ⟨h + 1, 0, none⟩), .int .i64 v, _, _, _, .pointer (some ⟨k0, 0, none⟩), .pointer (some ⟨k1, 0, none⟩), .bool false, _, .pointer (some ⟨h + 1, 0, none⟩), .pointer (some ⟨h + 1, 0, none⟩), .pointer (some ⟨h + 1, 0, none⟩), .slice (some ⟨h, 0, none⟩) (2 * T.n) (2 * T.n), .pointer (some ⟨h + 1, 0, none⟩), .int .i64 v, .agg (MC m), _, _, _, _, _, _, _], []⟩ _
  refine wpAnyH_ready (rs := [7, 10]) (by kernel_rfl) (by simp) ?_
  refine AllReadyH.cons rfl (fun K hK => ?_) (AllReadyH.cons rfl (fun K hK => ?_) AllReadyH.nil)
  · skip
    go_simp
    refine (place42 h ps T v m _ HM.out hHeld.1).mono ?_
    rintro e u2 ⟨a, rfl, Q, hb⟩
    have ga := hide (Q.lk hHeld.1.rp hHeld.1.wf HM.out (fs_lt _ _ _ n1 n2) (fun y hy => by rw [(ky_iff _ _ _).1 hy |>.1.symm, ((ky_iff _ _ _).1 hy).2.symm]; rfl))
    have ha0 : (a : Int) < 2 * (T.n : Int) := by have := Q.lt; omega
    replace B := hide (below_more B.out hb (by have := B.out.size; have := HKK.out; omega))
    refine hK.out _ _ ⟨hHeld.1.on hb, hHeld.2.1.on hb, hHeld.2.2.on hb⟩ (fun hHeld => ?_)
    clear hK K Q
    change wpAnyH _ _ _ _ _ _ _ ⟨#[.pointer (some ⟨h + 1, 0, none⟩), .int .i64 v, _, _, _, .pointer (some ⟨k0, 0, none⟩), .pointer (some ⟨k1, 0, none⟩), .bool false, _, .pointer (some ⟨h + 1, 0, none⟩), .pointer (some ⟨h + 1, 0, none⟩), .pointer (some ⟨h + 1, 0, none⟩), .slice (some ⟨h, 0, none⟩) (2 * T.n) (2 * T.n), .pointer (some ⟨h + 1, 0, none⟩), .int .i64 v, .agg (MC m), .int .i64 (a : Int), _, _, _, _, _, _], []⟩ _
    refine wpAnyH_take (i := 8) (v := .pointer (some ⟨h, a * 10, none⟩)) rfl (by kernel_rfl) (by kernel_rfl) (by kernel_rfl) (fun _ _ _ h => h) (Or.inl ⟨by rfl, ?_⟩) hHeld ?_
    · intro W hW; (try dsimp only at hW); go_simp
    change wpAnyH _ _ _ _ _ _ _ ⟨#[.pointer (some ⟨h + 1, 0, none⟩), .int .i64 v, _, _, _, .pointer (some ⟨k0, 0, none⟩), .pointer (some ⟨k1, 0, none⟩), .bool false, _, .pointer (some ⟨h + 1, 0, none⟩), .pointer (some ⟨h + 1, 0, none⟩), .pointer (some ⟨h + 1, 0, none⟩), .slice (some ⟨h, 0, none⟩) (2 * T.n) (2 * T.n), .pointer (some ⟨h + 1, 0, none⟩), .int .i64 v, .agg (MC m), .int .i64 (a : Int), .pointer (some ⟨h, a * 10, none⟩), _, _, _, _, _], []⟩ _
    refine wpAnyH_take (i := 9) (v := .agg (EC (lk T.l v m))) rfl (by kernel_rfl) (by kernel_rfl) (by kernel_rfl) (fun _ _ _ h => h) (yieldsIf_load_mid (by rfl) 36 (.tmp 17) rfl h (a * 10) rfl (ecl (lk T.l v m)) _ (fun W hW => hW.1.pl.ent ga.out) Try.underlying36 rfl Try.size36) hHeld ?_
    change wpAnyH _ _ _ _ _ _ _ ⟨#[.pointer (some ⟨h + 1, 0, none⟩), .int .i64 v, _, _, _, .pointer (some ⟨k0, 0, none⟩), .pointer (some ⟨k1, 0, none⟩), .bool false, _, .pointer (some ⟨h + 1, 0, none⟩), .pointer (some ⟨h + 1, 0, none⟩), .pointer (some ⟨h + 1, 0, none⟩), .slice (some ⟨h, 0, none⟩) (2 * T.n) (2 * T.n), .pointer (some ⟨h + 1, 0, none⟩), .int .i64 v, .agg (MC m), .int .i64 (a : Int), .pointer (some ⟨h, a * 10, none⟩), .agg (EC (lk T.l v m)), _, _, _, _], []⟩ _
    refine wpAnyH_ready (rs := [10]) (by kernel_rfl) (by simp) ?_
    refine AllReadyH.cons rfl (fun K hK => ?_) AllReadyH.nil
    go_simp
    have HE : Hid (Box (World.alloc u2 (.cells (EC zE) 36)) (World.heap u2).size (ecl zE)) := hide (box_e u2 zE)
    have hn : Hid ((World.heap u2).size ≠ h ∧ (World.heap u2).size ≠ h + 1 ∧ (World.heap u2).size ≠ k0 ∧ (World.heap u2).size ≠ k1 ∧ k0 ≤ (World.heap u2).size) := hide (by have := hHeld.1.lt; have := hHeld.2.1.lt; have := hHeld.2.2.lt; omega)
    replace B := hide (below_more B.out (below_alloc u2 (.cells (EC zE) 36)) (by have := B.out.size; have := HKK.out; omega))
    refine hK.out _ _ ⟨hHeld.1.alloc _, hHeld.2.1.alloc _, hHeld.2.2.alloc _⟩ (fun hHeld => ?_)
    clear hK K
    generalize (World.heap u2).size = kx at *
    generalize World.alloc u2 (.cells (EC zE) 36) = u1 at *
    change wpAnyH _ _ _ _ _ _ _ ⟨#[.pointer (some ⟨h + 1, 0, none⟩), .int .i64 v, _, _, _, .pointer (some ⟨k0, 0, none⟩), .pointer (some ⟨k1, 0, none⟩), .bool false, .pointer (some ⟨kx, 0, none⟩), .pointer (some ⟨h + 1, 0, none⟩), .pointer (some ⟨h + 1, 0, none⟩), .pointer (some ⟨h + 1, 0, none⟩), .slice (some ⟨h, 0, none⟩) (2 * T.n) (2 * T.n), .pointer (some ⟨h + 1, 0, none⟩), .int .i64 v, .agg (MC m), .int .i64 (a : Int), .pointer (some ⟨h, a * 10, none⟩), .agg (EC (lk T.l v m)), _, _, _, _], []⟩ _
    refine wpAnyH_ready (rs := [11]) (by kernel_rfl) (by simp) ?_
    refine AllReadyH.cons rfl (fun K hK => ?_) AllReadyH.nil
    rw [if_pos (by rfl)]
    refine wp_store_mid 36 (.tmp 8) (.tmp 18) rfl kx 0 (EC (lk T.l v m)) rfl rfl HE.out.th Try.size36 (one_EC _) ?_
    have Y3 := HE.out.self (cs' := ecl (lk T.l v m)) rfl
    have G3 := setCells_grown kx (ecl (lk T.l v m)) 0 u1
    have hHeld3 : PT (World.setCells u1 kx 0 (ecl (lk T.l v m))) h ps T ∧ Box (World.setCells u1 kx 0 (ecl (lk T.l v m))) k0 (mcl m) ∧ Box (World.setCells u1 kx 0 (ecl (lk T.l v m))) k1 (ecl zE) := ⟨hHeld.1.keep (fun q h1 h2 => G3.block q (by have := hHeld.1.lt; omega) (fun e => by have := Option.some.inj e; have := hn.out; omega)), hHeld.2.1.kept (by have := hn.out; omega) G3, hHeld.2.2.kept (by have := hn.out; omega) G3⟩
    refine hK.out _ _ hHeld3 (fun hHeld => ?_)
    clear hK K hHeld hHeld3
    replace B := hide (below_grown B.out G3 (by have := hn.out; omega) (by have := B.out.size; have := HKK.out; omega))
    have PP := hide (hHeld.1.keep (fun q h1 h2 => G3.block q (by have := hHeld.1.lt; omega) (fun e => by have := Option.some.inj e; have := hn.out; omega)))
    have ZZ := hide (hHeld.2.2.kept (show k1 ≠ kx by have := hn.out; omega) G3)
    clear hHeld
    obtain ⟨w4, hw4⟩ : ∃ w4, w4 = World.setCells u1 kx 0 (ecl (lk T.l v m)) := ⟨_, rfl⟩
    rw [← hw4] at Y3 B PP ZZ
    have e4 : World.setCells u1 kx 0 (EC (lk T.l v m)).toList = w4 := by rw [hw4]; rfl
    rw [e4]
    have HY := hide Y3
    clear e4 hw4 Y3 G3 HE
    change wpAnyH _ _ _ _ _ _ _ ⟨#[.pointer (some ⟨h + 1, 0, none⟩), .int .i64 v, _, _, _, .pointer (some ⟨k0, 0, none⟩), .pointer (some ⟨k1, 0, none⟩), .bool false, .pointer (some ⟨kx, 0, none⟩), .pointer (some ⟨h + 1, 0, none⟩), .pointer (some ⟨h + 1, 0, none⟩), .pointer (some ⟨h + 1, 0, none⟩), .slice (some ⟨h, 0, none⟩) (2 * T.n) (2 * T.n), .pointer (some ⟨h + 1, 0, none⟩), .int .i64 v, .agg (MC m), .int .i64 (a : Int), .pointer (some ⟨h, a * 10, none⟩), .agg (EC (lk T.l v m)), _, _, _, _], []⟩ _
    refine wpAnyH_done (by kernel_rfl) ?_ _
    go_wp2_with fail
    refine wp_region_held_drew (S := fun w' => Box w' kx (ecl (lk T.l v m)) ∧ ∃ z, Box w' k1 (ecl z)) (by kernel_rfl) ⟨HY.out.drew, _, ZZ.out.drew⟩ (fun hHeld => ?_)
    replace B := hide (belowOn' B.out)
    clear HY ZZ PP
    generalize World.drew _ = u5 at *
    refine wpAnyH_take (i := 0) (v := .agg (EC (lk T.l v m))) rfl (by kernel_rfl) (by kernel_rfl) (by kernel_rfl) (fun _ _ _ h => h) (yieldsIf_load_mid (by rfl) 36 (.tmp 8) rfl kx 0 rfl (ecl (lk T.l v m)) _ (fun W hW => hW.1.at_) Try.underlying36 rfl Try.size36) hHeld ?_
    change wpAnyH _ _ _ _ _ _ _ ⟨#[_, _, _, _, _, _, .pointer (some ⟨k1, 0, none⟩), _, .pointer (some ⟨kx, 0, none⟩), _, _, _, _, _, _, _, _, _, _, .agg (EC (lk T.l v m)), _, _, _], []⟩ _
    refine wpAnyH_take (i := 1) (v := .agg (EC (lk T.l v m))) rfl (by kernel_rfl) (by kernel_rfl) (by kernel_rfl) (fun _ _ _ h => h) (yieldsIf_load_mid (by rfl) 36 (.tmp 8) rfl kx 0 rfl (ecl (lk T.l v m)) _ (fun W hW => hW.1.at_) Try.underlying36 rfl Try.size36) hHeld ?_
    change wpAnyH _ _ _ _ _ _ _ ⟨#[_, _, _, _, _, _, .pointer (some ⟨k1, 0, none⟩), _, .pointer (some ⟨kx, 0, none⟩), _, _, _, _, _, _, _, _, _, _, .agg (EC (lk T.l v m)), .agg (EC (lk T.l v m)), _, _], []⟩ _
    refine wpAnyH_ready (rs := [2]) (by kernel_rfl) (by simp) ?_
    refine AllReadyH.cons rfl (fun K hK => ?_) AllReadyH.nil
    go_simp
    refine (free43 (lk T.l v m) _).mono ?_
    rintro e u6 ⟨rfl, hb⟩
    replace B := hide (below_more B.out hb (by have := B.out.size; have := HKK.out; omega))
    obtain ⟨hx1, z, hx2⟩ := hHeld
    refine hK.out _ _ ⟨hx1.on hb, _, hx2.on hb⟩ (fun hHeld => ?_)
    have HZ := hide (hx2.on hb)
    have HE7 := hide (hx1.on hb)
    clear hK K hb hx1 hx2
    change wpAnyH _ _ _ _ _ _ _ ⟨#[_, _, _, _, _, _, .pointer (some ⟨k1, 0, none⟩), _, .pointer (some ⟨kx, 0, none⟩), _, _, _, _, _, _, _, _, _, _, .agg (EC (lk T.l v m)), .agg (EC (lk T.l v m)), .bool (fre (lk T.l v m)), _], []⟩ _
    refine wpAnyH_take (i := 3) (v := .bool (!fre (lk T.l v m))) rfl (by kernel_rfl) (by kernel_rfl) (by kernel_rfl) (fun _ _ _ h => h) (Or.inl ⟨by rfl, ?_⟩) hHeld ?_
    · intro W hW; (try dsimp only at hW); go_simp
    change wpAnyH _ _ _ _ _ _ _ ⟨#[_, _, _, _, _, _, .pointer (some ⟨k1, 0, none⟩), _, .pointer (some ⟨kx, 0, none⟩), _, _, _, _, _, _, _, _, _, _, .agg (EC (lk T.l v m)), .agg (EC (lk T.l v m)), .bool (fre (lk T.l v m)), .bool (!fre (lk T.l v m))], []⟩ _
    refine wpAnyH_ready (rs := [4]) (by kernel_rfl) (by simp) ?_
    refine AllReadyH.cons rfl (fun K hK => ?_) AllReadyH.nil
    rw [if_pos (by rfl)]
    refine wp_store_mid 36 (.tmp 6) (.tmp 19) rfl k1 0 (EC (lk T.l v m)) rfl rfl HZ.out.th Try.size36 (one_EC _) ?_
    have Y3 := HZ.out.self (cs' := ecl (lk T.l v m)) rfl
    have G3 := setCells_grown k1 (ecl (lk T.l v m)) 0 u6
    have Y4 := HE7.out.kept (show kx ≠ k1 by have := hn.out; omega) G3
    refine hK.out _ _ ⟨Y4, _, Y3⟩ (fun hHeld => ?_)
    replace B := hide (below_grown B.out G3 (by have := hk2.out; omega) (by have := B.out.size; have := HKK.out; omega))
    have HE8 := hide Y4
    clear hK K hHeld Y4
    obtain ⟨w7, hw7⟩ : ∃ w7, w7 = World.setCells u6 k1 0 (ecl (lk T.l v m)) := ⟨_, rfl⟩
    rw [← hw7] at Y3 B HE8
    have e7 : World.setCells u6 k1 0 (EC (lk T.l v m)).toList = w7 := by rw [hw7]; rfl
    rw [e7]
    have HY7 := hide Y3
    clear e7 hw7 Y3 G3
    have hHeld : Box w7 kx (ecl (lk T.l v m)) ∧ ∃ z, Box w7 k1 (ecl z) := ⟨HE8.out, _, HY7.out⟩
    change wpAnyH _ _ _ _ _ _ _ ⟨#[_, _, _, _, _, _, .pointer (some ⟨k1, 0, none⟩), _, .pointer (some ⟨kx, 0, none⟩), _, _, _, _, _, _, _, _, _, _, .agg (EC (lk T.l v m)), .agg (EC (lk T.l v m)), .bool (fre (lk T.l v m)), .bool (!fre (lk T.l v m))], []⟩ _
    refine wpAnyH_take (i := 5) (v := .bool (!fre (lk T.l v m))) rfl (by kernel_rfl) (by kernel_rfl) (by kernel_rfl) (fun _ _ _ h => h) (Or.inl ⟨by rfl, ?_⟩) hHeld ?_
    · intro W hW; (try dsimp only at hW); go_simp
    change wpAnyH _ _ _ _ _ _ _ ⟨#[_, _, _, _, _, _, .pointer (some ⟨k1, 0, none⟩), .bool (!fre (lk T.l v m)), .pointer (some ⟨kx, 0, none⟩), _, _, _, _, _, _, _, _, _, _, .agg (EC (lk T.l v m)), .agg (EC (lk T.l v m)), .bool (fre (lk T.l v m)), .bool (!fre (lk T.l v m))], []⟩ _
    refine wpAnyH_done (by kernel_rfl) ?_ _
    go_wp2
    exact bodyPost_ret (res_ent_tmp rfl rfl HY7.out) rfl ⟨rfl, by have e := HKK.out; first | exact B.out | (rw [e]; exact B.out)⟩
  · skip
    go_simp
    have HE : Hid (Box (World.alloc u0 (.cells (EC zE) 36)) (World.heap u0).size (ecl zE)) := hide (box_e u0 zE)
    have hn : Hid ((World.heap u0).size ≠ h ∧ (World.heap u0).size ≠ h + 1 ∧ (World.heap u0).size ≠ k0 ∧ (World.heap u0).size ≠ k1 ∧ k0 ≤ (World.heap u0).size) := hide (by have := hHeld.1.lt; have := hHeld.2.1.lt; have := hHeld.2.2.lt; omega)
    replace B := hide (below_more B.out (below_alloc u0 (.cells (EC zE) 36)) (by have := B.out.size; have := HKK.out; omega))
    refine hK.out _ _ ⟨hHeld.1.alloc _, hHeld.2.1.alloc _, hHeld.2.2.alloc _⟩ (fun hHeld => ?_)
    clear hK K
    generalize (World.heap u0).size = kx at *
    generalize World.alloc u0 (.cells (EC zE) 36) = u1 at *
    change wpAnyH _ _ _ _ _ _ _ ⟨#[.pointer (some ⟨h + 1, 0, none⟩), .int .i64 v, _, _, _, .pointer (some ⟨k0, 0, none⟩), .pointer (some ⟨k1, 0, none⟩), .bool false, .pointer (some ⟨kx, 0, none⟩), .pointer (some ⟨h + 1, 0, none⟩), .pointer (some ⟨h + 1, 0, none⟩), .pointer (some ⟨h + 1, 0, none⟩), .slice (some ⟨h, 0, none⟩) (2 * T.n) (2 * T.n), .pointer (some ⟨h + 1, 0, none⟩), .int .i64 v, .agg (MC m), _, _, _, _, _, _, _], []⟩ _
    refine wpAnyH_ready (rs := [7]) (by kernel_rfl) (by simp) ?_
    refine AllReadyH.cons rfl (fun K hK => ?_) AllReadyH.nil
    go_simp
    refine (place42 h ps T v m _ HM.out hHeld.1).mono ?_
    rintro e u2 ⟨a, rfl, Q, hb⟩
    have ga := hide (Q.lk hHeld.1.rp hHeld.1.wf HM.out (fs_lt _ _ _ n1 n2) (fun y hy => by rw [(ky_iff _ _ _).1 hy |>.1.symm, ((ky_iff _ _ _).1 hy).2.symm]; rfl))
    have ha0 : (a : Int) < 2 * (T.n : Int) := by have := Q.lt; omega
    replace B := hide (below_more B.out hb (by have := B.out.size; have := HKK.out; omega))
    refine hK.out _ _ ⟨hHeld.1.on hb, hHeld.2.1.on hb, hHeld.2.2.on hb⟩ (fun hHeld => ?_)
    clear hK K Q
    change wpAnyH _ _ _ _ _ _ _ ⟨#[.pointer (some ⟨h + 1, 0, none⟩), .int .i64 v, _, _, _, .pointer (some ⟨k0, 0, none⟩), .pointer (some ⟨k1, 0, none⟩), .bool false, .pointer (some ⟨kx, 0, none⟩), .pointer (some ⟨h + 1, 0, none⟩), .pointer (some ⟨h + 1, 0, none⟩), .pointer (some ⟨h + 1, 0, none⟩), .slice (some ⟨h, 0, none⟩) (2 * T.n) (2 * T.n), .pointer (some ⟨h + 1, 0, none⟩), .int .i64 v, .agg (MC m), .int .i64 (a : Int), _, _, _, _, _, _], []⟩ _
    refine wpAnyH_take (i := 8) (v := .pointer (some ⟨h, a * 10, none⟩)) rfl (by kernel_rfl) (by kernel_rfl) (by kernel_rfl) (fun _ _ _ h => h) (Or.inl ⟨by rfl, ?_⟩) hHeld ?_
    · intro W hW; (try dsimp only at hW); go_simp
    change wpAnyH _ _ _ _ _ _ _ ⟨#[.pointer (some ⟨h + 1, 0, none⟩), .int .i64 v, _, _, _, .pointer (some ⟨k0, 0, none⟩), .pointer (some ⟨k1, 0, none⟩), .bool false, .pointer (some ⟨kx, 0, none⟩), .pointer (some ⟨h + 1, 0, none⟩), .pointer (some ⟨h + 1, 0, none⟩), .pointer (some ⟨h + 1, 0, none⟩), .slice (some ⟨h, 0, none⟩) (2 * T.n) (2 * T.n), .pointer (some ⟨h + 1, 0, none⟩), .int .i64 v, .agg (MC m), .int .i64 (a : Int), .pointer (some ⟨h, a * 10, none⟩), _, _, _, _, _], []⟩ _
    refine wpAnyH_take (i := 9) (v := .agg (EC (lk T.l v m))) rfl (by kernel_rfl) (by kernel_rfl) (by kernel_rfl) (fun _ _ _ h => h) (yieldsIf_load_mid (by rfl) 36 (.tmp 17) rfl h (a * 10) rfl (ecl (lk T.l v m)) _ (fun W hW => hW.1.pl.ent ga.out) Try.underlying36 rfl Try.size36) hHeld ?_
    change wpAnyH _ _ _ _ _ _ _ ⟨#[.pointer (some ⟨h + 1, 0, none⟩), .int .i64 v, _, _, _, .pointer (some ⟨k0, 0, none⟩), .pointer (some ⟨k1, 0, none⟩), .bool false, .pointer (some ⟨kx, 0, none⟩), .pointer (some ⟨h + 1, 0, none⟩), .pointer (some ⟨h + 1, 0, none⟩), .pointer (some ⟨h + 1, 0, none⟩), .slice (some ⟨h, 0, none⟩) (2 * T.n) (2 * T.n), .pointer (some ⟨h + 1, 0, none⟩), .int .i64 v, .agg (MC m), .int .i64 (a : Int), .pointer (some ⟨h, a * 10, none⟩), .agg (EC (lk T.l v m)), _, _, _, _], []⟩ _
    have HE2 := hide (HE.out.on hb)
    clear HE
    rename Hid (Box u2 kx (ecl zE)) => HE
    refine wpAnyH_ready (rs := [11]) (by kernel_rfl) (by simp) ?_
    refine AllReadyH.cons rfl (fun K hK => ?_) AllReadyH.nil
    rw [if_pos (by rfl)]
    refine wp_store_mid 36 (.tmp 8) (.tmp 18) rfl kx 0 (EC (lk T.l v m)) rfl rfl HE.out.th Try.size36 (one_EC _) ?_
    have Y3 := HE.out.self (cs' := ecl (lk T.l v m)) rfl
    have G3 := setCells_grown kx (ecl (lk T.l v m)) 0 u2
    have hHeld3 : PT (World.setCells u2 kx 0 (ecl (lk T.l v m))) h ps T ∧ Box (World.setCells u2 kx 0 (ecl (lk T.l v m))) k0 (mcl m) ∧ Box (World.setCells u2 kx 0 (ecl (lk T.l v m))) k1 (ecl zE) := ⟨hHeld.1.keep (fun q h1 h2 => G3.block q (by have := hHeld.1.lt; omega) (fun e => by have := Option.some.inj e; have := hn.out; omega)), hHeld.2.1.kept (by have := hn.out; omega) G3, hHeld.2.2.kept (by have := hn.out; omega) G3⟩
    refine hK.out _ _ hHeld3 (fun hHeld => ?_)
    clear hK K hHeld hHeld3
    replace B := hide (below_grown B.out G3 (by have := hn.out; omega) (by have := B.out.size; have := HKK.out; omega))
    have PP := hide (hHeld.1.keep (fun q h1 h2 => G3.block q (by have := hHeld.1.lt; omega) (fun e => by have := Option.some.inj e; have := hn.out; omega)))
    have ZZ := hide (hHeld.2.2.kept (show k1 ≠ kx by have := hn.out; omega) G3)
    clear hHeld
    obtain ⟨w4, hw4⟩ : ∃ w4, w4 = World.setCells u2 kx 0 (ecl (lk T.l v m)) := ⟨_, rfl⟩
    rw [← hw4] at Y3 B PP ZZ
    have e4 : World.setCells u2 kx 0 (EC (lk T.l v m)).toList = w4 := by rw [hw4]; rfl
    rw [e4]
    have HY := hide Y3
    clear e4 hw4 Y3 G3 HE
    change wpAnyH _ _ _ _ _ _ _ ⟨#[.pointer (some ⟨h + 1, 0, none⟩), .int .i64 v, _, _, _, .pointer (some ⟨k0, 0, none⟩), .pointer (some ⟨k1, 0, none⟩), .bool false, .pointer (some ⟨kx, 0, none⟩), .pointer (some ⟨h + 1, 0, none⟩), .pointer (some ⟨h + 1, 0, none⟩), .pointer (some ⟨h + 1, 0, none⟩), .slice (some ⟨h, 0, none⟩) (2 * T.n) (2 * T.n), .pointer (some ⟨h + 1, 0, none⟩), .int .i64 v, .agg (MC m), .int .i64 (a : Int), .pointer (some ⟨h, a * 10, none⟩), .agg (EC (lk T.l v m)), _, _, _, _], []⟩ _
    refine wpAnyH_done (by kernel_rfl) ?_ _
    go_wp2_with fail
    refine wp_region_held_drew (S := fun w' => Box w' kx (ecl (lk T.l v m)) ∧ ∃ z, Box w' k1 (ecl z)) (by kernel_rfl) ⟨HY.out.drew, _, ZZ.out.drew⟩ (fun hHeld => ?_)
    replace B := hide (belowOn' B.out)
    clear HY ZZ PP
    generalize World.drew _ = u5 at *
    refine wpAnyH_take (i := 0) (v := .agg (EC (lk T.l v m))) rfl (by kernel_rfl) (by kernel_rfl) (by kernel_rfl) (fun _ _ _ h => h) (yieldsIf_load_mid (by rfl) 36 (.tmp 8) rfl kx 0 rfl (ecl (lk T.l v m)) _ (fun W hW => hW.1.at_) Try.underlying36 rfl Try.size36) hHeld ?_
    change wpAnyH _ _ _ _ _ _ _ ⟨#[_, _, _, _, _, _, .pointer (some ⟨k1, 0, none⟩), _, .pointer (some ⟨kx, 0, none⟩), _, _, _, _, _, _, _, _, _, _, .agg (EC (lk T.l v m)), _, _, _], []⟩ _
    refine wpAnyH_take (i := 1) (v := .agg (EC (lk T.l v m))) rfl (by kernel_rfl) (by kernel_rfl) (by kernel_rfl) (fun _ _ _ h => h) (yieldsIf_load_mid (by rfl) 36 (.tmp 8) rfl kx 0 rfl (ecl (lk T.l v m)) _ (fun W hW => hW.1.at_) Try.underlying36 rfl Try.size36) hHeld ?_
    change wpAnyH _ _ _ _ _ _ _ ⟨#[_, _, _, _, _, _, .pointer (some ⟨k1, 0, none⟩), _, .pointer (some ⟨kx, 0, none⟩), _, _, _, _, _, _, _, _, _, _, .agg (EC (lk T.l v m)), .agg (EC (lk T.l v m)), _, _], []⟩ _
    refine wpAnyH_ready (rs := [2]) (by kernel_rfl) (by simp) ?_
    refine AllReadyH.cons rfl (fun K hK => ?_) AllReadyH.nil
    go_simp
    refine (free43 (lk T.l v m) _).mono ?_
    rintro e u6 ⟨rfl, hb⟩
    replace B := hide (below_more B.out hb (by have := B.out.size; have := HKK.out; omega))
    obtain ⟨hx1, z, hx2⟩ := hHeld
    refine hK.out _ _ ⟨hx1.on hb, _, hx2.on hb⟩ (fun hHeld => ?_)
    have HZ := hide (hx2.on hb)
    have HE7 := hide (hx1.on hb)
    clear hK K hb hx1 hx2
    change wpAnyH _ _ _ _ _ _ _ ⟨#[_, _, _, _, _, _, .pointer (some ⟨k1, 0, none⟩), _, .pointer (some ⟨kx, 0, none⟩), _, _, _, _, _, _, _, _, _, _, .agg (EC (lk T.l v m)), .agg (EC (lk T.l v m)), .bool (fre (lk T.l v m)), _], []⟩ _
    refine wpAnyH_take (i := 3) (v := .bool (!fre (lk T.l v m))) rfl (by kernel_rfl) (by kernel_rfl) (by kernel_rfl) (fun _ _ _ h => h) (Or.inl ⟨by rfl, ?_⟩) hHeld ?_
    · intro W hW; (try dsimp only at hW); go_simp
    change wpAnyH _ _ _ _ _ _ _ ⟨#[_, _, _, _, _, _, .pointer (some ⟨k1, 0, none⟩), _, .pointer (some ⟨kx, 0, none⟩), _, _, _, _, _, _, _, _, _, _, .agg (EC (lk T.l v m)), .agg (EC (lk T.l v m)), .bool (fre (lk T.l v m)), .bool (!fre (lk T.l v m))], []⟩ _
    refine wpAnyH_ready (rs := [4]) (by kernel_rfl) (by simp) ?_
    refine AllReadyH.cons rfl (fun K hK => ?_) AllReadyH.nil
    rw [if_pos (by rfl)]
    refine wp_store_mid 36 (.tmp 6) (.tmp 19) rfl k1 0 (EC (lk T.l v m)) rfl rfl HZ.out.th Try.size36 (one_EC _) ?_
    have Y3 := HZ.out.self (cs' := ecl (lk T.l v m)) rfl
    have G3 := setCells_grown k1 (ecl (lk T.l v m)) 0 u6
    have Y4 := HE7.out.kept (show kx ≠ k1 by have := hn.out; omega) G3
    refine hK.out _ _ ⟨Y4, _, Y3⟩ (fun hHeld => ?_)
    replace B := hide (below_grown B.out G3 (by have := hk2.out; omega) (by have := B.out.size; have := HKK.out; omega))
    have HE8 := hide Y4
    clear hK K hHeld Y4
    obtain ⟨w7, hw7⟩ : ∃ w7, w7 = World.setCells u6 k1 0 (ecl (lk T.l v m)) := ⟨_, rfl⟩
    rw [← hw7] at Y3 B HE8
    have e7 : World.setCells u6 k1 0 (EC (lk T.l v m)).toList = w7 := by rw [hw7]; rfl
    rw [e7]
    have HY7 := hide Y3
    clear e7 hw7 Y3 G3
    have hHeld : Box w7 kx (ecl (lk T.l v m)) ∧ ∃ z, Box w7 k1 (ecl z) := ⟨HE8.out, _, HY7.out⟩
    change wpAnyH _ _ _ _ _ _ _ ⟨#[_, _, _, _, _, _, .pointer (some ⟨k1, 0, none⟩), _, .pointer (some ⟨kx, 0, none⟩), _, _, _, _, _, _, _, _, _, _, .agg (EC (lk T.l v m)), .agg (EC (lk T.l v m)), .bool (fre (lk T.l v m)), .bool (!fre (lk T.l v m))], []⟩ _
    refine wpAnyH_take (i := 5) (v := .bool (!fre (lk T.l v m))) rfl (by kernel_rfl) (by kernel_rfl) (by kernel_rfl) (fun _ _ _ h => h) (Or.inl ⟨by rfl, ?_⟩) hHeld ?_
    · intro W hW; (try dsimp only at hW); go_simp
    change wpAnyH _ _ _ _ _ _ _ ⟨#[_, _, _, _, _, _, .pointer (some ⟨k1, 0, none⟩), .bool (!fre (lk T.l v m)), .pointer (some ⟨kx, 0, none⟩), _, _, _, _, _, _, _, _, _, _, .agg (EC (lk T.l v m)), .agg (EC (lk T.l v m)), .bool (fre (lk T.l v m)), .bool (!fre (lk T.l v m))], []⟩ _
    refine wpAnyH_done (by kernel_rfl) ?_ _
    go_wp2
    exact bodyPost_ret (res_ent_tmp rfl rfl HY7.out) rfl ⟨rfl, by have e := HKK.out; first | exact B.out | (rw [e]; exact B.out)⟩
end Go.Proofs.Ytjlmheecefobaaa
