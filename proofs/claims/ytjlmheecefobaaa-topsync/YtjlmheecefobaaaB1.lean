/- Contract of set: one that is there. -/
import Derived.Test.YtjlmheecefobaaaA6
namespace Go.Proofs.Ytjlmheecefobaaa
open Go.RowKit Go.PlainAid
theorem estore {w : World} {k : Nat} {l : List En} (h : Box w k (es l)) {j : Nat} (hj : j < l.length) (x : En) :
    ∃ w', (storeVar 36 ⟨k, j * 10, none⟩ (.agg (EC x))).run Try.prog w = .ok () w' ∧ Box w' k (es (l.set j x)) ∧ w.grownBy w' (some k) :=
  ⟨_, run_storeVar_mid w k (j * 10) 36 (EC x) (h.thE hj) Try.size36 (one_EC x), h.putE (List.getElem?_eq_getElem hj) x, setCells_grown k _ _ w⟩
theorem up_len_there {l : List En} (h : Srt l) {x : En} (hh : hs l x.v x.m = true) : (up l x).length = l.length := by
  have hk := (ky_iff _ _ _).1 (lk_ky l x.v x.m hh)
  rw [← up_set h (ix_get l x.v x.m hh) (by simp [ke, hk.1, hk.2]), List.length_set]
theorem up_wf {T : Tb} (H : Wf T) {x : En} (hx : Gd x) (hl : (up T.l x).length ≤ T.n) : Wf ⟨T.n, up T.l x⟩ :=
  ⟨H.n1, H.n2, hl, up_srt H.srt x, fun z hz => by
    rcases up_mem.1 hz with e | ⟨e, _⟩
    · rw [e]; exact hx
    · exact H.gd z e⟩
theorem hf_ky {n : Nat} {x y : En} (h : ky y x.v x.m = true) : hf n y = hf n x := by
  have := (ky_iff _ _ _).1 h
  simp [hf, this.1, this.2]
theorem grown_drew' {w w1 : World} {row : Option Nat} (h : w.drew.grownBy w1 row) : w.grownBy w1 row := ⟨h.os, h.tape, h.output, h.size, h.block⟩
theorem PT.putThere {w w1 : World} {h : Nat} {ps : List En} {T : Tb} (H : PT w h ps T) {x : En} (hx : Gd x) (hh : hs T.l x.v x.m = true) {a : Nat} (P : Pl (2 * T.n) ps (fs T.n x.v x.m) x.v x.m a) (Y : Box w1 h (es (ps.set a x))) (G : w.drew.grownBy w1 (some h)) : PT w1 h (ps.set a x) ⟨T.n, up T.l x⟩ := by
  have hl := up_len_there H.wf.srt hh
  refine ⟨?_, Y, H.rp.set H.wf hx (fun y hy => hf_ky hy) P, up_wf H.wf hx (by rw [hl]; exact H.wf.le)⟩
  show Box w1 (h + 1) (tcl h T.n (up T.l x).length)
  rw [hl]
  exact H.bx.drew.kept (Nat.succ_ne_self h) G
set_option maxRecDepth 100000 in
set_option maxHeartbeats 2000000 in
theorem set33_there (h : Nat) (ps : List En) (T : Tb) (x : En) (w : World) (hx : Gd x) (H : PT w h ps T) (hh : hs T.l x.v x.m = true) :
    Calls Try.prog 41 #[.pointer (some ⟨h + 1, 0, none⟩), .agg (EC x)] w fun e w' => e = .returned (.int .i64 0) ∧ (∃ ps', PT w' h ps' ⟨T.n, up T.l x⟩) ∧ Mid h (h + 2) w w' := by
  have n1 := H.wf.n1
  have n2 := H.wf.n2
  have X0 := box_e w x
  have c0 := X0.cell 0 _ rfl
  have M0 := mac_of X0
  have W0 : Hid (Below w.heap.size w (w.alloc (.cells (EC x) 36))) := hide (below_alloc w _)
  have HH := hide H
  have HX0 := hide X0
  have q1 := fun w H => place42 h ps T x.v x.m w hx.ok H
  have q2 := fun w => free43 (lk T.l x.v x.m) w
  rw [(H.wf.gd _ (lk_mem hh)).fre] at q2
  clear H X0
  have tk1 : True := trivial
  have tk2 : True := trivial
  go_enter Try.func41, Try.ntmps41
  go_wp2_with (first | (have _t := tk1; refine wpl_mac (.tmp 9) rfl M0 ?_ ?_ ?_; rfl; rfl; clear tk1))
  refine (q1 _ (HH.out.on W0.out)).mono ?_
  rintro e w1 ⟨a, rfl, P, hb⟩
  have P1 := (HH.out.on W0.out).on hb
  have A1 := P1.pl.ent (P.lk P1.rp P1.wf hx.ok (fs_lt _ _ _ n1 n2) (fun y hy => by rw [(ky_iff _ _ _).1 hy |>.1.symm, ((ky_iff _ _ _).1 hy).2.symm]; rfl))
  have c1 := P1.bx.cell 0 _ rfl
  have ha0 : (a : Int) < 2 * (T.n : Int) := by have := P.lt; omega
  have HP1 := hide P1
  have HX1 := hide (HX0.out.on hb)
  have HB1 := hide (belowOn W0.out hb)
  have HP := hide P
  clear P1 P hb q1 HX0 c0 M0
  have tk1 : True := trivial
  go_wp2_with (first | (have _t := tk1; refine wpl_ent (.tmp 17) rfl A1 ?_ ?_ ?_; rfl; rfl; clear tk1))
  refine (q2 _).mono ?_
  rintro e w2 ⟨rfl, hb⟩
  have HP2 := hide (HP1.out.on hb)
  have c2 := HP2.out.bx.cell 0 _ rfl
  have HX2 := hide (HX1.out.on hb)
  have HB2 := hide (belowOn HB1.out hb)
  clear hb HP1 HX1 HB1 A1 c1
  obtain ⟨U, hU⟩ : ∃ U, U = T.l.length := ⟨_, rfl⟩
  have HT : Hid (Box w2 (h + 1) (tcl h T.n U)) := hide (by rw [hU]; exact HP2.out.bx)
  have HX := HX2
  have HL := hide HP2.out.pl
  have HA : Hid (a < ps.length) := hide (by have := HP.out.lt; rw [HP2.out.rp.len]; exact this)
  have HK : Hid (w.heap.size ≠ h) := hide (by have := HH.out.lt; omega)
  obtain ⟨W2, hW2⟩ : ∃ W2, W2 = w2 := ⟨_, rfl⟩
  subst hW2
  go_wp2_with fail
  refine wp_region_held_drew (S := fun w' => Box w' (h + 1) (tcl h T.n U) ∧ Box w' w.heap.size (ecl x)) (by kernel_rfl) ⟨HT.out.drew, HX.out.drew⟩ (fun hHeld => ?_)
  refine wpAnyH_take (i := 0) (v := .pointer (some ⟨h + 1, 0, none⟩)) rfl (by kernel_rfl) (by kernel_rfl) (by kernel_rfl) (fun _ _ _ h => h) (Or.inl ⟨by rfl, ?_⟩) hHeld ?_
  · intro W hW; (try dsimp only at hW); go_simp
  change wpAnyH _ _ _ _ _ _ _ ⟨#[.pointer (some ⟨h + 1, 0, none⟩), _, _, .pointer (some ⟨w.heap.size, 0, none⟩), _, .int .i64 (a : Int), _, _, _, _, _, _, _, _, _, _, _, _, _, _, _, _, _, _, _, _, _, _, _, _, _, _, _, _, _, _, .pointer (some ⟨h + 1, 0, none⟩), _, _, _, _, _, _], []⟩ _
  refine wpAnyH_take (i := 1) (v := .pointer (some ⟨h + 1, 0, none⟩)) rfl (by kernel_rfl) (by kernel_rfl) (by kernel_rfl) (fun _ _ _ h => h) (Or.inl ⟨by rfl, ?_⟩) hHeld ?_
  · intro W hW; (try dsimp only at hW); go_simp
  change wpAnyH _ _ _ _ _ _ _ ⟨#[.pointer (some ⟨h + 1, 0, none⟩), _, _, .pointer (some ⟨w.heap.size, 0, none⟩), _, .int .i64 (a : Int), _, _, _, _, _, _, _, _, _, _, _, _, _, _, _, _, _, _, _, _, _, _, _, _, _, _, _, _, _, _, .pointer (some ⟨h + 1, 0, none⟩), .pointer (some ⟨h + 1, 0, none⟩), _, _, _, _, _], []⟩ _
  refine wpAnyH_take (i := 2) (v := .pointer (some ⟨h + 1, 0, none⟩)) rfl (by kernel_rfl) (by kernel_rfl) (by kernel_rfl) (fun _ _ _ h => h) (Or.inl ⟨by rfl, ?_⟩) hHeld ?_
  · intro W hW; (try dsimp only at hW); go_simp
  change wpAnyH _ _ _ _ _ _ _ ⟨#[.pointer (some ⟨h + 1, 0, none⟩), _, _, .pointer (some ⟨w.heap.size, 0, none⟩), _, .int .i64 (a : Int), _, _, _, _, _, _, _, _, _, _, _, _, _, _, _, _, _, _, _, _, _, _, _, _, _, _, _, _, _, _, .pointer (some ⟨h + 1, 0, none⟩), .pointer (some ⟨h + 1, 0, none⟩), .pointer (some ⟨h + 1, 0, none⟩), _, _, _, _], []⟩ _
  refine wpAnyH_take (i := 3) (v := .slice (some ⟨h, 0, none⟩) (2 * T.n) (2 * T.n)) rfl (by kernel_rfl) (by kernel_rfl) (by kernel_rfl) (fun _ _ _ h => h) (Or.inl ⟨by rfl, ?_⟩) hHeld ?_
  · intro W hW; (try dsimp only at hW); have hc := hW.1.cell 0 _ rfl; clear hW; go_simp
  change wpAnyH _ _ _ _ _ _ _ ⟨#[.pointer (some ⟨h + 1, 0, none⟩), _, _, .pointer (some ⟨w.heap.size, 0, none⟩), _, .int .i64 (a : Int), _, _, _, _, _, _, _, _, _, _, _, _, _, _, _, _, _, _, _, _, _, _, _, _, _, _, _, _, _, _, .pointer (some ⟨h + 1, 0, none⟩), .pointer (some ⟨h + 1, 0, none⟩), .pointer (some ⟨h + 1, 0, none⟩), .slice (some ⟨h, 0, none⟩) (2 * T.n) (2 * T.n), _, _, _], []⟩ _
  refine wpAnyH_take (i := 4) (v := .int .i64 (a : Int)) rfl (by kernel_rfl) (by kernel_rfl) (by kernel_rfl) (fun _ _ _ h => h) (Or.inl ⟨by rfl, ?_⟩) hHeld ?_
  · intro W hW; (try dsimp only at hW); go_simp
  change wpAnyH _ _ _ _ _ _ _ ⟨#[.pointer (some ⟨h + 1, 0, none⟩), _, _, .pointer (some ⟨w.heap.size, 0, none⟩), _, .int .i64 (a : Int), _, _, _, _, _, _, _, _, _, _, _, _, _, _, _, _, _, _, _, _, _, _, _, _, _, _, _, _, _, _, .pointer (some ⟨h + 1, 0, none⟩), .pointer (some ⟨h + 1, 0, none⟩), .pointer (some ⟨h + 1, 0, none⟩), .slice (some ⟨h, 0, none⟩) (2 * T.n) (2 * T.n), .int .i64 (a : Int), _, _], []⟩ _
  refine wpAnyH_take (i := 5) (v := .agg (EC x)) rfl (by kernel_rfl) (by kernel_rfl) (by kernel_rfl) (fun _ _ _ h => h) (yieldsIf_load_mid (by rfl) 36 (.tmp 3) rfl w.heap.size 0 rfl (ecl x) _ (fun W hW => hW.2.at_) Try.underlying36 rfl Try.size36) hHeld ?_
  change wpAnyH _ _ _ _ _ _ _ ⟨#[.pointer (some ⟨h + 1, 0, none⟩), _, _, .pointer (some ⟨w.heap.size, 0, none⟩), _, .int .i64 (a : Int), _, _, _, _, _, _, _, _, _, _, _, _, _, _, _, _, _, _, _, _, _, _, _, _, _, _, _, _, _, _, .pointer (some ⟨h + 1, 0, none⟩), .pointer (some ⟨h + 1, 0, none⟩), .pointer (some ⟨h + 1, 0, none⟩), .slice (some ⟨h, 0, none⟩) (2 * T.n) (2 * T.n), .int .i64 (a : Int), .agg (EC x), _], []⟩ _
  refine wpAnyH_take (i := 6) (v := .pointer (some ⟨h, a * 10, none⟩)) rfl (by kernel_rfl) (by kernel_rfl) (by kernel_rfl) (fun _ _ _ h => h) (Or.inl ⟨by rfl, ?_⟩) hHeld ?_
  · intro W hW; (try dsimp only at hW); go_simp
  change wpAnyH _ _ _ _ _ _ _ ⟨#[.pointer (some ⟨h + 1, 0, none⟩), _, _, .pointer (some ⟨w.heap.size, 0, none⟩), _, .int .i64 (a : Int), _, _, _, _, _, _, _, _, _, _, _, _, _, _, _, _, _, _, _, _, _, _, _, _, _, _, _, _, _, _, .pointer (some ⟨h + 1, 0, none⟩), .pointer (some ⟨h + 1, 0, none⟩), .pointer (some ⟨h + 1, 0, none⟩), .slice (some ⟨h, 0, none⟩) (2 * T.n) (2 * T.n), .int .i64 (a : Int), .agg (EC x), .pointer (some ⟨h, a * 10, none⟩)], []⟩ _
  refine wpAnyH_ready (rs := [7]) (by kernel_rfl) (by simp) ?_
  refine AllReadyH.cons rfl (fun K hK => ?_) AllReadyH.nil
  rw [if_pos (by rfl)]
  refine wp_store_mid 36 (.tmp 42) (.tmp 41) rfl h (a * 10) (EC x) rfl rfl (HL.out.drew.thE HA.out) Try.size36 (one_EC x) ?_
  have Y3 := HL.out.drew.putE (List.getElem?_eq_getElem HA.out) x
  have G3 := setCells_grown h (ecl x) (a * 10) W2.drew
  refine hK.out _ _ ⟨HT.out.drew.kept (Nat.succ_ne_self h) G3, HX.out.drew.kept HK.out G3⟩ (fun hHeld => ?_)
  clear hK K hHeld
  obtain ⟨w4, hw4⟩ : ∃ w4, w4 = World.setCells W2.drew h (a * 10) (ecl x) := ⟨_, rfl⟩
  rw [← hw4] at Y3 G3
  have e4 : World.setCells W2.drew h (a * 10) (EC x).toList = w4 := by rw [hw4]; rfl
  rw [e4]
  have HY := hide Y3
  have HG := hide G3
  clear e4 hw4 Y3 G3
  change wpAnyH _ _ _ _ _ _ _ ⟨#[.pointer (some ⟨h + 1, 0, none⟩), _, _, .pointer (some ⟨w.heap.size, 0, none⟩), _, .int .i64 (a : Int), _, _, _, _, _, _, _, _, _, _, _, _, _, _, _, _, _, _, _, _, _, _, _, _, _, _, _, _, _, _, .pointer (some ⟨h + 1, 0, none⟩), .pointer (some ⟨h + 1, 0, none⟩), .pointer (some ⟨h + 1, 0, none⟩), .slice (some ⟨h, 0, none⟩) (2 * T.n) (2 * T.n), .int .i64 (a : Int), .agg (EC x), .pointer (some ⟨h, a * 10, none⟩)], []⟩ _
  refine wpAnyH_done (by kernel_rfl) ?_ _
  go_wp2
  go_ret
  refine ⟨rfl, ⟨ps.set a x, HP2.out.putThere hx hh HP.out HY.out HG.out⟩, ?_⟩
  exact (Mid.on (Mid.refl _ _ _) (HB2.out)).grown (grown_drew' HG.out) (Or.inr ⟨Nat.le_refl _, by omega⟩)
end Go.Proofs.Ytjlmheecefobaaa
