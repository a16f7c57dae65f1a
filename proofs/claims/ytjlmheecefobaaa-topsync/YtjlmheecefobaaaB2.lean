/- Contract of set. -/
import Derived.Test.YtjlmheecefobaaaB1
namespace Go.Proofs.Ytjlmheecefobaaa
open Go.RowKit Go.PlainAid

theorem PT.putNew {w w1 : World} {h : Nat} {ps : List En} {T : Tb} (H : PT w h ps T) {x : En} (hx : Gd x) (hh : hs T.l x.v x.m = false) (hl : T.l.length < T.n) {a : Nat} (P : Pl (2 * T.n) ps (fs T.n x.v x.m) x.v x.m a) (Y : Box w1 h (es (ps.set a x))) (X : Box w1 (h + 1) (tcl h T.n (T.l.length + 1))) : PT w1 h (ps.set a x) ⟨T.n, up T.l x⟩ := by
  have e := up_len (l := T.l) (x := x) (fun y hy e => by
    have := hs_no hh y hy
    rw [(ky_ke (H.wf.gd y hy).ok hx.ok).2 e] at this
    cases this)
  refine ⟨?_, Y, H.rp.set H.wf hx (fun y hy => hf_ky hy) P, up_wf H.wf hx (by rw [e]; exact hl)⟩
  show Box w1 (h + 1) (tcl h T.n (up T.l x).length)
  rw [e]
  exact X
theorem tcl_used {w : World} {h n u u' : Nat} (H : Box w (h + 1) (tcl h n u)) : Box (w.setCell ⟨h + 1, 2, none⟩ (.int .i64 u')) (h + 1) (tcl h n u') :=
  Box.set (A := [.slice (some ⟨h, 0, none⟩) (2 * n) (2 * n), .int .i64 n]) (C := []) H rfl
set_option maxRecDepth 100000 in
set_option maxHeartbeats 2000000 in
theorem set33_full (h : Nat) (ps : List En) (T : Tb) (x : En) (w : World) (hx : Gd x) (H : PT w h ps T) (hh : hs T.l x.v x.m = false) (hl : T.l.length = T.n) :
    Calls Try.prog 41 #[.pointer (some ⟨h + 1, 0, none⟩), .agg (EC x)] w fun e w' => e = .returned (.int .i64 3) ∧ Below w.heap.size w w' := by
  have n1 := H.wf.n1
  have n2 := H.wf.n2
  have hle := H.wf.le
  have X0 := box_e w x
  have c0 := X0.cell 0 _ rfl
  have M0 := mac_of X0
  have W0 : Hid (Below w.heap.size w (w.alloc (.cells (EC x) 36))) := hide (below_alloc w _)
  have HH := hide H
  have HX0 := hide X0
  have q1 := fun w H => place42 h ps T x.v x.m w hx.ok H
  have q2 := fun w => free43 zE w
  have ez : fre zE = true := rfl
  rw [ez] at q2
  have el := lk_no _ _ _ hh
  clear H X0 ez
  have tk1 : True := trivial
  have tk2 : True := trivial
  go_enter Try.func41, Try.ntmps41
  go_wp2_with (first | (have _t := tk1; refine wpl_mac (.tmp 9) rfl M0 ?_ ?_ ?_; rfl; rfl; clear tk1))
  refine (q1 _ (HH.out.on W0.out)).mono ?_
  rintro e w1 ⟨a, rfl, P, hb⟩
  have P1 := (HH.out.on W0.out).on hb
  have A1 := P1.pl.ent (P.lk P1.rp P1.wf hx.ok (fs_lt _ _ _ n1 n2) (fun y hy => by rw [(ky_iff _ _ _).1 hy |>.1.symm, ((ky_iff _ _ _).1 hy).2.symm]; rfl))
  rw [el] at A1
  have c1 := P1.bx.cell 0 _ rfl
  have ha0 : (a : Int) < 2 * (T.n : Int) := by have := P.lt; omega
  have HP1 := hide P1
  have HX1 := hide (HX0.out.on hb)
  have HB1 := hide (belowOn W0.out hb)
  have HP := hide P
  clear P1 P hb q1 HX0 c0 M0 el
  have tk1 : True := trivial
  go_wp2_with (first | (have _t := tk1; refine wpl_ent (.tmp 17) rfl A1 ?_ ?_ ?_; rfl; rfl; clear tk1))
  refine (q2 _).mono ?_
  rintro e w2 ⟨rfl, hb⟩
  have HP2 := hide (HP1.out.on hb)
  have HX2 := hide (HX1.out.on hb)
  have HB2 := hide (belowOn HB1.out hb)
  have c2 := HP2.out.bx.cell 0 _ rfl
  have c3 := HP2.out.bx.cell 1 _ rfl
  have c4 := HP2.out.bx.cell 2 _ rfl
  have f4 := HP2.out.bx.free 2 (by simp [tcl])
  clear hb HP1 HX1 HB1 A1 c1
  have hq : ((T.l.length : Int) == T.n) = true := by simp [hl]
  have hq2 : (T.l.length : Int) = T.n := by omega
  have HLL := hide hl
  clear hl
  go_wp2_with fail
  go_quiet (fail)
  go_wp2
  go_ret
  exact ⟨rfl, HB2.out.trans ⟨rfl, rfl, rfl, Nat.le_refl _, fun _ _ => rfl⟩⟩
set_option maxRecDepth 100000 in
set_option maxHeartbeats 2000000 in
theorem set33_new (h : Nat) (ps : List En) (T : Tb) (x : En) (w : World) (hx : Gd x) (H : PT w h ps T) (hh : hs T.l x.v x.m = false) (hl : T.l.length < T.n) :
    Calls Try.prog 41 #[.pointer (some ⟨h + 1, 0, none⟩), .agg (EC x)] w fun e w' => e = .returned (.int .i64 0) ∧ (∃ ps', PT w' h ps' ⟨T.n, up T.l x⟩) ∧ Mid h (h + 2) w w' := by
  have n1 := H.wf.n1
  have n2 := H.wf.n2
  have hle := H.wf.le
  have X0 := box_e w x
  have c0 := X0.cell 0 _ rfl
  have M0 := mac_of X0
  have W0 : Hid (Below w.heap.size w (w.alloc (.cells (EC x) 36))) := hide (below_alloc w _)
  have HH := hide H
  have HX0 := hide X0
  have q1 := fun w H => place42 h ps T x.v x.m w hx.ok H
  have q2 := fun w => free43 zE w
  have ez : fre zE = true := rfl
  rw [ez] at q2
  have el := lk_no _ _ _ hh
  clear H X0 ez
  have tk1 : True := trivial
  have tk2 : True := trivial
  go_enter Try.func41, Try.ntmps41
  go_wp2_with (first | (have _t := tk1; refine wpl_mac (.tmp 9) rfl M0 ?_ ?_ ?_; rfl; rfl; clear tk1))
  refine (q1 _ (HH.out.on W0.out)).mono ?_
  rintro e w1 ⟨a, rfl, P, hb⟩
  have P1 := (HH.out.on W0.out).on hb
  have A1 := P1.pl.ent (P.lk P1.rp P1.wf hx.ok (fs_lt _ _ _ n1 n2) (fun y hy => by rw [(ky_iff _ _ _).1 hy |>.1.symm, ((ky_iff _ _ _).1 hy).2.symm]; rfl))
  rw [el] at A1
  have c1 := P1.bx.cell 0 _ rfl
  have ha0 : (a : Int) < 2 * (T.n : Int) := by have := P.lt; omega
  have HP1 := hide P1
  have HX1 := hide (HX0.out.on hb)
  have HB1 := hide (belowOn W0.out hb)
  have HP := hide P
  clear P1 P hb q1 HX0 c0 M0 el
  have tk1 : True := trivial
  go_wp2_with (first | (have _t := tk1; refine wpl_ent (.tmp 17) rfl A1 ?_ ?_ ?_; rfl; rfl; clear tk1))
  refine (q2 _).mono ?_
  rintro e w2 ⟨rfl, hb⟩
  have HP2 := hide (HP1.out.on hb)
  have HX2 := hide (HX1.out.on hb)
  have HB2 := hide (belowOn HB1.out hb)
  have c2 := HP2.out.bx.cell 0 _ rfl
  have c3 := HP2.out.bx.cell 1 _ rfl
  have c4 := HP2.out.bx.cell 2 _ rfl
  have f4 := HP2.out.bx.free 2 (by simp [tcl])
  clear hb HP1 HX1 HB1 A1 c1
  have hq : ((T.l.length : Int) == T.n) = false := by simp; omega
  have hq2 : ¬ (T.l.length : Int) = T.n := by omega
  have e5 : IntKind.i64.wrap ((T.l.length : Int) + 1) = (T.l.length : Int) + 1 := IntWalk.i64_in _ (by omega)
  have HLL := hide hl
  clear hl
  go_wp2_with fail
  go_quiet (fail)
  go_wp2_with fail
  have T3 : Box ((w2.drewN nq).setCell ⟨h + 1, 2, none⟩ (.int .i64 ((T.l.length : Int) + 1))) (h + 1) (tcl h T.n (T.l.length + 1)) := tcl_used (u' := T.l.length + 1) (HP2.out.bx.drewN nq)
  have G3 := setCell_grown (w2.drewN nq) (h + 1) 2 (.int .i64 ((T.l.length : Int) + 1))
  have L3 := (HP2.out.pl.drewN nq).kept (by omega) G3
  have HX := hide ((HX2.out.drewN nq).kept (by have := HH.out.lt; omega) G3)
  have HM3 : Hid (Mid h (h + 2) w ((w2.drewN nq).setCell ⟨h + 1, 2, none⟩ (.int .i64 ((T.l.length : Int) + 1)))) := hide ((Mid.on (Mid.refl _ _ _) (HB2.out.trans ⟨rfl, rfl, rfl, Nat.le_refl _, fun _ _ => rfl⟩ : Below w.heap.size w (w2.drewN nq))).grown G3 (Or.inr ⟨by omega, by omega⟩))
  clear G3
  generalize (w2.drewN nq).setCell ⟨h + 1, 2, none⟩ (.int .i64 ((T.l.length : Int) + 1)) = W2 at *
  obtain ⟨U, hU⟩ : ∃ U, U = T.l.length + 1 := ⟨_, rfl⟩
  rw [← hU] at T3
  have HU := hide hU
  clear hU
  have HT := hide T3
  have HL := hide L3
  have HA : Hid (a < ps.length) := hide (by have := HP.out.lt; rw [HP2.out.rp.len]; exact this)
  have HK : Hid (w.heap.size ≠ h) := hide (by have := HH.out.lt; omega)
  clear T3 L3 c2 c3 c4 f4
  refine wp_region_held_drew (S := fun w' => Box w' (h + 1) (tcl h T.n U) ∧ Box w' w.heap.size (ecl x)) (by kernel_rfl) ⟨HT.out.drew, HX.out.drew⟩ (fun hHeld => ?_)
  refine wpAnyH_take (i := 0) (v := .pointer (some ⟨h + 1, 0, none⟩)) rfl (by kernel_rfl) (by kernel_rfl) (by kernel_rfl) (fun _ _ _ h => h) (Or.inl ⟨by rfl, ?_⟩) hHeld ?_
  · intro W hW; (try dsimp only at hW); go_simp
  change wpAnyH _ _ _ _ _ _ _ ⟨#[.pointer (some ⟨h + 1, 0, none⟩), _, _, .pointer (some ⟨w.heap.size, 0, none⟩), _, .int .i64 (a : Int), _, _, _, _, _, _, _, _, _, _, _, _, _, _, _, _, _, _, _, _, _, _, _, _, _, _, _, _, _, _, .pointer (some ⟨h + 1, 0, none⟩), _, _, _, _, _, _], []⟩ _
  refine wpAnyH_take (i := 1) (v := .pointer (some ⟨h + 1, 0, none⟩)) rfl (by kernel_rfl) (by kernel_rfl) (by kernel_rfl) (fun _ _ _ h => h) (Or.inl ⟨by rfl, ?_⟩) hHeld ?_
  · intro W hW; (try dsimp only at hW); go_simp
  change wpAnyH _ _ _ _ _ _ _ ⟨#[.pointer (some ⟨h + 1, 0, none⟩), _, _, .pointer (some ⟨w.heap.size, 0, none⟩), _, .int .i64 (a : Int), _, _, _, _, _, _, _, _, _, _, _, _, _, _, _, _, _, _, _, _, _, _, _, _, _, _, _, _, _, _, .pointer (some ⟨h + 1, 0, none⟩), .pointer (some ⟨h + 1, 0, none⟩), _, _, _, _, _], []⟩ _
  refine wpAnyH_take (i := 2) (v := .pointer (some ⟨h + 1, 0, none⟩)) rfl (by kernel_rfl) (by kernel_rfl) (by kernel_rfl) (fun _ _ _ h => h) (Or.inl ⟨by rfl, ?_⟩) hHeld ?_
  · intro W hW; (try dsimp only at hW); go_simp
  change wpAnyH _ _ _ _ _ _ _ ⟨#[.pointer (some ⟨h + 1, 0, none⟩), _, _, .pointer (some ⟨w.heap.size, 0, none⟩), _, .int .i64 (a : Int), _, _, _, _, _, _, _, _, _, _, _, _, _, _, _, _, _, _, _, _, _, _, _, _, _, _, _, _, _, _, .pointer (some ⟨h + 1, 0, none⟩), .pointer (some ⟨h + 1, 0, none⟩), .pointer (some ⟨h + 1, 0, none⟩), _, _, _, _], []⟩ _
  refine wpAnyH_take (i := 3) (v := .slice (some ⟨h, 0, none⟩) (2 * T.n) (2 * T.n)) rfl (by kernel_rfl) (by kernel_rfl) (by kernel_rfl) (fun _ _ _ h => h) (Or.inl ⟨by rfl, ?_⟩) hHeld ?_
  · intro W hW; (try dsimp only at hW); have hc := hW.1.cell 0 _ rfl; clear hW; go_simp
  change wpAnyH _ _ _ _ _ _ _ ⟨#[.pointer (some ⟨h + 1, 0, none⟩), _, _, .pointer (some ⟨w.heap.size, 0, none⟩), _, .int .i64 (a : Int), _, _, _, _, _, _, _, _, _, _, _, _, _, _, _, _, _, _, _, _, _, _, _, _, _, _, _, _, _, _, .pointer (some ⟨h + 1, 0, none⟩), .pointer (some ⟨h + 1, 0, none⟩), .pointer (some ⟨h + 1, 0, none⟩), .slice (some ⟨h, 0, none⟩) (2 * T.n) (2 * T.n), _, _, _], []⟩ _
  refine wpAnyH_take (i := 4) (v := .int .i64 (a : Int)) rfl (by kernel_rfl) (by kernel_rfl) (by kernel_rfl) (fun _ _ _ h => h) (Or.inl ⟨by rfl, ?_⟩) hHeld ?_
  · intro W hW; (try dsimp only at hW); go_simp
  change wpAnyH _ _ _ _ _ _ _ ⟨#[.pointer (some ⟨h + 1, 0, none⟩), _, _, .pointer (some ⟨w.heap.size, 0, none⟩), _, .int .i64 (a : Int), _, _, _, _, _, _, _, _, _, _, _, _, _, _, _, _, _, _, _, _, _, _, _, _, _, _, _, _, _, _, .pointer (some ⟨h + 1, 0, none⟩), .pointer (some ⟨h + 1, 0, none⟩), .pointer (some ⟨h + 1, 0, none⟩), .slice (some ⟨h, 0, none⟩) (2 * T.n) (2 * T.n), .int .i64 (a : Int), _, _], []⟩ _
  refine wpAnyH_take (i := 5) (v := .agg (EC x)) rfl (by kernel_rfl) (by kernel_rfl) (by kernel_rfl) (fun _ _ _ h => h) (yieldsIf_load_mid (by rfl) 36 (.tmp 3) rfl w.heap.size 0 rfl (ecl x) _ (fun W hW => hW.2.at_) Try.underlying36 rfl Try.size36) hHeld ?_
  change wpAnyH _ _ _ _ _ _ _ ⟨#[.pointer (some ⟨h + 1, 0, none⟩), _, _, .pointer (some ⟨w.heap.size, 0, none⟩), _, .int .i64 (a : Int), _, _, _, _, _, _, _, _, _, _, _, _, _, _, _, _, _, _, _, _, _, _, _, _, _, _, _, _, _, _, .pointer (some ⟨h + 1, 0, none⟩), .pointer (some ⟨h + 1, 0, none⟩), .pointer (some ⟨h + 1, 0, none⟩), .slice (some ⟨h, 0, none⟩) (2 * T.n) (2 * T.n), .int .i64 (a : Int), .agg (EC x), _], []⟩ _
  refine wpAnyH_take (i := 6) (v := .pointer (some ⟨h, a * 10, none⟩)) rfl (by kernel_rfl) (by kernel_rfl) (by kernel_rfl) (fun _ _ _ h => h) (Or.inl ⟨by rfl, ?_⟩) hHeld ?_
  · intro W hW; (try dsimp only at hW); go_simp
  change wpAnyH _ _ _ _ _ _ _ ⟨#[.pointer (some ⟨h + 1, 0, none⟩), _, _, .pointer (some ⟨w.heap.size, 0, none⟩), _, .int .i64 (a : Int), _, _, _, _, _, _, _, _, _, _, _, _, _, _, _, _, _, _, _, _, _, _, _, _, _, _, _, _, _, _, .pointer (some ⟨h + 1, 0, none⟩), .pointer (some ⟨h + 1, 0, none⟩), .pointer (some ⟨h + 1, 0, none⟩), .slice (some ⟨h, 0, none⟩) (2 * T.n) (2 * T.n), .int .i64 (a : Int), .agg (EC x), .pointer (some ⟨h, a * 10, none⟩)], []⟩ _
  refine wpAnyH_ready (rs := [7]) (by kernel_rfl) (by simp) ?_
  refine AllReadyH.cons rfl (fun K hK => ?_) AllReadyH.nil
  rw [if_pos (by rfl)]
  refine wp_store_mid 36 (.tmp 42) (.tmp 41) rfl h (a * 10) (EC x) rfl rfl (HL.out.drew.thE HA.out) Try.size36 (one_EC x) ?_
  have Y3 := HL.out.drew.putE (List.getElem?_eq_getElem HA.out) x
  have G3 := setCells_grown h (ecl x) (a * 10) W2.drew
  refine hK.out _ _ ⟨HT.out.drew.kept (Nat.succ_ne_self h) G3, HX.out.drew.kept HK.out G3⟩ (fun hHeld => ?_)
  clear hK K hHeld
  obtain ⟨w4, hw4⟩ : ∃ w4, w4 = World.setCells W2.drew h (a * 10) (ecl x) := ⟨_, rfl⟩
  rw [← hw4] at Y3 G3
  have e4 : World.setCells W2.drew h (a * 10) (EC x).toList = w4 := by rw [hw4]; rfl
  rw [e4]
  have HY := hide Y3
  have HG := hide G3
  clear e4 hw4 Y3 G3
  change wpAnyH _ _ _ _ _ _ _ ⟨#[.pointer (some ⟨h + 1, 0, none⟩), _, _, .pointer (some ⟨w.heap.size, 0, none⟩), _, .int .i64 (a : Int), _, _, _, _, _, _, _, _, _, _, _, _, _, _, _, _, _, _, _, _, _, _, _, _, _, _, _, _, _, _, .pointer (some ⟨h + 1, 0, none⟩), .pointer (some ⟨h + 1, 0, none⟩), .pointer (some ⟨h + 1, 0, none⟩), .slice (some ⟨h, 0, none⟩) (2 * T.n) (2 * T.n), .int .i64 (a : Int), .agg (EC x), .pointer (some ⟨h, a * 10, none⟩)], []⟩ _
  refine wpAnyH_done (by kernel_rfl) ?_ _
  go_wp2
  go_ret
  refine ⟨rfl, ⟨ps.set a x, HP2.out.putNew hx hh HLL.out HP.out HY.out ?_⟩, ?_⟩
  · rw [← HU.out]; exact HT.out.drew.kept (by omega) HG.out
  · exact HM3.out.grown (grown_drew' HG.out) (Or.inr ⟨Nat.le_refl _, by omega⟩)
/-- What set answers, and what it leaves. -/
def full (T : Tb) (v : Int) (m : Mc) : Bool := !hs T.l v m && decide (T.n ≤ T.l.length)
def sT (T : Tb) (x : En) : Tb := if full T x.v x.m then T else ⟨T.n, up T.l x⟩
def sE (T : Tb) (x : En) : Int := if full T x.v x.m then 3 else 0
theorem set41 (h : Nat) (ps : List En) (T : Tb) (x : En) (w : World) (hx : Gd x) (H : PT w h ps T) :
    Calls Try.prog 41 #[.pointer (some ⟨h + 1, 0, none⟩), .agg (EC x)] w fun e w' => e = .returned (.int .i64 (sE T x)) ∧ (∃ ps', PT w' h ps' (sT T x)) ∧ Mid h (h + 2) w w' := by
  rcases Bool.eq_false_or_eq_true (hs T.l x.v x.m) with hh | hh
  · have e : full T x.v x.m = false := by simp [full, hh]
    rw [sE, sT, e]
    exact set33_there h ps T x w hx H hh
  · by_cases hl : T.l.length < T.n
    · have e : full T x.v x.m = false := by simp [full, hh]; omega
      rw [sE, sT, e]
      exact set33_new h ps T x w hx H hh hl
    · have e : full T x.v x.m = true := by simp [full, hh]; omega
      rw [sE, sT, e]
      have := H.wf.le
      refine (set33_full h ps T x w hx H hh (by omega)).mono ?_
      rintro e w' ⟨rfl, hb⟩
      exact ⟨rfl, ⟨ps, H.on hb⟩, Mid.on (Mid.refl _ _ _) hb⟩
end Go.Proofs.Ytjlmheecefobaaa
