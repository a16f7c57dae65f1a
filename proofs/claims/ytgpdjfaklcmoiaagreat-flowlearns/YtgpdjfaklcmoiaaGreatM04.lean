/- Contracts of takeOut and Remove. · Contract of Look. -/
import Derived.Test.YtgpdjfaklcmoiaaGreatM03
/- Contracts of takeOut and Remove. -/
namespace Go.Proofs.YtgpdjfaklcmoiaaGreat
open Go.RowKit Go.PlainAid

theorem Mid.grownM {h : Nat} {w wr w2 w3 : World} {o : Obj} (M : Mid h (h + 2) w wr) (hg : (wr.alloc o).grownBy w2 (some wr.heap.size)) (hb : Below w2.heap.size w2 w3) : Mid h (h + 2) w w3 :=
  Mid.on ((M.on (below_alloc wr o)).grown hg (Or.inl M.size)) hb
attribute [local go_sem] ZE
set_option maxRecDepth 100000 in
set_option maxHeartbeats 4000000 in
theorem takeOut57 (h : Nat) (ps : List En) (T : FT) (a : Nat) (x0 : En) (w : World) (ha : a < 2 * T.n) (hx : ps[a]? = some x0) (ho : x0 ≠ zE) (H : PF w h ps T) :
    Calls Tryz.prog 115 #[.pointer (some ⟨h + 1, 0, none⟩), .int .i64 a] w fun e w' => e = .returned (.tuple #[]) ∧ (∃ ps', Box w' h (es ps') ∧ Rp (2 * T.n) (hf T.n) ps' (T.l.filter (fun y => !eqE y x0))) ∧ Box w' (h + 1) (tcl h T.n (T.l.length - 1)) ∧ Mid h (h + 2) w w' := by
  have n1 := H.wf.n1
  have n2 := H.wf.n2
  have hle := H.wf.le
  have hl0 : 0 < T.l.length := by
    have := (H.rp.mem x0 ho).1 (List.mem_of_getElem? hx)
    exact List.length_pos_of_mem this
  have hlt := H.lt
  have K0 := tk_new H.rp (by omega) ha hx ho (by omega)
  have q1 := fun w H => next47 h T.n T.l.length a w n1 n2 H ha
  have HH := hide H
  have HK0 := hide K0
  have HX0 := hide hx
  have e6 : IntKind.i64.wrap ((T.l.length : Int) - 1) = (T.l.length : Int) - 1 := IntWalk.i64_in _ (by omega)
  clear H K0 hx
  go_enter Tryz.func115, Tryz.ntmps115
  go_wp2_with (first | (go_at_call 83; refine (q1 _ HH.out.bx).mono ?_; rintro e w ⟨rfl, rfl⟩))
  clear q1
  go_loopw [1, 4, 5] (fun i o _ wr => ∃ (at_ q : Nat) (qs : List En), i = .int .i64 at_ ∧ o = .int .i64 q ∧ Tk (2 * T.n) (hf T.n) ps a qs q at_ ∧ Box wr h (es qs) ∧ Box wr (h + 1) (tcl h T.n T.l.length) ∧ Mid h (h + 2) w wr) (fun i _ _ _ => 2 * T.n - wy (2 * T.n) a (intOf i).toNat)
  case atStart => exact ⟨_, _, ps, rfl, rfl, HK0.out, HH.out.pl, HH.out.bx, Mid.refl _ _ _⟩
  case round =>
    obtain ⟨at_, q, qs, rfl, rfl, K, L, X, M⟩ := hrel
    have ha1 := K.lt
    have hq1 := K.lh
    have ha0 : (at_ : Int) < 2 * (T.n : Int) := by omega
    have hq0 : (q : Int) < 2 * (T.n : Int) := by omega
    obtain ⟨x, hx⟩ : ∃ x, qs[at_]? = some x := ⟨_, List.getElem?_eq_getElem (by rw [K.len]; exact ha1)⟩
    have A1 := L.ent hx
    have c0 := X.cell 0 _ rfl
    have KK := hide K
    have LL := hide L
    have XX := hide X
    have MM := hide M
    have HXX := hide hx
    have q2 := fun w => free27 x w
    clear K L X M hx
    have tk1 : True := trivial
    have tk2 : True := trivial
    have tk3 : True := trivial
    rcases Bool.eq_false_or_eq_true (fre x) with hfr | hfr
    · rw [hfr] at q2
      obtain rfl := (fre_iff x).1 hfr
      go_wp2_with (first | (have _t := tk1; refine wpl_ent (.tmp 15) rfl A1 ?_ ?_ ?_; rfl; rfl; clear tk1))
      refine (q2 _).mono ?_
      rintro e w2 ⟨rfl, hb⟩
      have L2 := hide (LL.out.on hb)
      have X2 := hide (XX.out.on hb)
      have M2 := hide (MM.out.on hb)
      have c1 := X2.out.cell 0 _ rfl
      clear hb A1 c0 LL XX MM q2
      go_wp2_with (first | (have _t := tk2; refine wpl_putR qs q zE (.tmp 57) (.tmp 56) rfl L2.out (by rw [KK.out.len]; exact hq1) ?_ rfl rfl ?_; rfl; intro w3 L3 G3; have X3 := X2.out.kept (Nat.succ_ne_self h) G3; have c2 := X3.cell 2 _ rfl; have c3 := X3.free 2 (by simp [tcl]); have HX3 := hide X3; have HL3 := hide L3; have HG3 := hide G3; clear X3 L3 G3 tk2))
      go_end0
      have g4 := setCell_grown w3 (h + 1) 2 (.int .i64 ((T.l.length : Int) - 1))
      have e7 : ((T.l.length : Int) - 1) = ((T.l.length - 1 : Nat) : Int) := by omega
      refine ⟨rfl, ⟨_, HL3.out.kept (by omega) g4, KK.out.done HH.out.rp HX0.out HXX.out⟩, ?_, (M2.out.grown HG3.out (Or.inr ⟨Nat.le_refl _, by omega⟩)).grown g4 (Or.inr ⟨by omega, by omega⟩)⟩
      rw [e7]
      exact tcl_used HX3.out
    · have hxo : Hid (x ≠ zE) := hide (fun e => by rw [(fre_iff x).2 e] at hfr; cases hfr)
      rw [hfr] at q2
      go_wp2_with (first | (have _t := tk1; refine wpl_ent (.tmp 15) rfl A1 ?_ ?_ ?_; rfl; rfl; clear tk1))
      refine (q2 _).mono ?_
      rintro e w2 ⟨rfl, hb⟩
      have L2 := hide (LL.out.on hb)
      have X2 := hide (XX.out.on hb)
      have M2 := hide (MM.out.on hb)
      have c1 := X2.out.cell 0 _ rfl
      have A2 := L2.out.ent HXX.out
      clear hb A1 c0 LL XX MM q2
      go_wp2_with (first | (have _t := tk2; refine wpl_ent (.tmp 27) rfl A2 ?_ ?_ ?_; rfl; rfl; clear tk2) | (have _t := tk3; refine wpl_putE x zE (.tmp 5) (.tmp 28) rfl (box_e _ zE) ?_ rfl rfl ?_; rfl; clear tk3))
      intro w3 E3 G3
      have L3 := hide ((L2.out.alloc (.cells (EC zE) 61)).kept (by have := L2.out.lt; omega) G3)
      have X3 := hide ((X2.out.alloc (.cells (EC zE) 61)).kept (by have := X2.out.lt; omega) G3)
      have M3 := hide ((M2.out.on (below_alloc w2 (.cells (EC zE) 61))).grown G3 (Or.inl M2.out.size))
      have hk : Hid (w2.heap.size ≠ h) := hide (by have := L2.out.lt; omega)
      have c2 := E3.cell 0 _ rfl
      have m2 := mac_of E3
      have EE := hide E3
      clear G3 E3 L2 X2 M2 A2 c1
      generalize w2.heap.size = kx at *
      have tk1 : True := trivial
      have hok : Hid (Mok x.m) := hide (by
        obtain ⟨j, _, hj⟩ := (KK.out.mem x hxo.out).1 ⟨at_, Ne.symm KK.out.ne, HXX.out⟩
        exact (HH.out.wf.gd x ((HH.out.rp.mem x hxo.out).1 (List.mem_of_getElem? hj))).ok)
      go_wp2_with (first | (have _t := tk1; refine wpl_mac (.tmp 33) rfl m2 ?_ ?_ ?_; rfl; rfl; clear tk1))
      refine (first46 h T.n T.l.length x.v x.m _ hok.out n1 n2 X3.out).mono ?_
      rintro e w4 ⟨rfl, hb⟩
      have L4 := hide (L3.out.on hb)
      have X4 := hide (X3.out.on hb)
      have M4 := hide (M3.out.on hb)
      have E4 := hide (EE.out.on hb)
      clear hb L3 X3 M3 EE c2 m2
      go_wp2_with fail
      refine (way63 h T.n T.l.length (fs T.n x.v x.m) at_ _ n1 n2 X4.out (fs_lt _ _ _ n1 n2) ha1).mono ?_
      rintro e w5 ⟨rfl, hb⟩
      have L5 := hide (L4.out.on hb)
      have X5 := hide (X4.out.on hb)
      have M5 := hide (M4.out.on hb)
      have E5 := hide (E4.out.on hb)
      clear hb L4 X4 M4 E4
      go_wp2_with fail
      refine (way63 h T.n T.l.length q at_ _ n1 n2 X5.out hq1 ha1).mono ?_
      rintro e W2 ⟨rfl, hb⟩
      have HL := hide (L5.out.on hb)
      have HT := hide (X5.out.on hb)
      have M6 := hide (M5.out.on hb)
      have HX := hide (E5.out.on hb)
      clear hb L5 X5 M5 E5
      obtain ⟨U, hU⟩ : ∃ U, U = T.l.length := ⟨_, rfl⟩
      rw [← hU] at HT
      have HU := hide hU
      clear hU
      have q3 := fun w H => next47 h T.n U at_ w n1 n2 H ha1
      have HA : Hid (q < qs.length) := hide (by rw [KK.out.len]; exact hq1)
      have hme : Hid (2 * T.n - wy (2 * T.n) a (nt (2 * T.n) at_) < 2 * T.n - wy (2 * T.n) a at_) := hide (by rw [wy_nt KK.out.la KK.out.lt (KK.out.room HXX.out hxo.out)]; have := KK.out.room HXX.out hxo.out; omega)
      by_cases hw : wy (2 * T.n) q at_ ≤ wy (2 * T.n) (fs T.n x.v x.m) at_
      · have KN := hide (KK.out.move HXX.out hxo.out hw)
        have hw2 : ((wy (2 * T.n) q at_ : Nat) : Int) ≤ (wy (2 * T.n) (fs T.n x.v x.m) at_ : Nat) := by omega
        clear hw
        have HK := hk
        go_wp2_with fail
        refine wp_region_held_drew (S := fun w' => Box w' (h + 1) (tcl h T.n U) ∧ Box w' kx (ecl x)) (by kernel_rfl) ⟨HT.out.drew, HX.out.drew⟩ (fun hHeld => ?_)
        refine wpAnyH_take (i := 0) (v := .pointer (some ⟨h + 1, 0, none⟩)) rfl (by kernel_rfl) (by kernel_rfl) (by kernel_rfl) (fun _ _ _ h => h) (Or.inl ⟨by rfl, ?_⟩) hHeld ?_
        · intro W hW; (try dsimp only at hW); go_simp
        change wpAnyH _ _ _ _ _ _ _ ⟨#[.pointer (some ⟨h + 1, 0, none⟩), _, _, _, .int .i64 (q : Int), .pointer (some ⟨kx, 0, none⟩), _, _, _, _, _, _, _, _, _, _, _, _, _, _, _, _, _, _, _, _, _, _, _, _, _, _, _, _, _, _, _, _, _, _, _, _, _, .pointer (some ⟨h + 1, 0, none⟩), _, _, _, _, _, _, _, _, _, _, _, _, _, _, _, _, _, _, _, _, _], []⟩ _
        refine wpAnyH_take (i := 1) (v := .pointer (some ⟨h + 1, 0, none⟩)) rfl (by kernel_rfl) (by kernel_rfl) (by kernel_rfl) (fun _ _ _ h => h) (Or.inl ⟨by rfl, ?_⟩) hHeld ?_
        · intro W hW; (try dsimp only at hW); go_simp
        change wpAnyH _ _ _ _ _ _ _ ⟨#[.pointer (some ⟨h + 1, 0, none⟩), _, _, _, .int .i64 (q : Int), .pointer (some ⟨kx, 0, none⟩), _, _, _, _, _, _, _, _, _, _, _, _, _, _, _, _, _, _, _, _, _, _, _, _, _, _, _, _, _, _, _, _, _, _, _, _, _, .pointer (some ⟨h + 1, 0, none⟩), .pointer (some ⟨h + 1, 0, none⟩), _, _, _, _, _, _, _, _, _, _, _, _, _, _, _, _, _, _, _, _], []⟩ _
        refine wpAnyH_take (i := 2) (v := .pointer (some ⟨h + 1, 0, none⟩)) rfl (by kernel_rfl) (by kernel_rfl) (by kernel_rfl) (fun _ _ _ h => h) (Or.inl ⟨by rfl, ?_⟩) hHeld ?_
        · intro W hW; (try dsimp only at hW); go_simp
        change wpAnyH _ _ _ _ _ _ _ ⟨#[.pointer (some ⟨h + 1, 0, none⟩), _, _, _, .int .i64 (q : Int), .pointer (some ⟨kx, 0, none⟩), _, _, _, _, _, _, _, _, _, _, _, _, _, _, _, _, _, _, _, _, _, _, _, _, _, _, _, _, _, _, _, _, _, _, _, _, _, .pointer (some ⟨h + 1, 0, none⟩), .pointer (some ⟨h + 1, 0, none⟩), .pointer (some ⟨h + 1, 0, none⟩), _, _, _, _, _, _, _, _, _, _, _, _, _, _, _, _, _, _, _], []⟩ _
        refine wpAnyH_take (i := 3) (v := .slice (some ⟨h, 0, none⟩) (2 * T.n) (2 * T.n)) rfl (by kernel_rfl) (by kernel_rfl) (by kernel_rfl) (fun _ _ _ h => h) (Or.inl ⟨by rfl, ?_⟩) hHeld ?_
        · intro W hW; (try dsimp only at hW); have hc := hW.1.cell 0 _ rfl; clear hW; go_simp
        change wpAnyH _ _ _ _ _ _ _ ⟨#[.pointer (some ⟨h + 1, 0, none⟩), _, _, _, .int .i64 (q : Int), .pointer (some ⟨kx, 0, none⟩), _, _, _, _, _, _, _, _, _, _, _, _, _, _, _, _, _, _, _, _, _, _, _, _, _, _, _, _, _, _, _, _, _, _, _, _, _, .pointer (some ⟨h + 1, 0, none⟩), .pointer (some ⟨h + 1, 0, none⟩), .pointer (some ⟨h + 1, 0, none⟩), .slice (some ⟨h, 0, none⟩) (2 * T.n) (2 * T.n), _, _, _, _, _, _, _, _, _, _, _, _, _, _, _, _, _, _], []⟩ _
        refine wpAnyH_take (i := 4) (v := .int .i64 (q : Int)) rfl (by kernel_rfl) (by kernel_rfl) (by kernel_rfl) (fun _ _ _ h => h) (Or.inl ⟨by rfl, ?_⟩) hHeld ?_
        · intro W hW; (try dsimp only at hW); go_simp
        change wpAnyH _ _ _ _ _ _ _ ⟨#[.pointer (some ⟨h + 1, 0, none⟩), _, _, _, .int .i64 (q : Int), .pointer (some ⟨kx, 0, none⟩), _, _, _, _, _, _, _, _, _, _, _, _, _, _, _, _, _, _, _, _, _, _, _, _, _, _, _, _, _, _, _, _, _, _, _, _, _, .pointer (some ⟨h + 1, 0, none⟩), .pointer (some ⟨h + 1, 0, none⟩), .pointer (some ⟨h + 1, 0, none⟩), .slice (some ⟨h, 0, none⟩) (2 * T.n) (2 * T.n), .int .i64 (q : Int), _, _, _, _, _, _, _, _, _, _, _, _, _, _, _, _, _], []⟩ _
        refine wpAnyH_take (i := 5) (v := .agg (EC x)) rfl (by kernel_rfl) (by kernel_rfl) (by kernel_rfl) (fun _ _ _ h => h) (yieldsIf_load_mid (by rfl) 61 (.tmp 5) rfl kx 0 rfl (ecl x) _ (fun W hW => hW.2.at_) Tryz.underlying61 rfl Tryz.size61) hHeld ?_
        change wpAnyH _ _ _ _ _ _ _ ⟨#[.pointer (some ⟨h + 1, 0, none⟩), _, _, _, .int .i64 (q : Int), .pointer (some ⟨kx, 0, none⟩), _, _, _, _, _, _, _, _, _, _, _, _, _, _, _, _, _, _, _, _, _, _, _, _, _, _, _, _, _, _, _, _, _, _, _, _, _, .pointer (some ⟨h + 1, 0, none⟩), .pointer (some ⟨h + 1, 0, none⟩), .pointer (some ⟨h + 1, 0, none⟩), .slice (some ⟨h, 0, none⟩) (2 * T.n) (2 * T.n), .int .i64 (q : Int), .agg (EC x), _, _, _, _, _, _, _, _, _, _, _, _, _, _, _, _], []⟩ _
        refine wpAnyH_take (i := 6) (v := .pointer (some ⟨h, q * 10, none⟩)) rfl (by kernel_rfl) (by kernel_rfl) (by kernel_rfl) (fun _ _ _ h => h) (Or.inl ⟨by rfl, ?_⟩) hHeld ?_
        · intro W hW; (try dsimp only at hW); go_simp
        change wpAnyH _ _ _ _ _ _ _ ⟨#[.pointer (some ⟨h + 1, 0, none⟩), _, _, _, .int .i64 (q : Int), .pointer (some ⟨kx, 0, none⟩), _, _, _, _, _, _, _, _, _, _, _, _, _, _, _, _, _, _, _, _, _, _, _, _, _, _, _, _, _, _, _, _, _, _, _, _, _, .pointer (some ⟨h + 1, 0, none⟩), .pointer (some ⟨h + 1, 0, none⟩), .pointer (some ⟨h + 1, 0, none⟩), .slice (some ⟨h, 0, none⟩) (2 * T.n) (2 * T.n), .int .i64 (q : Int), .agg (EC x), .pointer (some ⟨h, q * 10, none⟩), _, _, _, _, _, _, _, _, _, _, _, _, _, _, _], []⟩ _
        refine wpAnyH_ready (rs := [7]) (by kernel_rfl) (by simp) ?_
        refine AllReadyH.cons rfl (fun K hK => ?_) AllReadyH.nil
        rw [if_pos (by rfl)]
        refine wp_store_mid 61 (.tmp 49) (.tmp 48) rfl h (q * 10) (EC x) rfl rfl (HL.out.drew.thE HA.out) Tryz.size61 (one_EC x) ?_
        have Y3 := HL.out.drew.putE (List.getElem?_eq_getElem HA.out) x
        have G3 := setCells_grown h (ecl x) (q * 10) W2.drew
        refine hK.out _ _ ⟨HT.out.drew.kept (Nat.succ_ne_self h) G3, HX.out.drew.kept HK.out G3⟩ (fun hHeld => ?_)
        clear hK K hHeld
        obtain ⟨w4, hw4⟩ : ∃ w4, w4 = World.setCells W2.drew h (q * 10) (ecl x) := ⟨_, rfl⟩
        rw [← hw4] at Y3 G3
        have e4 : World.setCells W2.drew h (q * 10) (EC x).toList = w4 := by rw [hw4]; rfl
        rw [e4]
        have HY := hide Y3
        have HG := hide G3
        clear e4 hw4 Y3 G3
        change wpAnyH _ _ _ _ _ _ _ ⟨#[.pointer (some ⟨h + 1, 0, none⟩), _, _, _, .int .i64 (q : Int), .pointer (some ⟨kx, 0, none⟩), _, _, _, _, _, _, _, _, _, _, _, _, _, _, _, _, _, _, _, _, _, _, _, _, _, _, _, _, _, _, _, _, _, _, _, _, _, .pointer (some ⟨h + 1, 0, none⟩), .pointer (some ⟨h + 1, 0, none⟩), .pointer (some ⟨h + 1, 0, none⟩), .slice (some ⟨h, 0, none⟩) (2 * T.n) (2 * T.n), .int .i64 (q : Int), .agg (EC x), .pointer (some ⟨h, q * 10, none⟩), _, _, _, _, _, _, _, _, _, _, _, _, _, _, _], []⟩ _
        refine wpAnyH_done (by kernel_rfl) ?_ _
        have HT4 := HT.out.drew.kept (Nat.succ_ne_self h) HG.out
        have HTT := hide HT4
        clear HT4
        go_wp2_with (first | (go_at_call 83; refine (q3 _ HTT.out).mono ?_; rintro e w5 ⟨rfl, rfl⟩))
        go_roundw
        case rel => exact ⟨_, _, _, rfl, rfl, KN.out, HY.out, by rw [← HU.out]; exact HTT.out, M6.out.grown (grown_drew' HG.out) (Or.inr ⟨Nat.le_refl _, by omega⟩)⟩
        case measure => simpa [intOf] using hme.out
      · have KN := hide (KK.out.stay HXX.out hxo.out (by show wy (2 * T.n) (fs T.n x.v x.m) at_ < _; omega))
        have hw2 : ¬ ((wy (2 * T.n) q at_ : Nat) : Int) ≤ (wy (2 * T.n) (fs T.n x.v x.m) at_ : Nat) := by omega
        clear hw
        go_wp2_with (first | (go_at_call 83; refine (q3 _ HT.out).mono ?_; rintro e w5 ⟨rfl, rfl⟩))
        go_roundw
        case rel => exact ⟨_, _, _, rfl, rfl, KN.out, HL.out, by rw [← HU.out]; exact HT.out, M6.out⟩
        case measure => simpa [intOf] using hme.out
theorem rm_key {T : FT} (H : FW T) {v : Int} {m : Mc} (hh : fhs T.l v m = true) : T.l.filter (fun y => !eqE y (lk T.l v m)) = frm T.l v m := by
  refine List.filter_congr (fun y hy => ?_)
  congr 1
  rw [Bool.eq_iff_iff, eqE_iff]
  constructor
  · intro e; rw [e]; exact lk_ky T.l v m hh
  · intro e; exact (lk_of H hy e).2.symm
theorem rm_wf {T : FT} (H : FW T) (v : Int) (m : Mc) : FW ⟨T.n, frm T.l v m⟩ :=
  ⟨H.n1, H.n2, Nat.le_trans (List.length_filter_le _ _) H.le, rm_srt H.srt v m, fun z hz => H.gd z (rm_mem.1 hz).1⟩
set_option maxRecDepth 100000 in
set_option maxHeartbeats 2000000 in
theorem remove41 (h : Nat) (ps : List En) (T : FT) (v : Int) (m : Mc) (w : World) (hm : Mok m) (H : PF w h ps T) :
    Calls Tryz.prog 97 #[.pointer (some ⟨h + 1, 0, none⟩), .int .i64 v, .agg (MC m)] w fun e w' => e = .returned (.bool (fhs T.l v m)) ∧ (∃ ps', PF w' h ps' ⟨T.n, frm T.l v m⟩) ∧ Mid h (h + 2) w w' := by
  have n1 := H.wf.n1
  have n2 := H.wf.n2
  have M0 := (box_m w m).at_
  have W0 : Hid (Below w.heap.size w (w.alloc (.cells (MC m) 35))) := hide (below_alloc w _)
  have HH := hide H
  have HM := hide hm
  have q2 := fun w => free27 (lk T.l v m) w
  clear H hm
  have tk1 : True := trivial
  go_enter Tryz.func97, Tryz.ntmps97
  go_wp2_with (first | (have _t := tk1; refine wpl_mac (.tmp 5) rfl M0 ?_ ?_ ?_; rfl; rfl; clear tk1))
  refine (place26 h ps T v m _ HM.out (HH.out.on W0.out)).mono ?_
  rintro e w1 ⟨a, rfl, P, hb⟩
  have P1 := (HH.out.on W0.out).on hb
  have G1 := P.lk P1.rp P1.wf HM.out (fs_lt _ _ _ n1 n2) (fun y hy => by rw [(ky_iff _ _ _).1 hy |>.1.symm, ((ky_iff _ _ _).1 hy).2.symm]; rfl)
  have A1 := P1.pl.ent G1
  have HG1 := hide G1
  have c1 := P1.bx.cell 0 _ rfl
  have ha0 : (a : Int) < 2 * (T.n : Int) := by have := P.lt; omega
  have HP1 := hide P1
  have HB1 := hide (belowOn W0.out hb)
  have HP := hide P
  clear P1 P hb M0 G1
  have tk1 : True := trivial
  rcases Bool.eq_false_or_eq_true (fhs T.l v m) with hh | hh
  · have hgd := HH.out.wf.gd _ (lk_mem hh)
    rw [hgd.fre] at q2
    have HHS := hide hh
    clear hh
    go_wp2_with (first | (have _t := tk1; refine wpl_ent (.tmp 17) rfl A1 ?_ ?_ ?_; rfl; rfl; clear tk1))
    refine (q2 _).mono ?_
    rintro e w2 ⟨rfl, hb⟩
    have HP2 := hide (HP1.out.on hb)
    have HB2 := hide (belowOn HB1.out hb)
    clear hb A1 c1
    go_wp2_with fail
    refine (takeOut57 h ps T a _ _ HP.out.lt HG1.out hgd.occ HP2.out).mono ?_
    rintro e w3 ⟨rfl, ⟨ps', L, R⟩, X, M⟩
    have hh := HHS.out
    have el := rm_len HH.out.wf.srt hh
    have F : Hid ((∃ ps', PF w3 h ps' ⟨T.n, frm T.l v m⟩) ∧ Mid h (h + 2) w w3) := hide ⟨⟨ps', ⟨by show Box w3 (h + 1) (tcl h T.n (frm T.l v m).length); rw [show (frm T.l v m).length = T.l.length - 1 by omega]; exact X, L, by rw [← rm_key HH.out.wf hh]; exact R, rm_wf HH.out.wf v m⟩⟩, Mid.trans (Mid.on (Mid.refl _ _ _) HB2.out) M⟩
    clear L R X M hh
    go_wp2
    go_ret
    exact ⟨ret_bool HHS.out.symm, F.out⟩
  · rw [lk_no _ _ _ hh] at q2 A1
    have ez : fre zE = true := rfl
    rw [ez] at q2
    have HHS := hide hh
    clear hh
    go_wp2_with (first | (have _t := tk1; refine wpl_ent (.tmp 17) rfl A1 ?_ ?_ ?_; rfl; rfl; clear tk1))
    refine (q2 _).mono ?_
    rintro e w2 ⟨rfl, hb⟩
    have F : Hid ((∃ ps', PF w2 h ps' ⟨T.n, frm T.l v m⟩) ∧ Mid h (h + 2) w w2) := hide ⟨⟨ps, by rw [rm_no HHS.out]; exact HP1.out.on hb⟩, Mid.on (Mid.refl _ _ _) (belowOn HB1.out hb)⟩
    clear hb A1 c1
    go_wp2
    go_ret
    exact ⟨ret_bool HHS.out.symm, F.out⟩
end Go.Proofs.YtgpdjfaklcmoiaaGreat
/- Contract of Look. -/
namespace Go.Proofs.YtgpdjfaklcmoiaaGreat
open Go.RowKit Go.PlainAid

theorem res_ent_tmp {fn : Func} {p u : Tmp} (h : fn.results = #[.cell p 61, .tmp u]) {tmps : Array Value} {w : World} {k : Nat} {x : En} (hp : tmps.getD p undef = .pointer (some ⟨k, 0, none⟩)) (hA : Box w k (ecl x)) :
    (results fn tmps).run Tryz.prog w = .ok (.tuple #[.agg (EC x), tmps.getD u undef]) w := by
  have hl := run_loadVar_mid (P := Tryz.prog) w k 0 61 _ _ hA.at_ Tryz.underlying61 rfl Tryz.size61
  have hp' : tmps[p]?.getD undef = .pointer (some ⟨k, 0, none⟩) := by simpa using hp
  simp only [results, h]
  simp [hp', asAddr, hl, EC]
theorem hs_fre {T : FT} (H : FW T) (v : Int) (m : Mc) : (!fre (lk T.l v m)) = fhs T.l v m := by
  rcases Bool.eq_false_or_eq_true (fhs T.l v m) with hh | hh
  · rw [(H.gd _ (lk_mem hh)).fre, hh]; rfl
  · rw [lk_no _ _ _ hh, hh]; rfl
theorem belowOn' {N : Nat} {w w1 : World} (h : Below N w w1) : Below N w w1.drew := ⟨h.os, h.tape, h.output, h.size, h.block⟩
theorem below_more {w w1 w2 : World} {N : Nat} (h : Below N w w1) (hb : Below w1.heap.size w1 w2) (hN : N ≤ w1.heap.size) : Below N w w2 := h.trans (hb.mono hN)
attribute [local go_sem] ZE
set_option maxRecDepth 100000 in
set_option maxHeartbeats 4000000 in
theorem look11 (h : Nat) (ps : List En) (T : FT) (v : Int) (m : Mc) (w : World) (hm : Mok m) (H : PF w h ps T) :
    Calls Tryz.prog 24 #[.pointer (some ⟨h + 1, 0, none⟩), .int .i64 v, .agg (MC m)] w fun e w' => e = .returned (.tuple #[.agg (EC (lk T.l v m)), .bool (fhs T.l v m)]) ∧ Below w.heap.size w w' := by
  have n1 := H.wf.n1
  have n2 := H.wf.n2
  rw [← hs_fre H.wf]
  have M0 : Box ((w.alloc (.cells (MC m) 35)).alloc (.cells (EC zE) 61)) w.heap.size (mcl m) := (box_m w m).alloc _
  have Z0 : Box ((w.alloc (.cells (MC m) 35)).alloc (.cells (EC zE) 61)) (w.heap.size + 1) (ecl zE) := by
    have := box_e (w.alloc (.cells (MC m) 35)) zE
    rwa [World.size_alloc] at this
  have W0 : Below w.heap.size w ((w.alloc (.cells (MC m) 35)).alloc (.cells (EC zE) 61)) := by go_grown
  have P0 := H.on W0
  have HH := hide H
  have HM := hide hm
  have hlt := H.lt
  clear H hm
  have hk1 : Hid (h + 1 < w.heap.size ∧ w.heap.size < w.heap.size + 1) := hide ⟨by omega, by omega⟩
  go_enter Tryz.func24, Tryz.ntmps24
  go_wp2_with fail
  have HM0 := hide M0
  have HZ0 := hide Z0
  have HW0 := hide W0
  have HP0 := hide P0
  clear M0 Z0 W0 P0 hlt
  generalize (w.alloc (.cells (MC m) 35)).alloc (.cells (EC zE) 61) = W1 at *
  generalize hk : w.heap.size = k0 at *
  generalize hk' : k0 + 1 = k1 at *
  have hk2 : Hid (k0 < k1) := hide (by omega)
  clear hk'
  have HKK := hide hk
  clear hk
  refine wp_region_held_drew (S := fun w' => PF w' h ps T ∧ Box w' k0 (mcl m) ∧ Box w' k1 (ecl zE)) (by kernel_rfl) ⟨HP0.out.drew, HM0.out.drew, HZ0.out.drew⟩ (fun hHeld => ?_)
  have B := hide (belowOn' HW0.out)
  clear HP0 HM0 HZ0 HW0
  generalize W1.drew = u0 at *
  refine wpAnyH_take (i := 0) (v := .pointer (some ⟨h + 1, 0, none⟩)) rfl (by kernel_rfl) (by kernel_rfl) (by kernel_rfl) (fun _ _ _ h => h) (Or.inl ⟨by rfl, ?_⟩) hHeld ?_
  · intro W hW; (try dsimp only at hW); go_simp
  change wpAnyH _ _ _ _ _ _ _ ⟨#[.pointer (some ⟨h + 1, 0, none⟩), .int .i64 v, _, _, _, .pointer (some ⟨k0, 0, none⟩), .pointer (some ⟨k1, 0, none⟩), .bool false, _, .pointer (some ⟨h + 1, 0, none⟩), _, _, _, _, _, _, _, _, _, _, _, _, _], []⟩ _
  refine wpAnyH_take (i := 1) (v := .pointer (some ⟨h + 1, 0, none⟩)) rfl (by kernel_rfl) (by kernel_rfl) (by kernel_rfl) (fun _ _ _ h => h) (Or.inl ⟨by rfl, ?_⟩) hHeld ?_
  · intro W hW; (try dsimp only at hW); go_simp
  change wpAnyH _ _ _ _ _ _ _ ⟨#[.pointer (some ⟨h + 1, 0, none⟩), .int .i64 v, _, _, _, .pointer (some ⟨k0, 0, none⟩), .pointer (some ⟨k1, 0, none⟩), .bool false, _, .pointer (some ⟨h + 1, 0, none⟩), .pointer (some ⟨h + 1, 0, none⟩), _, _, _, _, _, _, _, _, _, _, _, _], []⟩ _
  refine wpAnyH_take (i := 2) (v := .pointer (some ⟨h + 1, 0, none⟩)) rfl (by kernel_rfl) (by kernel_rfl) (by kernel_rfl) (fun _ _ _ h => h) (Or.inl ⟨by rfl, ?_⟩) hHeld ?_
  · intro W hW; (try dsimp only at hW); go_simp
  change wpAnyH _ _ _ _ _ _ _ ⟨#[.pointer (some ⟨h + 1, 0, none⟩), .int .i64 v, _, _, _, .pointer (some ⟨k0, 0, none⟩), .pointer (some ⟨k1, 0, none⟩), .bool false, _, .pointer (some ⟨h + 1, 0, none⟩), .pointer (some ⟨h + 1, 0, none⟩), .pointer (some ⟨h + 1, 0, none⟩), _, _, _, _, _, _, _, _, _, _, _], []⟩ _
  refine wpAnyH_take (i := 3) (v := .slice (some ⟨h, 0, none⟩) (2 * T.n) (2 * T.n)) rfl (by kernel_rfl) (by kernel_rfl) (by kernel_rfl) (fun _ _ _ h => h) (Or.inl ⟨by rfl, ?_⟩) hHeld ?_
  · intro W hW; (try dsimp only at hW); have hc := hW.1.bx.cell 0 _ rfl; clear hW; go_simp
  change wpAnyH _ _ _ _ _ _ _ ⟨#[.pointer (some ⟨h + 1, 0, none⟩), .int .i64 v, _, _, _, .pointer (some ⟨k0, 0, none⟩), .pointer (some ⟨k1, 0, none⟩), .bool false, _, .pointer (some ⟨h + 1, 0, none⟩), .pointer (some ⟨h + 1, 0, none⟩), .pointer (some ⟨h + 1, 0, none⟩), .slice (some ⟨h, 0, none⟩) (2 * T.n) (2 * T.n), _, _, _, _, _, _, _, _, _, _], []⟩ _
  refine wpAnyH_take (i := 4) (v := .pointer (some ⟨h + 1, 0, none⟩)) rfl (by kernel_rfl) (by kernel_rfl) (by kernel_rfl) (fun _ _ _ h => h) (Or.inl ⟨by rfl, ?_⟩) hHeld ?_
  · intro W hW; (try dsimp only at hW); go_simp
  change wpAnyH _ _ _ _ _ _ _ ⟨#[.pointer (some ⟨h + 1, 0, none⟩), .int .i64 v, _, _, _, .pointer (some ⟨k0, 0, none⟩), .pointer (some ⟨k1, 0, none⟩), .bool false, _, .pointer (some ⟨h + 1, 0, none⟩), .pointer (some ⟨h + 1, 0, none⟩), .pointer (some ⟨h + 1, 0, none⟩), .slice (some ⟨h, 0, none⟩) (2 * T.n) (2 * T.n), .pointer (some ⟨h + 1, 0, none⟩), _, _, _, _, _, _, _, _, _], []⟩ _
  refine wpAnyH_take (i := 5) (v := .int .i64 v) rfl (by kernel_rfl) (by kernel_rfl) (by kernel_rfl) (fun _ _ _ h => h) (Or.inl ⟨by rfl, ?_⟩) hHeld ?_
  · intro W hW; (try dsimp only at hW); go_simp
  change wpAnyH _ _ _ _ _ _ _ ⟨#[.pointer (some ⟨h + 1, 0, none⟩), .int .i64 v, _, _, _, .pointer (some ⟨k0, 0, none⟩), .pointer (some ⟨k1, 0, none⟩), .bool false, _, .pointer (some ⟨h + 1, 0, none⟩), .pointer (some ⟨h + 1, 0, none⟩), .pointer (some ⟨h + 1, 0, none⟩), .slice (some ⟨h, 0, none⟩) (2 * T.n) (2 * T.n), .pointer (some ⟨h + 1, 0, none⟩), .int .i64 v, _, _, _, _, _, _, _, _], []⟩ _
  refine wpAnyH_take (i := 6) (v := .agg (MC m)) rfl (by kernel_rfl) (by kernel_rfl) (by kernel_rfl) (fun _ _ _ h => h) (yieldsIf_load_mid (by rfl) 35 (.tmp 5) rfl k0 0 rfl (mcl m) _ (fun W hW => hW.2.1.at_) Tryz.underlying35 rfl Tryz.size35) hHeld ?_
  change wpAnyH _ _ _ _ _ _ _ ⟨#[.pointer (some ⟨h + 1, 0, none⟩), .int .i64 v, _, _, _, .pointer (some ⟨k0, 0, none⟩), .pointer (some ⟨k1, 0, none⟩), .bool false, _, .pointer (some ⟨h + 1, 0, none⟩), .pointer (some ⟨h + 1, 0, none⟩), .pointer (some ⟨h + 1, 0, none⟩), .slice (some ⟨h, 0, none⟩) (2 * T.n) (2 * T.n), .pointer (some ⟨h + 1, 0, none⟩), .int .i64 v, .agg (MC m), _, _, _, _, _, _, _], []⟩ _
  refine wpAnyH_ready (rs := [7, 10]) (by kernel_rfl) (by simp) ?_
  refine AllReadyH.cons rfl (fun K hK => ?_) (AllReadyH.cons rfl (fun K hK => ?_) AllReadyH.nil)
  · skip
    go_simp
    refine (place26 h ps T v m _ HM.out hHeld.1).mono ?_
    rintro e u2 ⟨a, rfl, Q, hb⟩
    have ga := hide (Q.lk hHeld.1.rp hHeld.1.wf HM.out (fs_lt _ _ _ n1 n2) (fun y hy => by rw [(ky_iff _ _ _).1 hy |>.1.symm, ((ky_iff _ _ _).1 hy).2.symm]; rfl))
    have ha0 : (a : Int) < 2 * (T.n : Int) := by have := Q.lt; omega
    replace B := hide (below_more B.out hb (by have := B.out.size; have := HKK.out; omega))
    refine hK.out _ _ ⟨hHeld.1.on hb, hHeld.2.1.on hb, hHeld.2.2.on hb⟩ (fun hHeld => ?_)
    clear hK K Q
    change wpAnyH _ _ _ _ _ _ _ ⟨#[.pointer (some ⟨h + 1, 0, none⟩), .int .i64 v, _, _, _, .pointer (some ⟨k0, 0, none⟩), .pointer (some ⟨k1, 0, none⟩), .bool false, _, .pointer (some ⟨h + 1, 0, none⟩), .pointer (some ⟨h + 1, 0, none⟩), .pointer (some ⟨h + 1, 0, none⟩), .slice (some ⟨h, 0, none⟩) (2 * T.n) (2 * T.n), .pointer (some ⟨h + 1, 0, none⟩), .int .i64 v, .agg (MC m), .int .i64 (a : Int), _, _, _, _, _, _], []⟩ _
    refine wpAnyH_take (i := 8) (v := .pointer (some ⟨h, a * 10, none⟩)) rfl (by kernel_rfl) (by kernel_rfl) (by kernel_rfl) (fun _ _ _ h => h) (Or.inl ⟨by rfl, ?_⟩) hHeld ?_
    · intro W hW; (try dsimp only at hW); go_simp
    change wpAnyH _ _ _ _ _ _ _ ⟨#[.pointer (some ⟨h + 1, 0, none⟩), .int .i64 v, _, _, _, .pointer (some ⟨k0, 0, none⟩), .pointer (some ⟨k1, 0, none⟩), .bool false, _, .pointer (some ⟨h + 1, 0, none⟩), .pointer (some ⟨h + 1, 0, none⟩), .pointer (some ⟨h + 1, 0, none⟩), .slice (some ⟨h, 0, none⟩) (2 * T.n) (2 * T.n), .pointer (some ⟨h + 1, 0, none⟩), .int .i64 v, .agg (MC m), .int .i64 (a : Int), .pointer (some ⟨h, a * 10, none⟩), _, _, _, _, _], []⟩ _
    refine wpAnyH_take (i := 9) (v := .agg (EC (lk T.l v m))) rfl (by kernel_rfl) (by kernel_rfl) (by kernel_rfl) (fun _ _ _ h => h) (yieldsIf_load_mid (by rfl) 61 (.tmp 17) rfl h (a * 10) rfl (ecl (lk T.l v m)) _ (fun W hW => hW.1.pl.ent ga.out) Tryz.underlying61 rfl Tryz.size61) hHeld ?_
    change wpAnyH _ _ _ _ _ _ _ ⟨#[.pointer (some ⟨h + 1, 0, none⟩), .int .i64 v, _, _, _, .pointer (some ⟨k0, 0, none⟩), .pointer (some ⟨k1, 0, none⟩), .bool false, _, .pointer (some ⟨h + 1, 0, none⟩), .pointer (some ⟨h + 1, 0, none⟩), .pointer (some ⟨h + 1, 0, none⟩), .slice (some ⟨h, 0, none⟩) (2 * T.n) (2 * T.n), .pointer (some ⟨h + 1, 0, none⟩), .int .i64 v, .agg (MC m), .int .i64 (a : Int), .pointer (some ⟨h, a * 10, none⟩), .agg (EC (lk T.l v m)), _, _, _, _], []⟩ _
    refine wpAnyH_ready (rs := [10]) (by kernel_rfl) (by simp) ?_
    refine AllReadyH.cons rfl (fun K hK => ?_) AllReadyH.nil
    go_simp
    have HE : Hid (Box (World.alloc u2 (.cells (EC zE) 61)) (World.heap u2).size (ecl zE)) := hide (box_e u2 zE)
    have hn : Hid ((World.heap u2).size ≠ h ∧ (World.heap u2).size ≠ h + 1 ∧ (World.heap u2).size ≠ k0 ∧ (World.heap u2).size ≠ k1 ∧ k0 ≤ (World.heap u2).size) := hide (by have := hHeld.1.lt; have := hHeld.2.1.lt; have := hHeld.2.2.lt; omega)
    replace B := hide (below_more B.out (below_alloc u2 (.cells (EC zE) 61)) (by have := B.out.size; have := HKK.out; omega))
    refine hK.out _ _ ⟨hHeld.1.alloc _, hHeld.2.1.alloc _, hHeld.2.2.alloc _⟩ (fun hHeld => ?_)
    clear hK K
    generalize (World.heap u2).size = kx at *
    generalize World.alloc u2 (.cells (EC zE) 61) = u1 at *
    change wpAnyH _ _ _ _ _ _ _ ⟨#[.pointer (some ⟨h + 1, 0, none⟩), .int .i64 v, _, _, _, .pointer (some ⟨k0, 0, none⟩), .pointer (some ⟨k1, 0, none⟩), .bool false, .pointer (some ⟨kx, 0, none⟩), .pointer (some ⟨h + 1, 0, none⟩), .pointer (some ⟨h + 1, 0, none⟩), .pointer (some ⟨h + 1, 0, none⟩), .slice (some ⟨h, 0, none⟩) (2 * T.n) (2 * T.n), .pointer (some ⟨h + 1, 0, none⟩), .int .i64 v, .agg (MC m), .int .i64 (a : Int), .pointer (some ⟨h, a * 10, none⟩), .agg (EC (lk T.l v m)), _, _, _, _], []⟩ _
    refine wpAnyH_ready (rs := [11]) (by kernel_rfl) (by simp) ?_
    refine AllReadyH.cons rfl (fun K hK => ?_) AllReadyH.nil
    rw [if_pos (by rfl)]
    refine wp_store_mid 61 (.tmp 8) (.tmp 18) rfl kx 0 (EC (lk T.l v m)) rfl rfl HE.out.th Tryz.size61 (one_EC _) ?_
    have Y3 := HE.out.self (cs' := ecl (lk T.l v m)) rfl
    have G3 := setCells_grown kx (ecl (lk T.l v m)) 0 u1
    have hHeld3 : PF (World.setCells u1 kx 0 (ecl (lk T.l v m))) h ps T ∧ Box (World.setCells u1 kx 0 (ecl (lk T.l v m))) k0 (mcl m) ∧ Box (World.setCells u1 kx 0 (ecl (lk T.l v m))) k1 (ecl zE) := ⟨hHeld.1.keep (fun q h1 h2 => G3.block q (by have := hHeld.1.lt; omega) (fun e => by have := Option.some.inj e; have := hn.out; omega)), hHeld.2.1.kept (by have := hn.out; omega) G3, hHeld.2.2.kept (by have := hn.out; omega) G3⟩
    refine hK.out _ _ hHeld3 (fun hHeld => ?_)
    clear hK K hHeld hHeld3
    replace B := hide (below_grown B.out G3 (by have := hn.out; omega) (by have := B.out.size; have := HKK.out; omega))
    have PP := hide (hHeld.1.keep (fun q h1 h2 => G3.block q (by have := hHeld.1.lt; omega) (fun e => by have := Option.some.inj e; have := hn.out; omega)))
    have ZZ := hide (hHeld.2.2.kept (show k1 ≠ kx by have := hn.out; omega) G3)
    clear hHeld
    obtain ⟨w4, hw4⟩ : ∃ w4, w4 = World.setCells u1 kx 0 (ecl (lk T.l v m)) := ⟨_, rfl⟩
    rw [← hw4] at Y3 B PP ZZ
    have e4 : World.setCells u1 kx 0 (EC (lk T.l v m)).toList = w4 := by rw [hw4]; rfl
    rw [e4]
    have HY := hide Y3
    clear e4 hw4 Y3 G3 HE
    change wpAnyH _ _ _ _ _ _ _ ⟨#[.pointer (some ⟨h + 1, 0, none⟩), .int .i64 v, _, _, _, .pointer (some ⟨k0, 0, none⟩), .pointer (some ⟨k1, 0, none⟩), .bool false, .pointer (some ⟨kx, 0, none⟩), .pointer (some ⟨h + 1, 0, none⟩), .pointer (some ⟨h + 1, 0, none⟩), .pointer (some ⟨h + 1, 0, none⟩), .slice (some ⟨h, 0, none⟩) (2 * T.n) (2 * T.n), .pointer (some ⟨h + 1, 0, none⟩), .int .i64 v, .agg (MC m), .int .i64 (a : Int), .pointer (some ⟨h, a * 10, none⟩), .agg (EC (lk T.l v m)), _, _, _, _], []⟩ _
    refine wpAnyH_done (by kernel_rfl) ?_ _
    go_wp2_with fail
    refine wp_region_held_drew (S := fun w' => Box w' kx (ecl (lk T.l v m)) ∧ ∃ z, Box w' k1 (ecl z)) (by kernel_rfl) ⟨HY.out.drew, _, ZZ.out.drew⟩ (fun hHeld => ?_)
    replace B := hide (belowOn' B.out)
    clear HY ZZ PP
    generalize World.drew _ = u5 at *
    refine wpAnyH_take (i := 0) (v := .agg (EC (lk T.l v m))) rfl (by kernel_rfl) (by kernel_rfl) (by kernel_rfl) (fun _ _ _ h => h) (yieldsIf_load_mid (by rfl) 61 (.tmp 8) rfl kx 0 rfl (ecl (lk T.l v m)) _ (fun W hW => hW.1.at_) Tryz.underlying61 rfl Tryz.size61) hHeld ?_
    change wpAnyH _ _ _ _ _ _ _ ⟨#[_, _, _, _, _, _, .pointer (some ⟨k1, 0, none⟩), _, .pointer (some ⟨kx, 0, none⟩), _, _, _, _, _, _, _, _, _, _, .agg (EC (lk T.l v m)), _, _, _], []⟩ _
    refine wpAnyH_take (i := 1) (v := .agg (EC (lk T.l v m))) rfl (by kernel_rfl) (by kernel_rfl) (by kernel_rfl) (fun _ _ _ h => h) (yieldsIf_load_mid (by rfl) 61 (.tmp 8) rfl kx 0 rfl (ecl (lk T.l v m)) _ (fun W hW => hW.1.at_) Tryz.underlying61 rfl Tryz.size61) hHeld ?_
    change wpAnyH _ _ _ _ _ _ _ ⟨#[_, _, _, _, _, _, .pointer (some ⟨k1, 0, none⟩), _, .pointer (some ⟨kx, 0, none⟩), _, _, _, _, _, _, _, _, _, _, .agg (EC (lk T.l v m)), .agg (EC (lk T.l v m)), _, _], []⟩ _
    refine wpAnyH_ready (rs := [2]) (by kernel_rfl) (by simp) ?_
    refine AllReadyH.cons rfl (fun K hK => ?_) AllReadyH.nil
    go_simp
    refine (free27 (lk T.l v m) _).mono ?_
    rintro e u6 ⟨rfl, hb⟩
    replace B := hide (below_more B.out hb (by have := B.out.size; have := HKK.out; omega))
    obtain ⟨hx1, z, hx2⟩ := hHeld
    refine hK.out _ _ ⟨hx1.on hb, _, hx2.on hb⟩ (fun hHeld => ?_)
    have HZ := hide (hx2.on hb)
    have HE7 := hide (hx1.on hb)
    clear hK K hb hx1 hx2
    change wpAnyH _ _ _ _ _ _ _ ⟨#[_, _, _, _, _, _, .pointer (some ⟨k1, 0, none⟩), _, .pointer (some ⟨kx, 0, none⟩), _, _, _, _, _, _, _, _, _, _, .agg (EC (lk T.l v m)), .agg (EC (lk T.l v m)), .bool (fre (lk T.l v m)), _], []⟩ _
    refine wpAnyH_take (i := 3) (v := .bool (!fre (lk T.l v m))) rfl (by kernel_rfl) (by kernel_rfl) (by kernel_rfl) (fun _ _ _ h => h) (Or.inl ⟨by rfl, ?_⟩) hHeld ?_
    · intro W hW; (try dsimp only at hW); go_simp
    change wpAnyH _ _ _ _ _ _ _ ⟨#[_, _, _, _, _, _, .pointer (some ⟨k1, 0, none⟩), _, .pointer (some ⟨kx, 0, none⟩), _, _, _, _, _, _, _, _, _, _, .agg (EC (lk T.l v m)), .agg (EC (lk T.l v m)), .bool (fre (lk T.l v m)), .bool (!fre (lk T.l v m))], []⟩ _
    refine wpAnyH_ready (rs := [4]) (by kernel_rfl) (by simp) ?_
    refine AllReadyH.cons rfl (fun K hK => ?_) AllReadyH.nil
    rw [if_pos (by rfl)]
    refine wp_store_mid 61 (.tmp 6) (.tmp 19) rfl k1 0 (EC (lk T.l v m)) rfl rfl HZ.out.th Tryz.size61 (one_EC _) ?_
    have Y3 := HZ.out.self (cs' := ecl (lk T.l v m)) rfl
    have G3 := setCells_grown k1 (ecl (lk T.l v m)) 0 u6
    have Y4 := HE7.out.kept (show kx ≠ k1 by have := hn.out; omega) G3
    refine hK.out _ _ ⟨Y4, _, Y3⟩ (fun hHeld => ?_)
    replace B := hide (below_grown B.out G3 (by have := hk2.out; omega) (by have := B.out.size; have := HKK.out; omega))
    have HE8 := hide Y4
    clear hK K hHeld Y4
    obtain ⟨w7, hw7⟩ : ∃ w7, w7 = World.setCells u6 k1 0 (ecl (lk T.l v m)) := ⟨_, rfl⟩
    rw [← hw7] at Y3 B HE8
    have e7 : World.setCells u6 k1 0 (EC (lk T.l v m)).toList = w7 := by rw [hw7]; rfl
    rw [e7]
    have HY7 := hide Y3
    clear e7 hw7 Y3 G3
    have hHeld : Box w7 kx (ecl (lk T.l v m)) ∧ ∃ z, Box w7 k1 (ecl z) := ⟨HE8.out, _, HY7.out⟩
    change wpAnyH _ _ _ _ _ _ _ ⟨#[_, _, _, _, _, _, .pointer (some ⟨k1, 0, none⟩), _, .pointer (some ⟨kx, 0, none⟩), _, _, _, _, _, _, _, _, _, _, .agg (EC (lk T.l v m)), .agg (EC (lk T.l v m)), .bool (fre (lk T.l v m)), .bool (!fre (lk T.l v m))], []⟩ _
    refine wpAnyH_take (i := 5) (v := .bool (!fre (lk T.l v m))) rfl (by kernel_rfl) (by kernel_rfl) (by kernel_rfl) (fun _ _ _ h => h) (Or.inl ⟨by rfl, ?_⟩) hHeld ?_
    · intro W hW; (try dsimp only at hW); go_simp
    change wpAnyH _ _ _ _ _ _ _ ⟨#[_, _, _, _, _, _, .pointer (some ⟨k1, 0, none⟩), .bool (!fre (lk T.l v m)), .pointer (some ⟨kx, 0, none⟩), _, _, _, _, _, _, _, _, _, _, .agg (EC (lk T.l v m)), .agg (EC (lk T.l v m)), .bool (fre (lk T.l v m)), .bool (!fre (lk T.l v m))], []⟩ _
    refine wpAnyH_done (by kernel_rfl) ?_ _
    go_wp2
    exact bodyPost_ret (res_ent_tmp rfl rfl HY7.out) rfl ⟨rfl, by have e := HKK.out; first | exact B.out | (rw [e]; exact B.out)⟩
  · skip
    go_simp
    have HE : Hid (Box (World.alloc u0 (.cells (EC zE) 61)) (World.heap u0).size (ecl zE)) := hide (box_e u0 zE)
    have hn : Hid ((World.heap u0).size ≠ h ∧ (World.heap u0).size ≠ h + 1 ∧ (World.heap u0).size ≠ k0 ∧ (World.heap u0).size ≠ k1 ∧ k0 ≤ (World.heap u0).size) := hide (by have := hHeld.1.lt; have := hHeld.2.1.lt; have := hHeld.2.2.lt; omega)
    replace B := hide (below_more B.out (below_alloc u0 (.cells (EC zE) 61)) (by have := B.out.size; have := HKK.out; omega))
    refine hK.out _ _ ⟨hHeld.1.alloc _, hHeld.2.1.alloc _, hHeld.2.2.alloc _⟩ (fun hHeld => ?_)
    clear hK K
    generalize (World.heap u0).size = kx at *
    generalize World.alloc u0 (.cells (EC zE) 61) = u1 at *
    change wpAnyH _ _ _ _ _ _ _ ⟨#[.pointer (some ⟨h + 1, 0, none⟩), .int .i64 v, _, _, _, .pointer (some ⟨k0, 0, none⟩), .pointer (some ⟨k1, 0, none⟩), .bool false, .pointer (some ⟨kx, 0, none⟩), .pointer (some ⟨h + 1, 0, none⟩), .pointer (some ⟨h + 1, 0, none⟩), .pointer (some ⟨h + 1, 0, none⟩), .slice (some ⟨h, 0, none⟩) (2 * T.n) (2 * T.n), .pointer (some ⟨h + 1, 0, none⟩), .int .i64 v, .agg (MC m), _, _, _, _, _, _, _], []⟩ _
    refine wpAnyH_ready (rs := [7]) (by kernel_rfl) (by simp) ?_
    refine AllReadyH.cons rfl (fun K hK => ?_) AllReadyH.nil
    go_simp
    refine (place26 h ps T v m _ HM.out hHeld.1).mono ?_
    rintro e u2 ⟨a, rfl, Q, hb⟩
    have ga := hide (Q.lk hHeld.1.rp hHeld.1.wf HM.out (fs_lt _ _ _ n1 n2) (fun y hy => by rw [(ky_iff _ _ _).1 hy |>.1.symm, ((ky_iff _ _ _).1 hy).2.symm]; rfl))
    have ha0 : (a : Int) < 2 * (T.n : Int) := by have := Q.lt; omega
    replace B := hide (below_more B.out hb (by have := B.out.size; have := HKK.out; omega))
    refine hK.out _ _ ⟨hHeld.1.on hb, hHeld.2.1.on hb, hHeld.2.2.on hb⟩ (fun hHeld => ?_)
    clear hK K Q
    change wpAnyH _ _ _ _ _ _ _ ⟨#[.pointer (some ⟨h + 1, 0, none⟩), .int .i64 v, _, _, _, .pointer (some ⟨k0, 0, none⟩), .pointer (some ⟨k1, 0, none⟩), .bool false, .pointer (some ⟨kx, 0, none⟩), .pointer (some ⟨h + 1, 0, none⟩), .pointer (some ⟨h + 1, 0, none⟩), .pointer (some ⟨h + 1, 0, none⟩), .slice (some ⟨h, 0, none⟩) (2 * T.n) (2 * T.n), .pointer (some ⟨h + 1, 0, none⟩), .int .i64 v, .agg (MC m), .int .i64 (a : Int), _, _, _, _, _, _], []⟩ _
    refine wpAnyH_take (i := 8) (v := .pointer (some ⟨h, a * 10, none⟩)) rfl (by kernel_rfl) (by kernel_rfl) (by kernel_rfl) (fun _ _ _ h => h) (Or.inl ⟨by rfl, ?_⟩) hHeld ?_
    · intro W hW; (try dsimp only at hW); go_simp
    change wpAnyH _ _ _ _ _ _ _ ⟨#[.pointer (some ⟨h + 1, 0, none⟩), .int .i64 v, _, _, _, .pointer (some ⟨k0, 0, none⟩), .pointer (some ⟨k1, 0, none⟩), .bool false, .pointer (some ⟨kx, 0, none⟩), .pointer (some ⟨h + 1, 0, none⟩), .pointer (some ⟨h + 1, 0, none⟩), .pointer (some ⟨h + 1, 0, none⟩), .slice (some ⟨h, 0, none⟩) (2 * T.n) (2 * T.n), .pointer (some ⟨h + 1, 0, none⟩), .int .i64 v, .agg (MC m), .int .i64 (a : Int), .pointer (some ⟨h, a * 10, none⟩), _, _, _, _, _], []⟩ _
    refine wpAnyH_take (i := 9) (v := .agg (EC (lk T.l v m))) rfl (by kernel_rfl) (by kernel_rfl) (by kernel_rfl) (fun _ _ _ h => h) (yieldsIf_load_mid (by rfl) 61 (.tmp 17) rfl h (a * 10) rfl (ecl (lk T.l v m)) _ (fun W hW => hW.1.pl.ent ga.out) Tryz.underlying61 rfl Tryz.size61) hHeld ?_
    change wpAnyH _ _ _ _ _ _ _ ⟨#[.pointer (some ⟨h + 1, 0, none⟩), .int .i64 v, _, _, _, .pointer (some ⟨k0, 0, none⟩), .pointer (some ⟨k1, 0, none⟩), .bool false, .pointer (some ⟨kx, 0, none⟩), .pointer (some ⟨h + 1, 0, none⟩), .pointer (some ⟨h + 1, 0, none⟩), .pointer (some ⟨h + 1, 0, none⟩), .slice (some ⟨h, 0, none⟩) (2 * T.n) (2 * T.n), .pointer (some ⟨h + 1, 0, none⟩), .int .i64 v, .agg (MC m), .int .i64 (a : Int), .pointer (some ⟨h, a * 10, none⟩), .agg (EC (lk T.l v m)), _, _, _, _], []⟩ _
    have HE2 := hide (HE.out.on hb)
    clear HE
    rename Hid (Box u2 kx (ecl zE)) => HE
    refine wpAnyH_ready (rs := [11]) (by kernel_rfl) (by simp) ?_
    refine AllReadyH.cons rfl (fun K hK => ?_) AllReadyH.nil
    rw [if_pos (by rfl)]
    refine wp_store_mid 61 (.tmp 8) (.tmp 18) rfl kx 0 (EC (lk T.l v m)) rfl rfl HE.out.th Tryz.size61 (one_EC _) ?_
    have Y3 := HE.out.self (cs' := ecl (lk T.l v m)) rfl
    have G3 := setCells_grown kx (ecl (lk T.l v m)) 0 u2
    have hHeld3 : PF (World.setCells u2 kx 0 (ecl (lk T.l v m))) h ps T ∧ Box (World.setCells u2 kx 0 (ecl (lk T.l v m))) k0 (mcl m) ∧ Box (World.setCells u2 kx 0 (ecl (lk T.l v m))) k1 (ecl zE) := ⟨hHeld.1.keep (fun q h1 h2 => G3.block q (by have := hHeld.1.lt; omega) (fun e => by have := Option.some.inj e; have := hn.out; omega)), hHeld.2.1.kept (by have := hn.out; omega) G3, hHeld.2.2.kept (by have := hn.out; omega) G3⟩
    refine hK.out _ _ hHeld3 (fun hHeld => ?_)
    clear hK K hHeld hHeld3
    replace B := hide (below_grown B.out G3 (by have := hn.out; omega) (by have := B.out.size; have := HKK.out; omega))
    have PP := hide (hHeld.1.keep (fun q h1 h2 => G3.block q (by have := hHeld.1.lt; omega) (fun e => by have := Option.some.inj e; have := hn.out; omega)))
    have ZZ := hide (hHeld.2.2.kept (show k1 ≠ kx by have := hn.out; omega) G3)
    clear hHeld
    obtain ⟨w4, hw4⟩ : ∃ w4, w4 = World.setCells u2 kx 0 (ecl (lk T.l v m)) := ⟨_, rfl⟩
    rw [← hw4] at Y3 B PP ZZ
    have e4 : World.setCells u2 kx 0 (EC (lk T.l v m)).toList = w4 := by rw [hw4]; rfl
    rw [e4]
    have HY := hide Y3
    clear e4 hw4 Y3 G3 HE
    change wpAnyH _ _ _ _ _ _ _ ⟨#[.pointer (some ⟨h + 1, 0, none⟩), .int .i64 v, _, _, _, .pointer (some ⟨k0, 0, none⟩), .pointer (some ⟨k1, 0, none⟩), .bool false, .pointer (some ⟨kx, 0, none⟩), .pointer (some ⟨h + 1, 0, none⟩), .pointer (some ⟨h + 1, 0, none⟩), .pointer (some ⟨h + 1, 0, none⟩), .slice (some ⟨h, 0, none⟩) (2 * T.n) (2 * T.n), .pointer (some ⟨h + 1, 0, none⟩), .int .i64 v, .agg (MC m), .int .i64 (a : Int), .pointer (some ⟨h, a * 10, none⟩), .agg (EC (lk T.l v m)), _, _, _, _], []⟩ _
    refine wpAnyH_done (by kernel_rfl) ?_ _
    go_wp2_with fail
    refine wp_region_held_drew (S := fun w' => Box w' kx (ecl (lk T.l v m)) ∧ ∃ z, Box w' k1 (ecl z)) (by kernel_rfl) ⟨HY.out.drew, _, ZZ.out.drew⟩ (fun hHeld => ?_)
    replace B := hide (belowOn' B.out)
    clear HY ZZ PP
    generalize World.drew _ = u5 at *
    refine wpAnyH_take (i := 0) (v := .agg (EC (lk T.l v m))) rfl (by kernel_rfl) (by kernel_rfl) (by kernel_rfl) (fun _ _ _ h => h) (yieldsIf_load_mid (by rfl) 61 (.tmp 8) rfl kx 0 rfl (ecl (lk T.l v m)) _ (fun W hW => hW.1.at_) Tryz.underlying61 rfl Tryz.size61) hHeld ?_
    change wpAnyH _ _ _ _ _ _ _ ⟨#[_, _, _, _, _, _, .pointer (some ⟨k1, 0, none⟩), _, .pointer (some ⟨kx, 0, none⟩), _, _, _, _, _, _, _, _, _, _, .agg (EC (lk T.l v m)), _, _, _], []⟩ _
    refine wpAnyH_take (i := 1) (v := .agg (EC (lk T.l v m))) rfl (by kernel_rfl) (by kernel_rfl) (by kernel_rfl) (fun _ _ _ h => h) (yieldsIf_load_mid (by rfl) 61 (.tmp 8) rfl kx 0 rfl (ecl (lk T.l v m)) _ (fun W hW => hW.1.at_) Tryz.underlying61 rfl Tryz.size61) hHeld ?_
    change wpAnyH _ _ _ _ _ _ _ ⟨#[_, _, _, _, _, _, .pointer (some ⟨k1, 0, none⟩), _, .pointer (some ⟨kx, 0, none⟩), _, _, _, _, _, _, _, _, _, _, .agg (EC (lk T.l v m)), .agg (EC (lk T.l v m)), _, _], []⟩ _
    refine wpAnyH_ready (rs := [2]) (by kernel_rfl) (by simp) ?_
    refine AllReadyH.cons rfl (fun K hK => ?_) AllReadyH.nil
    go_simp
    refine (free27 (lk T.l v m) _).mono ?_
    rintro e u6 ⟨rfl, hb⟩
    replace B := hide (below_more B.out hb (by have := B.out.size; have := HKK.out; omega))
    obtain ⟨hx1, z, hx2⟩ := hHeld
    refine hK.out _ _ ⟨hx1.on hb, _, hx2.on hb⟩ (fun hHeld => ?_)
    have HZ := hide (hx2.on hb)
    have HE7 := hide (hx1.on hb)
    clear hK K hb hx1 hx2
    change wpAnyH _ _ _ _ _ _ _ ⟨#[_, _, _, _, _, _, .pointer (some ⟨k1, 0, none⟩), _, .pointer (some ⟨kx, 0, none⟩), _, _, _, _, _, _, _, _, _, _, .agg (EC (lk T.l v m)), .agg (EC (lk T.l v m)), .bool (fre (lk T.l v m)), _], []⟩ _
    refine wpAnyH_take (i := 3) (v := .bool (!fre (lk T.l v m))) rfl (by kernel_rfl) (by kernel_rfl) (by kernel_rfl) (fun _ _ _ h => h) (Or.inl ⟨by rfl, ?_⟩) hHeld ?_
    · intro W hW; (try dsimp only at hW); go_simp
    change wpAnyH _ _ _ _ _ _ _ ⟨#[_, _, _, _, _, _, .pointer (some ⟨k1, 0, none⟩), _, .pointer (some ⟨kx, 0, none⟩), _, _, _, _, _, _, _, _, _, _, .agg (EC (lk T.l v m)), .agg (EC (lk T.l v m)), .bool (fre (lk T.l v m)), .bool (!fre (lk T.l v m))], []⟩ _
    refine wpAnyH_ready (rs := [4]) (by kernel_rfl) (by simp) ?_
    refine AllReadyH.cons rfl (fun K hK => ?_) AllReadyH.nil
    rw [if_pos (by rfl)]
    refine wp_store_mid 61 (.tmp 6) (.tmp 19) rfl k1 0 (EC (lk T.l v m)) rfl rfl HZ.out.th Tryz.size61 (one_EC _) ?_
    have Y3 := HZ.out.self (cs' := ecl (lk T.l v m)) rfl
    have G3 := setCells_grown k1 (ecl (lk T.l v m)) 0 u6
    have Y4 := HE7.out.kept (show kx ≠ k1 by have := hn.out; omega) G3
    refine hK.out _ _ ⟨Y4, _, Y3⟩ (fun hHeld => ?_)
    replace B := hide (below_grown B.out G3 (by have := hk2.out; omega) (by have := B.out.size; have := HKK.out; omega))
    have HE8 := hide Y4
    clear hK K hHeld Y4
    obtain ⟨w7, hw7⟩ : ∃ w7, w7 = World.setCells u6 k1 0 (ecl (lk T.l v m)) := ⟨_, rfl⟩
    rw [← hw7] at Y3 B HE8
    have e7 : World.setCells u6 k1 0 (EC (lk T.l v m)).toList = w7 := by rw [hw7]; rfl
    rw [e7]
    have HY7 := hide Y3
    clear e7 hw7 Y3 G3
    have hHeld : Box w7 kx (ecl (lk T.l v m)) ∧ ∃ z, Box w7 k1 (ecl z) := ⟨HE8.out, _, HY7.out⟩
    change wpAnyH _ _ _ _ _ _ _ ⟨#[_, _, _, _, _, _, .pointer (some ⟨k1, 0, none⟩), _, .pointer (some ⟨kx, 0, none⟩), _, _, _, _, _, _, _, _, _, _, .agg (EC (lk T.l v m)), .agg (EC (lk T.l v m)), .bool (fre (lk T.l v m)), .bool (!fre (lk T.l v m))], []⟩ _
    refine wpAnyH_take (i := 5) (v := .bool (!fre (lk T.l v m))) rfl (by kernel_rfl) (by kernel_rfl) (by kernel_rfl) (fun _ _ _ h => h) (Or.inl ⟨by rfl, ?_⟩) hHeld ?_
    · intro W hW; (try dsimp only at hW); go_simp
    change wpAnyH _ _ _ _ _ _ _ ⟨#[_, _, _, _, _, _, .pointer (some ⟨k1, 0, none⟩), .bool (!fre (lk T.l v m)), .pointer (some ⟨kx, 0, none⟩), _, _, _, _, _, _, _, _, _, _, .agg (EC (lk T.l v m)), .agg (EC (lk T.l v m)), .bool (fre (lk T.l v m)), .bool (!fre (lk T.l v m))], []⟩ _
    refine wpAnyH_done (by kernel_rfl) ?_ _
    go_wp2
    exact bodyPost_ret (res_ent_tmp rfl rfl HY7.out) rfl ⟨rfl, by have e := HKK.out; first | exact B.out | (rw [e]; exact B.out)⟩
end Go.Proofs.YtgpdjfaklcmoiaaGreat
