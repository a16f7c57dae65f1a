/- TopSync: for all steps and every moment the law answers true, and the steps read behind the call as they read before. No condition. -/
import Derived.Test.YtjlmheecefobaaaOp
import Derived.Test.YtjlmheecefobaaaAw
import Derived.Test.YtjlmheecefobaaaM5
import Derived.Test.YtjlmheecefobaaaS2
import Derived.Test.YtjlmheecefobaaaTp
import Derived.Deep.DeepCutAuto
import Derived.Deep.CutBlock
import Derived.Deep.LoopGhost
namespace Go.Proofs.Ytjlmheecefobaaa
open Go.ChangeShapes Go.WideShapes Go.ChangeAt Go.RowKit Go.PlainAid

section
attribute [local go_sem] ZSt ZE SC0 SC1 SC8 SC9 SC10
set_option maxRecDepth 100000 in
set_option maxHeartbeats 8000000 in
theorem topSyncWalk (ao : Option Addr) (n c : Nat) (ss : List St) (z : Int) (w : World) (hs : Sl scl 11 w w.heap.size ao n c ss) (hm : ∀ s ∈ ss, Mok s.m) (_ : I64 z) :
    Calls Try.prog 9 #[.slice ao n c, .int .i64 z] w fun e w' => e = .returned (.bool true) ∧ Below w.heap.size w w' := by
  have HSL : Hid (ss.length = n) := hide hs.len
  have hsc := hs.le
  have hsm := hs.mx
  unfold maxLen at hsm
  obtain ⟨G, hG⟩ : ∃ G, G = w.heap.size := ⟨_, rfl⟩
  have HS0 := hide hs
  have HM := hide hm
  have HGG := hide hG
  rw [← hG] at HS0 ⊢
  clear hG hs hm
  go_enter Try.func9, Try.ntmps9
  go_wp2_with fail
  refine (new24 8 _ (by omega) (by omega)).mono ?_
  rintro e w1 ⟨h, ps0, rfl, P1, hh, B1⟩
  rw [← HGG.out] at B1 hh
  have HGH := hide hh
  have HP := hide P1
  have HB := hide B1
  have HS := hide (HS0.out.below B1)
  clear P1 B1 HS0 hh
  go_wp2_with fail
  refine (new11 200 _ (by omega) (by omega)).mono ?_
  rintro e w2 ⟨rfl, J2, B2⟩
  obtain ⟨g, hg⟩ : ∃ g, g = w1.heap.size := ⟨_, rfl⟩
  rw [← hg] at J2 B2 ⊢
  have HHG : Hid (h + 2 ≤ g) := hide (by rw [hg]; exact HP.out.lt)
  have HR : Hid (Rst w w2 G h g ao n c ss ps0 (tNew 8) (List.replicate 200 zC) [] [] none 0) := hide
    ⟨HP.out.below B2 HHG.out, J2, ets_nil _ _, HB.out.trans (B2.mono (by have := HGH.out; have := HHG.out; omega)), HS.out.below (B2.mono (by have := HGH.out; have := HHG.out; omega)), HGH.out, HHG.out⟩
  clear J2 B2 hg HP HB HS
  go_wp2
  go_loopg [9, 10, 11, 12, 13, 14, 15, 16, 17, 18, 19, 20] 100 (fun r v9 v10 i _ _ _ _ _ _ _ _ _ wr => ∃ (k : Nat) (ps : List En) (T : Tb) (pl cs : List Ch) (B : List En) (aoB : Option Addr) (cB q : Nat), k ≤ n ∧ k ≤ 100 ∧ r = 100 - k ∧ v9 = .slice aoB B.length cB ∧ v10 = .int .i64 q ∧ i = .int .i64 k ∧ Rst w wr G h g ao n c ss ps T pl cs B aoB cB ∧ Told B q cs T ∧ cs.length ≤ 9 * k)
  case atStart => exact ⟨0, _, _, _, _, [], none, 0, 0, Nat.zero_le _, Nat.zero_le _, rfl, rfl, rfl, rfl, HR.out, told_nil, Nat.zero_le _⟩
  case round =>
    obtain ⟨k, ps, T, pl, cs, B, aoB, cB, q, hk, hk3, hr, rfl, rfl, rfl, hR, hU, hL⟩ := hrel
    clear HR
    have HR := hide hR
    have HU := hide hU
    have HL := hide hL
    have HGK := hide hr
    clear hR hU hL hr
    by_cases hcont : k < n ∧ k < 100
    · obtain ⟨hkn, hk300⟩ := hcont
      obtain ⟨p, hp⟩ : ∃ p, ss[k]? = some p := ⟨_, List.getElem?_eq_getElem (by rw [HSL.out]; exact hkn)⟩
      obtain ⟨b0, o0, rfl, hbG, hA⟩ := HR.out.S.cell k p hp
      have HPM : Hid (Mok p.m) := hide (HM.out p (List.mem_of_getElem? hp))
      have hk2 : (k : Int) < (n : Int) := by omega
      have hk4 : (k : Int) < 100 := by omega
      have e1 : IntKind.i64.wrap ((k : Int) + 1) = (k : Int) + 1 := IntWalk.i64_in _ (by omega)
      have HBG := hide hbG
      have HP0 := hide hp
      clear hbG hA hp
      go_upto_if 57 with fail
      go_cut [9, 10] (fun v9 v10 wx => ∃ (B : List En) (aoB : Option Addr) (cB q : Nat), v9 = .slice aoB B.length cB ∧ v10 = .int .i64 q ∧ Rst w wx G h g (some ⟨b0, o0, none⟩) n c ss ps T pl cs B aoB cB ∧ Told B q cs T)
      case first =>
        rcases Bool.eq_false_or_eq_true ((k : Int) == z) with hb | hb
        · go_wp2_with fail
          refine (all25 h ps T _ HR.out.P).mono ?_
          rintro e w3 ⟨ao3, c3, rfl, E3, B3⟩
          have HR3 : Hid (Rst w w3 G h g (some ⟨b0, o0, none⟩) n c ss ps T pl cs T.l ao3 c3) := hide ((HR.out.on B3).upon (E3.mono HR.out.sz.2.2))
          clear E3 B3
          go_wp2_with fail
          refine (last15 g 200 cs.length _ HR3.out.J.bx).mono ?_
          rintro e w4 ⟨rfl, rfl⟩
          go_wp2
          go_meet
          case rel => exact ⟨T.l, ao3, c3, cs.length, rfl, rfl, HR3.out, told_begin HU.out HR3.out.P.wf⟩
        · go_wp2_with fail
          go_meet
          case rel => exact ⟨B, aoB, cB, q, rfl, rfl, HR.out, HU.out⟩
      case rest =>
      obtain ⟨B1, aoB1, cB1, q1, rfl, rfl, hR, hU⟩ := hcut
      clear HR HU
      have HR := hide hR
      have HU := hide hU
      clear hR hU
      obtain ⟨b9, o9, e9, -, A0⟩ := HR.out.S.cell k p HP0.out
      obtain ⟨rfl, rfl⟩ : b9 = b0 ∧ o9 = o0 := by simpa using e9.symm
      clear e9
      have tk1 : True := trivial
      have tk2 : True := trivial
      go_wp2_with (first | (have _t := tk1; refine wpl_stp (.tmp 64) rfl A0 ?_ ?_ ?_; rfl; rfl; clear tk1) | (have _t := tk2; refine wpl_putS p zSt (.tmp 12) (.tmp 65) rfl (box_s _ zSt) ?_ rfl rfl ?_; rfl; clear tk2))
      intro wa X0 g0
      have C0 := stored g0
      have HKS : Hid (g + 2 ≤ wc.heap.size) := hide HR.out.sz.2.2
      replace HR := hide (HR.out.on C0)
      obtain ⟨ks, hks⟩ : ∃ ks, ks = wc.heap.size := ⟨_, rfl⟩
      rw [← hks] at X0 HKS ⊢
      clear C0 g0 hks A0 HP0
      have HX := hide X0
      have c0 := X0.cell 0 _ rfl
      clear X0
      clear HBG
      go_upto_block 2 with fail
      clear c0
      have HKX : Hid (h + 2 ≤ ks) := hide (by have := HKS.out; have := HHG.out; omega)
      go_cut [13] (fun v13 wx => ∃ (ps' : List En) (T0 T1 : Tb) (pl1 cs1 : List Ch) (gl : List En) (aoG : Option Addr) (cG : Nat), v13 = .slice aoG gl.length cG ∧ Rst w wx G h g (some ⟨b9, o9, none⟩) n c ss ps' T1 pl1 cs1 B1 aoB1 cB1 ∧ Ets wx (g + 2) aoG gl.length cG gl ∧ Told B1 q1 cs1 T0 ∧ Gone T0 T1 gl ∧ cs1.length ≤ 9 * k + 1)
      case first =>
        rcases Bool.eq_false_or_eq_true (p.d == 0) with d0 | d0
        · have A1 := stp_mac66 HX.out.at_
          have c1 := HX.out.cell 1 _ rfl
          have c8 := HX.out.cell 8 _ rfl
          have c9 := HX.out.cell 9 _ rfl
          have tk1 : True := trivial
          go_wp2_with (first | (have _t := tk1; refine wpl_mac (.tmp 80) rfl A1 ?_ ?_ ?_; rfl; rfl; clear tk1))
          refine (learn26 h ps T p.v p.m p.p p.t _ HPM.out HR.out.P).mono ?_
          rintro e w3 ⟨rfl, ⟨ps1, P3⟩, M3⟩
          replace HX := hide (HX.out.mid M3 HKX.out)
          have HW0 := hide HR.out.P.wf
          replace HR := hide (HR.out.tab M3 P3)
          clear P3 M3 A1 c1 c8 c9
          have A1 := stp_mac66 HX.out.at_
          have c1 := HX.out.cell 1 _ rfl
          have tk2 : True := trivial
          obtain ⟨E, hE⟩ : ∃ E, E = lE T p.v p.m p.p p.t := ⟨_, rfl⟩
          rw [← hE]
          obtain ⟨T1, hT1⟩ : ∃ T1, T1 = lT T p.v p.m p.p p.t := ⟨_, rfl⟩
          rw [← hT1] at HR
          have HE := hide hE
          have HT1 := hide hT1
          clear hE hT1
          go_wp2_with (first | (have _t := tk2; refine wpl_mac (.tmp 93) rfl A1 ?_ ?_ ?_; rfl; rfl; clear tk2))
          refine (look27 h ps1 T1 p.v p.m _ HPM.out HR.out.P).mono ?_
          rintro e w4 ⟨rfl, B4⟩
          replace HR := hide (HR.out.on B4)
          clear B4 A1 c1
          obtain ⟨x, hx⟩ : ∃ x, x = lk T1.l p.v p.m := ⟨_, rfl⟩
          obtain ⟨is, hi⟩ : ∃ is, is = hs T1.l p.v p.m := ⟨_, rfl⟩
          rw [← hx, ← hi]
          have HXX := hide hx
          have HI := hide hi
          clear hx hi
          have tk3 : True := trivial
          by_cases hE0 : E = 0
          · have e0 : (E == 0) = true := by rw [hE0]; rfl
            have HE0 := hide hE0
            clear hE0
            have i1 : is = true := by rw [HI.out, HT1.out]; exact (lrn_ok HW0.out HPM.out (by rw [← HE.out]; exact HE0.out)).2.1
            subst i1
            go_wp2_with (first | (have _t := tk3; refine wpl_putE x zE (.tmp 16) (.tmp 96) rfl (box_e _ zE) ?_ rfl rfl ?_; rfl; clear tk3))
            intro w5 X5 g5
            have C5 := stored g5
            replace HR := hide (HR.out.on C5)
            have A5 := X5.at_
            clear C5 g5 X5
            have tk4 : True := trivial
            go_wp2_with (first | (have _t := tk4; refine wpl_ent (.tmp 16) rfl A5 ?_ ?_ ?_; rfl; rfl; clear tk4))
            refine (put13q g 200 pl cs x false ((cs.length : Int) + 1) _ HR.out.J (by have := HL.out; omega) rfl).mono ?_
            rintro e w6 ⟨rfl, ⟨pl6, cs6, ecs, lcs, J6⟩, M6⟩
            replace HR := hide (HR.out.jou M6 J6)
            have HCS := hide ecs
            have HLC := hide lcs
            clear M6 J6 ecs lcs A5
            go_wp2
            go_meet
            case rel => exact ⟨ps1, T1, T1, pl6, cs6, [], none, 0, rfl, HR.out, ets_nil _ _, by
              rw [HCS.out, HXX.out, HT1.out]
              exact told_learn HU.out HW0.out (by rw [← HT1.out]; exact HR.out.P.wf) HPM.out (by rw [← HE.out]; exact HE0.out), gone_nil (by rw [HT1.out, lT_n]; exact HU.out.n8), by rw [HLC.out]; have := HL.out; omega⟩
          · have e0 : (E == 0) = false := by simp [hE0]
            have HE0 := hide hE0
            clear hE0
            have HTT : Hid (T1 = T) := hide (by rw [HT1.out]; exact (lrn_no (by rw [← HE.out]; exact HE0.out)).1)
            go_wp2_with (first | (have _t := tk3; refine wpl_putE x zE (.tmp 16) (.tmp 96) rfl (box_e _ zE) ?_ rfl rfl ?_; rfl; clear tk3))
            intro w5 X5 g5
            have C5 := stored g5
            replace HR := hide (HR.out.on C5)
            clear C5 g5 X5
            go_wp2
            go_meet
            case rel => exact ⟨ps1, T, T, pl, cs, [], none, 0, rfl, by have := HR.out; rw [HTT.out] at this; exact this, ets_nil _ _, HU.out, gone_nil HU.out.n8, by have := HL.out; omega⟩
        rcases Bool.eq_false_or_eq_true (p.d == 1) with d1 | d1
        · have A1 := stp_mac66 HX.out.at_
          have c1 := HX.out.cell 1 _ rfl
          have tk2 : True := trivial
          go_wp2_with (first | (have _t := tk2; refine wpl_mac (.tmp 112) rfl A1 ?_ ?_ ?_; rfl; rfl; clear tk2))
          refine (look27 h ps T p.v p.m _ HPM.out HR.out.P).mono ?_
          rintro e w4 ⟨rfl, B4⟩
          replace HR := hide (HR.out.on B4)
          replace HX := hide (HX.out.on B4)
          clear B4 A1 c1
          obtain ⟨x, hx⟩ : ∃ x, x = lk T.l p.v p.m := ⟨_, rfl⟩
          obtain ⟨is, hi⟩ : ∃ is, is = hs T.l p.v p.m := ⟨_, rfl⟩
          rw [← hx, ← hi]
          have HXX := hide hx
          have HI := hide hi
          clear hx hi
          have tk3 : True := trivial
          go_wp2_with (first | (have _t := tk3; refine wpl_putE x zE (.tmp 18) (.tmp 115) rfl (box_e _ zE) ?_ rfl rfl ?_; rfl; clear tk3))
          intro w5 X5 g5
          have C5 := stored g5
          have HKE : Hid (h + 2 ≤ w4.heap.size) := hide HR.out.sz.2.1
          replace HR := hide (HR.out.on C5)
          replace HX := hide (HX.out.on C5)
          have HX5 := hide X5
          obtain ⟨ke, hke⟩ : ∃ ke, ke = w4.heap.size := ⟨_, rfl⟩
          rw [← hke] at HX5 HKE ⊢
          clear C5 g5 X5 hke
          have A1 := stp_mac66 HX.out.at_
          have c1 := HX.out.cell 1 _ rfl
          have tk4 : True := trivial
          go_wp2_with (first | (have _t := tk4; refine wpl_mac (.tmp 120) rfl A1 ?_ ?_ ?_; rfl; rfl; clear tk4))
          refine (remove28 h ps T p.v p.m _ HPM.out HR.out.P).mono ?_
          rintro e w6 ⟨rfl, ⟨ps1, P6⟩, M6⟩
          have HW0 := hide HR.out.P.wf
          replace HX5 := hide (HX5.out.mid M6 HKE.out)
          replace HR := hide (HR.out.tab M6 P6)
          clear P6 M6 A1 c1
          rcases Bool.eq_false_or_eq_true is with i1 | i1
          · subst i1
            have A5 := HX5.out.at_
            have tk5 : True := trivial
            have tk6 : True := trivial
            go_wp2_with (first | (have _t := tk5; refine wpl_ent (.tmp 18) rfl A5 ?_ ?_ ?_; rfl; rfl; clear tk5) | (have _t := tk6; refine wpl_bs rfl (.tmp 124) x rfl rfl ?_; clear tk6))
            go_meet
            case rel => exact ⟨ps1, T, ⟨T.n, rm T.l p.v p.m⟩, pl, cs, [x], some ⟨w6.heap.size, 0, none⟩, 1, rfl, HR.out.on (below_alloc _ _), ets_one _ _ _ HR.out.sz.2.2, HU.out, by rw [HXX.out]; exact gone_one HW0.out HU.out.n8 HI.out.symm, by have := HL.out; omega⟩
          · subst i1
            go_wp2
            go_meet
            case rel => exact ⟨ps1, T, T, pl, cs, [], none, 0, rfl, by have := HR.out; rw [rm_none HI.out.symm] at this; exact this, ets_nil _ _, HU.out, gone_nil HU.out.n8, by have := HL.out; omega⟩
        rcases Bool.eq_false_or_eq_true (p.d == 2) with d2 | d2
        · have c8 := HX.out.cell 8 _ rfl
          go_wp2_with fail
          refine (flushPort29 h ps T p.p _ HR.out.P).mono ?_
          rintro e w4 ⟨ao4, c4, rfl, E4, ⟨ps1, P4⟩, M4⟩
          have HW0 := hide HR.out.P.wf
          have HE4 := hide (E4.mono HR.out.sz.2.2)
          replace HR := hide (HR.out.tab M4 P4)
          clear P4 M4 E4 c8
          go_wp2
          go_meet
          case rel => exact ⟨ps1, T, _, pl, cs, _, ao4, c4, rfl, HR.out, HE4.out, HU.out, gone_filter HW0.out HU.out.n8 _, by have := HL.out; omega⟩
        · have c9 := HX.out.cell 9 _ rfl
          have c10 := HX.out.cell 10 _ rfl
          go_wp2_with fail
          refine (age30 h ps T p.t p.n _ HR.out.P).mono ?_
          rintro e w4 ⟨ao4, c4, rfl, E4, ⟨ps1, P4⟩, M4⟩
          have HW0 := hide HR.out.P.wf
          have HE4 := hide (E4.mono HR.out.sz.2.2)
          replace HR := hide (HR.out.tab M4 P4)
          clear P4 M4 E4 c9 c10
          go_wp2
          go_meet
          case rel => exact ⟨ps1, T, _, pl, cs, _, ao4, c4, rfl, HR.out, HE4.out, HU.out, gone_age HW0.out HU.out.n8 _ _, by have := HL.out; omega⟩
      case rest =>
      obtain ⟨ps1, T0, T1, pl1, cs1, gl, aoG, cG, rfl, hR, hE, hU, hG, hL⟩ := hcut
      clear HR HU HL HX
      have HR := hide hR
      have HE := hide hE
      have HU := hide hU
      have HGN := hide hG
      have HL := hide hL
      clear hR hE hU hG hL
      go_wp2_with fail
      go_loopg [20] gl.length (fun r v20 wr => ∃ (m : Nat) (pl2 cs2 ds : List Ch), m ≤ gl.length ∧ r = gl.length - m ∧ v20 = .int .i64 m ∧ Rst w wr G h g (some ⟨b9, o9, none⟩) n c ss ps1 T1 pl2 cs2 B1 aoB1 cB1 ∧ Ets wr (g + 2) aoG gl.length cG gl ∧ cs2 = cs1 ++ ds ∧ ds.map (·.x) = gl.take m ∧ (∀ c ∈ ds, c.g = true) ∧ cs2.length = cs1.length + m)
      case atStart => exact ⟨0, pl1, cs1, [], Nat.zero_le _, rfl, rfl, HR.out, HE.out, by simp, by simp, (fun c hc => by simp at hc), rfl⟩
      case round =>
        obtain ⟨m, pl2, cs2, ds, hm, hr, rfl, hR, hE, hcs, hds, hdg, hcl⟩ := hrel
        clear HR HE
        have HR := hide hR
        have HE := hide hE
        have HCS := hide hcs
        have HDS := hide hds
        have HDG := hide hdg
        have HCL := hide hcl
        have HRK := hide hr
        have HGL : Hid (gl.length ≤ 8) := hide HGN.out.2.1
        clear hR hE hcs hds hdg hcl hr
        by_cases hmg : m < gl.length
        · obtain ⟨x, hx⟩ : ∃ x, gl[m]? = some x := ⟨_, List.getElem?_eq_getElem hmg⟩
          obtain ⟨bg, og, rfl, -, A0⟩ := HE.out.sl.cell m x hx
          have HXM := hide hx
          have hm2 : (m : Int) < (gl.length : Int) := by omega
          have e2 : IntKind.i64.wrap ((m : Int) + 1) = (m : Int) + 1 := IntWalk.i64_in _ (by have := HGL.out; omega)
          have tk7 : True := trivial
          clear hx
          go_wp2_with (first | (have _t := tk7; refine wpl_ent (.tmp 141) rfl A0 ?_ ?_ ?_; rfl; rfl; clear tk7))
          refine (put13q g 200 pl2 cs2 x true ((cs2.length : Int) + 1) _ HR.out.J (by rw [HCL.out]; have := HL.out; have := HGL.out; omega) rfl).mono ?_
          rintro e w7 ⟨rfl, ⟨pl7, cs7, ecs, lcs, J7⟩, M7⟩
          replace HE := hide (HE.out.mid M7 (Nat.le_refl _))
          replace HR := hide (HR.out.jou M7 J7)
          have HC7 := hide ecs
          have HL7 := hide lcs
          clear A0 M7 J7 ecs lcs
          go_wp2
          go_roundg (gl.length - (m + 1))
          case measure => rw [HRK.out]; omega
          case rel => exact ⟨m + 1, pl7, cs7, ds ++ [⟨(cs2.length : Int) + 1, x, true⟩], by omega, rfl, by go_num, HR.out, HE.out, by rw [HC7.out, HCS.out, List.append_assoc], by rw [List.map_append, HDS.out, List.take_add_one, HXM.out]; rfl, (fun c hc => by
            rcases List.mem_append.1 hc with h | h
            · exact HDG.out c h
            · rw [List.mem_singleton.1 h]), by rw [HL7.out, HCL.out]; omega⟩
        · have hme : m = gl.length := by omega
          have HU2 : Hid (Told B1 q1 cs2 T1) := hide (by
            rw [HCS.out]
            exact told_gone HU.out HGN.out (by rw [HDS.out, hme, List.take_length]) HDG.out)
          have HL2 : Hid (cs2.length ≤ 9 * (k + 1)) := hide (by have := HL.out; have := HCL.out; have := HGL.out; omega)
          have hm3 : ¬ (m : Int) < (gl.length : Int) := by omega
          clear hme hmg
          go_wp2
          go_roundg (100 - (k + 1))
          case measure => rw [HGK.out]; omega
          case rel => exact ⟨k + 1, ps1, T1, pl2, cs2, B1, aoB1, cB1, q1, by omega, by omega, rfl, rfl, rfl, by go_num, HR.out, HU2.out, HL2.out⟩
    · rcases (show ¬ (k : Int) < (n : Int) ∨ ((k : Int) < (n : Int) ∧ ¬ (k : Int) < 100) by omega) with hstop | ⟨hs1, hs2⟩
      all_goals
        clear hcont
        by_cases hq : cs.length ≤ q + 200
        · have HQ := hide hq
          clear hq
          go_wp2_with fail
          refine (since16 g 200 pl cs q _ HR.out.J (by have := HL.out; omega) HU.out.ql HQ.out).mono ?_
          rintro e w6 ⟨ao6, c6, rfl, C6, B6⟩
          replace HR := hide (HR.out.on B6)
          have HC6 := hide C6
          clear B6 C6
          go_wp2_with fail
          refine (replay21 aoB B.length cB B ao6 (cs.length - q) c6 (cs.drop q) _ HR.out.E.sl HC6.out.sl HU.out.ok (fun c hc => HU.out.co c (List.mem_of_mem_drop hc)) (by have := HU.out.bl; have := HL.out; omega)).mono ?_
          rintro e w7 ⟨ao7, c7, rfl, E7, B7⟩
          rw [HU.out.rp] at E7 ⊢
          replace HR := hide (HR.out.on B7)
          have HE7 := hide E7
          clear B7 E7 HC6
          go_wp2_with fail
          refine (all25 h ps T _ HR.out.P).mono ?_
          rintro e w8 ⟨ao8, c8, rfl, E8, B8⟩
          replace HR := hide (HR.out.on B8)
          replace HE7 := hide (HE7.out.on B8)
          have HE8 := hide E8
          clear B8 E8
          go_wp2_with fail
          refine (same20 T.l _ _ ao7 ao8 c7 c8 _ HE7.out.sl HE8.out.sl).mono ?_
          rintro e w9 ⟨rfl, B9⟩
          replace HR := hide (HR.out.on B9)
          clear B9
          go_wp2
          go_ret
          exact ⟨rfl, HR.out.BB⟩
        · have HQ := hide hq
          clear hq
          go_wp2_with fail
          refine (since16_no g 200 pl cs q _ HR.out.J (by have := HL.out; omega) (Or.inr (Or.inr (by have := HQ.out; omega)))).mono ?_
          rintro e w6 ⟨rfl, B6⟩
          replace HR := hide (HR.out.on B6)
          clear B6
          go_wp2
          go_ret
          exact ⟨rfl, HR.out.BB⟩
end
set_option maxRecDepth 100000 in
set_option maxHeartbeats 2000000 in
theorem topSynclifted (os : Os) (started : os.Started) (H : Type) (enc : TypeId × Value → H) :
    ReturnsInHanded {} Try.checked os 9 .any (Rows.topSyncSpec.pre6 enc Try.prog Try.f9 Rows.topSyncRow.domain false) (Rows.topSyncSpec.post enc Try.prog Try.f9 false true false false) := by
  refine returnsInHanded_of_change (C := Try.checked) own started (by kernel_rfl) Try.func9
    (ChangeSpec.witness6 (enc := enc) (C := Try.checked) false ⟨#[], #[.slice none 0 0, .int .i64 0], []⟩ 8 (by kernel_rfl) (by kernel_rfl) (by kernel_rfl) (by kernel_rfl)) ?_
  intro W base args ds gs before hval0 hW _ _
  have hval : ∀ (j : Nat) t v, Try.f9.params[j]? = some t → args[j]? = some v → Value.okWide Try.prog W .any base t v := hval0
  have hW' := hW
  obtain ⟨p, q, hA0, hV, rfl, _, _⟩ := hW
  have hA : DataW.TrodAll enc Try.prog W 0 (fun _ => true) true Try.f9.params.toList args.toList ds p := hA0
  rw [Try.params9] at hA hval
  obtain ⟨v0, vs0, d0, ds0, p0, q0, hargs, rfl, rfl, h0, r0⟩ := trodAll_cons hA
  obtain ⟨v1, vs1, d1, ds1, p1, q1, rfl, rfl, rfl, h1, r1⟩ := trodAll_cons r0
  obtain ⟨rfl, rfl, rfl⟩ := trodAll_nil r1
  obtain rfl : args = #[v0, v1] := by cases args; simp_all
  obtain ⟨rfl, rfl⟩ := trodVars_none hV
  have h0k := h0
  obtain ⟨ao0, n0, c0, ss0, rfl, hs0, ho0⟩ := open_steps (hval 0 60 v0 rfl rfl) h0
  have h1k := h1
  obtain ⟨x1, rfl, hx1⟩ := open_num (hval 1 3 v1 rfl rfl) h1
  clear hA0 hval0
  simp only [List.append_nil] at hW'
  have hlt : ∀ x ∈ p0 ++ p1, x.block < W.heap.size := fun x hx => by simpa using hW'.lt x (by simpa using hx)
  refine (topSyncWalk ao0 n0 c0 ss0 x1 W hs0 ho0 hx1).mono fun e W' ⟨he, hbl⟩ => ?_
  subst he
  exact ⟨_, rfl, _, _, _, [], _, [], hW', (trodAll_cons_mk (shut_bool Try.underlying4 _) trodAll_mk0), (trodAll_cons_mk (Below.trod Try.laidOut (by kernel_rfl) (of_decide_eq_true (by kernel_rfl)) h0k hbl (fun x hx => hlt x (by simp [hx]))) (trodAll_cons_mk (Below.trod Try.laidOut (by kernel_rfl) (of_decide_eq_true (by kernel_rfl)) h1k hbl (fun x hx => hlt x (by simp [hx]))) trodAll_mk0)), rfl, hbl.frame _, fun h => by cases h⟩

theorem topSync_holds : Rows.TopSyncSaid :=
  OpenClaim.holds_of_wide 9 Try.f9 rfl rfl rfl rfl rfl rfl rfl ⟨rfl, rfl, rfl, rfl, rfl⟩ rfl rfl rfl rfl rfl (by kernel_rfl) Try.func9 (by kernel_rfl)
    (of_decide_eq_true (by kernel_rfl)) (by unfold Func.isWrapper; first | (rw [if_pos (by decide +kernel)]; kernel_rfl) | (rw [if_neg (by decide +kernel)]; exact ⟨rfl, rfl⟩))
    (fun os started H enc _ => topSynclifted os started H enc)

#print axioms topSync_holds
end Go.Proofs.Ytjlmheecefobaaa
