/- ControlBack: for every packet and all bytes the law answers true, and both read behind the call as they read before. No condition beyond what the card's tie says of the table of kinds. -/
import Derived.Test.YtijfcfpoimknmaaDoorOp
import Derived.Test.YtijfcfpoimknmaaDoorAw
import Derived.Test.YtijfcfpoimknmaaDoorCards
import Derived.Test.YtijfcfpoimknmaaDoorTie
import Derived.SevenTiedAt
import Derived.Test.YtijfcfpoimknmaaDoorC4
import Derived.Test.YtijfcfpoimknmaaDoorD5
import Derived.Test.YtijfcfpoimknmaaDoorR3
import Derived.Test.YtijfcfpoimknmaaDoorAm
import Derived.Deep.Cut
namespace Go.Proofs.YtijfcfpoimknmaaDoor
open Go.ChangeShapes Go.WideShapes Go.ChangeAt Go.RowKit

section
attribute [local go_sem] ZP
set_option maxRecDepth 100000 in
set_option maxHeartbeats 8000000 in
theorem backWalk (p : Pk) (a1 : Option Addr) (m1 c1 : Nat) (ao : Option Addr) (n c : Nat) (ns : List Int) (w : World) (hT : KT w) (hp : Byt w a1 m1 c1 p.n.b) (bp : NtB p.n) (hm : Byt w ao n c ns) :
    Calls Tryd.prog 6 #[.agg (PC p (.slice a1 m1 c1)), .slice ao n c] w fun e w' => e = .returned (.bool true) ∧ Below w.heap.size w w' := by
  have L0 := below_alloc w (.cells (PC p (.slice a1 m1 c1)) 28)
  have X0 : Box (w.alloc (.cells (PC p (.slice a1 m1 c1)) 28)) w.heap.size (pcl p (.slice a1 m1 c1)) := Box.new w (pcl p (.slice a1 m1 c1)) 28
  have HT := hide hT
  have HP := hide hp
  have HM := hide hm
  have HB := hide bp
  have K0 := hT.on L0
  have E0 : Hid (rtp p = true → dp (enc p) = p ∧ dc (enc p) = 0) := hide (fun h => by have h1 := dk_enc h; exact ⟨h1.2, by rw [dc, h1.1]; rfl⟩)
  have E1 : Hid (dk ns = true → rtp (dp ns) = true ∧ enc (dp ns) = ns ∧ dc ns = 0) := hide (fun h => ⟨(dp_ok hm.rng h).1, (dp_ok hm.rng h).2, by rw [dc, h]; rfl⟩)
  have E2 : Hid (dk ns = false → dc ns = 2) := hide (fun h => by rw [dc, h]; rfl)
  have E3 : Hid (tok ns = true → dk ns = false ∧ ar (te ns) (tp ns) = true ∧ ab (te ns) (tp ns) (tf ns) = ns ∧ tc ns = 0) := hide (fun h => ⟨tok_dk hm.rng h, (tok_ab hm.rng h).1, (tok_ab hm.rng h).2, by rw [tc, h]; rfl⟩)
  have E4 : Hid (tok ns = false → te ns = 0 ∧ tp ns = 0 ∧ tf ns = false ∧ tc ns = 2) := hide (fun h => by rw [te, tp, tf, tc, h]; exact ⟨rfl, rfl, rfl, rfl⟩)
  have DB := hide (dp_B hm.rng)
  clear hp hm hT bp
  go_enter Tryd.func6, Tryd.ntmps6
  go_wp2_with fail
  refine (awake10 _ K0).mono ?_
  rintro e w1 ⟨rfl, hb⟩
  replace X0 := X0.on hb; replace L0 := belowOn L0 hb
  have x13 := X0.cell 13 _ rfl
  clear hb K0
  rcases Bool.eq_false_or_eq_true (decide ((m1 : Int) > 3000)) with hl1 | hl1
  · go_wp2
    go_ret
    exact ⟨rfl, L0⟩
  rcases Bool.eq_false_or_eq_true (decide ((n : Int) > 3000)) with hl2 | hl2
  · go_wp2
    go_ret
    exact ⟨rfl, L0⟩
  have tk1 : True := trivial
  go_wp2_with (have _t := tk1; refine wpl_pkt (.tmp 2) rfl X0 ?_ ?_ ?_; rfl; rfl; clear tk1)
  refine (encode11 p a1 m1 c1 _ (HT.out.on L0) HB.out (HP.out.on L0)).mono ?_
  rintro e w2 ⟨b1, n1, d1, rfl, Z1, hb⟩
  replace X0 := X0.on hb; replace L0 := belowOn L0 hb
  clear hb x13 hl1 hl2
  go_upto_if 43 with fail
  go_cut [7] from 21 (fun _ wx => Below w.heap.size w wx)
  case first =>
    clear E1 E2 E3 E4
    cases hr : rtp p
    · have e1 : ec p = 1 := by simp [ec, hr]
      rw [e1]
      clear e1 hr E0
      go_wp2
      go_meet
      case rel => exact L0
    · have e1 : ec p = 0 := by simp [ec, hr]
      have f1 : eb p = enc p := by simp [eb, hr]
      have E5 := E0.out hr
      rw [e1]
      rw [f1] at Z1
      have D := hide (decode15 b1 n1 d1 (enc p) w2 (HT.out.on L0) Z1)
      rw [E5.1, E5.2] at D
      clear e1 f1 hr E0 E5 Z1
      go_wp2_with fail
      refine D.out.mono ?_
      rintro e w3 ⟨sa, sm, sc, rfl, Y3, hb⟩
      have hX := hide (X0.on hb)
      have L3 := belowOn L0 hb
      have BX := Box.new w3 (pcl zeroP (.slice none 0 0)) 28
      have hlt3 : w.heap.size < w3.heap.size := (X0.on hb).lt
      have HY := hide Y3
      clear hb X0 L0 D Y3
      have tk2 : True := trivial
      have tk3 : True := trivial
      have tk4 : True := trivial
      go_wp2_with (first | (have _t := tk2; refine wpl_putP p (.slice sa sm sc) zeroP (.slice none 0 0) rfl (.tmp 8) (.tmp 47) rfl BX ?_ ?_ ?_ ?_; rfl; rfl; rfl; clear tk2; intro w4 B4 g4; have X4 := (hX.out.alloc (.cells (PC zeroP (.slice none 0 0)) 28)).kept (Nat.ne_of_lt hlt3) g4) | (have _t := tk3; refine wpl_pkt (.tmp 2) rfl X4 ?_ ?_ ?_; rfl; rfl; clear tk3) | (have _t := tk4; refine wpl_pkt (.tmp 8) rfl B4 ?_ ?_ ?_; rfl; rfl; clear tk4))
      have L4 : Below w.heap.size w w4 := below_grown (belowOn L3 (below_alloc _ _)) g4 (Nat.le_of_lt hlt3) (by simp; omega)
      have Y4 := (HY.out.alloc (.cells (PC zeroP (.slice none 0 0)) 28)).kept (fun b o e hp => by have := HY.out.lt b o e hp; omega) g4
      refine (same17 p p a1 m1 c1 sa sm sc _ (HP.out.on L4) Y4).mono ?_
      rw [(peq_iff p p).2 rfl]
      rintro e w5 ⟨rfl, hb⟩
      have L5 := belowOn L4 hb
      clear hb Y4 HY X4 B4 BX hX L3 L4 g4
      go_wp2
      go_meet
      case rel => exact L5
  case rest =>
  clear E0 X0 L0 Z1 HP HB
  have L6 := hcut
  clear hcut
  go_wp2_with fail
  refine (decode15 ao n c ns _ (HT.out.on L6) (HM.out.on L6)).mono ?_
  rintro e w6 ⟨sa, sm, sc, rfl, Y6, hb⟩
  have L7 := belowOn L6 hb
  have BX := Box.new w6 (pcl zeroP (.slice none 0 0)) 28
  have HY := hide Y6
  clear hb L6 Y6
  have tk2 : True := trivial
  go_upto_if 64 with (first | (have _t := tk2; refine wpl_putP (dp ns) (.slice sa sm sc) zeroP (.slice none 0 0) rfl (.tmp 11) (.tmp 61) rfl BX ?_ ?_ ?_ ?_; rfl; rfl; rfl; clear tk2; intro w7 B7 g7))
  have L8 : Below w.heap.size w w7 := below_grown (belowOn L7 (below_alloc _ _)) g7 L7.size (by have := L7.size; simp; omega)
  have Y8 := hide ((HY.out.alloc (.cells (PC zeroP (.slice none 0 0)) 28)).kept (fun b o e hp => by have := HY.out.lt b o e hp; omega) g7)
  clear HY BX g7 L7
  go_cut [12] from 21 (fun s wx => s = .int .i64 (dc ns) ∧ Below w.heap.size w wx)
  case first =>
    clear E3 E4
    cases hr : dk ns
    · have e1 := E2.out hr
      have HQ := hide e1
      rw [e1]
      clear e1 hr E1 E2
      go_wp2
      go_meet
      case rel => exact ⟨by rw [HQ.out], L8⟩
    · obtain ⟨q1, q2, q3⟩ := E1.out hr
      have e1 : ec (dp ns) = 0 := by simp [ec, q1]
      have f1 : eb (dp ns) = ns := by simp [eb, q1, q2]
      rw [q3]
      have HQ := hide q3
      have C := hide (encode11 (dp ns) sa sm sc w7 (HT.out.on L8) DB.out Y8.out)
      rw [e1, f1] at C
      clear e1 f1 hr E1 E2 q1 q2 q3
      generalize dp ns = DP at *
      have tk3 : True := trivial
      go_wp2_with (have _t := tk3; refine wpl_pkt (.tmp 11) rfl B7 ?_ ?_ ?_; rfl; rfl; clear tk3)
      refine C.out.mono ?_
      rintro e w8 ⟨b2, n2, d2, rfl, Z2, hb⟩
      have L9 := belowOn L8 hb
      have s1 := bytStr Z2
      have s2 := bytStr (HM.out.on L9)
      have sb := bs_beq_self ns
      have sb2 : ((bs ns).toList != (bs ns).toList) = false := by simp
      clear hb C B7 Y8 L8 Z2
      go_wp2
      go_meet
      case rel => exact ⟨by rw [HQ.out], L9⟩
  case rest =>
  clear B7 L8 E1 Y8 DB
  obtain ⟨rfl, L9⟩ := hcut
  go_wp2_with fail
  refine (told20 ao n c ns _ (HM.out.on L9)).mono ?_
  rintro e w9 ⟨rfl, hb⟩
  have L10 := belowOn L9 hb
  clear hb L9
  cases ht : tok ns
  · obtain ⟨q1, q2, q3, q4⟩ := E4.out ht
    rw [q1, q2, q3, q4]
    clear q1 q2 q3 q4 ht E4 E3 E2
    generalize dc ns = X at *
    go_wp2
    go_ret
    exact ⟨rfl, L10⟩
  · obtain ⟨q1, q2, q3, q4⟩ := E3.out ht
    have q5 := E2.out q1
    rw [q4, q5]
    have C := hide (fun W => alive18 (te ns) (tp ns) (tf ns) W)
    have a1 : alc (te ns) (tp ns) = 0 := by simp [alc, q2]
    have a2 : alb (te ns) (tp ns) (tf ns) = ns := by simp [alb, q2, q3]
    rw [a1, a2] at C
    clear q1 q2 q3 q4 q5 ht E4 E3 E2 a1 a2
    generalize te ns = X1 at *
    generalize tp ns = X2 at *
    generalize tf ns = X3 at *
    go_wp2_with fail
    refine (C.out _).mono ?_
    rintro e w10 ⟨b2, n2, d2, rfl, Z2, hb⟩
    have L11 := belowOn L10 hb
    have s1 := bytStr Z2
    have s2 := bytStr (HM.out.on L11)
    have sb := bs_beq_self ns
    clear hb C L10 Z2
    go_wp2
    go_ret
    exact ⟨rfl, L11⟩
end
set_option maxRecDepth 100000 in
set_option maxHeartbeats 2000000 in
theorem controlBacklifted (os : Os) (started : os.Started) (H : Type) (enc : TypeId × Value → H) :
    ReturnsInHanded {} Tryd.checked os 6 .any (fun w args => (Rows.controlBackSpec.pre enc Tryd.prog Tryd.f6 [] false w args ∧ laidMetH Tryd.prog laidK w) ∧ sizedMet enc Tryd.prog Tryd.f6 (OpenSpec.ofChange Rows.controlBackSpec) false w args)
      (Rows.controlBackSpec.post enc Tryd.prog Tryd.f6 false true false false) := by
  refine returnsInHanded_of_change_and (C := Tryd.checked) (X := fun w _ => laidMetH Tryd.prog laidK w) (fun _ _ _ hh h => h.of_heap hh) own started (by kernel_rfl) Tryd.func6
    (ChangeSpec.witness_shaped (enc := enc) (C := Tryd.checked) (os := os) (X := fun w _ => laidMetH Tryd.prog laidK w) false (World.doorLaid Tryd.prog 14 os) #[.agg #[.int .i64 0, .int .i64 0, .int .i64 0, .int .i64 0, .int .i64 0, .int .u8 0, .int .u8 0, .int .u8 0, .int .u8 0, .int .u8 0, .int .u8 0, .int .i64 0, .int .i64 0, .slice none 0 0], .slice none 0 0] 8 rfl (World.shaped_of_RefB (by kernel_rfl) (by kernel_rfl)) (by kernel_rfl) (by kernel_rfl) (by kernel_rfl) (door_met os _)) ?_
  intro W base args ds gs before hval0 hW _ _ hL _
  have hval : ∀ (j : Nat) t v, Tryd.f6.params[j]? = some t → args[j]? = some v → Value.okWide Tryd.prog W .any base t v := hval0
  have hW' := hW
  obtain ⟨p, q, hA0, hV, rfl, _, _⟩ := hW
  have hA : DataW.TrodAll enc Tryd.prog W 0 (fun _ => true) true Tryd.f6.params.toList args.toList ds p := hA0
  rw [Tryd.params6] at hA hval
  have hT := kt_of_laid hL
  obtain ⟨v0, vs0, d0, ds0, p0, q0, hargs, rfl, rfl, h0, r0⟩ := trodAll_cons hA
  obtain ⟨v1, vs1, d1, ds1, p1, q1, rfl, rfl, rfl, h1, r1⟩ := trodAll_cons r0
  obtain ⟨rfl, rfl, rfl⟩ := trodAll_nil r1
  obtain rfl : args = #[v0, v1] := by cases args; simp_all
  obtain ⟨rfl, rfl⟩ := trodVars_none hV
  have h0k := h0
  obtain ⟨l0, a0, m0, c0, rfl, hy0, hb0⟩ := open_pkt (hval 0 28 v0 rfl rfl) h0
  have h1k := h1
  obtain ⟨ao1, n1, c1, ns1, rfl, hy1⟩ := open_bytes (hval 1 24 v1 rfl rfl) h1
  clear hA0 hval0
  simp only [List.append_nil] at hW'
  have hlt : ∀ x ∈ p0 ++ p1, x.block < W.heap.size := fun x hx => by simpa using hW'.lt x (by simpa using hx)
  refine (backWalk l0 a0 m0 c0 ao1 n1 c1 ns1 W hT hy0 hb0 hy1).mono fun e W' ⟨he, hbl⟩ => ?_
  subst he
  exact ⟨_, rfl, _, _, _, [], _, [], hW', (trodAll_cons_mk (shut_bool Tryd.underlying4 _) trodAll_mk0), (trodAll_cons_mk (Below.trod Tryd.laidOut (by kernel_rfl) (of_decide_eq_true (by kernel_rfl)) h0k hbl (fun x hx => hlt x (by simp [hx]))) (trodAll_cons_mk (Below.trod Tryd.laidOut (by kernel_rfl) (of_decide_eq_true (by kernel_rfl)) h1k hbl (fun x hx => hlt x (by simp [hx]))) trodAll_mk0)), rfl, hbl.frame _, fun h => by cases h⟩

theorem controlBack_holds : Rows.ControlBackSaid :=
  OpenClaim.holds_of_wide 6 Tryd.f6 rfl rfl rfl rfl rfl rfl rfl ⟨rfl, rfl, rfl, rfl, rfl⟩ rfl rfl rfl rfl rfl (by kernel_rfl) Tryd.func6 (by kernel_rfl)
    (of_decide_eq_true (by kernel_rfl)) (by unfold Func.isWrapper; first | (rw [if_pos (by decide +kernel)]; kernel_rfl) | (rw [if_neg (by decide +kernel)]; exact ⟨rfl, rfl⟩))
    (fun os started H enc _ => controlBacklifted os started H enc)

theorem controlBack_card_holds : Rows.ControlBackCardSaid :=
  Claim7.holds_tied_plain_at .later [] [.data] true (true, "40610068b199d95fe10dea4bfc5d373c8e4676b673a11564a6585a93802516b6") false
    controlBack_holds (fun _ h => by cases h) (by kernel_rfl) (fun _ h => by cases h) controlBack_row_tie rfl ⟨rfl, rfl⟩ (by kernel_rfl) rfl
    (fun f fn hf hfn => by
      obtain rfl : f = 6 := Option.some.inj ((show Tryd.prog.funcNamed "gemel/gemellaw06.ControlBack" = some 6 by kernel_rfl).symm.trans hf) |>.symm
      obtain rfl : fn = Tryd.f6 := (Option.some.inj (Tryd.func6.symm.trans hfn)).symm
      exact ⟨by kernel_rfl, fun j t ht => by
        rw [Tryd.params6] at ht
        have hm : t ∈ [28, 24] := by simpa using Array.mem_of_getElem? ht
        have hall : ([28, 24].all fun u => !Tryd.prog.wantsStandIn u) = true := by kernel_rfl
        exact (show Tryd.prog.wantsStandIn t = false by simpa using List.all_eq_true.1 hall t hm)⟩)
    (by kernel_rfl)

#print axioms controlBack_card_holds
end Go.Proofs.YtijfcfpoimknmaaDoor
