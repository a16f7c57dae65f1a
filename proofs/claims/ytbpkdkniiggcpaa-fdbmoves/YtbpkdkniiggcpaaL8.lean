/- FdbMoves: for all steps, every step and every port the law answers true, and all three read behind the call as they read before. No condition. -/
import Derived.Test.YtbpkdkniiggcpaaOp
import Derived.Test.YtbpkdkniiggcpaaF2
import Derived.Test.YtbpkdkniiggcpaaF3
import Derived.Test.YtbpkdkniiggcpaaF5
namespace Go.Proofs.Ytbpkdkniiggcpaa
open Go.ChangeShapes Go.WideShapes Go.ChangeAt Go.RowKit

section
attribute [local go_sem] SC0 SC1 SC8 SC9 SC10 SC_size ZE
set_option maxRecDepth 100000 in
set_option maxHeartbeats 4000000 in
theorem movesWalk (ao : Option Addr) (n c : Nat) (ss : List St) (s : St) (q : Int) (w : World) (hS : Sts w w.heap.size ao n c ss) (hm : Mok s.m) (_ : I64 q) :
    Calls Try.prog 8 #[.slice ao n c, .agg (SC s), .int .i64 q] w fun e w' => e = .returned (.bool true) ∧ Below w.heap.size w w' := by
  have B0 := below_alloc w (.cells (SC s) 26)
  have S0 := box_s w s
  have HM := hide hm
  have HS := hide (hS.below B0)
  clear hS hm
  go_enter Try.func8, Try.ntmps8
  go_wp2_with fail
  refine (awake9 _).mono ?_
  rintro e w1 ⟨rfl, C1⟩
  have B1 := belowOn B0 C1
  have S1 := S0.on C1
  have lS := S1.lt
  have HS1 : Hid (Sts w1 w1.heap.size ao n c ss) := hide ((HS.out.below (C1.mono (by simp))).up (by have := B1.size; omega))
  clear B0 C1 S0 HS
  go_wp2_with fail
  refine (made10 8 ao n c ss _ (by omega) (by omega) HS1.out).mono ?_
  rintro e w2 ⟨h, g, ps, lv, T, rfl, M⟩
  have hw1 : Hid (w.heap.size ≤ h) := hide (Nat.le_trans B1.size M.hw)
  have hb1 : Hid (w.heap.size < h) := hide (Nat.lt_of_lt_of_le lS M.hw)
  have S2 := S1.on M.B
  have B2 := hide (B1.trans (M.B.mono B1.size))
  have P2 := hide M.P
  have R2 := hide M.R
  have TN := hide M.tn
  have hG2 := hide M.hg
  clear M B1 HS1 S1 lS
  clear R2 TN hG2
  have tk1 : True := trivial
  have tk2 : True := trivial
  have tk3 : True := trivial
  have tk4 : True := trivial
  have tk5 : True := trivial
  have c1 := S2.cell 1 _ rfl
  have c8 := S2.cell 8 _ rfl
  have c9 := S2.cell 9 _ rfl
  have A2 := stp_mac S2.at_
  have HS2 := hide S2
  clear S2
  have HW0 := hide P2.out.wf
  go_wp2_with (first | (have _t := tk1; refine wpl_mac (.tmp 46) rfl A2 ?_ ?_ ?_; rfl; rfl; clear tk1))
  refine (learn16 h ps T s.v s.m s.p s.t _ HM.out P2.out).mono ?_
  rintro e w3 ⟨rfl, ⟨ps1, Q3⟩, M3⟩
  have B3 := hide (mid_on B2.out M3 hw1.out P2.out.size)
  have HS3 := hide (HS2.out.low M3 hb1.out)
  generalize hK1 : lK T s.v s.m s.p s.t = K1 at *
  generalize hE1 : lE T s.v s.m s.p s.t = E1 at *
  generalize hT1 : lT T s.v s.m s.p s.t = T1 at *
  have HQ1 := hide (And.intro hK1 (And.intro hE1 hT1))
  have P3 := hide Q3
  clear hK1 hE1 hT1 Q3 M3 A2 B2 c1 c8 c9
  have c1 := HS3.out.cell 1 _ rfl
  have c8 := HS3.out.cell 8 _ rfl
  have c9 := HS3.out.cell 9 _ rfl
  have A3 := stp_mac HS3.out.at_
  have HW1 := hide P3.out.wf
  clear P2 HS2
  go_wp2_with fail
  refine (len15 h ps1 T1 _ P3.out).mono ?_
  rintro e w3 ⟨rfl, rfl⟩
  go_wp2_with (first | (have _t := tk2; refine wpl_mac (.tmp 61) rfl A3 ?_ ?_ ?_; rfl; rfl; clear tk2))
  refine (learn16 h ps1 T1 s.v s.m q s.t _ HM.out P3.out).mono ?_
  rintro e w4 ⟨rfl, ⟨ps2, Q4⟩, M4⟩
  have B4 := hide (mid_on B3.out M4 hw1.out P3.out.size)
  have HS4 := hide (HS3.out.low M4 hb1.out)
  generalize hK2 : lK T1 s.v s.m q s.t = K2 at *
  generalize hE2 : lE T1 s.v s.m q s.t = E2 at *
  generalize hT2 : lT T1 s.v s.m q s.t = T2 at *
  have HQ2 := hide (And.intro hK2 (And.intro hE2 hT2))
  have P4 := hide Q4
  clear hK2 hE2 hT2 Q4 M4 A3 B3 c1 c8 c9
  have c1 := HS4.out.cell 1 _ rfl
  have c8 := HS4.out.cell 8 _ rfl
  have c9 := HS4.out.cell 9 _ rfl
  have A4 := stp_mac HS4.out.at_
  have HW2 := hide P4.out.wf
  clear P3 HS3
  go_wp2_with (first | (have _t := tk3; refine wpl_mac (.tmp 73) rfl A4 ?_ ?_ ?_; rfl; rfl; clear tk3))
  refine (learn16 h ps2 T2 s.v s.m q s.t _ HM.out P4.out).mono ?_
  rintro e w5 ⟨rfl, ⟨ps3, Q5⟩, M5⟩
  have B5 := hide (mid_on B4.out M5 hw1.out P4.out.size)
  have HS5 := hide (HS4.out.low M5 hb1.out)
  generalize hK3 : lK T2 s.v s.m q s.t = K3 at *
  generalize hE3 : lE T2 s.v s.m q s.t = E3 at *
  generalize hT3 : lT T2 s.v s.m q s.t = T3 at *
  have HQ3 := hide (And.intro hK3 (And.intro hE3 hT3))
  have P5 := hide Q5
  clear hK3 hE3 hT3 Q5 M5 A4 B4 c1 c8 c9
  have c1 := HS5.out.cell 1 _ rfl
  have c8 := HS5.out.cell 8 _ rfl
  have c9 := HS5.out.cell 9 _ rfl
  have A5 := stp_mac HS5.out.at_
  clear P4 HS4
  have HF := hide (moves HW0.out HW1.out HW2.out HM.out HQ1.out.1 HQ1.out.2.1 HQ1.out.2.2 HQ2.out.1 HQ2.out.2.1 HQ2.out.2.2 HQ3.out.1 HQ3.out.2.1 HQ3.out.2.2)
  clear HQ1 HQ2 HQ3 HW0 HW1 HW2
  rcases HF.out with ⟨e1, k1⟩ | ⟨e1, k1, hh, hr⟩
  · clear HF
    subst k1
    have e2 : (E1 == 0) = false := by simp [e1]
    clear e1
    go_wp2_with fail
    go_ret
    exact ⟨rfl, B5.out⟩
  · clear HF
    subst e1
    have HH := hide hh
    have HR := hide hr
    have HK1 := hide k1
    clear hh hr k1
    go_wp2_with (first | (have _t := tk4; refine wpl_mac (.tmp 89) rfl A5 ?_ ?_ ?_; rfl; rfl; clear tk4))
    refine (look11 h ps3 T3 s.v s.m _ HM.out P5.out).mono ?_
    rintro e w6 ⟨rfl, C6⟩
    rw [HH.out]
    have B6 := hide (B5.out.trans (C6.mono B5.out.size))
    have P6 := hide (P5.out.on C6)
    have HS6 := hide (HS5.out.on C6)
    clear C6 B5 P5 HS5 A5 c1 c8 c9
    have ba := below_alloc w6 (.cells (EC zE) 33)
    have N0 := hide (box_e w6 zE)
    have P7 := hide (P6.out.on ba)
    have HS7 := hide (HS6.out.on ba)
    have B7 := hide (B6.out.trans (ba.mono B6.out.size))
    have hw6 : Hid (w.heap.size ≤ w6.heap.size) := hide B6.out.size
    have lP : Hid (h + 2 ≤ w6.heap.size) := hide P6.out.lt
    clear ba P6 HS6 B6
    generalize lk T3.l s.v s.m = x at *
    go_wp2_with (first | (have _t := tk5; refine wpl_putE x zE (.tmp 18) (.tmp 92) rfl N0.out ?_ rfl rfl ?_; rfl; clear tk5))
    intro w8 N1 g8
    have P8 := hide (P7.out.putIn g8 lP.out)
    have HS8 := hide (HS7.out.putIn g8 (by have := lP.out; have := hb1.out; omega))
    have B8 := hide (below_grown B7.out g8 hw6.out (by have := hw6.out; simp; omega))
    have d7 := N1.cell 7 _ rfl
    have d9 := N1.cell 9 _ rfl
    have c8 := HS8.out.cell 8 _ rfl
    have ql := fun H => len15 h ps3 T3 w8 H
    have ql2 := ql P8.out
    clear g8 N1 N0 P7 HS7 B7 ql
    rcases HR.out with ⟨e2, e3⟩ | ⟨e2, e3, k3, hlen, hx⟩
    · subst e2 e3
      go_wp2_with fail
      go_ret
      exact ⟨rfl, B8.out⟩
    · rw [hlen] at ql2
      subst e2 e3 k3
      have hk1 := HK1.out
      rcases hx with ⟨hs9, k2⟩ | ⟨hs9, hp, k2⟩
      · subst k2
        rw [hs9] at d9
        rcases Bool.eq_false_or_eq_true (q == s.p) with hq | hq
        · have hq2 : q = s.p := by simpa using hq
          go_wp2_with (first | (go_at_call 15; refine ql2.mono ?_; rintro e w9 ⟨rfl, rfl⟩))
          go_ret
          exact ⟨ret_bool (by simp), B8.out⟩
        · have hq2 : ¬ q = s.p := by simpa using hq
          go_wp2_with (first | (go_at_call 15; refine ql2.mono ?_; rintro e w9 ⟨rfl, rfl⟩))
          go_ret
          exact ⟨ret_bool (by simp), B8.out⟩
      · subst k2
        rw [hs9] at d9
        rw [hp] at d7
        rcases Bool.eq_false_or_eq_true (q == s.p) with hq | hq
        · have hq2 : q = s.p := by simpa using hq
          rw [if_pos hq2] at *
          go_wp2_with (first | (go_at_call 15; refine ql2.mono ?_; rintro e w9 ⟨rfl, rfl⟩))
          go_ret
          exact ⟨ret_bool (by simp), B8.out⟩
        · have hq2 : ¬ q = s.p := by simpa using hq
          rw [if_neg hq2] at *
          go_wp2_with (first | (go_at_call 15; refine ql2.mono ?_; rintro e w9 ⟨rfl, rfl⟩))
          go_ret
          exact ⟨ret_bool (by simp), B8.out⟩
end
set_option maxRecDepth 100000 in
set_option maxHeartbeats 2000000 in
theorem fdbMoveslifted (os : Os) (started : os.Started) (H : Type) (enc : TypeId × Value → H) :
    ReturnsInHanded {} Try.checked os 8 .any (Rows.fdbMovesSpec.pre6 enc Try.prog Try.f8 Rows.fdbMovesRow.domain false) (Rows.fdbMovesSpec.post enc Try.prog Try.f8 false true false false) := by
  refine returnsInHanded_of_change (C := Try.checked) own started (by kernel_rfl) Try.func8
    (ChangeSpec.witness6 (enc := enc) (C := Try.checked) false ⟨#[], #[.slice none 0 0, .agg #[.int .i64 0, .int .i64 0, .int .u8 0, .int .u8 0, .int .u8 0, .int .u8 0, .int .u8 0, .int .u8 0, .int .i64 0, .int .i64 0, .int .i64 0], .int .i64 0], []⟩ 8 (by kernel_rfl) (by kernel_rfl) (by kernel_rfl) (by kernel_rfl)) ?_
  intro W base args ds gs before hval0 hW _ _
  have hval : ∀ (j : Nat) t v, Try.f8.params[j]? = some t → args[j]? = some v → Value.okWide Try.prog W .any base t v := hval0
  have hW' := hW
  obtain ⟨p, q, hA0, hV, rfl, _, _⟩ := hW
  have hA : DataW.TrodAll enc Try.prog W 0 (fun _ => true) true Try.f8.params.toList args.toList ds p := hA0
  rw [Try.params8] at hA hval
  obtain ⟨v0, vs0, d0, ds0, p0, q0, hargs, rfl, rfl, h0, r0⟩ := trodAll_cons hA
  obtain ⟨v1, vs1, d1, ds1, p1, q1, rfl, rfl, rfl, h1, r1⟩ := trodAll_cons r0
  obtain ⟨v2, vs2, d2, ds2, p2, q2, rfl, rfl, rfl, h2, r2⟩ := trodAll_cons r1
  obtain ⟨rfl, rfl, rfl⟩ := trodAll_nil r2
  obtain rfl : args = #[v0, v1, v2] := by cases args; simp_all
  obtain ⟨rfl, rfl⟩ := trodVars_none hV
  have h0k := h0
  obtain ⟨ao0, n0, c0, ss0, rfl, hs0⟩ := open_steps (hval 0 22 v0 rfl rfl) h0
  have h1k := h1
  obtain ⟨s1, rfl, hs1⟩ := open_step (hval 1 26 v1 rfl rfl) h1
  have h2k := h2
  obtain ⟨x2, rfl, hx2⟩ := open_num (hval 2 3 v2 rfl rfl) h2
  clear hA0 hval0
  simp only [List.append_nil] at hW'
  have hlt : ∀ x ∈ p0 ++ p1 ++ p2, x.block < W.heap.size := fun x hx => by simpa using hW'.lt x (by simpa using hx)
  refine (movesWalk ao0 n0 c0 ss0 s1 x2 W hs0 hs1 hx2).mono fun e W' ⟨he, hbl⟩ => ?_
  subst he
  exact ⟨_, rfl, _, _, _, [], _, [], hW', (trodAll_cons_mk (shut_bool Try.underlying4 _) trodAll_mk0), (trodAll_cons_mk (Below.trod Try.laidOut (by kernel_rfl) (of_decide_eq_true (by kernel_rfl)) h0k hbl (fun x hx => hlt x (by simp [hx]))) (trodAll_cons_mk (Below.trod Try.laidOut (by kernel_rfl) (of_decide_eq_true (by kernel_rfl)) h1k hbl (fun x hx => hlt x (by simp [hx]))) (trodAll_cons_mk (Below.trod Try.laidOut (by kernel_rfl) (of_decide_eq_true (by kernel_rfl)) h2k hbl (fun x hx => hlt x (by simp [hx]))) trodAll_mk0))), rfl, hbl.frame _, fun h => by cases h⟩

theorem fdbMoves_holds : Rows.FdbMovesSaid :=
  OpenClaim.holds_of_wide 8 Try.f8 rfl rfl rfl rfl rfl rfl rfl ⟨rfl, rfl, rfl, rfl, rfl⟩ rfl rfl rfl rfl rfl (by kernel_rfl) Try.func8 (by kernel_rfl)
    (of_decide_eq_true (by kernel_rfl)) (by unfold Func.isWrapper; first | (rw [if_pos (by decide +kernel)]; kernel_rfl) | (rw [if_neg (by decide +kernel)]; exact ⟨rfl, rfl⟩))
    (fun os started H enc _ => fdbMoveslifted os started H enc)

#print axioms fdbMoves_holds
end Go.Proofs.Ytbpkdkniiggcpaa
