/- FdbScripts: for every room, all steps and every step the law answers true, and all three read behind the call as they read before. No condition. -/
import Derived.Test.YtbpkdkniiggcpaaOp
import Derived.Test.YtbpkdkniiggcpaaF2
import Derived.Test.YtbpkdkniiggcpaaF3
import Derived.Test.YtbpkdkniiggcpaaF5
import Derived.Deep.RegionHeld3
namespace Go.Proofs.Ytbpkdkniiggcpaa
open Go.ChangeShapes Go.WideShapes Go.ChangeAt Go.RowKit

section
attribute [local go_sem] SC0 SC1 SC8 SC9 SC10 SC_size ZE
set_option maxRecDepth 100000 in
set_option maxHeartbeats 4000000 in
theorem scriptsNo (k : Int) (ao : Option Addr) (n c : Nat) (s : St) (w : World) (h : ¬ (1 ≤ k ∧ k ≤ 1024)) :
    Calls Try.prog 3 #[.int .i64 k, .slice ao n c, .agg (SC s)] w fun e w' => e = .returned (.bool true) ∧ Below w.heap.size w w' := by
  have B0 := hide (below_alloc w (.cells (SC s) 26))
  have HP := hide h
  clear h
  go_enter Try.func3, Try.ntmps3
  go_wp2_with fail
  refine (awake9 _).mono ?_
  rintro e w1 ⟨rfl, C1⟩
  have B1 := hide (belowOn B0.out C1)
  clear C1 B0
  go_wp2_with fail
  refine (made10_no k ao n c _ HP.out).mono ?_
  rintro e w2 ⟨rfl, rfl⟩
  go_wp2
  go_ret
  exact ⟨rfl, B1.out⟩
set_option maxRecDepth 100000 in
set_option maxHeartbeats 8000000 in
theorem scriptsYes (k : Nat) (ao : Option Addr) (n c : Nat) (ss : List St) (s : St) (w : World) (hk : 1 ≤ k ∧ k ≤ 1024) (hS : Sts w w.heap.size ao n c ss) (hm : Mok s.m) :
    Calls Try.prog 3 #[.int .i64 k, .slice ao n c, .agg (SC s)] w fun e w' => e = .returned (.bool true) ∧ Below w.heap.size w w' := by
  have HKB := hide hk
  clear hk
  have B0 := below_alloc w (.cells (SC s) 26)
  have S0 := box_s w s
  have HM := hide hm
  have HS := hide (hS.below B0)
  clear hS hm
  go_enter Try.func3, Try.ntmps3
  go_wp2_with fail
  refine (awake9 _).mono ?_
  rintro e w1 ⟨rfl, C1⟩
  have B1 := belowOn B0 C1
  have S1 := S0.on C1
  have lS := S1.lt
  have HS1 : Hid (Sts w1 w1.heap.size ao n c ss) := hide ((HS.out.below (C1.mono (by simp))).up (by have := B1.size; omega))
  clear B0 C1 S0 HS
  go_wp2_with fail
  refine (made10 k ao n c ss _ HKB.out.1 HKB.out.2 HS1.out).mono ?_
  rintro e w2 ⟨h, g, ps, lv, T, rfl, M⟩
  have hw1 : Hid (w.heap.size ≤ h) := hide (Nat.le_trans B1.size M.hw)
  have hb1 : Hid (w.heap.size < h) := hide (Nat.lt_of_lt_of_le lS M.hw)
  have S2 := S1.on M.B
  have B2 := hide (B1.trans (M.B.mono B1.size))
  have P2 := hide M.P
  have R2 := hide M.R
  have TN := hide M.tn
  have hG2 := hide M.hg
  clear M B1 HS1 S1 lS
  have tk1 : True := trivial
  have tk2 : True := trivial
  have tk3 : True := trivial
  have tk4 : True := trivial
  clear TN hG2 hw1 hb1 HKB
  have PP := P2
  have RR := R2
  have BB := B2
  have SS := hide S2
  clear S2
  clear P2 R2 B2
  have A := stp_mac SS.out.at_
  have c1 := SS.out.cell 1 _ rfl
  go_wp2_with (first | (have _t := tk1; refine wpl_mac (.tmp 42) rfl A ?_ ?_ ?_; rfl; rfl; clear tk1))
  refine (look11 h ps T s.v s.m _ HM.out PP.out).mono ?_
  rintro e w3 ⟨rfl, C⟩
  clear A c1
  replace PP := hide (PP.out.on C)
  replace RR := hide (RR.out.on C)
  replace SS := hide (SS.out.on C)
  replace BB := hide (BB.out.trans (C.mono BB.out.size))
  clear C
  have N0 := hide (box_e w3 zE)
  generalize hx : lk T.l s.v s.m = x at *
  generalize hi : hs T.l s.v s.m = is at *
  go_wp2_with (first | (have _t := tk2; refine wpl_putE x zE (.tmp 11) (.tmp 45) rfl N0.out ?_ rfl rfl ?_; rfl; clear tk2))
  intro w3b N g0
  have C := stored g0
  clear N0 g0
  replace PP := hide (PP.out.on C)
  replace RR := hide (RR.out.on C)
  replace SS := hide (SS.out.on C)
  replace BB := hide (BB.out.trans (C.mono BB.out.size))
  clear C
  have NX := hide N
  clear N
  have HX := hide hx
  have HI := hide hi
  clear hx hi
  generalize w3.heap.size = k3 at *
  have A := stp_mac SS.out.at_
  have c1 := SS.out.cell 1 _ rfl
  go_wp2_with (first | (have _t := tk3; refine wpl_mac (.tmp 51) rfl A ?_ ?_ ?_; rfl; rfl; clear tk3))
  refine (look12 g lv T s.v s.m _ RR.out).mono ?_
  rintro e w6 ⟨rfl, C⟩
  rw [HX.out, HI.out]
  clear A c1
  replace PP := hide (PP.out.on C)
  replace RR := hide (RR.out.on C)
  replace SS := hide (SS.out.on C)
  replace BB := hide (BB.out.trans (C.mono BB.out.size))
  replace NX := hide (NX.out.on C)
  clear C
  have N0 := hide (box_e w6 zE)
  go_wp2_with (first | (have _t := tk4; refine wpl_putE x zE (.tmp 13) (.tmp 54) rfl N0.out ?_ rfl rfl ?_; rfl; clear tk4))
  intro w6b N g0
  have C := stored g0
  clear N0 g0
  replace PP := hide (PP.out.on C)
  replace RR := hide (RR.out.on C)
  replace SS := hide (SS.out.on C)
  replace BB := hide (BB.out.trans (C.mono BB.out.size))
  replace NX := hide (NX.out.on C)
  clear C
  have NY := hide N
  clear N HX HI SS HM
  generalize w6.heap.size = k6 at *
  obtain ⟨bo, bc, rfl, -, -⟩ := RR.out.ers
  go_wp2_with fail
  refine wp_region_held_drew (S := fun w' => PT w' h ps T ∧ RT w' g (.slice bo T.l.length bc) T ∧ Box w' k3 (ecl x) ∧ Box w' k6 (ecl x)) (by kernel_rfl) ⟨PP.out.drew, RR.out.drew, NX.out.drew, NY.out.drew⟩ (fun hHeld => ?_)
  replace BB := hide (belowOn' BB.out)
  clear PP RR NX NY
  generalize w6b.drew = u0 at *
  refine wpAnyH_take (i := 0) (v := .pointer (some ⟨h + 1, 0, none⟩)) rfl (by kernel_rfl) (by kernel_rfl) (by kernel_rfl) (fun _ _ _ h => h) (Or.inl ⟨by rfl, ?_⟩) hHeld ?_
  · intro W hW; (try dsimp only at hW); go_simp
  change wpAnyH _ _ _ _ _ _ _ ⟨#[_, _, _, _, _, _, _, _, .pointer (some ⟨h + 1, 0, none⟩), .pointer (some ⟨g, 0, none⟩), _, _, _, _, _, _, _, _, _, _, _, _, _, _, _, _, _, _, _, _, _, _, _, _, _, _, _, _, _, _, _, _, _, _, _, _, _, _, _, _, _, _, _, _, _, _, .pointer (some ⟨h + 1, 0, none⟩), _, _, _, _, _, _, _, _, _, _, _, _, _, _, _, _, _, _, _, _, _, _, _, _, _, _, _], []⟩ _
  refine wpAnyH_take (i := 2) (v := .pointer (some ⟨g, 0, none⟩)) rfl (by kernel_rfl) (by kernel_rfl) (by kernel_rfl) (fun _ _ _ h => h) (Or.inl ⟨by rfl, ?_⟩) hHeld ?_
  · intro W hW; (try dsimp only at hW); go_simp
  change wpAnyH _ _ _ _ _ _ _ ⟨#[_, _, _, _, _, _, _, _, .pointer (some ⟨h + 1, 0, none⟩), .pointer (some ⟨g, 0, none⟩), _, _, _, _, _, _, _, _, _, _, _, _, _, _, _, _, _, _, _, _, _, _, _, _, _, _, _, _, _, _, _, _, _, _, _, _, _, _, _, _, _, _, _, _, _, _, .pointer (some ⟨h + 1, 0, none⟩), _, .pointer (some ⟨g, 0, none⟩), _, _, _, _, _, _, _, _, _, _, _, _, _, _, _, _, _, _, _, _, _, _, _, _, _], []⟩ _
  refine wpAnyH_take (i := 3) (v := .pointer (some ⟨g, 0, none⟩)) rfl (by kernel_rfl) (by kernel_rfl) (by kernel_rfl) (fun _ _ _ h => h) (Or.inl ⟨by rfl, ?_⟩) hHeld ?_
  · intro W hW; (try dsimp only at hW); go_simp
  change wpAnyH _ _ _ _ _ _ _ ⟨#[_, _, _, _, _, _, _, _, .pointer (some ⟨h + 1, 0, none⟩), .pointer (some ⟨g, 0, none⟩), _, _, _, _, _, _, _, _, _, _, _, _, _, _, _, _, _, _, _, _, _, _, _, _, _, _, _, _, _, _, _, _, _, _, _, _, _, _, _, _, _, _, _, _, _, _, .pointer (some ⟨h + 1, 0, none⟩), _, .pointer (some ⟨g, 0, none⟩), .pointer (some ⟨g, 0, none⟩), _, _, _, _, _, _, _, _, _, _, _, _, _, _, _, _, _, _, _, _, _, _, _, _], []⟩ _
  refine wpAnyH_take (i := 4) (v := .pointer (some ⟨g, 1, none⟩)) rfl (by kernel_rfl) (by kernel_rfl) (by kernel_rfl) (fun _ _ _ h => h) (Or.inl ⟨by rfl, ?_⟩) hHeld ?_
  · intro W hW; (try dsimp only at hW); go_simp
  change wpAnyH _ _ _ _ _ _ _ ⟨#[_, _, _, _, _, _, _, _, .pointer (some ⟨h + 1, 0, none⟩), .pointer (some ⟨g, 0, none⟩), _, _, _, _, _, _, _, _, _, _, _, _, _, _, _, _, _, _, _, _, _, _, _, _, _, _, _, _, _, _, _, _, _, _, _, _, _, _, _, _, _, _, _, _, _, _, .pointer (some ⟨h + 1, 0, none⟩), _, .pointer (some ⟨g, 0, none⟩), .pointer (some ⟨g, 0, none⟩), .pointer (some ⟨g, 1, none⟩), _, _, _, _, _, _, _, _, _, _, _, _, _, _, _, _, _, _, _, _, _, _, _], []⟩ _
  refine wpAnyH_take (i := 5) (v := .slice bo T.l.length bc) rfl (by kernel_rfl) (by kernel_rfl) (by kernel_rfl) (fun _ _ _ h => h) (Or.inl ⟨by rfl, ?_⟩) hHeld ?_
  · intro W hW; (try dsimp only at hW); have hc := hW.2.1.bx.cell 1 _ rfl; clear hW; go_simp
  change wpAnyH _ _ _ _ _ _ _ ⟨#[_, _, _, _, _, _, _, _, .pointer (some ⟨h + 1, 0, none⟩), .pointer (some ⟨g, 0, none⟩), _, _, _, _, _, _, _, _, _, _, _, _, _, _, _, _, _, _, _, _, _, _, _, _, _, _, _, _, _, _, _, _, _, _, _, _, _, _, _, _, _, _, _, _, _, _, .pointer (some ⟨h + 1, 0, none⟩), _, .pointer (some ⟨g, 0, none⟩), .pointer (some ⟨g, 0, none⟩), .pointer (some ⟨g, 1, none⟩), .slice bo T.l.length bc, _, _, _, _, _, _, _, _, _, _, _, _, _, _, _, _, _, _, _, _, _, _], []⟩ _
  refine wpAnyH_ready (rs := [1]) (by kernel_rfl) (by simp) ?_
  refine AllReadyH.cons rfl (fun K hK => ?_) AllReadyH.nil
  go_simp
  refine (all14 h ps T _ hHeld.1).mono ?_
  rintro e u1 ⟨al, cl, rfl, E1, C⟩
  replace BB := hide (BB.out.trans (C.mono BB.out.size))
  have HE := hide E1
  refine hK.out _ _ ⟨hHeld.1.on C, hHeld.2.1.on C, hHeld.2.2.1.on C, hHeld.2.2.2.on C⟩ (fun hHeld => ?_)
  clear hK K C E1
  change wpAnyH _ _ _ _ _ _ _ ⟨#[_, _, _, _, _, _, _, _, .pointer (some ⟨h + 1, 0, none⟩), .pointer (some ⟨g, 0, none⟩), _, _, _, _, _, _, _, _, _, _, _, _, _, _, _, _, _, _, _, _, _, _, _, _, _, _, _, _, _, _, _, _, _, _, _, _, _, _, _, _, _, _, _, _, _, _, .pointer (some ⟨h + 1, 0, none⟩), .slice al T.l.length cl, .pointer (some ⟨g, 0, none⟩), .pointer (some ⟨g, 0, none⟩), .pointer (some ⟨g, 1, none⟩), .slice bo T.l.length bc, _, _, _, _, _, _, _, _, _, _, _, _, _, _, _, _, _, _, _, _, _, _], []⟩ _
  refine wpAnyH_ready (rs := [6]) (by kernel_rfl) (by simp) ?_
  refine AllReadyH.cons rfl (fun K hK => ?_) AllReadyH.nil
  go_simp
  refine (same13 _ _ _ _ _ _ _ _ HE.out hHeld.2.1.ets).mono ?_
  rintro e u2 ⟨rfl, C⟩
  replace BB := hide (BB.out.trans (C.mono BB.out.size))
  refine hK.out _ _ ⟨hHeld.1.on C, hHeld.2.1.on C, hHeld.2.2.1.on C, hHeld.2.2.2.on C⟩ (fun hHeld => ?_)
  clear hK K C HE
  change wpAnyH _ _ _ _ _ _ _ ⟨#[_, _, _, _, _, _, _, _, .pointer (some ⟨h + 1, 0, none⟩), .pointer (some ⟨g, 0, none⟩), _, _, _, _, _, _, _, _, _, _, _, _, _, _, _, _, _, _, _, _, _, _, _, _, _, _, _, _, _, _, _, _, _, _, _, _, _, _, _, _, _, _, _, _, _, _, .pointer (some ⟨h + 1, 0, none⟩), .slice al T.l.length cl, .pointer (some ⟨g, 0, none⟩), .pointer (some ⟨g, 0, none⟩), .pointer (some ⟨g, 1, none⟩), .slice bo T.l.length bc, .bool true, _, _, _, _, _, _, _, _, _, _, _, _, _, _, _, _, _, _, _, _, _], []⟩ _
  refine wpAnyH_take (i := 7) (v := .bool true) rfl (by kernel_rfl) (by kernel_rfl) (by kernel_rfl) (fun _ _ _ h => h) (Or.inl ⟨by rfl, ?_⟩) hHeld ?_
  · intro W hW; (try dsimp only at hW); go_simp
  change wpAnyH _ _ _ _ _ _ _ ⟨#[_, _, _, _, _, _, _, _, .pointer (some ⟨h + 1, 0, none⟩), .pointer (some ⟨g, 0, none⟩), _, _, _, _, _, .bool true, _, _, _, _, _, _, _, _, _, _, _, _, _, _, _, _, _, _, _, _, _, _, _, _, _, _, _, _, _, _, _, _, _, _, _, _, _, _, _, _, .pointer (some ⟨h + 1, 0, none⟩), .slice al T.l.length cl, .pointer (some ⟨g, 0, none⟩), .pointer (some ⟨g, 0, none⟩), .pointer (some ⟨g, 1, none⟩), .slice bo T.l.length bc, .bool true, _, _, _, _, _, _, _, _, _, _, _, _, _, _, _, _, _, _, _, _, _], []⟩ _
  refine wpAnyH_done (by kernel_rfl) ?_ _
  have PP := hide hHeld.1
  have RR := hide hHeld.2.1
  have NX := hide hHeld.2.2.1
  have NY := hide hHeld.2.2.2
  clear hHeld
  go_wp2_with fail
  refine wp_region_held_drew (S := fun w' => PT w' h ps T ∧ RT w' g (.slice bo T.l.length bc) T ∧ Box w' k3 (ecl x) ∧ Box w' k6 (ecl x)) (by kernel_rfl) ⟨PP.out.drew, RR.out.drew, NX.out.drew, NY.out.drew⟩ (fun hHeld => ?_)
  replace BB := hide (belowOn' BB.out)
  clear PP RR NX NY
  generalize u2.drew = v0 at *
  refine wpAnyH_take (i := 0) (v := .bool true) rfl (by kernel_rfl) (by kernel_rfl) (by kernel_rfl) (fun _ _ _ h => h) (Or.inl ⟨by rfl, ?_⟩) hHeld ?_
  · intro W hW; (try dsimp only at hW); go_simp
  change wpAnyH _ _ _ _ _ _ _ ⟨#[_, _, _, _, _, _, _, _, .pointer (some ⟨h + 1, 0, none⟩), .pointer (some ⟨g, 0, none⟩), _, .pointer (some ⟨k3, 0, none⟩), .bool is, .pointer (some ⟨k6, 0, none⟩), .bool is, .bool true, _, _, _, _, _, _, _, _, _, _, _, _, _, _, _, _, _, _, _, _, _, _, _, _, _, _, _, _, _, _, _, _, _, _, _, _, _, _, _, _, _, _, _, _, _, _, _, .bool true, _, _, _, _, _, _, _, _, _, _, _, _, _, _, _, _, _, _, _, _], []⟩ _
  refine wpAnyH_take (i := 1) (v := .bool true) rfl (by kernel_rfl) (by kernel_rfl) (by kernel_rfl) (fun _ _ _ h => h) (Or.inl ⟨by rfl, ?_⟩) hHeld ?_
  · intro W hW; (try dsimp only at hW); go_simp
  change wpAnyH _ _ _ _ _ _ _ ⟨#[_, _, _, _, _, _, _, _, .pointer (some ⟨h + 1, 0, none⟩), .pointer (some ⟨g, 0, none⟩), _, .pointer (some ⟨k3, 0, none⟩), .bool is, .pointer (some ⟨k6, 0, none⟩), .bool is, .bool true, _, _, _, _, _, _, _, _, _, _, _, _, _, _, _, _, _, _, _, _, _, _, _, _, _, _, _, _, _, _, _, _, _, _, _, _, _, _, _, _, _, _, _, _, _, _, _, .bool true, .bool true, _, _, _, _, _, _, _, _, _, _, _, _, _, _, _, _, _, _, _], []⟩ _
  refine wpAnyH_take (i := 2) (v := .agg (EC x)) rfl (by kernel_rfl) (by kernel_rfl) (by kernel_rfl) (fun _ _ _ h => h) (yieldsIf_load_mid (by rfl) 33 (.tmp 11) rfl k3 0 rfl ((ecl x)) _ (fun W hW => hW.2.2.1.at_) Try.underlying33 rfl Try.size33) hHeld ?_
  change wpAnyH _ _ _ _ _ _ _ ⟨#[_, _, _, _, _, _, _, _, .pointer (some ⟨h + 1, 0, none⟩), .pointer (some ⟨g, 0, none⟩), _, .pointer (some ⟨k3, 0, none⟩), .bool is, .pointer (some ⟨k6, 0, none⟩), .bool is, .bool true, _, _, _, _, _, _, _, _, _, _, _, _, _, _, _, _, _, _, _, _, _, _, _, _, _, _, _, _, _, _, _, _, _, _, _, _, _, _, _, _, _, _, _, _, _, _, _, .bool true, .bool true, .agg (EC x), _, _, _, _, _, _, _, _, _, _, _, _, _, _, _, _, _, _], []⟩ _
  refine wpAnyH_take (i := 3) (v := .agg (EC x)) rfl (by kernel_rfl) (by kernel_rfl) (by kernel_rfl) (fun _ _ _ h => h) (yieldsIf_load_mid (by rfl) 33 (.tmp 13) rfl k6 0 rfl ((ecl x)) _ (fun W hW => hW.2.2.2.at_) Try.underlying33 rfl Try.size33) hHeld ?_
  change wpAnyH _ _ _ _ _ _ _ ⟨#[_, _, _, _, _, _, _, _, .pointer (some ⟨h + 1, 0, none⟩), .pointer (some ⟨g, 0, none⟩), _, .pointer (some ⟨k3, 0, none⟩), .bool is, .pointer (some ⟨k6, 0, none⟩), .bool is, .bool true, _, _, _, _, _, _, _, _, _, _, _, _, _, _, _, _, _, _, _, _, _, _, _, _, _, _, _, _, _, _, _, _, _, _, _, _, _, _, _, _, _, _, _, _, _, _, _, .bool true, .bool true, .agg (EC x), .agg (EC x), _, _, _, _, _, _, _, _, _, _, _, _, _, _, _, _, _], []⟩ _
  refine wpAnyH_take (i := 4) (v := .bool true) rfl (by kernel_rfl) (by kernel_rfl) (by kernel_rfl) (fun _ _ _ h => h) (Or.inl ⟨by rfl, ?_⟩) hHeld ?_
  · intro W hW; (try dsimp only at hW); clear hW; have he := eqEnt x x; rw [(eqE_iff x x).2 rfl] at he; go_simp
  change wpAnyH _ _ _ _ _ _ _ ⟨#[_, _, _, _, _, _, _, _, .pointer (some ⟨h + 1, 0, none⟩), .pointer (some ⟨g, 0, none⟩), _, .pointer (some ⟨k3, 0, none⟩), .bool is, .pointer (some ⟨k6, 0, none⟩), .bool is, .bool true, _, _, _, _, _, _, _, _, _, _, _, _, _, _, _, _, _, _, _, _, _, _, _, _, _, _, _, _, _, _, _, _, _, _, _, _, _, _, _, _, _, _, _, _, _, _, _, .bool true, .bool true, .agg (EC x), .agg (EC x), .bool true, _, _, _, _, _, _, _, _, _, _, _, _, _, _, _, _], []⟩ _
  refine wpAnyH_take (i := 5) (v := .bool true) rfl (by kernel_rfl) (by kernel_rfl) (by kernel_rfl) (fun _ _ _ h => h) (Or.inl ⟨by rfl, ?_⟩) hHeld ?_
  · intro W hW; (try dsimp only at hW); go_simp
  change wpAnyH _ _ _ _ _ _ _ ⟨#[_, _, _, _, _, _, _, _, .pointer (some ⟨h + 1, 0, none⟩), .pointer (some ⟨g, 0, none⟩), _, .pointer (some ⟨k3, 0, none⟩), .bool is, .pointer (some ⟨k6, 0, none⟩), .bool is, .bool true, _, _, _, _, _, _, _, _, _, _, _, _, _, _, _, _, _, _, _, _, _, _, _, _, _, _, _, _, _, _, _, _, _, _, _, _, _, _, _, _, _, _, _, _, _, _, _, .bool true, .bool true, .agg (EC x), .agg (EC x), .bool true, .bool true, _, _, _, _, _, _, _, _, _, _, _, _, _, _, _], []⟩ _
  refine wpAnyH_take (i := 6) (v := .bool true) rfl (by kernel_rfl) (by kernel_rfl) (by kernel_rfl) (fun _ _ _ h => h) (Or.inl ⟨by rfl, ?_⟩) hHeld ?_
  · intro W hW; (try dsimp only at hW); go_simp
  change wpAnyH _ _ _ _ _ _ _ ⟨#[_, _, _, _, _, _, _, _, .pointer (some ⟨h + 1, 0, none⟩), .pointer (some ⟨g, 0, none⟩), _, .pointer (some ⟨k3, 0, none⟩), .bool is, .pointer (some ⟨k6, 0, none⟩), .bool is, .bool true, _, _, _, _, _, _, _, _, _, _, _, _, _, _, _, _, _, _, _, _, _, _, _, _, _, _, _, _, _, _, _, _, _, _, _, _, _, _, _, _, _, _, _, _, _, _, _, .bool true, .bool true, .agg (EC x), .agg (EC x), .bool true, .bool true, .bool true, _, _, _, _, _, _, _, _, _, _, _, _, _, _], []⟩ _
  refine wpAnyH_take (i := 7) (v := .bool is) rfl (by kernel_rfl) (by kernel_rfl) (by kernel_rfl) (fun _ _ _ h => h) (Or.inl ⟨by rfl, ?_⟩) hHeld ?_
  · intro W hW; (try dsimp only at hW); go_simp
  change wpAnyH _ _ _ _ _ _ _ ⟨#[_, _, _, _, _, _, _, _, .pointer (some ⟨h + 1, 0, none⟩), .pointer (some ⟨g, 0, none⟩), _, .pointer (some ⟨k3, 0, none⟩), .bool is, .pointer (some ⟨k6, 0, none⟩), .bool is, .bool true, _, _, _, _, _, _, _, _, _, _, _, _, _, _, _, _, _, _, _, _, _, _, _, _, _, _, _, _, _, _, _, _, _, _, _, _, _, _, _, _, _, _, _, _, _, _, _, .bool true, .bool true, .agg (EC x), .agg (EC x), .bool true, .bool true, .bool true, .bool is, _, _, _, _, _, _, _, _, _, _, _, _, _], []⟩ _
  refine wpAnyH_take (i := 8) (v := .bool is) rfl (by kernel_rfl) (by kernel_rfl) (by kernel_rfl) (fun _ _ _ h => h) (Or.inl ⟨by rfl, ?_⟩) hHeld ?_
  · intro W hW; (try dsimp only at hW); go_simp
  change wpAnyH _ _ _ _ _ _ _ ⟨#[_, _, _, _, _, _, _, _, .pointer (some ⟨h + 1, 0, none⟩), .pointer (some ⟨g, 0, none⟩), _, .pointer (some ⟨k3, 0, none⟩), .bool is, .pointer (some ⟨k6, 0, none⟩), .bool is, .bool true, _, _, _, _, _, _, _, _, _, _, _, _, _, _, _, _, _, _, _, _, _, _, _, _, _, _, _, _, _, _, _, _, _, _, _, _, _, _, _, _, _, _, _, _, _, _, _, .bool true, .bool true, .agg (EC x), .agg (EC x), .bool true, .bool true, .bool true, .bool is, .bool is, _, _, _, _, _, _, _, _, _, _, _, _], []⟩ _
  refine wpAnyH_take (i := 9) (v := .bool true) rfl (by kernel_rfl) (by kernel_rfl) (by kernel_rfl) (fun _ _ _ h => h) (Or.inl ⟨by rfl, ?_⟩) hHeld ?_
  · intro W hW; (try dsimp only at hW); go_simp
  change wpAnyH _ _ _ _ _ _ _ ⟨#[_, _, _, _, _, _, _, _, .pointer (some ⟨h + 1, 0, none⟩), .pointer (some ⟨g, 0, none⟩), _, .pointer (some ⟨k3, 0, none⟩), .bool is, .pointer (some ⟨k6, 0, none⟩), .bool is, .bool true, _, _, _, _, _, _, _, _, _, _, _, _, _, _, _, _, _, _, _, _, _, _, _, _, _, _, _, _, _, _, _, _, _, _, _, _, _, _, _, _, _, _, _, _, _, _, _, .bool true, .bool true, .agg (EC x), .agg (EC x), .bool true, .bool true, .bool true, .bool is, .bool is, .bool true, _, _, _, _, _, _, _, _, _, _, _], []⟩ _
  refine wpAnyH_take (i := 10) (v := .bool true) rfl (by kernel_rfl) (by kernel_rfl) (by kernel_rfl) (fun _ _ _ h => h) (Or.inl ⟨by rfl, ?_⟩) hHeld ?_
  · intro W hW; (try dsimp only at hW); go_simp
  change wpAnyH _ _ _ _ _ _ _ ⟨#[_, _, _, _, _, _, _, _, .pointer (some ⟨h + 1, 0, none⟩), .pointer (some ⟨g, 0, none⟩), _, .pointer (some ⟨k3, 0, none⟩), .bool is, .pointer (some ⟨k6, 0, none⟩), .bool is, .bool true, _, _, _, _, _, _, _, _, _, _, _, _, _, _, _, _, _, _, _, _, _, _, _, _, _, _, _, _, _, _, _, _, _, _, _, _, _, _, _, _, _, _, _, _, _, _, _, .bool true, .bool true, .agg (EC x), .agg (EC x), .bool true, .bool true, .bool true, .bool is, .bool is, .bool true, .bool true, _, _, _, _, _, _, _, _, _, _], []⟩ _
  refine wpAnyH_take (i := 11) (v := .bool true) rfl (by kernel_rfl) (by kernel_rfl) (by kernel_rfl) (fun _ _ _ h => h) (Or.inl ⟨by rfl, ?_⟩) hHeld ?_
  · intro W hW; (try dsimp only at hW); go_simp
  change wpAnyH _ _ _ _ _ _ _ ⟨#[_, _, _, _, _, _, _, _, .pointer (some ⟨h + 1, 0, none⟩), .pointer (some ⟨g, 0, none⟩), _, .pointer (some ⟨k3, 0, none⟩), .bool is, .pointer (some ⟨k6, 0, none⟩), .bool is, .bool true, _, _, _, _, _, _, _, _, _, _, _, _, _, _, _, _, _, _, _, _, _, _, _, _, _, _, _, _, _, _, _, _, _, _, _, _, _, _, _, _, _, _, _, _, _, _, _, .bool true, .bool true, .agg (EC x), .agg (EC x), .bool true, .bool true, .bool true, .bool is, .bool is, .bool true, .bool true, .bool true, _, _, _, _, _, _, _, _, _], []⟩ _
  refine wpAnyH_take (i := 12) (v := .pointer (some ⟨h + 1, 0, none⟩)) rfl (by kernel_rfl) (by kernel_rfl) (by kernel_rfl) (fun _ _ _ h => h) (Or.inl ⟨by rfl, ?_⟩) hHeld ?_
  · intro W hW; (try dsimp only at hW); go_simp
  change wpAnyH _ _ _ _ _ _ _ ⟨#[_, _, _, _, _, _, _, _, .pointer (some ⟨h + 1, 0, none⟩), .pointer (some ⟨g, 0, none⟩), _, .pointer (some ⟨k3, 0, none⟩), .bool is, .pointer (some ⟨k6, 0, none⟩), .bool is, .bool true, _, _, _, _, _, _, _, _, _, _, _, _, _, _, _, _, _, _, _, _, _, _, _, _, _, _, _, _, _, _, _, _, _, _, _, _, _, _, _, _, _, _, _, _, _, _, _, .bool true, .bool true, .agg (EC x), .agg (EC x), .bool true, .bool true, .bool true, .bool is, .bool is, .bool true, .bool true, .bool true, .pointer (some ⟨h + 1, 0, none⟩), _, _, _, _, _, _, _, _], []⟩ _
  refine wpAnyH_take (i := 14) (v := .pointer (some ⟨g, 0, none⟩)) rfl (by kernel_rfl) (by kernel_rfl) (by kernel_rfl) (fun _ _ _ h => h) (Or.inl ⟨by rfl, ?_⟩) hHeld ?_
  · intro W hW; (try dsimp only at hW); go_simp
  change wpAnyH _ _ _ _ _ _ _ ⟨#[_, _, _, _, _, _, _, _, .pointer (some ⟨h + 1, 0, none⟩), .pointer (some ⟨g, 0, none⟩), _, .pointer (some ⟨k3, 0, none⟩), .bool is, .pointer (some ⟨k6, 0, none⟩), .bool is, .bool true, _, _, _, _, _, _, _, _, _, _, _, _, _, _, _, _, _, _, _, _, _, _, _, _, _, _, _, _, _, _, _, _, _, _, _, _, _, _, _, _, _, _, _, _, _, _, _, .bool true, .bool true, .agg (EC x), .agg (EC x), .bool true, .bool true, .bool true, .bool is, .bool is, .bool true, .bool true, .bool true, .pointer (some ⟨h + 1, 0, none⟩), _, .pointer (some ⟨g, 0, none⟩), _, _, _, _, _, _], []⟩ _
  refine wpAnyH_take (i := 15) (v := .pointer (some ⟨g, 0, none⟩)) rfl (by kernel_rfl) (by kernel_rfl) (by kernel_rfl) (fun _ _ _ h => h) (Or.inl ⟨by rfl, ?_⟩) hHeld ?_
  · intro W hW; (try dsimp only at hW); go_simp
  change wpAnyH _ _ _ _ _ _ _ ⟨#[_, _, _, _, _, _, _, _, .pointer (some ⟨h + 1, 0, none⟩), .pointer (some ⟨g, 0, none⟩), _, .pointer (some ⟨k3, 0, none⟩), .bool is, .pointer (some ⟨k6, 0, none⟩), .bool is, .bool true, _, _, _, _, _, _, _, _, _, _, _, _, _, _, _, _, _, _, _, _, _, _, _, _, _, _, _, _, _, _, _, _, _, _, _, _, _, _, _, _, _, _, _, _, _, _, _, .bool true, .bool true, .agg (EC x), .agg (EC x), .bool true, .bool true, .bool true, .bool is, .bool is, .bool true, .bool true, .bool true, .pointer (some ⟨h + 1, 0, none⟩), _, .pointer (some ⟨g, 0, none⟩), .pointer (some ⟨g, 0, none⟩), _, _, _, _, _], []⟩ _
  refine wpAnyH_take (i := 16) (v := .pointer (some ⟨g, 1, none⟩)) rfl (by kernel_rfl) (by kernel_rfl) (by kernel_rfl) (fun _ _ _ h => h) (Or.inl ⟨by rfl, ?_⟩) hHeld ?_
  · intro W hW; (try dsimp only at hW); go_simp
  change wpAnyH _ _ _ _ _ _ _ ⟨#[_, _, _, _, _, _, _, _, .pointer (some ⟨h + 1, 0, none⟩), .pointer (some ⟨g, 0, none⟩), _, .pointer (some ⟨k3, 0, none⟩), .bool is, .pointer (some ⟨k6, 0, none⟩), .bool is, .bool true, _, _, _, _, _, _, _, _, _, _, _, _, _, _, _, _, _, _, _, _, _, _, _, _, _, _, _, _, _, _, _, _, _, _, _, _, _, _, _, _, _, _, _, _, _, _, _, .bool true, .bool true, .agg (EC x), .agg (EC x), .bool true, .bool true, .bool true, .bool is, .bool is, .bool true, .bool true, .bool true, .pointer (some ⟨h + 1, 0, none⟩), _, .pointer (some ⟨g, 0, none⟩), .pointer (some ⟨g, 0, none⟩), .pointer (some ⟨g, 1, none⟩), _, _, _, _], []⟩ _
  refine wpAnyH_take (i := 17) (v := .slice bo T.l.length bc) rfl (by kernel_rfl) (by kernel_rfl) (by kernel_rfl) (fun _ _ _ h => h) (Or.inl ⟨by rfl, ?_⟩) hHeld ?_
  · intro W hW; (try dsimp only at hW); have hc := hW.2.1.bx.cell 1 _ rfl; clear hW; go_simp
  change wpAnyH _ _ _ _ _ _ _ ⟨#[_, _, _, _, _, _, _, _, .pointer (some ⟨h + 1, 0, none⟩), .pointer (some ⟨g, 0, none⟩), _, .pointer (some ⟨k3, 0, none⟩), .bool is, .pointer (some ⟨k6, 0, none⟩), .bool is, .bool true, _, _, _, _, _, _, _, _, _, _, _, _, _, _, _, _, _, _, _, _, _, _, _, _, _, _, _, _, _, _, _, _, _, _, _, _, _, _, _, _, _, _, _, _, _, _, _, .bool true, .bool true, .agg (EC x), .agg (EC x), .bool true, .bool true, .bool true, .bool is, .bool is, .bool true, .bool true, .bool true, .pointer (some ⟨h + 1, 0, none⟩), _, .pointer (some ⟨g, 0, none⟩), .pointer (some ⟨g, 0, none⟩), .pointer (some ⟨g, 1, none⟩), .slice bo T.l.length bc, _, _, _], []⟩ _
  refine wpAnyH_take (i := 18) (v := .int .i64 (T.l.length : Int)) rfl (by kernel_rfl) (by kernel_rfl) (by kernel_rfl) (fun _ _ _ h => h) (Or.inl ⟨by rfl, ?_⟩) hHeld ?_
  · intro W hW; (try dsimp only at hW); go_simp
  change wpAnyH _ _ _ _ _ _ _ ⟨#[_, _, _, _, _, _, _, _, .pointer (some ⟨h + 1, 0, none⟩), .pointer (some ⟨g, 0, none⟩), _, .pointer (some ⟨k3, 0, none⟩), .bool is, .pointer (some ⟨k6, 0, none⟩), .bool is, .bool true, _, _, _, _, _, _, _, _, _, _, _, _, _, _, _, _, _, _, _, _, _, _, _, _, _, _, _, _, _, _, _, _, _, _, _, _, _, _, _, _, _, _, _, _, _, _, _, .bool true, .bool true, .agg (EC x), .agg (EC x), .bool true, .bool true, .bool true, .bool is, .bool is, .bool true, .bool true, .bool true, .pointer (some ⟨h + 1, 0, none⟩), _, .pointer (some ⟨g, 0, none⟩), .pointer (some ⟨g, 0, none⟩), .pointer (some ⟨g, 1, none⟩), .slice bo T.l.length bc, .int .i64 (T.l.length : Int), _, _], []⟩ _
  refine wpAnyH_ready (rs := [13]) (by kernel_rfl) (by simp) ?_
  refine AllReadyH.cons rfl (fun K hK => ?_) AllReadyH.nil
  go_simp
  refine (len15 h ps T _ hHeld.1).mono ?_
  rintro e u3 ⟨rfl, rfl⟩
  refine hK.out _ _ hHeld (fun hHeld => ?_)
  clear hK K
  change wpAnyH _ _ _ _ _ _ _ ⟨#[_, _, _, _, _, _, _, _, .pointer (some ⟨h + 1, 0, none⟩), .pointer (some ⟨g, 0, none⟩), _, .pointer (some ⟨k3, 0, none⟩), .bool is, .pointer (some ⟨k6, 0, none⟩), .bool is, .bool true, _, _, _, _, _, _, _, _, _, _, _, _, _, _, _, _, _, _, _, _, _, _, _, _, _, _, _, _, _, _, _, _, _, _, _, _, _, _, _, _, _, _, _, _, _, _, _, .bool true, .bool true, .agg (EC x), .agg (EC x), .bool true, .bool true, .bool true, .bool is, .bool is, .bool true, .bool true, .bool true, .pointer (some ⟨h + 1, 0, none⟩), .int .i64 (T.l.length : Int), .pointer (some ⟨g, 0, none⟩), .pointer (some ⟨g, 0, none⟩), .pointer (some ⟨g, 1, none⟩), .slice bo T.l.length bc, .int .i64 (T.l.length : Int), _, _], []⟩ _
  refine wpAnyH_take (i := 19) (v := .bool true) rfl (by kernel_rfl) (by kernel_rfl) (by kernel_rfl) (fun _ _ _ h => h) (Or.inl ⟨by rfl, ?_⟩) hHeld ?_
  · intro W hW; (try dsimp only at hW); go_simp
  change wpAnyH _ _ _ _ _ _ _ ⟨#[_, _, _, _, _, _, _, _, .pointer (some ⟨h + 1, 0, none⟩), .pointer (some ⟨g, 0, none⟩), _, .pointer (some ⟨k3, 0, none⟩), .bool is, .pointer (some ⟨k6, 0, none⟩), .bool is, .bool true, _, _, _, _, _, _, _, _, _, _, _, _, _, _, _, _, _, _, _, _, _, _, _, _, _, _, _, _, _, _, _, _, _, _, _, _, _, _, _, _, _, _, _, _, _, _, _, .bool true, .bool true, .agg (EC x), .agg (EC x), .bool true, .bool true, .bool true, .bool is, .bool is, .bool true, .bool true, .bool true, .pointer (some ⟨h + 1, 0, none⟩), .int .i64 (T.l.length : Int), .pointer (some ⟨g, 0, none⟩), .pointer (some ⟨g, 0, none⟩), .pointer (some ⟨g, 1, none⟩), .slice bo T.l.length bc, .int .i64 (T.l.length : Int), .bool true, _], []⟩ _
  refine wpAnyH_take (i := 20) (v := .bool true) rfl (by kernel_rfl) (by kernel_rfl) (by kernel_rfl) (fun _ _ _ h => h) (Or.inl ⟨by rfl, ?_⟩) hHeld ?_
  · intro W hW; (try dsimp only at hW); go_simp
  change wpAnyH _ _ _ _ _ _ _ ⟨#[_, _, _, _, _, _, _, _, .pointer (some ⟨h + 1, 0, none⟩), .pointer (some ⟨g, 0, none⟩), _, .pointer (some ⟨k3, 0, none⟩), .bool is, .pointer (some ⟨k6, 0, none⟩), .bool is, .bool true, _, _, _, _, _, _, _, _, _, _, _, _, _, _, _, _, _, _, _, _, _, _, _, _, _, _, _, _, _, _, _, _, _, _, _, _, _, _, _, _, _, _, _, _, _, _, _, .bool true, .bool true, .agg (EC x), .agg (EC x), .bool true, .bool true, .bool true, .bool is, .bool is, .bool true, .bool true, .bool true, .pointer (some ⟨h + 1, 0, none⟩), .int .i64 (T.l.length : Int), .pointer (some ⟨g, 0, none⟩), .pointer (some ⟨g, 0, none⟩), .pointer (some ⟨g, 1, none⟩), .slice bo T.l.length bc, .int .i64 (T.l.length : Int), .bool true, .bool true], []⟩ _
  refine wpAnyH_take (i := 21) (v := .bool true) rfl (by kernel_rfl) (by kernel_rfl) (by kernel_rfl) (fun _ _ _ h => h) (Or.inl ⟨by rfl, ?_⟩) hHeld ?_
  · intro W hW; (try dsimp only at hW); go_simp
  change wpAnyH _ _ _ _ _ _ _ ⟨#[_, _, _, _, _, _, .bool true, _, .pointer (some ⟨h + 1, 0, none⟩), .pointer (some ⟨g, 0, none⟩), _, .pointer (some ⟨k3, 0, none⟩), .bool is, .pointer (some ⟨k6, 0, none⟩), .bool is, .bool true, _, _, _, _, _, _, _, _, _, _, _, _, _, _, _, _, _, _, _, _, _, _, _, _, _, _, _, _, _, _, _, _, _, _, _, _, _, _, _, _, _, _, _, _, _, _, _, .bool true, .bool true, .agg (EC x), .agg (EC x), .bool true, .bool true, .bool true, .bool is, .bool is, .bool true, .bool true, .bool true, .pointer (some ⟨h + 1, 0, none⟩), .int .i64 (T.l.length : Int), .pointer (some ⟨g, 0, none⟩), .pointer (some ⟨g, 0, none⟩), .pointer (some ⟨g, 1, none⟩), .slice bo T.l.length bc, .int .i64 (T.l.length : Int), .bool true, .bool true], []⟩ _
  refine wpAnyH_done (by kernel_rfl) ?_ _
  clear hHeld
  go_wp2
  go_ret
  exact ⟨rfl, BB.out⟩
end
theorem scriptsWalk (k : Int) (ao : Option Addr) (n c : Nat) (ss : List St) (s : St) (w : World) (_ : I64 k) (hS : Sts w w.heap.size ao n c ss) (hm : Mok s.m) :
    Calls Try.prog 3 #[.int .i64 k, .slice ao n c, .agg (SC s)] w fun e w' => e = .returned (.bool true) ∧ Below w.heap.size w w' := by
  by_cases hp : 1 ≤ k ∧ k ≤ 1024
  · obtain ⟨q, rfl⟩ := Int.eq_ofNat_of_zero_le (show 0 ≤ k by omega)
    exact scriptsYes q ao n c ss s w (by omega) hS hm
  · exact scriptsNo k ao n c s w hp
set_option maxRecDepth 100000 in
set_option maxHeartbeats 2000000 in
theorem fdbScriptslifted (os : Os) (started : os.Started) (H : Type) (enc : TypeId × Value → H) :
    ReturnsInHanded {} Try.checked os 3 .any (Rows.fdbScriptsSpec.pre6 enc Try.prog Try.f3 Rows.fdbScriptsRow.domain false) (Rows.fdbScriptsSpec.post enc Try.prog Try.f3 false true false false) := by
  refine returnsInHanded_of_change (C := Try.checked) own started (by kernel_rfl) Try.func3
    (ChangeSpec.witness6 (enc := enc) (C := Try.checked) false ⟨#[], #[.int .i64 0, .slice none 0 0, .agg #[.int .i64 0, .int .i64 0, .int .u8 0, .int .u8 0, .int .u8 0, .int .u8 0, .int .u8 0, .int .u8 0, .int .i64 0, .int .i64 0, .int .i64 0]], []⟩ 8 (by kernel_rfl) (by kernel_rfl) (by kernel_rfl) (by kernel_rfl)) ?_
  intro W base args ds gs before hval0 hW _ _
  have hval : ∀ (j : Nat) t v, Try.f3.params[j]? = some t → args[j]? = some v → Value.okWide Try.prog W .any base t v := hval0
  have hW' := hW
  obtain ⟨p, q, hA0, hV, rfl, _, _⟩ := hW
  have hA : DataW.TrodAll enc Try.prog W 0 (fun _ => true) true Try.f3.params.toList args.toList ds p := hA0
  rw [Try.params3] at hA hval
  obtain ⟨v0, vs0, d0, ds0, p0, q0, hargs, rfl, rfl, h0, r0⟩ := trodAll_cons hA
  obtain ⟨v1, vs1, d1, ds1, p1, q1, rfl, rfl, rfl, h1, r1⟩ := trodAll_cons r0
  obtain ⟨v2, vs2, d2, ds2, p2, q2, rfl, rfl, rfl, h2, r2⟩ := trodAll_cons r1
  obtain ⟨rfl, rfl, rfl⟩ := trodAll_nil r2
  obtain rfl : args = #[v0, v1, v2] := by cases args; simp_all
  obtain ⟨rfl, rfl⟩ := trodVars_none hV
  have h0k := h0
  obtain ⟨x0, rfl, hx0⟩ := open_num (hval 0 3 v0 rfl rfl) h0
  have h1k := h1
  obtain ⟨ao1, n1, c1, ss1, rfl, hs1⟩ := open_steps (hval 1 22 v1 rfl rfl) h1
  have h2k := h2
  obtain ⟨s2, rfl, hs2⟩ := open_step (hval 2 26 v2 rfl rfl) h2
  clear hA0 hval0
  simp only [List.append_nil] at hW'
  have hlt : ∀ x ∈ p0 ++ p1 ++ p2, x.block < W.heap.size := fun x hx => by simpa using hW'.lt x (by simpa using hx)
  refine (scriptsWalk x0 ao1 n1 c1 ss1 s2 W hx0 hs1 hs2).mono fun e W' ⟨he, hbl⟩ => ?_
  subst he
  exact ⟨_, rfl, _, _, _, [], _, [], hW', (trodAll_cons_mk (shut_bool Try.underlying4 _) trodAll_mk0), (trodAll_cons_mk (Below.trod Try.laidOut (by kernel_rfl) (of_decide_eq_true (by kernel_rfl)) h0k hbl (fun x hx => hlt x (by simp [hx]))) (trodAll_cons_mk (Below.trod Try.laidOut (by kernel_rfl) (of_decide_eq_true (by kernel_rfl)) h1k hbl (fun x hx => hlt x (by simp [hx]))) (trodAll_cons_mk (Below.trod Try.laidOut (by kernel_rfl) (of_decide_eq_true (by kernel_rfl)) h2k hbl (fun x hx => hlt x (by simp [hx]))) trodAll_mk0))), rfl, hbl.frame _, fun h => by cases h⟩

theorem fdbScripts_holds : Rows.FdbScriptsSaid :=
  OpenClaim.holds_of_wide 3 Try.f3 rfl rfl rfl rfl rfl rfl rfl ⟨rfl, rfl, rfl, rfl, rfl⟩ rfl rfl rfl rfl rfl (by kernel_rfl) Try.func3 (by kernel_rfl)
    (of_decide_eq_true (by kernel_rfl)) (by unfold Func.isWrapper; first | (rw [if_pos (by decide +kernel)]; kernel_rfl) | (rw [if_neg (by decide +kernel)]; exact ⟨rfl, rfl⟩))
    (fun os started H enc _ => fdbScriptslifted os started H enc)

#print axioms fdbScripts_holds
end Go.Proofs.Ytbpkdkniiggcpaa
