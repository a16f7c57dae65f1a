/- FlowAgain: for all steps and any step the law answers true, and the arguments read behind the call as they read before. No condition. -/
import Derived.Test.YtgpdjfaklcmoiaaGreatM24
import Derived.Test.YtgpdjfaklcmoiaaGreatM15
namespace Go.Proofs.YtgpdjfaklcmoiaaGreat
open Go.ChangeShapes Go.WideShapes Go.ChangeAt Go.RowKit Go.PlainAid

set_option maxRecDepth 100000 in
set_option maxHeartbeats 8000000 in
theorem flowAgainWalk (ao : Option Addr) (n c : Nat) (xs : List Stp) (s : Stp) (w : World) (H : StsI w ao n c xs) (G : Stq w s) :
    Calls Tryz.prog 9 #[.slice ao n c, .agg (stc s).toArray] w fun e w' => e = .returned (.bool true) ∧ Below w.heap.size w w' := by
  have b0 := below_alloc w (.cells (SPC s) 40)
  have HX := hide (show Box (w.alloc (.cells (SPC s) 40)) w.heap.size (stc s) from Box.new w (stc s) 40)
  have HB := hide b0
  have HS := hide (H.on b0)
  have HG := hide (G.on b0)
  have hsz := World.size_alloc w (.cells (SPC s) 40)
  have HZ : Hid (w.heap.size + 1 ≤ (w.alloc (.cells (SPC s) 40)).heap.size) := hide (by rw [hsz]; exact Nat.le_refl _)
  have HYL : Hid (∀ b o, s.a = some ⟨b, o, none⟩ → 0 < s.k → b < w.heap.size) := hide G.byt.lt
  clear b0 H G hsz
  go_enter Tryz.func9, Tryz.ntmps9
  go_wp2_with fail
  refine (awakeQ _).mono ?_
  rintro e w1 ⟨rfl, bb⟩
  replace HX := hide (HX.out.on bb)
  replace HS := hide (HS.out.on bb)
  replace HG := hide (HG.out.on bb)
  replace HB := hide (belowOn HB.out bb)
  replace HZ := hide (Nat.le_trans HZ.out bb.size)
  clear bb
  go_wp2_with fail
  refine (fewR ao n c xs _ HS.out.s).mono ?_
  rintro e w2 ⟨rfl, hw⟩
  obtain rfl : w1 = w2 := hw.symm
  go_wp2_with fail
  refine (madeQ ao n c xs _ HS.out).mono ?_
  rintro e w3 ⟨P, rfl, hP, hlo, bb⟩
  have HP := hide hP
  have HLO : Hid (w.heap.size + 1 ≤ P.lo) := hide (Nat.le_trans HZ.out hlo)
  replace HX := hide (HX.out.on bb)
  replace HS := hide (HS.out.on bb)
  replace HG := hide (HG.out.on bb)
  replace HB := hide (belowOn HB.out bb)
  have HW13 := hide bb.size
  clear hP hlo
  go_wp2_with fail
  refine (madeQ ao n c xs _ HS.out).mono ?_
  rintro e w4 ⟨P2, rfl, hP2, hlo2, bb⟩
  have HP2 := hide hP2
  have HLO2 : Hid (P.hi ≤ P2.lo) := hide (Nat.le_trans HP.out.lt.2.2.2.2 hlo2)
  replace HP := hide (HP.out.on bb)
  replace HX := hide (HX.out.on bb)
  replace HG := hide (HG.out.on bb)
  replace HB := hide (belowOn HB.out bb)
  clear hP2 hlo2 bb HS
  have c21 := HX.out.cell 21 _ rfl
  rcases Bool.eq_false_or_eq_true (fewB xs) with hf | hf
  rotate_left
  · rw [hf]
    go_wp2
    go_ret
    exact ⟨rfl, HB.out⟩
  rw [hf]
  clear hf
  by_cases hk : s.k ≤ 2000
  rotate_left
  · have hk2 : (2000 : Int) < (s.k : Int) := by omega
    go_wp2
    go_ret
    exact ⟨rfl, HB.out⟩
  have hk2 : ¬ (2000 : Int) < (s.k : Int) := by omega
  clear hk
  have HCB := hide (mkB_cb xs)
  generalize mkB xs = B0 at *
  have c1 := HX.out.cell 1 _ rfl
  have c22 := HX.out.cell 22 _ rfl
  have hq1 := fun z (h : PB z P B0) (y : Byt z s.a s.k s.c s.f.bs) => takeQ P B0 s.p s.f s.a s.k s.c s.t z h y HG.out.md HG.out.ms (cb_ok HCB.out (by omega)).1 (cb_ok HCB.out (by omega)).2.1 (fun b o e hp => Or.inl (by have := HYL.out b o e hp; have := HLO.out; omega))
  have hq2 := fun z (h : PB z P2 B0) (y : Byt z s.a s.k s.c s.f.bs) => takeQ P2 B0 s.p s.f s.a s.k s.c s.t z h y HG.out.md HG.out.ms (cb_ok HCB.out (by omega)).1 (cb_ok HCB.out (by omega)).2.1 (fun b o e hp => Or.inl (by have := HYL.out b o e hp; have := HLO.out; have := HLO2.out; have := HP.out.lt; omega))
  unfold WyQ at hq1 hq2
  have HY := hide HG.out.byt
  generalize tk B0 s.p s.f s.t = T at *
  obtain ⟨⟨C, V, TT, oo⟩, B1⟩ := T
  dsimp only at *
  have HQ1 := hide hq1
  have HQ2 := hide hq2
  clear hq1 hq2 HG HCB
  have tk1 : True := trivial
  go_wp2_with (first | (have _t := tk1; refine wpl_sf (.tmp 58) rfl HX.out ?_ ?_ ?_; rfl; rfl; clear tk1))
  refine (HQ1.out _ HP.out HY.out).mono ?_
  rintro e z1 ⟨ao1, xs1, cc1, rfl, hO, hm, hP1, hM, hown⟩
  have hlt := HP.out.lt
  have hlt2 := HP2.out.lt
  have hs4 := hM.size
  replace HB := hide (HB.out.trans (hM.below (N := P.lo) (by omega) |>.mono (show w.heap.size ≤ P.lo by have := HLO.out; omega)))
  replace HX := hide (HX.out.block (hM.block _ HX.out.lt (Or.inl (by have := HLO.out; omega))))
  replace HY := hide (byt_keep HY.out (fun b o _ e hp hc => hM.block b (World.block_lt_of_cell? _ _ hc) (Or.inl (by have := HYL.out b o e hp; have := HLO.out; omega))))
  replace HP2 := hide (HP2.out.keep (fun i h1 h2 => hM.block i (by omega) (Or.inr (by have := HLO2.out; omega))))
  replace HP := hide hP1
  have HO1 := hide hO
  have HM1 := hide hm
  have HOW1 : Hid (OwnO w4 ao1 xs1) := hide hown
  have HW4 : Hid (P2.hi ≤ w4.heap.size ∧ w4.heap.size ≤ z1.heap.size) := hide ⟨by omega, hs4⟩
  have bz := below_alloc z1 (.cells (wcl 0 0 0 (.slice none 0 0)).toArray 50)
  have K0 := Box.new z1 (wcl 0 0 0 (.slice none 0 0)) 50
  have HBZ := hide bz
  have HK0 := hide K0
  clear hO hm hP1 hM hown hlt hlt2 hs4 bz K0 HQ1
  have tk2 : True := trivial
  have tk3 : True := trivial
  go_wp2_with (first | (have _t := tk2; refine wpl_putW C V TT ao1 xs1.length cc1 _ (.tmp 11) (.tmp 62) rfl HK0.out rfl ?_ ?_ ?_ ?_; rfl; rfl; rfl; clear tk2; intro z9 K9 G9; have HK9 := hide K9; have HB9 := hide (below_grown HBZ.out G9 (Nat.le_refl _) HBZ.out.size); have HX9 := hide (HX.out.on HB9.out); have c1 := HX9.out.cell 1 _ rfl; have c22 := HX9.out.cell 22 _ rfl; clear K9 G9) | (have _t := tk3; refine wpl_sf (.tmp 66) rfl HX9.out ?_ ?_ ?_; rfl; rfl; clear tk3))
  replace HP := hide (HP.out.on HB9.out)
  replace HP2 := hide (HP2.out.on HB9.out)
  replace HY := hide (HY.out.on HB9.out)
  replace HB := hide (belowOn HB.out HB9.out)
  replace HO1 := hide (HO1.out.on HB9.out)
  have HS9 := hide HB9.out.size
  obtain ⟨k11, hk11⟩ : ∃ k11, k11 = z1.heap.size := ⟨_, rfl⟩
  rw [← hk11] at HK9
  rw [← hk11]
  have HKE := hide hk11
  clear hk11 HX HX9 HB9 HBZ HK0 c1 c22 c21
  refine (HQ2.out _ HP2.out HY.out).mono ?_
  rintro e z2 ⟨ao2, xs2, cc2, rfl, hO, hm, hP1, hM, hown⟩
  have hlt := HP.out.lt
  have hlt2 := HP2.out.lt
  have h2 := HLO2.out
  have hw4 := HW4.out
  replace HB := hide (HB.out.trans (hM.below (N := P2.lo) (by omega) |>.mono (show w.heap.size ≤ P2.lo by have := HLO.out; omega)))
  replace HP := hide (HP.out.keep (fun i h1 h3 => hM.block i (by omega) (Or.inl (by omega))))
  replace HP2 := hide hP1
  replace HK9 := hide (HK9.out.block (hM.block _ HK9.out.lt (Or.inr (by have := HKE.out; omega))))
  have HO2 := hide hO
  replace HO1 := hide (ots_mid HO1.out hM (fun b o e => by have := HOW1.out.1 b o e; omega) (fun x hx b o e hp => by have := HOW1.out.2 x hx b o e hp; omega))
  have HM2 : Hid (xs1.map Ow.o = xs2.map Ow.o) := hide (by rw [HM1.out, hm])
  have bz := below_alloc z2 (.cells (wcl 0 0 0 (.slice none 0 0)).toArray 50)
  have K0 := Box.new z2 (wcl 0 0 0 (.slice none 0 0)) 50
  have HBZ := hide bz
  have HK0 := hide K0
  clear hO hm hP1 hM hown hlt hlt2 h2 hw4 bz K0 HQ2 HOW1 HW4 HM1 HY
  have tk4 : True := trivial
  have tk5 : True := trivial
  have tk6 : True := trivial
  go_wp2_with (first | (have _t := tk4; refine wpl_putW C V TT ao2 xs2.length cc2 _ (.tmp 12) (.tmp 70) rfl HK0.out rfl ?_ ?_ ?_ ?_; rfl; rfl; rfl; clear tk4; intro z8 K8 G8; have HK8 := hide K8; have HB8 := hide (below_grown HBZ.out G8 (Nat.le_refl _) HBZ.out.size); have HK9b := hide (HK9.out.on HB8.out); clear K8 G8) | (have _t := tk5; refine wpl_wayL (.tmp 11) rfl HK9b.out rfl rfl ?_; clear tk5) | (have _t := tk6; refine wpl_wayL (.tmp 12) rfl HK8.out rfl rfl ?_; clear tk6))
  refine (sameR C V TT ao1 ao2 _ _ _ _ xs1 xs2 _ (HO1.out.on HB8.out) (HO2.out.on HB8.out) HM2.out).mono ?_
  rintro e z7 ⟨rfl, bb⟩
  have BB := HB8.out.trans (bb.mono HB8.out.size)
  replace HP := hide (HP.out.on BB)
  replace HP2 := hide (HP2.out.on BB)
  replace HB := hide (belowOn HB.out BB)
  clear bb BB HO1 HO2 HM2 HK9 HK9b HK8 HB8 HBZ HK0
  go_wp2_with fail
  refine (countsQ P B1 _ HP.out).mono ?_
  rintro e z6 ⟨rfl, bb⟩
  replace HP := hide (HP.out.on bb)
  replace HP2 := hide (HP2.out.on bb)
  replace HB := hide (belowOn HB.out bb)
  clear bb
  go_wp2_with fail
  refine (countsQ P2 B1 _ HP2.out).mono ?_
  rintro e z5 ⟨rfl, bb⟩
  replace HP := hide (HP.out.on bb)
  replace HP2 := hide (HP2.out.on bb)
  replace HB := hide (belowOn HB.out bb)
  clear bb
  have he9 := eq9 B1.ct HP.out.wf.cl
  go_wp2_with (go_at_call 23; refine (stationsQ P B1 _ HP.out).mono ?_; rintro e w' ⟨rfl, hw⟩; obtain rfl : z5 = w' := hw.symm)
  clear he9
  obtain ⟨ps, hpf⟩ := HP.out.pf
  refine (all14 P.hf ps B1.F _ hpf).mono ?_
  rintro e z4 ⟨ae, ce, rfl, hE, bb⟩
  have HE1 := hide hE
  replace HP2 := hide (HP2.out.on bb)
  replace HB := hide (belowOn HB.out bb)
  clear bb hE hpf
  go_wp2_with (go_at_call 23; refine (stationsQ P2 B1 _ HP2.out).mono ?_; rintro e w' ⟨rfl, hw⟩; obtain rfl : z4 = w' := hw.symm)
  obtain ⟨ps2, hpf⟩ := HP2.out.pf
  refine (all14 P2.hf ps2 B1.F _ hpf).mono ?_
  rintro e z3 ⟨ae2, ce2, rfl, hE, bb⟩
  have HE2 := hide hE
  replace HE1 := hide (HE1.out.on bb)
  replace HB := hide (belowOn HB.out bb)
  clear bb hE hpf
  go_wp2_with fail
  refine (same13 _ _ _ _ _ _ _ _ HE1.out HE2.out).mono ?_
  rintro e z2 ⟨rfl, bb⟩
  replace HB := hide (belowOn HB.out bb)
  clear bb HE1 HE2
  go_wp2
  go_ret
  exact ⟨rfl, HB.out⟩
set_option maxRecDepth 100000 in
set_option maxHeartbeats 2000000 in
theorem flowAgainlifted (os : Os) (started : os.Started) (H : Type) (enc : TypeId × Value → H) :
    ReturnsInHanded {} Tryz.checked os 9 .any (Rows.flowAgainSpec.pre6 enc Tryz.prog Tryz.f9 Rows.flowAgainRow.domain false) (Rows.flowAgainSpec.post enc Tryz.prog Tryz.f9 false true false false) := by
  refine returnsInHanded_of_change (C := Tryz.checked) own started (by kernel_rfl) Tryz.func9
    (ChangeSpec.witness6 (enc := enc) (C := Tryz.checked) false ⟨#[], #[.slice none 0 0, .agg #[.int .i64 0, .int .i64 0, .int .i64 0, .int .i64 0, .bool false, .int .u8 0, .int .u8 0, .int .u8 0, .int .u8 0, .int .u8 0, .int .u8 0, .int .u8 0, .int .u8 0, .int .u8 0, .int .u8 0, .int .u8 0, .int .u8 0, .bool false, .int .i64 0, .int .i64 0, .int .i64 0, .slice none 0 0, .int .i64 0]], []⟩ 8 (by kernel_rfl) (by kernel_rfl) (by kernel_rfl) (by kernel_rfl)) ?_
  intro W base args ds gs before hval0 hW _ _
  have hval : ∀ (j : Nat) t v, Tryz.f9.params[j]? = some t → args[j]? = some v → Value.okWide Tryz.prog W .any base t v := hval0
  have hW' := hW
  obtain ⟨p, q, hA0, hV, rfl, _, _⟩ := hW
  have hA : DataW.TrodAll enc Tryz.prog W 0 (fun _ => true) true Tryz.f9.params.toList args.toList ds p := hA0
  rw [Tryz.params9] at hA hval
  obtain ⟨v0, vs0, d0, ds0, p0, q0, hargs, rfl, rfl, h0, r0⟩ := trodAll_cons hA
  obtain ⟨v1, vs1, d1, ds1, p1, q1, rfl, rfl, rfl, h1, r1⟩ := trodAll_cons r0
  obtain ⟨rfl, rfl, rfl⟩ := trodAll_nil r1
  obtain rfl : args = #[v0, v1] := by cases args; simp_all
  obtain ⟨rfl, rfl⟩ := trodVars_none hV
  have h0k := h0
  obtain ⟨ao0, n0, c0, ss0, rfl, hs0⟩ := open_steps (hval 0 23 v0 rfl rfl) h0
  have h1k := h1
  obtain ⟨s1, rfl, hp1⟩ := open_step (hval 1 40 v1 rfl rfl) h1
  clear hA0 hval0
  simp only [List.append_nil] at hW'
  have hlt : ∀ x ∈ p0 ++ p1, x.block < W.heap.size := fun x hx => by simpa using hW'.lt x (by simpa using hx)
  refine (flowAgainWalk ao0 n0 c0 ss0 s1 W hs0 hp1).mono fun e W' ⟨he, hbl⟩ => ?_
  subst he
  exact ⟨_, rfl, _, _, _, [], _, [], hW', (trodAll_cons_mk (shut_bool Tryz.underlying4 _) trodAll_mk0), (trodAll_cons_mk (Below.trod Tryz.laidOut (by kernel_rfl) (of_decide_eq_true (by kernel_rfl)) h0k hbl (fun x hx => hlt x (by simp [hx]))) (trodAll_cons_mk (Below.trod Tryz.laidOut (by kernel_rfl) (of_decide_eq_true (by kernel_rfl)) h1k hbl (fun x hx => hlt x (by simp [hx]))) trodAll_mk0)), rfl, hbl.frame _, fun h => by cases h⟩

theorem flowAgain_holds : Rows.FlowAgainSaid :=
  OpenClaim.holds_of_wide 9 Tryz.f9 rfl rfl rfl rfl rfl rfl rfl ⟨rfl, rfl, rfl, rfl, rfl⟩ rfl rfl rfl rfl rfl (by kernel_rfl) Tryz.func9 (by kernel_rfl)
    (of_decide_eq_true (by kernel_rfl)) (by unfold Func.isWrapper; first | (rw [if_pos (by decide +kernel)]; kernel_rfl) | (rw [if_neg (by decide +kernel)]; exact ⟨rfl, rfl⟩))
    (fun os started H enc _ => flowAgainlifted os started H enc)

#print axioms flowAgain_holds
end Go.Proofs.YtgpdjfaklcmoiaaGreat
