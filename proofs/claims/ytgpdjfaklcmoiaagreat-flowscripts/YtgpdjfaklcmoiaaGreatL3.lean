/- FlowScripts: for all sizes and all steps the law answers true, and the arguments read behind the call as they read before. No condition. -/
import Derived.Test.YtgpdjfaklcmoiaaGreatAl
namespace Go.Proofs.YtgpdjfaklcmoiaaGreat
open Go.ChangeShapes Go.WideShapes Go.ChangeAt Go.RowKit Go.PlainAid

/-- How far the two are. -/
structure Scr (w wr : World) (A : RAd) (P : PAd) (B : Br) (k : Nat) : Prop where
  b : Bh wr A P B B
  d : ∀ i, D2 A P i → w.heap.size ≤ i
  bel : Below w.heap.size w wr
  cb : Cb k B
theorem cb_new (n r : Nat) : Cb 0 (bNew n r) := ⟨fun y hy => by have := (List.mem_replicate.1 hy).2; omega, fun y hy => by have := (List.mem_replicate.1 hy).2; omega, Nat.le_refl _⟩
set_option maxRecDepth 100000 in
set_option maxHeartbeats 8000000 in
theorem flowScriptsWalk (x0 y0 : Int) (ao : Option Addr) (n c : Nat) (xs : List Stp) (w : World) (hx : I64 x0) (_hy : I64 y0) (H : StsI w ao n c xs) :
    Calls Tryz.prog 3 #[.agg #[.int .i64 x0, .int .i64 y0], .slice ao n c] w fun e w' => e = .returned (.bool true) ∧ Below w.heap.size w w' := by
  have b0 := below_alloc w (.cells #[.int .i64 x0, .int .i64 y0] 22)
  have HX := hide (Box.new w [.int .i64 x0, .int .i64 y0] 22)
  have HB := hide b0
  have HS0 := hide H
  have HS := hide (H.on b0)
  have hmx : n ≤ maxLen := Nat.le_trans H.s.le H.s.mx
  have HN : Hid (n ≤ 9223372036854775807) := hide (Nat.le_trans hmx (by decide))
  have HXI := hide hx
  clear b0 H hmx hx
  go_enter Tryz.func3, Tryz.ntmps3
  go_wp2_with fail
  refine (awakeQ _).mono ?_
  rintro e w1 ⟨rfl, bb⟩
  replace HX := hide (HX.out.on bb)
  replace HS := hide (HS.out.on bb)
  replace HB := hide (belowOn HB.out bb)
  clear bb
  go_wp2_with fail
  refine (fewR ao n c xs _ HS.out.s).mono ?_
  rintro e w2 ⟨rfl, hw⟩
  obtain rfl : w1 = w2 := hw.symm
  have c0 := HX.out.cell 0 _ rfl
  have c1 := HX.out.cell 1 _ rfl
  by_cases hok : (1 ≤ x0 ∧ x0 ≤ 63) ∧ 1 ≤ y0 ∧ y0 ≤ 1024
  rotate_left
  · have hq1 := newQ_no x0 y0 w1 HXI.out hok
    have hq2 := fun z => newR_no x0 y0 z hok
    go_wp2_with fail
    refine hq1.mono ?_
    rintro e w3 ⟨rfl, bb⟩
    have HX3 := hide (HX.out.on bb)
    have c0 := HX3.out.cell 0 _ rfl
    have c1 := HX3.out.cell 1 _ rfl
    replace HB := hide (belowOn HB.out bb)
    clear bb hq1
    go_wp2_with fail
    refine (hq2 _).mono ?_
    rintro e w4 ⟨rfl, bb⟩
    replace HB := hide (belowOn HB.out bb)
    clear bb hq2 hok
    generalize fewB xs = fb at *
    go_wp2_with fail
    go_loopg [11, 12, 13] 1 (fun _ i _ _ wr => i = .int .i64 0 ∧ Below w.heap.size w wr)
    case atStart => exact ⟨rfl, HB.out⟩
    case round =>
      obtain ⟨rfl, hbb⟩ := hrel
      have HBB := hide hbb
      clear hbb
      by_cases hn : (0 : Int) < (n : Int)
      · cases fb
        · go_wp2
          go_ret
          exact ⟨rfl, HBB.out⟩
        · go_wp2
          go_ret
          exact ⟨rfl, HBB.out⟩
      · go_wp2
        go_ret
        exact ⟨rfl, HBB.out⟩
  obtain ⟨N, rfl⟩ := Int.eq_ofNat_of_zero_le (show 0 ≤ x0 by omega)
  obtain ⟨M, rfl⟩ := Int.eq_ofNat_of_zero_le (show 0 ≤ y0 by omega)
  have hq1 := newQ N M w1 (by omega) (by omega) (by omega) (by omega)
  have hq2 := fun z => newR N M z (by omega) (by omega) (by omega) (by omega)
  go_wp2_with fail
  refine hq1.mono ?_
  rintro e w3 ⟨P, rfl, hP, hlo, bb⟩
  have HX3 := hide (HX.out.on bb)
  have c0 := HX3.out.cell 0 _ rfl
  have c1 := HX3.out.cell 1 _ rfl
  have HP := hide hP
  have HLO : Hid (w.heap.size ≤ P.lo) := hide (by have := HB.out.size; omega)
  replace HB := hide (belowOn HB.out bb)
  replace HS := hide (HS.out.on bb)
  clear hP hlo bb hq1
  go_wp2_with fail
  refine (hq2 _).mono ?_
  rintro e w4 ⟨A, rfl, hR, hd, bb⟩
  have hlt := HP.out.lt
  have hs1 := HB.out.size
  have HM : Hid (Scr w w4 A P (bNew N M) 0) := hide ⟨⟨hR, HP.out.on bb, fun i hi => Or.inr (by have := hd i hi; omega)⟩, fun i hi => by
    rcases hi with hi | hi
    · have := hd i hi; omega
    · have := HLO.out; omega, belowOn HB.out bb, cb_new N M⟩
  clear hR hd bb hlt hs1 HP HB hq2 HX HX3 c0 c1 hok HS
  generalize hfb : fewB xs = fb at *
  clear hfb
  go_wp2_with fail
  go_loopg [11, 12, 13] 121 (fun r i _ _ wr => ∃ (k : Nat) (A' : RAd), k ≤ 120 ∧ r = 121 - k ∧ i = .int .i64 k ∧ A'.g = A.g ∧ Scr w wr A' P (runs (bNew N M) (xs.take k)) k)
  case atStart => exact ⟨0, A, by omega, rfl, rfl, rfl, HM.out⟩
  case round =>
    obtain ⟨k, A', hk, hr, rfl, hg, hM⟩ := hrel
    have HGA := hide hg
    have HRK := hide hr
    have HM1 := hide hM
    have HSR := hide (HS0.out.on hM.bel)
    clear hr hM HM hg
    by_cases h1 : k < n
    · have p1 : (k : Int) < n := by omega
      by_cases h2 : k < 120
      · have p2 : (k : Int) < 120 := by omega
        cases fb
        · go_wp2
          go_ret
          exact ⟨rfl, HM1.out.bel⟩
        have p3 : (0 : Int) ≤ (k : Int) := by omega
        have p4 : IntKind.i64.wrap ((k : Int) + 1) = (k : Int) + 1 := IntWalk.i64_in _ (by omega)
        obtain ⟨x, hx⟩ : ∃ x, xs[k]? = some x := ⟨_, List.getElem?_eq_getElem (by rw [HS0.out.s.len]; exact h1)⟩
        obtain ⟨b, o, rfl, ra⟩ := HSR.out.s.at_ k x hx
        have hmem := List.mem_of_getElem? hx
        have HG : Hid (Gst A' P (runs (bNew N M) (xs.take k)) (runs (bNew N M) (xs.take k)) x wr) := hide ⟨HSR.out.s.byt x hmem, HSR.out.s.md x hmem, HSR.out.s.ms x hmem, fun b o e hn hd => by
          have h1 := (HS0.out.s.byt x hmem).lt b o e hn
          have h2 := HM1.out.d b hd
          omega, cb_ok HM1.out.cb (by omega), cb_ok HM1.out.cb (by omega), HS0.out.vi x hmem⟩
        have HXX := hide hx
        have HRA := hide ra
        have hbw : b < w.heap.size := by
          obtain ⟨b', o', e', r'⟩ := HS0.out.s.at_ k x hx
          cases e'
          exact World.block_lt_of_cell? _ _ (r' 0 _ rfl)
        have HBW := hide hbw
        clear hx ra hmem hbw
        have tk1 : True := trivial
        go_wp2_with (first | (have _t := tk1; refine wpl_stp (.tmp 68) rfl HRA.out ?_ ?_ ?_; rfl; rfl; clear tk1))
        have hst := stepB A' P _ _ x wr HM1.out.b HG.out
        rw [HGA.out] at hst
        refine hst.mono ?_
        rintro e w5 ⟨q, rfl, hq, A'', hB3, hC, hg3⟩
        obtain rfl := hq rfl
        have HG3 := hide (hg3.trans HGA.out)
        obtain ⟨hb3, hd3⟩ := d2_below hC HM1.out.bel.size HM1.out.d
        have HM2 : Hid (Scr w w5 A'' P (runs (bNew N M) (xs.take (k + 1))) (k + 1)) := hide (by
          rw [runs_next HXX.out]
          exact ⟨hB3, hd3, HM1.out.bel.trans hb3, nxt_cb HM1.out.cb x⟩)
        have hcp : w5.cell? ⟨b, o + k * 23 + 1, none⟩ = some (.int .i64 x.p) := by
          rw [World.cell?_of_block (a := ⟨b, o + k * 23 + 1, none⟩) (hb3.block b HBW.out)]
          exact HRA.out 1 _ rfl
        clear hB3 hC hb3 hd3 HM1 HSR HG HRA hst hg3
        go_wp2_with fail
        have hal := alikeB A'' P _ x.p w5 HM2.out.b
        rw [HG3.out] at hal
        refine hal.mono ?_
        rintro e w6 ⟨rfl, bb⟩
        have HM3 : Hid (Scr w w6 A'' P (runs (bNew N M) (xs.take (k + 1))) (k + 1)) := hide ⟨HM2.out.b.on bb, HM2.out.d, belowOn HM2.out.bel bb, HM2.out.cb⟩
        clear bb hal hcp HM2
        go_wp2
        go_roundg (121 - (k + 1))
        case measure => rw [HRK.out]; omega
        case rel => exact ⟨k + 1, A'', by omega, rfl, by go_num, HG3.out, HM3.out⟩
      · have p2 : ¬ (k : Int) < 120 := by omega
        go_wp2
        go_ret
        exact ⟨rfl, HM1.out.bel⟩
    · have p1 : ¬ (k : Int) < n := by omega
      go_wp2
      go_ret
      exact ⟨rfl, HM1.out.bel⟩
set_option maxRecDepth 100000 in
set_option maxHeartbeats 2000000 in
theorem flowScriptslifted (os : Os) (started : os.Started) (H : Type) (enc : TypeId × Value → H) :
    ReturnsInHanded {} Tryz.checked os 3 .any (Rows.flowScriptsSpec.pre6 enc Tryz.prog Tryz.f3 Rows.flowScriptsRow.domain false) (Rows.flowScriptsSpec.post enc Tryz.prog Tryz.f3 false true false false) := by
  refine returnsInHanded_of_change (C := Tryz.checked) own started (by kernel_rfl) Tryz.func3
    (ChangeSpec.witness6 (enc := enc) (C := Tryz.checked) false ⟨#[], #[.agg #[.int .i64 0, .int .i64 0], .slice none 0 0], []⟩ 8 (by kernel_rfl) (by kernel_rfl) (by kernel_rfl) (by kernel_rfl)) ?_
  intro W base args ds gs before hval0 hW _ _
  have hval : ∀ (j : Nat) t v, Tryz.f3.params[j]? = some t → args[j]? = some v → Value.okWide Tryz.prog W .any base t v := hval0
  have hW' := hW
  obtain ⟨p, q, hA0, hV, rfl, _, _⟩ := hW
  have hA : DataW.TrodAll enc Tryz.prog W 0 (fun _ => true) true Tryz.f3.params.toList args.toList ds p := hA0
  rw [Tryz.params3] at hA hval
  obtain ⟨v0, vs0, d0, ds0, p0, q0, hargs, rfl, rfl, h0, r0⟩ := trodAll_cons hA
  obtain ⟨v1, vs1, d1, ds1, p1, q1, rfl, rfl, rfl, h1, r1⟩ := trodAll_cons r0
  obtain ⟨rfl, rfl, rfl⟩ := trodAll_nil r1
  obtain rfl : args = #[v0, v1] := by cases args; simp_all
  obtain ⟨rfl, rfl⟩ := trodVars_none hV
  have h0k := h0
  obtain ⟨x0, y0, rfl, hx0, hy0⟩ := open_two (hval 0 22 v0 rfl rfl) h0
  have h1k := h1
  obtain ⟨ao1, n1, c1, ss1, rfl, hs1⟩ := open_steps (hval 1 23 v1 rfl rfl) h1
  clear hA0 hval0
  simp only [List.append_nil] at hW'
  have hlt : ∀ x ∈ p0 ++ p1, x.block < W.heap.size := fun x hx => by simpa using hW'.lt x (by simpa using hx)
  refine (flowScriptsWalk x0 y0 ao1 n1 c1 ss1 W hx0 hy0 hs1).mono fun e W' ⟨he, hbl⟩ => ?_
  subst he
  exact ⟨_, rfl, _, _, _, [], _, [], hW', (trodAll_cons_mk (shut_bool Tryz.underlying4 _) trodAll_mk0), (trodAll_cons_mk (Below.trod Tryz.laidOut (by kernel_rfl) (of_decide_eq_true (by kernel_rfl)) h0k hbl (fun x hx => hlt x (by simp [hx]))) (trodAll_cons_mk (Below.trod Tryz.laidOut (by kernel_rfl) (of_decide_eq_true (by kernel_rfl)) h1k hbl (fun x hx => hlt x (by simp [hx]))) trodAll_mk0)), rfl, hbl.frame _, fun h => by cases h⟩

theorem flowScripts_holds : Rows.FlowScriptsSaid :=
  OpenClaim.holds_of_wide 3 Tryz.f3 rfl rfl rfl rfl rfl rfl rfl ⟨rfl, rfl, rfl, rfl, rfl⟩ rfl rfl rfl rfl rfl (by kernel_rfl) Tryz.func3 (by kernel_rfl)
    (of_decide_eq_true (by kernel_rfl)) (by unfold Func.isWrapper; first | (rw [if_pos (by decide +kernel)]; kernel_rfl) | (rw [if_neg (by decide +kernel)]; exact ⟨rfl, rfl⟩))
    (fun os started H enc _ => flowScriptslifted os started H enc)

#print axioms flowScripts_holds
end Go.Proofs.YtgpdjfaklcmoiaaGreat
