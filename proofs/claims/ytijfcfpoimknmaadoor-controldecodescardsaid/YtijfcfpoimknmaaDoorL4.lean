/- ControlDecodes: for all bytes the law answers true, and they read behind the call as they read before. No condition beyond what the card's tie says of the table of kinds. -/
import Derived.Test.YtijfcfpoimknmaaDoorOp
import Derived.Test.YtijfcfpoimknmaaDoorAw
import Derived.Test.YtijfcfpoimknmaaDoorCards
import Derived.Test.YtijfcfpoimknmaaDoorTie
import Derived.SevenTiedAt
import Derived.Test.YtijfcfpoimknmaaDoorD5
import Derived.Test.YtijfcfpoimknmaaDoorR3
import Derived.Test.YtijfcfpoimknmaaDoorR9
namespace Go.Proofs.YtijfcfpoimknmaaDoor
open Go.ChangeShapes Go.WideShapes Go.ChangeAt Go.RowKit

section
attribute [local go_sem] ZP
theorem decode16 (ao : Option Addr) (n c : Nat) (b : List Int) (w : World) (hY : Byt w ao n c b) (hn3 : n ≤ 3000) :
    Calls Tryd.prog 16 #[.slice ao n c] w fun e w' => ∃ sa sm sc, e = .returned (.tuple #[.agg (PC (dp b) (.slice sa sm sc)), .int .i64 (dc b)]) ∧ Byt w' sa sm sc (dp b).n.b ∧ Below w.heap.size w w' := by
  by_cases hn : n < 13
  · have hk : dk b = false := by
      have h0 := (ck_dk hY.rng).1
      rw [← h0, ck, hY.len]
      have : ¬ 13 ≤ n := by omega
      simp [this]
    have e1 : dp b = zeroP := by rw [dp, hk]; rfl
    have e2 : dc b = 2 := by rw [dc, hk]; rfl
    rw [e1, e2]
    exact (decode16_len ao n c w hn).mono fun e w' ⟨he, hB⟩ => ⟨none, 0, 0, he, Byt.nothing w', hB⟩
  · exact decode16_in ao n c b w hY (by omega) hn3
set_option maxRecDepth 100000 in
set_option maxHeartbeats 8000000 in
theorem decodesWalk (ao : Option Addr) (n c : Nat) (ns : List Int) (w : World) (hT : KT w) (hm : Byt w ao n c ns) :
    Calls Tryd.prog 4 #[.slice ao n c] w fun e w' => e = .returned (.bool true) ∧ Below w.heap.size w w' := by
  have HT := hide hT
  have HM := hide hm
  clear hm hT
  go_enter Tryd.func4, Tryd.ntmps4
  go_wp2_with fail
  refine (awake10 _ HT.out).mono ?_
  rintro e w1 ⟨rfl, L1⟩
  rcases Bool.eq_false_or_eq_true (decide ((n : Int) > 3000)) with hl | hl
  · go_wp2
    go_ret
    exact ⟨rfl, L1⟩
  have hn3 : n ≤ 3000 := by have := of_decide_eq_false hl; omega
  go_wp2_with fail
  refine (decode15 ao n c ns _ (HT.out.on L1) (HM.out.on L1)).mono ?_
  rintro e w2 ⟨sa, sm, sc, rfl, Y2, hb⟩
  have L2 := belowOn L1 hb
  have BX := Box.new w2 (pcl zeroP (.slice none 0 0)) 28
  have HY := hide Y2
  clear hb L1 Y2
  generalize hdc : dc ns = X at *
  generalize hdp : dp ns = DP at *
  have EQ : Hid (dc ns = X ∧ dp ns = DP) := hide ⟨hdc, hdp⟩
  clear hdc hdp
  have tk1 : True := trivial
  go_wp2_with (first | (have _t := tk1; refine wpl_putP DP (.slice sa sm sc) zeroP (.slice none 0 0) rfl (.tmp 4) (.tmp 21) rfl BX ?_ ?_ ?_ ?_; rfl; rfl; rfl; clear tk1; intro w3 B3 g3))
  have L3 : Below w.heap.size w w3 := below_grown (belowOn L2 (below_alloc _ _)) g3 L2.size (by have := L2.size; simp; omega)
  have Y3 := (HY.out.alloc (.cells (PC zeroP (.slice none 0 0)) 28)).kept (fun b o e hp => by have := HY.out.lt b o e hp; omega) g3
  have hlt3 := B3.lt
  generalize w2.heap.size = P at *
  clear HY BX g3 L2
  refine (decode16 ao n c ns _ (HM.out.on L3) hn3).mono ?_
  rw [EQ.out.1, EQ.out.2]
  rintro e w4 ⟨ta, tm, tc, rfl, Y4, hb⟩
  have L4 := belowOn L3 hb
  replace B3 := B3.on hb
  replace Y3 := Y3.on hb
  have hlt4 := B3.lt
  have BX := Box.new w4 (pcl zeroP (.slice none 0 0)) 28
  have HB3 := hide B3
  have HY3 := hide Y3
  have HY4 := hide Y4
  clear hb L3 Y3 Y4 B3 hlt3
  have tk2 : True := trivial
  have tk3 : True := trivial
  have tk4 : True := trivial
  go_wp2_with (first | (have _t := tk2; refine wpl_putP DP (.slice ta tm tc) zeroP (.slice none 0 0) rfl (.tmp 6) (.tmp 26) rfl BX ?_ ?_ ?_ ?_; rfl; rfl; rfl; clear tk2; intro w5 B5 g5; have X5 := (HB3.out.alloc (.cells (PC zeroP (.slice none 0 0)) 28)).kept (Nat.ne_of_lt hlt4) g5) | (have _t := tk3; refine wpl_pkt (.tmp 4) rfl X5 ?_ ?_ ?_; rfl; rfl; clear tk3) | (have _t := tk4; refine wpl_pkt (.tmp 6) rfl B5 ?_ ?_ ?_; rfl; rfl; clear tk4))
  have L5 : Below w.heap.size w w5 := below_grown (belowOn L4 (below_alloc _ _)) g5 L4.size (by have := L4.size; simp; omega)
  have Y5 := (HY4.out.alloc (.cells (PC zeroP (.slice none 0 0)) 28)).kept (fun b o e hp => by have := HY4.out.lt b o e hp; omega) g5
  have Z5 := (HY3.out.alloc (.cells (PC zeroP (.slice none 0 0)) 28)).kept (fun b o e hp => by have := HY3.out.lt b o e hp; omega) g5
  refine (same17 DP DP sa sm sc ta tm tc _ Z5 Y5).mono ?_
  rw [(peq_iff DP DP).2 rfl]
  rintro e w6 ⟨rfl, hb⟩
  have L6 := belowOn L5 hb
  clear hb Y5 Z5 X5 B5 BX HY3 HY4 HB3 L4 L5 g5
  go_wp2
  go_ret
  exact ⟨rfl, L6⟩
end
set_option maxRecDepth 100000 in
set_option maxHeartbeats 2000000 in
theorem controlDecodeslifted (os : Os) (started : os.Started) (H : Type) (enc : TypeId × Value → H) :
    ReturnsInHanded {} Tryd.checked os 4 .any (fun w args => (Rows.controlDecodesSpec.pre enc Tryd.prog Tryd.f4 [] false w args ∧ laidMetH Tryd.prog laidK w) ∧ sizedMet enc Tryd.prog Tryd.f4 (OpenSpec.ofChange Rows.controlDecodesSpec) false w args)
      (Rows.controlDecodesSpec.post enc Tryd.prog Tryd.f4 false true false false) := by
  refine returnsInHanded_of_change_and (C := Tryd.checked) (X := fun w _ => laidMetH Tryd.prog laidK w) (fun _ _ _ hh h => h.of_heap hh) own started (by kernel_rfl) Tryd.func4
    (ChangeSpec.witness_shaped (enc := enc) (C := Tryd.checked) (os := os) (X := fun w _ => laidMetH Tryd.prog laidK w) false (World.doorLaid Tryd.prog 14 os) #[.slice none 0 0] 8 rfl (World.shaped_of_RefB (by kernel_rfl) (by kernel_rfl)) (by kernel_rfl) (by kernel_rfl) (by kernel_rfl) (door_met os _)) ?_
  intro W base args ds gs before hval0 hW _ _ hL _
  have hval : ∀ (j : Nat) t v, Tryd.f4.params[j]? = some t → args[j]? = some v → Value.okWide Tryd.prog W .any base t v := hval0
  have hW' := hW
  obtain ⟨p, q, hA0, hV, rfl, _, _⟩ := hW
  have hA : DataW.TrodAll enc Tryd.prog W 0 (fun _ => true) true Tryd.f4.params.toList args.toList ds p := hA0
  rw [Tryd.params4] at hA hval
  have hT := kt_of_laid hL
  obtain ⟨v0, vs0, d0, ds0, p0, q0, hargs, rfl, rfl, h0, r0⟩ := trodAll_cons hA
  obtain ⟨rfl, rfl, rfl⟩ := trodAll_nil r0
  obtain rfl : args = #[v0] := by cases args; simp_all
  obtain ⟨rfl, rfl⟩ := trodVars_none hV
  have h0k := h0
  obtain ⟨ao0, n0, c0, ns0, rfl, hy0⟩ := open_bytes (hval 0 24 v0 rfl rfl) h0
  clear hA0 hval0
  simp only [List.append_nil] at hW'
  have hlt : ∀ x ∈ p0, x.block < W.heap.size := fun x hx => by simpa using hW'.lt x (by simpa using hx)
  refine (decodesWalk ao0 n0 c0 ns0 W hT hy0).mono fun e W' ⟨he, hbl⟩ => ?_
  subst he
  exact ⟨_, rfl, _, _, _, [], _, [], hW', (trodAll_cons_mk (shut_bool Tryd.underlying4 _) trodAll_mk0), (trodAll_cons_mk (Below.trod Tryd.laidOut (by kernel_rfl) (of_decide_eq_true (by kernel_rfl)) h0k hbl (fun x hx => hlt x (by simp [hx]))) trodAll_mk0), rfl, hbl.frame _, fun h => by cases h⟩

theorem controlDecodes_holds : Rows.ControlDecodesSaid :=
  OpenClaim.holds_of_wide 4 Tryd.f4 rfl rfl rfl rfl rfl rfl rfl ⟨rfl, rfl, rfl, rfl, rfl⟩ rfl rfl rfl rfl rfl (by kernel_rfl) Tryd.func4 (by kernel_rfl)
    (of_decide_eq_true (by kernel_rfl)) (by unfold Func.isWrapper; first | (rw [if_pos (by decide +kernel)]; kernel_rfl) | (rw [if_neg (by decide +kernel)]; exact ⟨rfl, rfl⟩))
    (fun os started H enc _ => controlDecodeslifted os started H enc)

theorem controlDecodes_card_holds : Rows.ControlDecodesCardSaid :=
  Claim7.holds_tied_plain_at .later [] [.data] true (true, "40610068b199d95fe10dea4bfc5d373c8e4676b673a11564a6585a93802516b6") false
    controlDecodes_holds (fun _ h => by cases h) (by kernel_rfl) (fun _ h => by cases h) controlDecodes_row_tie rfl ⟨rfl, rfl⟩ (by kernel_rfl) rfl
    (fun f fn hf hfn => by
      obtain rfl : f = 4 := Option.some.inj ((show Tryd.prog.funcNamed "gemel/gemellaw06.ControlDecodes" = some 4 by kernel_rfl).symm.trans hf) |>.symm
      obtain rfl : fn = Tryd.f4 := (Option.some.inj (Tryd.func4.symm.trans hfn)).symm
      exact ⟨by kernel_rfl, fun j t ht => by
        rw [Tryd.params4] at ht
        have hm : t ∈ [24] := by simpa using Array.mem_of_getElem? ht
        have hall : ([24].all fun u => !Tryd.prog.wantsStandIn u) = true := by kernel_rfl
        exact (show Tryd.prog.wantsStandIn t = false by simpa using List.all_eq_true.1 hall t hm)⟩)
    (by kernel_rfl)

#print axioms controlDecodes_card_holds
end Go.Proofs.YtijfcfpoimknmaaDoor
