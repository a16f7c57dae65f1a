/- TopWire: for every frame, port and pair of bits the law answers true, and the three arguments read behind the call as they read before; the package's table of kinds stands as the program's text lays it. -/
import Derived.Test.YtgpdjfaklcmoiaaDoorLW
import Derived.Test.YtgpdjfaklcmoiaaDoorCards
import Derived.Test.YtgpdjfaklcmoiaaDoorTie
import Derived.SevenTiedAt
import Derived.ProofKit
import Derived.SizedLaws
import Derived.Lib.LaidTab
import Derived.LaidMore
import Derived.OpenShut
import Derived.Stop.Joined
namespace Go.Proofs.YtgpdjfaklcmoiaaDoor
open Go.ChangeShapes Go.WideShapes Go.ChangeAt Go.RowKit

theorem gKinds : Tryd.prog.globalNamed "gemel/control.kinds" = some 0 := by kernel_rfl
theorem tKinds : (Tryd.prog.globals[0]?).map (·.type) = some 63 := by kernel_rfl
theorem Tryd.nineCells : Tryd.prog.cellsOf 63 = 9 := by kernel_rfl
theorem Tryd.oneCell : Tryd.prog.cellsOf 3 = 1 := by kernel_rfl
abbrev laidK : List (String × DataW Unit) := [("gemel/control.kinds", Rows.laid_gemel_control_kinds)]
theorem kt_of_laid {W : World} (h : laidMetH Tryd.prog laidK W) : Ctl.KT W := by
  rw [MakeChecks.laidMetH_plain _ _ _ (by kernel_rfl)] at h
  have hT : Lib.TabIs Tryd.prog W "gemel/control.kinds" .i64 Ctl.tab := Lib.tabIs_of_head gKinds tKinds Tryd.underlying63 Tryd.underlying3 Tryd.oneCell Tryd.nineCells h
  exact ⟨fun j hj => hT.cell gKinds j hj⟩
theorem door_met (os : Os) (args : Array Value) : laidMetH Tryd.prog laidK ((World.doorLaid Tryd.prog 14 os).forCall (fun _ _ => 0) ⟨#[], args, []⟩).memory :=
  laidMetH_of_parts3 (fuel := 8) (laidMet_of_run' 8 (by kernel_rfl) (by kernel_rfl)) (by kernel_rfl) (by kernel_rfl)
set_option maxRecDepth 100000 in
set_option maxHeartbeats 2000000 in
theorem open_fr {H : Type} {enc : TypeId × Value → H} {W : World} {r : Reach} {b0 : Nat} {v : Value} {d : DataW H} {p : List MemPlace}
    (hv : Value.okWide Tryd.prog W r b0 26 v) (h : DataW.Trod enc Tryd.prog W 0 (fun _ => true) true 26 v d p) :
    ∃ (f : Fd) (ao : Option Addr) (n c : Nat), v = .agg (FC f (.slice ao n c)) ∧ (Mok (mD f) ∧ Mok (mS f)) ∧ Eth.FdB (eF f) ∧ Byt W ao n c f.bs := by
  obtain ⟨f, ao, n, c, rfl, hB, hb⟩ := Eth.open_frame hv h
  have q : ∀ x ∈ Eth.adL f, 0 ≤ x ∧ x ≤ 255 := hB.a
  refine ⟨⟨f.d0, f.d1, f.d2, f.d3, f.d4, f.d5, f.s0, f.s1, f.s2, f.s3, f.s4, f.s5, f.tg, f.vl, f.pr, f.ty, f.bs⟩, ao, n, c, rfl, ⟨⟨(q f.d0 (by simp [Eth.adL])).1, (by have := (q f.d0 (by simp [Eth.adL])).2; show f.d0 < 256; omega), (q f.d1 (by simp [Eth.adL])).1, (by have := (q f.d1 (by simp [Eth.adL])).2; show f.d1 < 256; omega), (q f.d2 (by simp [Eth.adL])).1, (by have := (q f.d2 (by simp [Eth.adL])).2; show f.d2 < 256; omega), (q f.d3 (by simp [Eth.adL])).1, (by have := (q f.d3 (by simp [Eth.adL])).2; show f.d3 < 256; omega), (q f.d4 (by simp [Eth.adL])).1, (by have := (q f.d4 (by simp [Eth.adL])).2; show f.d4 < 256; omega), (q f.d5 (by simp [Eth.adL])).1, (by have := (q f.d5 (by simp [Eth.adL])).2; show f.d5 < 256; omega)⟩, ⟨(q f.s0 (by simp [Eth.adL])).1, (by have := (q f.s0 (by simp [Eth.adL])).2; show f.s0 < 256; omega), (q f.s1 (by simp [Eth.adL])).1, (by have := (q f.s1 (by simp [Eth.adL])).2; show f.s1 < 256; omega), (q f.s2 (by simp [Eth.adL])).1, (by have := (q f.s2 (by simp [Eth.adL])).2; show f.s2 < 256; omega), (q f.s3 (by simp [Eth.adL])).1, (by have := (q f.s3 (by simp [Eth.adL])).2; show f.s3 < 256; omega), (q f.s4 (by simp [Eth.adL])).1, (by have := (q f.s4 (by simp [Eth.adL])).2; show f.s4 < 256; omega), (q f.s5 (by simp [Eth.adL])).1, (by have := (q f.s5 (by simp [Eth.adL])).2; show f.s5 < 256; omega)⟩⟩, hB, ofE hb⟩
set_option maxRecDepth 100000 in
set_option maxHeartbeats 2000000 in
theorem topWirelifted (os : Os) (started : os.Started) (H : Type) (enc : TypeId × Value → H) :
    ReturnsInHanded {} Tryd.checked os 3 .any (fun w args => (Rows.topWireSpec.pre enc Tryd.prog Tryd.f3 [] false w args ∧ laidMetH Tryd.prog laidK w) ∧ sizedMet enc Tryd.prog Tryd.f3 (OpenSpec.ofChange Rows.topWireSpec) false w args)
      (Rows.topWireSpec.post enc Tryd.prog Tryd.f3 false true false false) := by
  refine returnsInHanded_of_change_and (C := Tryd.checked) (X := fun w _ => laidMetH Tryd.prog laidK w) (fun _ _ _ hh h => h.of_heap hh) own started (by kernel_rfl) Tryd.func3
    (ChangeSpec.witness_shaped (enc := enc) (C := Tryd.checked) (os := os) (X := fun w _ => laidMetH Tryd.prog laidK w) false (World.doorLaid Tryd.prog 14 os) #[.agg #[.int .u8 0, .int .u8 0, .int .u8 0, .int .u8 0, .int .u8 0, .int .u8 0, .int .u8 0, .int .u8 0, .int .u8 0, .int .u8 0, .int .u8 0, .int .u8 0, .bool false, .int .i64 0, .int .i64 0, .int .i64 0, .slice none 0 0], .int .i64 0, .agg #[.int .i64 0, .int .i64 0]] 8 rfl (World.shaped_of_RefB (by kernel_rfl) (by kernel_rfl)) (by kernel_rfl) (by kernel_rfl) (by kernel_rfl) (door_met os _)) ?_
  intro W base args ds gs before hval0 hW _ _ hL _
  have hval : ∀ (j : Nat) t v, Tryd.f3.params[j]? = some t → args[j]? = some v → Value.okWide Tryd.prog W .any base t v := hval0
  have hW' := hW
  obtain ⟨p, q, hA0, hV, rfl, _, _⟩ := hW
  have hA : DataW.TrodAll enc Tryd.prog W 0 (fun _ => true) true Tryd.f3.params.toList args.toList ds p := hA0
  rw [Tryd.params3] at hA hval
  have hT := kt_of_laid hL
  obtain ⟨v0, vs0, d0, ds0, p0, q0, hargs, rfl, rfl, h0, r0⟩ := trodAll_cons hA
  obtain ⟨v1, vs1, d1, ds1, p1, q1, rfl, rfl, rfl, h1, r1⟩ := trodAll_cons r0
  obtain ⟨v2, vs2, d2, ds2, p2, q2, rfl, rfl, rfl, h2, r2⟩ := trodAll_cons r1
  obtain ⟨rfl, rfl, rfl⟩ := trodAll_nil r2
  obtain rfl : args = #[v0, v1, v2] := by cases args; simp_all
  obtain ⟨rfl, rfl⟩ := trodVars_none hV
  have h0k := h0
  obtain ⟨f, a0, m0, c0, rfl, hm0, he0, hy0⟩ := open_fr (hval 0 26 v0 rfl rfl) h0
  have h1k := h1
  obtain ⟨x1, rfl, _⟩ := open_num (hval 1 3 v1 rfl rfl) h1
  have h2k := h2
  obtain ⟨x2, y2, rfl, _, _⟩ := open_two (hval 2 27 v2 rfl rfl) h2
  clear hA0 hval0
  simp only [List.append_nil] at hW'
  have hlt : ∀ x ∈ p0 ++ p1 ++ p2, x.block < W.heap.size := fun x hx => by simpa using hW'.lt x (by simpa using hx)
  refine (topWireWalk f a0 m0 c0 x1 x2 y2 W hT hm0 he0 hy0).mono fun e W' ⟨he, hbl⟩ => ?_
  subst he
  exact ⟨_, rfl, _, _, _, [], _, [], hW', (trodAll_cons_mk (shut_bool Tryd.underlying4 _) trodAll_mk0), (trodAll_cons_mk (Below.trod Tryd.laidOut (by kernel_rfl) (of_decide_eq_true (by kernel_rfl)) h0k hbl (fun x hx => hlt x (by simp [hx]))) (trodAll_cons_mk (Below.trod Tryd.laidOut (by kernel_rfl) (of_decide_eq_true (by kernel_rfl)) h1k hbl (fun x hx => hlt x (by simp [hx]))) (trodAll_cons_mk (Below.trod Tryd.laidOut (by kernel_rfl) (of_decide_eq_true (by kernel_rfl)) h2k hbl (fun x hx => hlt x (by simp [hx]))) trodAll_mk0))), rfl, hbl.frame _, fun h => by cases h⟩

theorem topWire_holds : Rows.TopWireSaid :=
  OpenClaim.holds_of_wide 3 Tryd.f3 rfl rfl rfl rfl rfl rfl rfl ⟨rfl, rfl, rfl, rfl, rfl⟩ rfl rfl rfl rfl rfl (by kernel_rfl) Tryd.func3 (by kernel_rfl)
    (of_decide_eq_true (by kernel_rfl)) (by unfold Func.isWrapper; first | (rw [if_pos (by decide +kernel)]; kernel_rfl) | (rw [if_neg (by decide +kernel)]; exact ⟨rfl, rfl⟩))
    (fun os started H enc _ => topWirelifted os started H enc)

theorem topWire_card_holds : Rows.TopWireCardSaid :=
  Claim7.holds_tied_plain_at .later [] [.data] true (true, "e67774ab4712eab3e98a292ac612e88ac613743daee1bfa648026b14faffdade") false
    topWire_holds (fun _ h => by cases h) (by kernel_rfl) (fun _ h => by cases h) topWire_row_tie rfl ⟨rfl, rfl⟩ (by kernel_rfl) rfl
    (fun f fn hf hfn => by
      obtain rfl : f = 3 := Option.some.inj ((show Tryd.prog.funcNamed "gemel/gemeltop.TopWire" = some 3 by kernel_rfl).symm.trans hf) |>.symm
      obtain rfl : fn = Tryd.f3 := (Option.some.inj (Tryd.func3.symm.trans hfn)).symm
      exact ⟨by kernel_rfl, fun j t ht => by
        rw [Tryd.params3] at ht
        have hm : t ∈ [26, 3, 27] := by simpa using Array.mem_of_getElem? ht
        have hall : ([26, 3, 27].all fun u => !Tryd.prog.wantsStandIn u) = true := by kernel_rfl
        exact (show Tryd.prog.wantsStandIn t = false by simpa using List.all_eq_true.1 hall t hm)⟩)
    (by kernel_rfl)

#print axioms topWire_card_holds
end Go.Proofs.YtgpdjfaklcmoiaaDoor
