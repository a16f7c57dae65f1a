/- MacTexts: for every address the law answers true, and the address reads behind the call as it read before. No condition. -/
import Derived.Test.YtokmkgjjiloacaaA5
import Derived.Test.YtokmkgjjiloacaaA6
import Derived.Test.YtokmkgjjiloacaaAt
import Derived.Test.YtokmkgjjiloacaaOpen
namespace Go.Proofs.Ytokmkgjjiloacaa
open Go.ChangeShapes Go.WideShapes Go.ChangeAt Go.RowKit

set_option maxRecDepth 100000 in
set_option maxHeartbeats 4000000 in
theorem textsWalk (a0 a1 a2 a3 a4 a5 : Int) (w : World) (h : B6 a0 a1 a2 a3 a4 a5) :
    Calls Try.prog 3 #[.agg #[.int .u8 a0, .int .u8 a1, .int .u8 a2, .int .u8 a3, .int .u8 a4, .int .u8 a5]] w fun e w' => e = .returned (.bool true) ∧ Below w.heap.size w w' := by
  have A0 := At6.new w a0 a1 a2 a3 a4 a5
  have W0 : Below w.heap.size w (w.alloc (.cells #[.int .u8 a0, .int .u8 a1, .int .u8 a2, .int .u8 a3, .int .u8 a4, .int .u8 a5] 23)) := by go_grown
  go_enter Try.func3, Try.ntmps3
  go_wp2_with fail
  refine (awake10 _).mono ?_
  rintro e w0 ⟨rfl, hb⟩
  replace A0 := (A0.on hb).drew; replace W0 := (belowOn W0 hb).drew
  clear hb
  go_wp2_with fail
  go_region_held3 (fun w' => w'.cell? ⟨w.heap.size, 0, none⟩ = some (.int .u8 a0) ∧ w'.cell? ⟨w.heap.size, 1, none⟩ = some (.int .u8 a1) ∧ w'.cell? ⟨w.heap.size, 2, none⟩ = some (.int .u8 a2) ∧ w'.cell? ⟨w.heap.size, 3, none⟩ = some (.int .u8 a3) ∧ w'.cell? ⟨w.heap.size, 4, none⟩ = some (.int .u8 a4) ∧ w'.cell? ⟨w.heap.size, 5, none⟩ = some (.int .u8 a5))
    (first | exact ⟨A8.c0, A8.c1, A8.c2, A8.c3, A8.c4, A8.c5⟩ | exact ⟨A7.c0, A7.c1, A7.c2, A7.c3, A7.c4, A7.c5⟩ | exact ⟨A6.c0, A6.c1, A6.c2, A6.c3, A6.c4, A6.c5⟩ | exact ⟨A5.c0, A5.c1, A5.c2, A5.c3, A5.c4, A5.c5⟩ | exact ⟨A4.c0, A4.c1, A4.c2, A4.c3, A4.c4, A4.c5⟩ | exact ⟨A3.c0, A3.c1, A3.c2, A3.c3, A3.c4, A3.c5⟩ | exact ⟨A2.c0, A2.c1, A2.c2, A2.c3, A2.c4, A2.c5⟩ | exact ⟨A1.c0, A1.c1, A1.c2, A1.c3, A1.c4, A1.c5⟩ | exact ⟨A0.c0, A0.c1, A0.c2, A0.c3, A0.c4, A0.c5⟩)
    (first | (go_at_call 11; refine (text11 _ _ _ _ _ _ _ h).mono ?_; rintro e w1 ⟨rfl, hb1⟩; have A1 := A0.on hb1; have W1 := belowOn W0 hb1) | (go_at_call 12; refine (text12 _ _ _ _ _ _ _ h).mono ?_; rintro e w2 ⟨rfl, hb2⟩; have A2 := A1.on hb2; have W2 := belowOn W1 hb2) | (go_at_call 13; refine (num13 _ _ _ _ _ _ _ h).mono ?_; rintro e w3 ⟨rfl, hb3⟩; have A3 := A2.on hb3; have W3 := belowOn W2 hb3) | (go_at_call 14; refine (num14 _ _ _ _ _ _ _ h).mono ?_; rintro e w4 ⟨rfl, hb4⟩; have A4 := A3.on hb4; have W4 := belowOn W3 hb4) | (go_at_call 15; refine (group15 _ _ _ _ _ _ _ h).mono ?_; rintro e w5 ⟨rfl, hb5⟩; have A5 := A4.on hb5; have W5 := belowOn W4 hb5) | (go_at_call 16; refine (group16 _ _ _ _ _ _ _ h).mono ?_; rintro e w6 ⟨rfl, hb6⟩; have A6 := A5.on hb6; have W6 := belowOn W5 hb6) | (go_at_call 17; refine (res17 _ _ _ _ _ _ _ h).mono ?_; rintro e w7 ⟨rfl, hb7⟩; have A7 := A6.on hb7; have W7 := belowOn W6 hb7) | (go_at_call 18; refine (res18 _ _ _ _ _ _ _ h).mono ?_; rintro e w8 ⟨rfl, hb8⟩; have A8 := A7.on hb8; have W8 := belowOn W7 hb8))
  clear hb1 hb2 hb3 hb4 hb5 hb6 hb7 hb8
  go_wp2
  go_ret
  exact ⟨rfl, W8⟩

set_option maxRecDepth 100000 in
theorem macTextslifted (os : Os) (started : os.Started) (H : Type) (enc : TypeId × Value → H) :
    ReturnsInHanded {} Try.checked os 3 .any (Rows.macTextsSpec.pre6 enc Try.prog Try.f3 Rows.macTextsRow.domain false) (Rows.macTextsSpec.post enc Try.prog Try.f3 false true false false) := by
  refine returnsInHanded_of_change (C := Try.checked) own started (by kernel_rfl) Try.func3
    (ChangeSpec.witness6 (enc := enc) (C := Try.checked) false ⟨#[], #[.agg #[.int .u8 0, .int .u8 0, .int .u8 0, .int .u8 0, .int .u8 0, .int .u8 0]], []⟩ 8 (by kernel_rfl) (by kernel_rfl) (by kernel_rfl) (by kernel_rfl)) ?_
  intro W base args ds gs before hval0 hW _ _
  have hval : ∀ (j : Nat) t v, Try.f3.params[j]? = some t → args[j]? = some v → Value.okWide Try.prog W .any base t v := hval0
  have hW' := hW
  obtain ⟨p, q, hA0, hV, rfl, _, _⟩ := hW
  have hA : DataW.TrodAll enc Try.prog W 0 (fun _ => true) true Try.f3.params.toList args.toList ds p := hA0
  rw [Try.params3] at hA hval
  obtain ⟨v0, vs0, d0, ds0, p0, q0, hargs, rfl, rfl, h0, r0⟩ := trodAll_cons hA
  obtain ⟨rfl, rfl, rfl⟩ := trodAll_nil r0
  obtain rfl : args = #[v0] := by cases args; simp_all
  obtain ⟨rfl, rfl⟩ := trodVars_none hV
  obtain ⟨a0, a1, a2, a3, a4, a5, rfl, rfl, rfl, k0⟩ := open_mac (hval 0 23 v0 rfl rfl) h0
  clear hA0 hval0
  simp only [List.append_nil] at hW'
  refine (textsWalk a0 a1 a2 a3 a4 a5 W k0).mono fun e W' ⟨he, hb⟩ => ?_
  subst he
  exact ⟨_, rfl, _, _, _, [], [], [], hW', (trodAll_cons_mk (shut_bool Try.underlying4 _) trodAll_mk0), (trodAll_cons_mk (shut_mac k0) trodAll_mk0), rfl, hb.frame _, fun h => by cases h⟩

theorem macTexts_holds : Rows.MacTextsSaid :=
  OpenClaim.holds_of_wide 3 Try.f3 rfl rfl rfl rfl rfl rfl rfl ⟨rfl, rfl, rfl, rfl, rfl⟩ rfl rfl rfl rfl rfl (by kernel_rfl) Try.func3 (by kernel_rfl)
    (of_decide_eq_true (by kernel_rfl)) (by unfold Func.isWrapper; first | (rw [if_pos (by decide +kernel)]; kernel_rfl) | (rw [if_neg (by decide +kernel)]; exact ⟨rfl, rfl⟩))
    (fun os started H enc _ => macTextslifted os started H enc)

#print axioms macTexts_holds
end Go.Proofs.Ytokmkgjjiloacaa
