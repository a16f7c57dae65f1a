/- LacpduKnows: for every two infos the law answers true, and both read behind the call as they read before. No condition. -/
import Derived.Test.YtaehhhknpbbmkaaA6
import Derived.Test.YtaehhhknpbbmkaaA9
import Derived.Test.YtaehhhknpbbmkaaBk
import Derived.Test.YtaehhhknpbbmkaaOp
namespace Go.Proofs.Ytaehhhknpbbmkaa
open Go.ChangeShapes Go.WideShapes Go.ChangeAt Go.RowKit

section
attribute [local go_sem] IC0 IC1 IC2 IC3 IC4 IC5 IC6 IC7 IC8 IC9 IC10
set_option maxRecDepth 100000 in
set_option maxHeartbeats 4000000 in
theorem knowsWalk (a b : Inf) (w : World) (ha : Rng (ml a)) (hb : Rng (ml b)) :
    Calls Try.prog 5 #[.agg (IC a), .agg (IC b)] w fun e w' => e = .returned (.bool true) ∧ Below w.heap.size w w' := by
  have A0 := (Blk.new w (IC a) 25).on (below_alloc _ (.cells (IC b) 25))
  have B0 := Blk.new (w.alloc (.cells (IC a) 25)) (IC b) 25
  rw [World.size_alloc] at B0
  have W0 := (below_alloc w (.cells (IC a) 25)).alloc (by simp) (.cells (IC b) 25)
  go_enter Try.func5, Try.ntmps5
  go_wp2_with fail
  refine (awake9 _).mono ?_
  rintro e w1 ⟨rfl, hb1⟩
  replace A0 := (A0.on hb1).drew; replace B0 := (B0.on hb1).drew; replace W0 := (belowOn W0 hb1).drew
  clear hb1
  go_wp2_with fail
  go_region_held3 (fun w' => (∀ j, w'.cell? ⟨w.heap.size, j, none⟩ = (IC a)[j]?) ∧ (∀ j, w'.cell? ⟨w.heap.size + 1, j, none⟩ = (IC b)[j]?)) (first | exact ⟨A4.all, B4.all⟩ | exact ⟨A3.all, B3.all⟩ | exact ⟨A2.all, B2.all⟩ | exact ⟨A1.all, B1.all⟩ | exact ⟨A0.all, B0.all⟩)
    (first | (go_at_call 16; refine (knows16 a b _).mono ?_; rintro e u1 ⟨rfl, hu1⟩; have A1 := A0.on hu1; have B1 := B0.on hu1; have W1 := belowOn W0 hu1) | (go_at_call 17; refine (knows17 a b _).mono ?_; rintro e u2 ⟨rfl, hu2⟩; have A2 := A1.on hu2; have B2 := B1.on hu2; have W2 := belowOn W1 hu2) | (go_at_call 18; refine (less18 a b _ ha hb).mono ?_; rintro e u3 ⟨rfl, hu3⟩; have A3 := A2.on hu3; have B3 := B2.on hu3; have W3 := belowOn W2 hu3) | (go_at_call 19; refine (less19 a b _ ha hb).mono ?_; rintro e u4 ⟨rfl, hu4⟩; have A4 := A3.on hu4; have B4 := B3.on hu4; have W4 := belowOn W3 hu4))
  go_wp2
  go_ret
  exact ⟨rfl, W4⟩
end
set_option maxRecDepth 100000 in
set_option maxHeartbeats 2000000 in
theorem lacpduKnowslifted (os : Os) (started : os.Started) (H : Type) (enc : TypeId × Value → H) :
    ReturnsInHanded {} Try.checked os 5 .any (Rows.lacpduKnowsSpec.pre6 enc Try.prog Try.f5 Rows.lacpduKnowsRow.domain false) (Rows.lacpduKnowsSpec.post enc Try.prog Try.f5 false true false false) := by
  refine returnsInHanded_of_change (C := Try.checked) own started (by kernel_rfl) Try.func5
    (ChangeSpec.witness6 (enc := enc) (C := Try.checked) false ⟨#[], #[.agg #[.int .i64 0, .int .u8 0, .int .u8 0, .int .u8 0, .int .u8 0, .int .u8 0, .int .u8 0, .int .i64 0, .int .i64 0, .int .i64 0, .int .i64 0], .agg #[.int .i64 0, .int .u8 0, .int .u8 0, .int .u8 0, .int .u8 0, .int .u8 0, .int .u8 0, .int .i64 0, .int .i64 0, .int .i64 0, .int .i64 0]], []⟩ 8 (by kernel_rfl) (by kernel_rfl) (by kernel_rfl) (by kernel_rfl)) ?_
  intro W base args ds gs before hval0 hW _ _
  have hval : ∀ (j : Nat) t v, Try.f5.params[j]? = some t → args[j]? = some v → Value.okWide Try.prog W .any base t v := hval0
  have hW' := hW
  obtain ⟨p, q, hA0, hV, rfl, _, _⟩ := hW
  have hA : DataW.TrodAll enc Try.prog W 0 (fun _ => true) true Try.f5.params.toList args.toList ds p := hA0
  rw [Try.params5] at hA hval
  obtain ⟨v0, vs0, d0, ds0, p0, q0, hargs, rfl, rfl, h0, r0⟩ := trodAll_cons hA
  obtain ⟨v1, vs1, d1, ds1, p1, q1, rfl, rfl, rfl, h1, r1⟩ := trodAll_cons r0
  obtain ⟨rfl, rfl, rfl⟩ := trodAll_nil r1
  obtain rfl : args = #[v0, v1] := by cases args; simp_all
  obtain ⟨rfl, rfl⟩ := trodVars_none hV
  have h0k := h0
  obtain ⟨i0, rfl, hi0⟩ := open_info (hval 0 25 v0 rfl rfl) h0
  have h1k := h1
  obtain ⟨i1, rfl, hi1⟩ := open_info (hval 1 25 v1 rfl rfl) h1
  clear hA0 hval0
  simp only [List.append_nil] at hW'
  have hlt : ∀ x ∈ p0 ++ p1, x.block < W.heap.size := fun x hx => by simpa using hW'.lt x (by simpa using hx)
  refine (knowsWalk i0 i1 W hi0 hi1).mono fun e W' ⟨he, hbl⟩ => ?_
  subst he
  exact ⟨_, rfl, _, _, _, [], _, [], hW', (trodAll_cons_mk (shut_bool Try.underlying4 _) trodAll_mk0), (trodAll_cons_mk (Below.trod Try.laidOut (by kernel_rfl) (of_decide_eq_true (by kernel_rfl)) h0k hbl (fun x hx => hlt x (by simp [hx]))) (trodAll_cons_mk (Below.trod Try.laidOut (by kernel_rfl) (of_decide_eq_true (by kernel_rfl)) h1k hbl (fun x hx => hlt x (by simp [hx]))) trodAll_mk0)), rfl, hbl.frame _, fun h => by cases h⟩

theorem lacpduKnows_holds : Rows.LacpduKnowsSaid :=
  OpenClaim.holds_of_wide 5 Try.f5 rfl rfl rfl rfl rfl rfl rfl ⟨rfl, rfl, rfl, rfl, rfl⟩ rfl rfl rfl rfl rfl (by kernel_rfl) Try.func5 (by kernel_rfl)
    (of_decide_eq_true (by kernel_rfl)) (by unfold Func.isWrapper; first | (rw [if_pos (by decide +kernel)]; kernel_rfl) | (rw [if_neg (by decide +kernel)]; exact ⟨rfl, rfl⟩))
    (fun os started H enc _ => lacpduKnowslifted os started H enc)

#print axioms lacpduKnows_holds
end Go.Proofs.Ytaehhhknpbbmkaa
