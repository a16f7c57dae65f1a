/- MacNumbers: for every number and every two addresses the law answers true, and these read behind the call as they read before. No condition. -/
import Derived.Test.YtokmkgjjiloacaaA5
import Derived.Test.YtokmkgjjiloacaaAt
import Derived.Test.YtokmkgjjiloacaaOpen
namespace Go.Proofs.Ytokmkgjjiloacaa
open Go.ChangeShapes Go.WideShapes Go.ChangeAt Go.RowKit

set_option maxRecDepth 100000 in
set_option maxHeartbeats 2000000 in
theorem numsWalk (n a0 a1 a2 a3 a4 a5 b0 b1 b2 b3 b4 b5 : Int) (w : World) (hn : (Lit.int .u64 n).wf = true) (h : B6 a0 a1 a2 a3 a4 a5) (k : B6 b0 b1 b2 b3 b4 b5) :
    Calls Try.prog 5 #[.int .u64 n, .agg #[.int .u8 a0, .int .u8 a1, .int .u8 a2, .int .u8 a3, .int .u8 a4, .int .u8 a5], .agg #[.int .u8 b0, .int .u8 b1, .int .u8 b2, .int .u8 b3, .int .u8 b4, .int .u8 b5]] w fun e w' => e = .returned (.bool true) ∧ Below w.heap.size w w' := by
  have hn0 : 0 ≤ n := by
    simp [Lit.wf, IntKind.min, IntKind.max, IntKind.signed, IntKind.bits] at hn
    omega
  clear hn
  have A0 := (At6.new w a0 a1 a2 a3 a4 a5).alloc (.cells #[.int .u8 b0, .int .u8 b1, .int .u8 b2, .int .u8 b3, .int .u8 b4, .int .u8 b5] 23)
  have B0 := At6.new (w.alloc (.cells #[.int .u8 a0, .int .u8 a1, .int .u8 a2, .int .u8 a3, .int .u8 a4, .int .u8 a5] 23)) b0 b1 b2 b3 b4 b5
  rw [World.size_alloc] at B0
  have W0 : Below w.heap.size w ((w.alloc (.cells #[.int .u8 a0, .int .u8 a1, .int .u8 a2, .int .u8 a3, .int .u8 a4, .int .u8 a5] 23)).alloc (.cells #[.int .u8 b0, .int .u8 b1, .int .u8 b2, .int .u8 b3, .int .u8 b4, .int .u8 b5] 23)) := by go_grown
  go_enter Try.func5, Try.ntmps5
  go_wp2_with fail
  refine (awake10 _).mono ?_
  rintro e w1 ⟨rfl, hb⟩
  replace A0 := A0.on hb; replace B0 := B0.on hb; replace W0 := belowOn W0 hb
  clear hb
  go_wp2_with fail
  refine (of21 _ _ hn0).mono ?_
  rintro e w2 ⟨m0, m1, m2, m3, m4, m5, x, hm, rfl, hb⟩
  have C0 := At6.new w2 m0 m1 m2 m3 m4 m5
  replace A0 := (A0.on hb).alloc (.cells #[.int .u8 m0, .int .u8 m1, .int .u8 m2, .int .u8 m3, .int .u8 m4, .int .u8 m5] 23)
  replace B0 := (B0.on hb).alloc (.cells #[.int .u8 m0, .int .u8 m1, .int .u8 m2, .int .u8 m3, .int .u8 m4, .int .u8 m5] 23)
  replace W0 := (belowOn W0 hb).alloc (belowOn W0 hb).size (.cells #[.int .u8 m0, .int .u8 m1, .int .u8 m2, .int .u8 m3, .int .u8 m4, .int .u8 m5] 23)
  clear hb
  go_wp2_with fail
  refine (of22 _ _ hn0).mono ?_
  rintro e w3 ⟨k0, k1, k2, k3, k4, k5, y, hk, rfl, hb⟩
  have D0 := At6.new w3 k0 k1 k2 k3 k4 k5
  replace A0 := (A0.on hb).alloc (.cells #[.int .u8 k0, .int .u8 k1, .int .u8 k2, .int .u8 k3, .int .u8 k4, .int .u8 k5] 23)
  replace B0 := (B0.on hb).alloc (.cells #[.int .u8 k0, .int .u8 k1, .int .u8 k2, .int .u8 k3, .int .u8 k4, .int .u8 k5] 23)
  replace C0 := (C0.on hb).alloc (.cells #[.int .u8 k0, .int .u8 k1, .int .u8 k2, .int .u8 k3, .int .u8 k4, .int .u8 k5] 23)
  replace W0 := (belowOn W0 hb).alloc (belowOn W0 hb).size (.cells #[.int .u8 k0, .int .u8 k1, .int .u8 k2, .int .u8 k3, .int .u8 k4, .int .u8 k5] 23)
  clear hb
  obtain ⟨he, hxy⟩ := hm.same hk
  subst hxy
  have hq := eqMac m0 m1 m2 m3 m4 m5 k0 k1 k2 k3 k4 k5
  clear hm hk
  have E0 : At6 w3.heap.size (w3.alloc (.cells #[.int .u8 k0, .int .u8 k1, .int .u8 k2, .int .u8 k3, .int .u8 k4, .int .u8 k5] 23)).drew k0 k1 k2 k3 k4 k5 := D0.drew
  replace A0 := A0.drew; replace B0 := B0.drew; replace C0 := C0.drew; replace W0 := W0.drew
  clear D0
  go_wp2_with fail
  go_region_held3 (fun w' => w'.cell? ⟨w.heap.size, 0, none⟩ = some (.int .u8 a0) ∧ w'.cell? ⟨w.heap.size, 1, none⟩ = some (.int .u8 a1) ∧ w'.cell? ⟨w.heap.size, 2, none⟩ = some (.int .u8 a2) ∧ w'.cell? ⟨w.heap.size, 3, none⟩ = some (.int .u8 a3) ∧ w'.cell? ⟨w.heap.size, 4, none⟩ = some (.int .u8 a4) ∧ w'.cell? ⟨w.heap.size, 5, none⟩ = some (.int .u8 a5) ∧ w'.cell? ⟨w.heap.size + 1, 0, none⟩ = some (.int .u8 b0) ∧ w'.cell? ⟨w.heap.size + 1, 1, none⟩ = some (.int .u8 b1) ∧ w'.cell? ⟨w.heap.size + 1, 2, none⟩ = some (.int .u8 b2) ∧ w'.cell? ⟨w.heap.size + 1, 3, none⟩ = some (.int .u8 b3) ∧ w'.cell? ⟨w.heap.size + 1, 4, none⟩ = some (.int .u8 b4) ∧ w'.cell? ⟨w.heap.size + 1, 5, none⟩ = some (.int .u8 b5) ∧ w'.cell? ⟨w2.heap.size, 0, none⟩ = some (.int .u8 m0) ∧ w'.cell? ⟨w2.heap.size, 1, none⟩ = some (.int .u8 m1) ∧ w'.cell? ⟨w2.heap.size, 2, none⟩ = some (.int .u8 m2) ∧ w'.cell? ⟨w2.heap.size, 3, none⟩ = some (.int .u8 m3) ∧ w'.cell? ⟨w2.heap.size, 4, none⟩ = some (.int .u8 m4) ∧ w'.cell? ⟨w2.heap.size, 5, none⟩ = some (.int .u8 m5) ∧ w'.cell? ⟨w3.heap.size, 0, none⟩ = some (.int .u8 k0) ∧ w'.cell? ⟨w3.heap.size, 1, none⟩ = some (.int .u8 k1) ∧ w'.cell? ⟨w3.heap.size, 2, none⟩ = some (.int .u8 k2) ∧ w'.cell? ⟨w3.heap.size, 3, none⟩ = some (.int .u8 k3) ∧ w'.cell? ⟨w3.heap.size, 4, none⟩ = some (.int .u8 k4) ∧ w'.cell? ⟨w3.heap.size, 5, none⟩ = some (.int .u8 k5))
    (first | exact ⟨A2.c0, A2.c1, A2.c2, A2.c3, A2.c4, A2.c5, B2.c0, B2.c1, B2.c2, B2.c3, B2.c4, B2.c5, C2.c0, C2.c1, C2.c2, C2.c3, C2.c4, C2.c5, E2.c0, E2.c1, E2.c2, E2.c3, E2.c4, E2.c5⟩ | exact ⟨A1.c0, A1.c1, A1.c2, A1.c3, A1.c4, A1.c5, B1.c0, B1.c1, B1.c2, B1.c3, B1.c4, B1.c5, C1.c0, C1.c1, C1.c2, C1.c3, C1.c4, C1.c5, E1.c0, E1.c1, E1.c2, E1.c3, E1.c4, E1.c5⟩ | exact ⟨A0.c0, A0.c1, A0.c2, A0.c3, A0.c4, A0.c5, B0.c0, B0.c1, B0.c2, B0.c3, B0.c4, B0.c5, C0.c0, C0.c1, C0.c2, C0.c3, C0.c4, C0.c5, E0.c0, E0.c1, E0.c2, E0.c3, E0.c4, E0.c5⟩)
    (first | (go_at_call 23; refine (cmp23 _ _ _ _ _ _ _ _ _ _ _ _ _ h k).mono ?_; rintro e w4 ⟨rfl, hb4⟩; have A1 := A0.on hb4; have B1 := B0.on hb4; have C1 := C0.on hb4; have E1 := E0.on hb4; have W1 := belowOn W0 hb4) | (go_at_call 24; refine (cmp24 _ _ _ _ _ _ _ _ _ _ _ _ _ h k).mono ?_; rintro e w5 ⟨rfl, hb5⟩; have A2 := A1.on hb5; have B2 := B1.on hb5; have C2 := C1.on hb5; have E2 := E1.on hb5; have W2 := belowOn W1 hb5))
  clear hb4 hb5
  go_wp2
  go_ret
  exact ⟨rfl, W2⟩

set_option maxRecDepth 100000 in
theorem macNumberslifted (os : Os) (started : os.Started) (H : Type) (enc : TypeId × Value → H) :
    ReturnsInHanded {} Try.checked os 5 .any (Rows.macNumbersSpec.pre6 enc Try.prog Try.f5 Rows.macNumbersRow.domain false) (Rows.macNumbersSpec.post enc Try.prog Try.f5 false true false false) := by
  refine returnsInHanded_of_change (C := Try.checked) own started (by kernel_rfl) Try.func5
    (ChangeSpec.witness6 (enc := enc) (C := Try.checked) false ⟨#[], #[.int .u64 0, .agg #[.int .u8 0, .int .u8 0, .int .u8 0, .int .u8 0, .int .u8 0, .int .u8 0], .agg #[.int .u8 0, .int .u8 0, .int .u8 0, .int .u8 0, .int .u8 0, .int .u8 0]], []⟩ 8 (by kernel_rfl) (by kernel_rfl) (by kernel_rfl) (by kernel_rfl)) ?_
  intro W base args ds gs before hval0 hW _ _
  have hval : ∀ (j : Nat) t v, Try.f5.params[j]? = some t → args[j]? = some v → Value.okWide Try.prog W .any base t v := hval0
  have hW' := hW
  obtain ⟨p, q, hA0, hV, rfl, _, _⟩ := hW
  have hA : DataW.TrodAll enc Try.prog W 0 (fun _ => true) true Try.f5.params.toList args.toList ds p := hA0
  rw [Try.params5] at hA hval
  obtain ⟨v0, vs0, d0, ds0, p0, q0, hargs, rfl, rfl, h0, r0⟩ := trodAll_cons hA
  obtain ⟨v1, vs1, d1, ds1, p1, q1, rfl, rfl, rfl, h1, r1⟩ := trodAll_cons r0
  obtain ⟨v2, vs2, d2, ds2, p2, q2, rfl, rfl, rfl, h2, r2⟩ := trodAll_cons r1
  obtain ⟨rfl, rfl, rfl⟩ := trodAll_nil r2
  obtain rfl : args = #[v0, v1, v2] := by cases args; simp_all
  obtain ⟨rfl, rfl⟩ := trodVars_none hV
  obtain ⟨n0, rfl, rfl, rfl, k0⟩ := open_int Try.underlying26 (hval 0 26 v0 rfl rfl) h0
  obtain ⟨b0, b1, b2, b3, b4, b5, rfl, rfl, rfl, k1⟩ := open_mac (hval 1 23 v1 rfl rfl) h1
  obtain ⟨c0, c1, c2, c3, c4, c5, rfl, rfl, rfl, k2⟩ := open_mac (hval 2 23 v2 rfl rfl) h2
  clear hA0 hval0
  simp only [List.append_nil] at hW'
  refine (numsWalk n0 b0 b1 b2 b3 b4 b5 c0 c1 c2 c3 c4 c5 W k0 k1 k2).mono fun e W' ⟨he, hb⟩ => ?_
  subst he
  exact ⟨_, rfl, _, _, _, [], [], [], hW', (trodAll_cons_mk (shut_bool Try.underlying4 _) trodAll_mk0), (trodAll_cons_mk (shut_int Try.underlying26 k0) (trodAll_cons_mk (shut_mac k1) (trodAll_cons_mk (shut_mac k2) trodAll_mk0))), rfl, hb.frame _, fun h => by cases h⟩

theorem macNumbers_holds : Rows.MacNumbersSaid :=
  OpenClaim.holds_of_wide 5 Try.f5 rfl rfl rfl rfl rfl rfl rfl ⟨rfl, rfl, rfl, rfl, rfl⟩ rfl rfl rfl rfl rfl (by kernel_rfl) Try.func5 (by kernel_rfl)
    (of_decide_eq_true (by kernel_rfl)) (by unfold Func.isWrapper; first | (rw [if_pos (by decide +kernel)]; kernel_rfl) | (rw [if_neg (by decide +kernel)]; exact ⟨rfl, rfl⟩))
    (fun os started H enc _ => macNumberslifted os started H enc)

#print axioms macNumbers_holds
end Go.Proofs.Ytokmkgjjiloacaa
