/- MacParses: for every text the law answers true, and the text reads behind the call as it read before. No condition. -/
import Derived.Test.YtokmkgjjiloacaaA5
import Derived.Test.YtokmkgjjiloacaaPa
import Derived.Test.YtokmkgjjiloacaaOpen
namespace Go.Proofs.Ytokmkgjjiloacaa
open Go.ChangeShapes Go.WideShapes Go.ChangeAt Go.RowKit
open Go.ChangeMaps (open_string shut_string)

set_option maxRecDepth 100000 in
set_option maxHeartbeats 2000000 in
theorem parsesWalk (s : ByteArray) (w : World) :
    Calls Try.prog 4 #[.string s] w fun e w' => e = .returned (.bool true) ∧ Below w.heap.size w w' := by
  go_enter Try.func4, Try.ntmps4
  go_wp2_with fail
  refine (awake10 _).mono ?_
  rintro e w1 ⟨rfl, W0⟩
  go_wp2_with fail
  refine (pa19 _ _).mono ?_
  rintro e w2 ⟨m0, m1, m2, m3, m4, m5, x, hm, rfl, hb⟩
  have C0 := At6.new w2 m0 m1 m2 m3 m4 m5
  replace W0 := (belowOn W0 hb).alloc (belowOn W0 hb).size (.cells #[.int .u8 m0, .int .u8 m1, .int .u8 m2, .int .u8 m3, .int .u8 m4, .int .u8 m5] 23)
  clear hb
  go_wp2_with fail
  refine (pa20 _ _).mono ?_
  rintro e w3 ⟨k0, k1, k2, k3, k4, k5, y, hk, rfl, hb⟩
  obtain ⟨lt, c0, c1, c2, c3, c4, c5⟩ := C0.on hb
  replace W0 := (belowOn W0 hb).alloc (belowOn W0 hb).size (.cells #[.int .u8 k0, .int .u8 k1, .int .u8 k2, .int .u8 k3, .int .u8 k4, .int .u8 k5] 23)
  obtain ⟨he, hxy⟩ := hm.same hk
  subst hxy
  have hq := eqMac m0 m1 m2 m3 m4 m5 k0 k1 k2 k3 k4 k5
  clear hm hk hb C0
  go_wp2
  go_ret
  exact ⟨rfl, W0⟩

set_option maxRecDepth 100000 in
theorem macParseslifted (os : Os) (started : os.Started) (H : Type) (enc : TypeId × Value → H) :
    ReturnsInHanded {} Try.checked os 4 .any (Rows.macParsesSpec.pre6 enc Try.prog Try.f4 Rows.macParsesRow.domain false) (Rows.macParsesSpec.post enc Try.prog Try.f4 false true false false) := by
  refine returnsInHanded_of_change (C := Try.checked) own started (by kernel_rfl) Try.func4
    (ChangeSpec.witness6 (enc := enc) (C := Try.checked) false ⟨#[], #[.string ByteArray.empty], []⟩ 8 (by kernel_rfl) (by kernel_rfl) (by kernel_rfl) (by kernel_rfl)) ?_
  intro W base args ds gs before hval0 hW _ _
  have hval : ∀ (j : Nat) t v, Try.f4.params[j]? = some t → args[j]? = some v → Value.okWide Try.prog W .any base t v := hval0
  have hW' := hW
  obtain ⟨p, q, hA0, hV, rfl, _, _⟩ := hW
  have hA : DataW.TrodAll enc Try.prog W 0 (fun _ => true) true Try.f4.params.toList args.toList ds p := hA0
  rw [Try.params4] at hA hval
  obtain ⟨v0, vs0, d0, ds0, p0, q0, hargs, rfl, rfl, h0, r0⟩ := trodAll_cons hA
  obtain ⟨rfl, rfl, rfl⟩ := trodAll_nil r0
  obtain rfl : args = #[v0] := by cases args; simp_all
  obtain ⟨rfl, rfl⟩ := trodVars_none hV
  obtain ⟨s0, rfl, rfl, rfl, k0⟩ := open_string Try.underlying9 (hval 0 9 v0 rfl rfl) h0
  clear hA0 hval0
  simp only [List.append_nil] at hW'
  refine (parsesWalk s0 W).mono fun e W' ⟨he, hb⟩ => ?_
  subst he
  exact ⟨_, rfl, _, _, _, [], [], [], hW', (trodAll_cons_mk (shut_bool Try.underlying4 _) trodAll_mk0), (trodAll_cons_mk (shut_string Try.underlying9 k0) trodAll_mk0), rfl, hb.frame _, fun h => by cases h⟩

theorem macParses_holds : Rows.MacParsesSaid :=
  OpenClaim.holds_of_wide 4 Try.f4 rfl rfl rfl rfl rfl rfl rfl ⟨rfl, rfl, rfl, rfl, rfl⟩ rfl rfl rfl rfl rfl (by kernel_rfl) Try.func4 (by kernel_rfl)
    (of_decide_eq_true (by kernel_rfl)) (by unfold Func.isWrapper; first | (rw [if_pos (by decide +kernel)]; kernel_rfl) | (rw [if_neg (by decide +kernel)]; exact ⟨rfl, rfl⟩))
    (fun os started H enc _ => macParseslifted os started H enc)

#print axioms macParses_holds
end Go.Proofs.Ytokmkgjjiloacaa
