/- MacBack: for every address the law answers true, and the address reads behind the call as it read before. No condition. -/
import Derived.Test.YtokmkgjjiloacaaA5
import Derived.Test.YtokmkgjjiloacaaPa
import Derived.Test.YtokmkgjjiloacaaRound
import Derived.Test.YtokmkgjjiloacaaOpen
namespace Go.Proofs.Ytokmkgjjiloacaa
open Go.ChangeShapes Go.WideShapes Go.ChangeAt Go.RowKit

theorem OfR.num {a0 a1 a2 a3 a4 a5 b0 b1 b2 b3 b4 b5 x : Int} (h : B6 a0 a1 a2 a3 a4 a5) (k : OfR (num a0 a1 a2 a3 a4 a5) b0 b1 b2 b3 b4 b5 x) : x = 0 ∧ eq6 b0 b1 b2 b3 b4 b5 a0 a1 a2 a3 a4 a5 = true := by
  obtain ⟨kb, k⟩ := k
  have hi := num_hi h
  rcases k with ⟨k0, k1, k2⟩ | ⟨_, _, k2⟩
  · exact ⟨k0, by rw [eq6_num kb h]; simp [k1]⟩
  · omega

set_option maxRecDepth 100000 in
set_option maxHeartbeats 2000000 in
theorem backWalk (a0 a1 a2 a3 a4 a5 : Int) (w : World) (h : B6 a0 a1 a2 a3 a4 a5) :
    Calls Try.prog 6 #[.agg #[.int .u8 a0, .int .u8 a1, .int .u8 a2, .int .u8 a3, .int .u8 a4, .int .u8 a5]] w fun e w' => e = .returned (.bool true) ∧ Below w.heap.size w w' := by
  have A0 := At6.new w a0 a1 a2 a3 a4 a5
  have W0 : Below w.heap.size w (w.alloc (.cells #[.int .u8 a0, .int .u8 a1, .int .u8 a2, .int .u8 a3, .int .u8 a4, .int .u8 a5] 23)) := by go_grown
  go_enter Try.func6, Try.ntmps6
  go_wp2_with fail
  refine (awake10 _).mono ?_
  rintro e w1 ⟨rfl, hb⟩
  replace A0 := A0.on hb; replace W0 := belowOn W0 hb
  clear hb
  obtain ⟨lt, c0, c1, c2, c3, c4, c5⟩ := id A0
  go_wp2_with fail
  clear lt c0 c1 c2 c3 c4 c5
  refine (text11 _ _ _ _ _ _ _ h).mono ?_
  rintro e w2 ⟨rfl, hb⟩
  replace A0 := A0.on hb; replace W0 := belowOn W0 hb
  clear hb
  go_wp2_with fail
  refine (pa19 _ _).mono ?_
  rintro e w3 ⟨m0, m1, m2, m3, m4, m5, x, hm, rfl, hb⟩
  obtain ⟨rfl, hem⟩ := hm.text h
  clear hm
  have C0 := At6.new w3 m0 m1 m2 m3 m4 m5
  replace A0 := (A0.on hb).alloc (.cells #[.int .u8 m0, .int .u8 m1, .int .u8 m2, .int .u8 m3, .int .u8 m4, .int .u8 m5] 23)
  replace W0 := (belowOn W0 hb).alloc (belowOn W0 hb).size (.cells #[.int .u8 m0, .int .u8 m1, .int .u8 m2, .int .u8 m3, .int .u8 m4, .int .u8 m5] 23)
  clear hb
  obtain ⟨lt, c0, c1, c2, c3, c4, c5⟩ := id A0
  go_wp2_with fail
  clear lt c0 c1 c2 c3 c4 c5
  refine (num13 _ _ _ _ _ _ _ h).mono ?_
  rintro e w4 ⟨rfl, hb⟩
  replace A0 := A0.on hb; replace C0 := C0.on hb; replace W0 := belowOn W0 hb
  clear hb
  go_wp2_with fail
  refine (of21 _ _ (num_lo h)).mono ?_
  rintro e w5 ⟨k0, k1, k2, k3, k4, k5, y, hk, rfl, hb⟩
  obtain ⟨rfl, hek⟩ := hk.num h
  clear hk
  have D0 := At6.new w5 k0 k1 k2 k3 k4 k5
  replace A0 := (A0.on hb).alloc (.cells #[.int .u8 k0, .int .u8 k1, .int .u8 k2, .int .u8 k3, .int .u8 k4, .int .u8 k5] 23)
  replace C0 := (C0.on hb).alloc (.cells #[.int .u8 k0, .int .u8 k1, .int .u8 k2, .int .u8 k3, .int .u8 k4, .int .u8 k5] 23)
  replace W0 := (belowOn W0 hb).alloc (belowOn W0 hb).size (.cells #[.int .u8 k0, .int .u8 k1, .int .u8 k2, .int .u8 k3, .int .u8 k4, .int .u8 k5] 23)
  clear hb
  have hq1 := eqMac m0 m1 m2 m3 m4 m5 a0 a1 a2 a3 a4 a5
  have hq2 := eqMac k0 k1 k2 k3 k4 k5 a0 a1 a2 a3 a4 a5
  obtain ⟨lt, c0, c1, c2, c3, c4, c5⟩ := A0
  obtain ⟨ltc, d0, d1, d2, d3, d4, d5⟩ := C0
  obtain ⟨ltd, e0, e1, e2, e3, e4, e5⟩ := D0
  go_wp2
  go_ret
  exact ⟨rfl, W0⟩

set_option maxRecDepth 100000 in
theorem macBacklifted (os : Os) (started : os.Started) (H : Type) (enc : TypeId × Value → H) :
    ReturnsInHanded {} Try.checked os 6 .any (Rows.macBackSpec.pre6 enc Try.prog Try.f6 Rows.macBackRow.domain false) (Rows.macBackSpec.post enc Try.prog Try.f6 false true false false) := by
  refine returnsInHanded_of_change (C := Try.checked) own started (by kernel_rfl) Try.func6
    (ChangeSpec.witness6 (enc := enc) (C := Try.checked) false ⟨#[], #[.agg #[.int .u8 0, .int .u8 0, .int .u8 0, .int .u8 0, .int .u8 0, .int .u8 0]], []⟩ 8 (by kernel_rfl) (by kernel_rfl) (by kernel_rfl) (by kernel_rfl)) ?_
  intro W base args ds gs before hval0 hW _ _
  have hval : ∀ (j : Nat) t v, Try.f6.params[j]? = some t → args[j]? = some v → Value.okWide Try.prog W .any base t v := hval0
  have hW' := hW
  obtain ⟨p, q, hA0, hV, rfl, _, _⟩ := hW
  have hA : DataW.TrodAll enc Try.prog W 0 (fun _ => true) true Try.f6.params.toList args.toList ds p := hA0
  rw [Try.params6] at hA hval
  obtain ⟨v0, vs0, d0, ds0, p0, q0, hargs, rfl, rfl, h0, r0⟩ := trodAll_cons hA
  obtain ⟨rfl, rfl, rfl⟩ := trodAll_nil r0
  obtain rfl : args = #[v0] := by cases args; simp_all
  obtain ⟨rfl, rfl⟩ := trodVars_none hV
  obtain ⟨a0, a1, a2, a3, a4, a5, rfl, rfl, rfl, k0⟩ := open_mac (hval 0 23 v0 rfl rfl) h0
  clear hA0 hval0
  simp only [List.append_nil] at hW'
  refine (backWalk a0 a1 a2 a3 a4 a5 W k0).mono fun e W' ⟨he, hb⟩ => ?_
  subst he
  exact ⟨_, rfl, _, _, _, [], [], [], hW', (trodAll_cons_mk (shut_bool Try.underlying4 _) trodAll_mk0), (trodAll_cons_mk (shut_mac k0) trodAll_mk0), rfl, hb.frame _, fun h => by cases h⟩

theorem macBack_holds : Rows.MacBackSaid :=
  OpenClaim.holds_of_wide 6 Try.f6 rfl rfl rfl rfl rfl rfl rfl ⟨rfl, rfl, rfl, rfl, rfl⟩ rfl rfl rfl rfl rfl (by kernel_rfl) Try.func6 (by kernel_rfl)
    (of_decide_eq_true (by kernel_rfl)) (by unfold Func.isWrapper; first | (rw [if_pos (by decide +kernel)]; kernel_rfl) | (rw [if_neg (by decide +kernel)]; exact ⟨rfl, rfl⟩))
    (fun os started H enc _ => macBacklifted os started H enc)

#print axioms macBack_holds
end Go.Proofs.Ytokmkgjjiloacaa
