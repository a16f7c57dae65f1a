/- MacOrder: for every three addresses the law answers true, and these read behind the call as they read before. No condition. -/
import Derived.Test.YtokmkgjjiloacaaA5
import Derived.Test.YtokmkgjjiloacaaLess
import Derived.Test.YtokmkgjjiloacaaOpen
namespace Go.Proofs.Ytokmkgjjiloacaa
open Go.ChangeShapes Go.WideShapes Go.ChangeAt Go.RowKit

set_option maxRecDepth 100000 in
set_option maxHeartbeats 8000000 in
theorem orderWalk (a0 a1 a2 a3 a4 a5 b0 b1 b2 b3 b4 b5 c0 c1 c2 c3 c4 c5 : Int) (w : World) (h : B6 a0 a1 a2 a3 a4 a5) (k : B6 b0 b1 b2 b3 b4 b5) (l : B6 c0 c1 c2 c3 c4 c5) :
    Calls Try.prog 8 #[.agg #[.int .u8 a0, .int .u8 a1, .int .u8 a2, .int .u8 a3, .int .u8 a4, .int .u8 a5], .agg #[.int .u8 b0, .int .u8 b1, .int .u8 b2, .int .u8 b3, .int .u8 b4, .int .u8 b5], .agg #[.int .u8 c0, .int .u8 c1, .int .u8 c2, .int .u8 c3, .int .u8 c4, .int .u8 c5]] w fun e w' => e = .returned (.bool true) ∧ Below w.heap.size w w' := by
  have A0 := ((At6.new w a0 a1 a2 a3 a4 a5).alloc (.cells #[.int .u8 b0, .int .u8 b1, .int .u8 b2, .int .u8 b3, .int .u8 b4, .int .u8 b5] 23)).alloc (.cells #[.int .u8 c0, .int .u8 c1, .int .u8 c2, .int .u8 c3, .int .u8 c4, .int .u8 c5] 23)
  have B0 := (At6.new (w.alloc (.cells #[.int .u8 a0, .int .u8 a1, .int .u8 a2, .int .u8 a3, .int .u8 a4, .int .u8 a5] 23)) b0 b1 b2 b3 b4 b5).alloc (.cells #[.int .u8 c0, .int .u8 c1, .int .u8 c2, .int .u8 c3, .int .u8 c4, .int .u8 c5] 23)
  have C0 := At6.new ((w.alloc (.cells #[.int .u8 a0, .int .u8 a1, .int .u8 a2, .int .u8 a3, .int .u8 a4, .int .u8 a5] 23)).alloc (.cells #[.int .u8 b0, .int .u8 b1, .int .u8 b2, .int .u8 b3, .int .u8 b4, .int .u8 b5] 23)) c0 c1 c2 c3 c4 c5
  rw [World.size_alloc] at B0
  rw [World.size_alloc, World.size_alloc] at C0
  have W0 : Below w.heap.size w (((w.alloc (.cells #[.int .u8 a0, .int .u8 a1, .int .u8 a2, .int .u8 a3, .int .u8 a4, .int .u8 a5] 23)).alloc (.cells #[.int .u8 b0, .int .u8 b1, .int .u8 b2, .int .u8 b3, .int .u8 b4, .int .u8 b5] 23)).alloc (.cells #[.int .u8 c0, .int .u8 c1, .int .u8 c2, .int .u8 c3, .int .u8 c4, .int .u8 c5] 23)) := by go_grown
  have ht := text_less h k
  have hq := eqMac a0 a1 a2 a3 a4 a5 b0 b1 b2 b3 b4 b5
  go_enter Try.func8, Try.ntmps8
  go_wp2_with fail
  refine (awake10 _).mono ?_
  rintro e w1 ⟨rfl, hb⟩
  replace A0 := A0.on hb; replace B0 := B0.on hb; replace C0 := C0.on hb; replace W0 := belowOn W0 hb
  clear hb
  obtain ⟨-, p0, p1, p2, p3, p4, p5⟩ := id A0
  obtain ⟨-, q0, q1, q2, q3, q4, q5⟩ := id B0
  go_wp2_with fail
  clear p0 p1 p2 p3 p4 p5 q0 q1 q2 q3 q4 q5
  refine (cmp23 _ _ _ _ _ _ _ _ _ _ _ _ _ h k).mono ?_
  rintro e w2 ⟨rfl, hb⟩
  replace A0 := A0.on hb; replace B0 := B0.on hb; replace C0 := C0.on hb; replace W0 := belowOn W0 hb
  clear hb
  obtain ⟨-, p0, p1, p2, p3, p4, p5⟩ := id B0
  obtain ⟨-, q0, q1, q2, q3, q4, q5⟩ := id C0
  go_wp2_with fail
  clear p0 p1 p2 p3 p4 p5 q0 q1 q2 q3 q4 q5
  refine (cmp23 _ _ _ _ _ _ _ _ _ _ _ _ _ k l).mono ?_
  rintro e w3 ⟨rfl, hb⟩
  replace A0 := A0.on hb; replace B0 := B0.on hb; replace C0 := C0.on hb; replace W0 := belowOn W0 hb
  clear hb
  obtain ⟨-, p0, p1, p2, p3, p4, p5⟩ := id A0
  obtain ⟨-, q0, q1, q2, q3, q4, q5⟩ := id C0
  go_wp2_with fail
  clear p0 p1 p2 p3 p4 p5 q0 q1 q2 q3 q4 q5
  refine (cmp23 _ _ _ _ _ _ _ _ _ _ _ _ _ h l).mono ?_
  rintro e w4 ⟨rfl, hb⟩
  replace A0 := (A0.on hb).drew; replace B0 := (B0.on hb).drew; replace W0 := (belowOn W0 hb).drew
  clear hb C0
  go_wp2_with fail
  go_region_held3 (fun w' => w'.cell? ⟨w.heap.size, 0, none⟩ = some (.int .u8 a0) ∧ w'.cell? ⟨w.heap.size, 1, none⟩ = some (.int .u8 a1) ∧ w'.cell? ⟨w.heap.size, 2, none⟩ = some (.int .u8 a2) ∧ w'.cell? ⟨w.heap.size, 3, none⟩ = some (.int .u8 a3) ∧ w'.cell? ⟨w.heap.size, 4, none⟩ = some (.int .u8 a4) ∧ w'.cell? ⟨w.heap.size, 5, none⟩ = some (.int .u8 a5) ∧ w'.cell? ⟨w.heap.size + 1, 0, none⟩ = some (.int .u8 b0) ∧ w'.cell? ⟨w.heap.size + 1, 1, none⟩ = some (.int .u8 b1) ∧ w'.cell? ⟨w.heap.size + 1, 2, none⟩ = some (.int .u8 b2) ∧ w'.cell? ⟨w.heap.size + 1, 3, none⟩ = some (.int .u8 b3) ∧ w'.cell? ⟨w.heap.size + 1, 4, none⟩ = some (.int .u8 b4) ∧ w'.cell? ⟨w.heap.size + 1, 5, none⟩ = some (.int .u8 b5))
    (first | exact ⟨A2.c0, A2.c1, A2.c2, A2.c3, A2.c4, A2.c5, B2.c0, B2.c1, B2.c2, B2.c3, B2.c4, B2.c5⟩ | exact ⟨A1.c0, A1.c1, A1.c2, A1.c3, A1.c4, A1.c5, B1.c0, B1.c1, B1.c2, B1.c3, B1.c4, B1.c5⟩ | exact ⟨A0.c0, A0.c1, A0.c2, A0.c3, A0.c4, A0.c5, B0.c0, B0.c1, B0.c2, B0.c3, B0.c4, B0.c5⟩)
    (first | (go_at_call_of 11 a0; refine (text11 _ _ _ _ _ _ _ h).mono ?_; rintro e w5 ⟨rfl, hb5⟩; have A1 := A0.on hb5; have B1 := B0.on hb5; have W1 := belowOn W0 hb5) | (go_at_call_of 11 b0; refine (text11 _ _ _ _ _ _ _ k).mono ?_; rintro e w6 ⟨rfl, hb6⟩; have A2 := A1.on hb6; have B2 := B1.on hb6; have W2 := belowOn W1 hb6))
  clear hb5 hb6 A0 B0 A1 B1 W0 W1
  obtain ⟨-, p0, p1, p2, p3, p4, p5⟩ := id A2
  obtain ⟨-, q0, q1, q2, q3, q4, q5⟩ := id B2
  go_wp2_with fail
  clear p0 p1 p2 p3 p4 p5 q0 q1 q2 q3 q4 q5
  refine (cmp23 _ _ _ _ _ _ _ _ _ _ _ _ _ k h).mono ?_
  rintro e w7 ⟨rfl, hb⟩
  obtain ⟨-, p0, p1, p2, p3, p4, p5⟩ := A2.on hb
  obtain ⟨-, q0, q1, q2, q3, q4, q5⟩ := B2.on hb
  replace W2 := belowOn W2 hb
  have h6 := eq6_num h k
  clear hb A2 B2 ht h k l
  generalize num a0 a1 a2 a3 a4 a5 = X at *
  generalize num b0 b1 b2 b3 b4 b5 = Y at *
  generalize num c0 c1 c2 c3 c4 c5 = Z at *
  rcases Int.lt_trichotomy X Y with g1 | g1 | g1 <;> rcases Int.lt_trichotomy Y Z with g2 | g2 | g2 <;> rcases Int.lt_trichotomy X Z with g3 | g3 | g3
  · have e1 : cmp3 X Y = -1 := cmp3_lt g1
    have e2 : cmp3 Y Z = -1 := cmp3_lt g2
    have e3 : cmp3 X Z = -1 := cmp3_lt g3
    have e4 : cmp3 Y X = 1 := cmp3_gt g1
    have e5 : decide (X < Y) = true := by simp; omega
    have e6 : eq6 a0 a1 a2 a3 a4 a5 b0 b1 b2 b3 b4 b5 = false := by rw [h6]; simp; omega
    clear h6 g1 g2 g3
    go_wp2
    go_ret
    exact ⟨rfl, W2⟩
  · omega
  · omega
  · have e1 : cmp3 X Y = -1 := cmp3_lt g1
    have e2 : cmp3 Y Z = 0 := cmp3_eq (by omega) (by omega)
    have e3 : cmp3 X Z = -1 := cmp3_lt g3
    have e4 : cmp3 Y X = 1 := cmp3_gt g1
    have e5 : decide (X < Y) = true := by simp; omega
    have e6 : eq6 a0 a1 a2 a3 a4 a5 b0 b1 b2 b3 b4 b5 = false := by rw [h6]; simp; omega
    clear h6 g1 g2 g3
    go_wp2
    go_ret
    exact ⟨rfl, W2⟩
  · omega
  · omega
  · have e1 : cmp3 X Y = -1 := cmp3_lt g1
    have e2 : cmp3 Y Z = 1 := cmp3_gt g2
    have e3 : cmp3 X Z = -1 := cmp3_lt g3
    have e4 : cmp3 Y X = 1 := cmp3_gt g1
    have e5 : decide (X < Y) = true := by simp; omega
    have e6 : eq6 a0 a1 a2 a3 a4 a5 b0 b1 b2 b3 b4 b5 = false := by rw [h6]; simp; omega
    clear h6 g1 g2 g3
    go_wp2
    go_ret
    exact ⟨rfl, W2⟩
  · have e1 : cmp3 X Y = -1 := cmp3_lt g1
    have e2 : cmp3 Y Z = 1 := cmp3_gt g2
    have e3 : cmp3 X Z = 0 := cmp3_eq (by omega) (by omega)
    have e4 : cmp3 Y X = 1 := cmp3_gt g1
    have e5 : decide (X < Y) = true := by simp; omega
    have e6 : eq6 a0 a1 a2 a3 a4 a5 b0 b1 b2 b3 b4 b5 = false := by rw [h6]; simp; omega
    clear h6 g1 g2 g3
    go_wp2
    go_ret
    exact ⟨rfl, W2⟩
  · have e1 : cmp3 X Y = -1 := cmp3_lt g1
    have e2 : cmp3 Y Z = 1 := cmp3_gt g2
    have e3 : cmp3 X Z = 1 := cmp3_gt g3
    have e4 : cmp3 Y X = 1 := cmp3_gt g1
    have e5 : decide (X < Y) = true := by simp; omega
    have e6 : eq6 a0 a1 a2 a3 a4 a5 b0 b1 b2 b3 b4 b5 = false := by rw [h6]; simp; omega
    clear h6 g1 g2 g3
    go_wp2
    go_ret
    exact ⟨rfl, W2⟩
  · have e1 : cmp3 X Y = 0 := cmp3_eq (by omega) (by omega)
    have e2 : cmp3 Y Z = -1 := cmp3_lt g2
    have e3 : cmp3 X Z = -1 := cmp3_lt g3
    have e4 : cmp3 Y X = 0 := cmp3_eq (by omega) (by omega)
    have e5 : decide (X < Y) = false := by simp; omega
    have e6 : eq6 a0 a1 a2 a3 a4 a5 b0 b1 b2 b3 b4 b5 = true := by rw [h6]; simp; omega
    clear h6 g1 g2 g3
    go_wp2
    go_ret
    exact ⟨rfl, W2⟩
  · omega
  · omega
  · omega
  · have e1 : cmp3 X Y = 0 := cmp3_eq (by omega) (by omega)
    have e2 : cmp3 Y Z = 0 := cmp3_eq (by omega) (by omega)
    have e3 : cmp3 X Z = 0 := cmp3_eq (by omega) (by omega)
    have e4 : cmp3 Y X = 0 := cmp3_eq (by omega) (by omega)
    have e5 : decide (X < Y) = false := by simp; omega
    have e6 : eq6 a0 a1 a2 a3 a4 a5 b0 b1 b2 b3 b4 b5 = true := by rw [h6]; simp; omega
    clear h6 g1 g2 g3
    go_wp2
    go_ret
    exact ⟨rfl, W2⟩
  · omega
  · omega
  · omega
  · have e1 : cmp3 X Y = 0 := cmp3_eq (by omega) (by omega)
    have e2 : cmp3 Y Z = 1 := cmp3_gt g2
    have e3 : cmp3 X Z = 1 := cmp3_gt g3
    have e4 : cmp3 Y X = 0 := cmp3_eq (by omega) (by omega)
    have e5 : decide (X < Y) = false := by simp; omega
    have e6 : eq6 a0 a1 a2 a3 a4 a5 b0 b1 b2 b3 b4 b5 = true := by rw [h6]; simp; omega
    clear h6 g1 g2 g3
    go_wp2
    go_ret
    exact ⟨rfl, W2⟩
  · have e1 : cmp3 X Y = 1 := cmp3_gt g1
    have e2 : cmp3 Y Z = -1 := cmp3_lt g2
    have e3 : cmp3 X Z = -1 := cmp3_lt g3
    have e4 : cmp3 Y X = -1 := cmp3_lt g1
    have e5 : decide (X < Y) = false := by simp; omega
    have e6 : eq6 a0 a1 a2 a3 a4 a5 b0 b1 b2 b3 b4 b5 = false := by rw [h6]; simp; omega
    clear h6 g1 g2 g3
    go_wp2
    go_ret
    exact ⟨rfl, W2⟩
  · have e1 : cmp3 X Y = 1 := cmp3_gt g1
    have e2 : cmp3 Y Z = -1 := cmp3_lt g2
    have e3 : cmp3 X Z = 0 := cmp3_eq (by omega) (by omega)
    have e4 : cmp3 Y X = -1 := cmp3_lt g1
    have e5 : decide (X < Y) = false := by simp; omega
    have e6 : eq6 a0 a1 a2 a3 a4 a5 b0 b1 b2 b3 b4 b5 = false := by rw [h6]; simp; omega
    clear h6 g1 g2 g3
    go_wp2
    go_ret
    exact ⟨rfl, W2⟩
  · have e1 : cmp3 X Y = 1 := cmp3_gt g1
    have e2 : cmp3 Y Z = -1 := cmp3_lt g2
    have e3 : cmp3 X Z = 1 := cmp3_gt g3
    have e4 : cmp3 Y X = -1 := cmp3_lt g1
    have e5 : decide (X < Y) = false := by simp; omega
    have e6 : eq6 a0 a1 a2 a3 a4 a5 b0 b1 b2 b3 b4 b5 = false := by rw [h6]; simp; omega
    clear h6 g1 g2 g3
    go_wp2
    go_ret
    exact ⟨rfl, W2⟩
  · omega
  · omega
  · have e1 : cmp3 X Y = 1 := cmp3_gt g1
    have e2 : cmp3 Y Z = 0 := cmp3_eq (by omega) (by omega)
    have e3 : cmp3 X Z = 1 := cmp3_gt g3
    have e4 : cmp3 Y X = -1 := cmp3_lt g1
    have e5 : decide (X < Y) = false := by simp; omega
    have e6 : eq6 a0 a1 a2 a3 a4 a5 b0 b1 b2 b3 b4 b5 = false := by rw [h6]; simp; omega
    clear h6 g1 g2 g3
    go_wp2
    go_ret
    exact ⟨rfl, W2⟩
  · omega
  · omega
  · have e1 : cmp3 X Y = 1 := cmp3_gt g1
    have e2 : cmp3 Y Z = 1 := cmp3_gt g2
    have e3 : cmp3 X Z = 1 := cmp3_gt g3
    have e4 : cmp3 Y X = -1 := cmp3_lt g1
    have e5 : decide (X < Y) = false := by simp; omega
    have e6 : eq6 a0 a1 a2 a3 a4 a5 b0 b1 b2 b3 b4 b5 = false := by rw [h6]; simp; omega
    clear h6 g1 g2 g3
    go_wp2
    go_ret
    exact ⟨rfl, W2⟩

set_option maxRecDepth 100000 in
theorem macOrderlifted (os : Os) (started : os.Started) (H : Type) (enc : TypeId × Value → H) :
    ReturnsInHanded {} Try.checked os 8 .any (Rows.macOrderSpec.pre6 enc Try.prog Try.f8 Rows.macOrderRow.domain false) (Rows.macOrderSpec.post enc Try.prog Try.f8 false true false false) := by
  refine returnsInHanded_of_change (C := Try.checked) own started (by kernel_rfl) Try.func8
    (ChangeSpec.witness6 (enc := enc) (C := Try.checked) false ⟨#[], #[.agg #[.int .u8 0, .int .u8 0, .int .u8 0, .int .u8 0, .int .u8 0, .int .u8 0], .agg #[.int .u8 0, .int .u8 0, .int .u8 0, .int .u8 0, .int .u8 0, .int .u8 0], .agg #[.int .u8 0, .int .u8 0, .int .u8 0, .int .u8 0, .int .u8 0, .int .u8 0]], []⟩ 8 (by kernel_rfl) (by kernel_rfl) (by kernel_rfl) (by kernel_rfl)) ?_
  intro W base args ds gs before hval0 hW _ _
  have hval : ∀ (j : Nat) t v, Try.f8.params[j]? = some t → args[j]? = some v → Value.okWide Try.prog W .any base t v := hval0
  have hW' := hW
  obtain ⟨p, q, hA0, hV, rfl, _, _⟩ := hW
  have hA : DataW.TrodAll enc Try.prog W 0 (fun _ => true) true Try.f8.params.toList args.toList ds p := hA0
  rw [Try.params8] at hA hval
  obtain ⟨v0, vs0, d0, ds0, p0, q0, hargs, rfl, rfl, h0, r0⟩ := trodAll_cons hA
  obtain ⟨v1, vs1, d1, ds1, p1, q1, rfl, rfl, rfl, h1, r1⟩ := trodAll_cons r0
  obtain ⟨v2, vs2, d2, ds2, p2, q2, rfl, rfl, rfl, h2, r2⟩ := trodAll_cons r1
  obtain ⟨rfl, rfl, rfl⟩ := trodAll_nil r2
  obtain rfl : args = #[v0, v1, v2] := by cases args; simp_all
  obtain ⟨rfl, rfl⟩ := trodVars_none hV
  obtain ⟨a0, a1, a2, a3, a4, a5, rfl, rfl, rfl, k0⟩ := open_mac (hval 0 23 v0 rfl rfl) h0
  obtain ⟨b0, b1, b2, b3, b4, b5, rfl, rfl, rfl, k1⟩ := open_mac (hval 1 23 v1 rfl rfl) h1
  obtain ⟨c0, c1, c2, c3, c4, c5, rfl, rfl, rfl, k2⟩ := open_mac (hval 2 23 v2 rfl rfl) h2
  clear hA0 hval0
  simp only [List.append_nil] at hW'
  refine (orderWalk a0 a1 a2 a3 a4 a5 b0 b1 b2 b3 b4 b5 c0 c1 c2 c3 c4 c5 W k0 k1 k2).mono fun e W' ⟨he, hb⟩ => ?_
  subst he
  exact ⟨_, rfl, _, _, _, [], [], [], hW', (trodAll_cons_mk (shut_bool Try.underlying4 _) trodAll_mk0), (trodAll_cons_mk (shut_mac k0) (trodAll_cons_mk (shut_mac k1) (trodAll_cons_mk (shut_mac k2) trodAll_mk0))), rfl, hb.frame _, fun h => by cases h⟩

theorem macOrder_holds : Rows.MacOrderSaid :=
  OpenClaim.holds_of_wide 8 Try.f8 rfl rfl rfl rfl rfl rfl rfl ⟨rfl, rfl, rfl, rfl, rfl⟩ rfl rfl rfl rfl rfl (by kernel_rfl) Try.func8 (by kernel_rfl)
    (of_decide_eq_true (by kernel_rfl)) (by unfold Func.isWrapper; first | (rw [if_pos (by decide +kernel)]; kernel_rfl) | (rw [if_neg (by decide +kernel)]; exact ⟨rfl, rfl⟩))
    (fun os started H enc _ => macOrderlifted os started H enc)

#print axioms macOrder_holds
end Go.Proofs.Ytokmkgjjiloacaa
