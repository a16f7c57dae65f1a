/- BpduOrder: for every three ids the law answers true, and all three read behind the call as they read before. No condition. -/
import Derived.Test.YtdaglmimfkcmeaaAw
import Derived.Test.YtdaglmimfkcmeaaCm
import Derived.Test.YtdaglmimfkcmeaaOp
namespace Go.Proofs.Ytdaglmimfkcmeaa
open Go.ChangeShapes Go.WideShapes Go.ChangeAt Go.RowKit

theorem int_neg (x : Int) (h : x = -1 ∨ x = 0 ∨ x = 1) : IntKind.i64.wrap (-x) = -x := IntWalk.i64_in _ (by omega)
set_option maxRecDepth 100000 in
set_option maxHeartbeats 4000000 in
theorem orderWalk (a b c : Idn) (w : World) (ha : Rng (ml a)) (hb : Rng (ml b)) (hc : Rng (ml c)) :
    Calls Try.prog 5 #[.agg (IC a), .agg (IC b), .agg (IC c)] w fun e w' => e = .returned (.bool true) ∧ Below w.heap.size w w' := by
  have A : Box (((w.alloc (.cells (IC a) 25)).alloc (.cells (IC b) 25)).alloc (.cells (IC c) 25)) w.heap.size (icl a) := ((Box.new w (icl a) 25).alloc _).alloc _
  have B : Box (((w.alloc (.cells (IC a) 25)).alloc (.cells (IC b) 25)).alloc (.cells (IC c) 25)) (w.heap.size + 1) (icl b) := by
    have h := (Box.new (w.alloc (.cells (IC a) 25)) (icl b) 25).alloc (.cells (IC c) 25)
    rw [World.size_alloc] at h
    exact h
  have C : Box (((w.alloc (.cells (IC a) 25)).alloc (.cells (IC b) 25)).alloc (.cells (IC c) 25)) (w.heap.size + 1 + 1) (icl c) := by
    have h := Box.new ((w.alloc (.cells (IC a) 25)).alloc (.cells (IC b) 25)) (icl c) 25
    rw [World.size_alloc, World.size_alloc] at h
    exact h
  have W0 : Below w.heap.size w (((w.alloc (.cells (IC a) 25)).alloc (.cells (IC b) 25)).alloc (.cells (IC c) 25)) := by go_grown
  have HA := hide ha
  have HB := hide hb
  have HC := hide hc
  have he := eqI a b
  have q1 : (cp a b != cp a b) = false := by simp
  have q2 : (cp a b != -cp b a) = false := by rw [← cp_neg]; simp
  have q3 : IntKind.i64.wrap (-cp b a) = -cp b a := int_neg _ (cp_val b a)
  have q4 := cp_zero ha hb
  have q5 : (ieq a b != ieq a b) = false := by simp
  have HT := hide (cp_trans a b c)
  have HV := hide (cp_val a b)
  have HV2 := hide (cp_val b c)
  have HV3 := hide (cp_val a c)
  clear ha hb hc
  go_enter Try.func5, Try.ntmps5
  go_wp2_with fail
  refine (awake9 _).mono ?_
  rintro e w1 ⟨rfl, hb1⟩
  replace A := A.on hb1; replace B := B.on hb1; replace C := C.on hb1; replace W0 := belowOn W0 hb1
  clear hb1
  have tk1 : True := trivial
  have tk2 : True := trivial
  go_wp2_with (first | (have _t := tk1; refine wpl_id (.tmp 3) rfl A.at_ ?_ ?_ ?_; rfl; rfl; clear tk1) | (have _t := tk2; refine wpl_id (.tmp 4) rfl B.at_ ?_ ?_ ?_; rfl; rfl; clear tk2))
  refine (cmp16 a b _ HA.out HB.out).mono ?_
  rintro e w2 ⟨rfl, hb1⟩
  replace A := A.on hb1; replace B := B.on hb1; replace C := C.on hb1; replace W0 := belowOn W0 hb1
  clear hb1
  have tk1 : True := trivial
  have tk2 : True := trivial
  go_wp2_with (first | (have _t := tk1; refine wpl_id (.tmp 4) rfl B.at_ ?_ ?_ ?_; rfl; rfl; clear tk1) | (have _t := tk2; refine wpl_id (.tmp 5) rfl C.at_ ?_ ?_ ?_; rfl; rfl; clear tk2))
  refine (cmp16 b c _ HB.out HC.out).mono ?_
  rintro e w3 ⟨rfl, hb1⟩
  replace A := A.on hb1; replace B := B.on hb1; replace C := C.on hb1; replace W0 := belowOn W0 hb1
  clear hb1
  have tk1 : True := trivial
  have tk2 : True := trivial
  go_wp2_with (first | (have _t := tk1; refine wpl_id (.tmp 3) rfl A.at_ ?_ ?_ ?_; rfl; rfl; clear tk1) | (have _t := tk2; refine wpl_id (.tmp 5) rfl C.at_ ?_ ?_ ?_; rfl; rfl; clear tk2))
  refine (cmp16 a c _ HA.out HC.out).mono ?_
  rintro e w4 ⟨rfl, hb1⟩
  replace A := A.on hb1; replace B := B.on hb1; replace C := C.on hb1; replace W0 := belowOn W0 hb1
  clear hb1
  have tk1 : True := trivial
  have tk2 : True := trivial
  go_wp2_with (first | (have _t := tk1; refine wpl_id (.tmp 3) rfl A.at_ ?_ ?_ ?_; rfl; rfl; clear tk1) | (have _t := tk2; refine wpl_id (.tmp 4) rfl B.at_ ?_ ?_ ?_; rfl; rfl; clear tk2))
  refine (cmp17 a b _ HA.out HB.out).mono ?_
  rintro e w5 ⟨rfl, hb1⟩
  replace A := A.on hb1; replace B := B.on hb1; replace C := C.on hb1; replace W0 := belowOn W0 hb1
  clear hb1
  have tk1 : True := trivial
  have tk2 : True := trivial
  go_wp2_with (first | (have _t := tk1; refine wpl_id (.tmp 4) rfl B.at_ ?_ ?_ ?_; rfl; rfl; clear tk1) | (have _t := tk2; refine wpl_id (.tmp 3) rfl A.at_ ?_ ?_ ?_; rfl; rfl; clear tk2))
  refine (cmp16 b a _ HB.out HA.out).mono ?_
  rintro e w6 ⟨rfl, hb1⟩
  replace A := A.on hb1; replace B := B.on hb1; replace C := C.on hb1; replace W0 := belowOn W0 hb1
  clear hb1
  have tk1 : True := trivial
  have tk2 : True := trivial
  generalize hx : cp a b = x at *
  generalize hy : cp b a = y at *
  generalize hz : cp b c = z at *
  generalize hu : cp a c = u at *
  have hT := HT.out
  have v1 := HV.out
  have v2 := HV2.out
  have v3 := HV3.out
  clear hx hy hz hu HT HV HV2 HV3
  rcases v1 with rfl | rfl | rfl <;> rcases v2 with rfl | rfl | rfl <;> rcases v3 with rfl | rfl | rfl
  all_goals first
    | (exfalso; revert hT; decide)
    | (clear hT
       first | (have q6 : ieq a b = false := (by rw [← q4]; rfl)) | (have q6 : ieq a b = true := (by rw [← q4]; rfl))
       go_wp2_with (first | (have _t := tk1; refine wpl_id (.tmp 3) rfl A.at_ ?_ ?_ ?_; rfl; rfl; clear tk1) | (have _t := tk2; refine wpl_id (.tmp 4) rfl B.at_ ?_ ?_ ?_; rfl; rfl; clear tk2))
       go_ret
       exact ⟨rfl, W0⟩)
set_option maxRecDepth 100000 in
set_option maxHeartbeats 2000000 in
theorem bpduOrderlifted (os : Os) (started : os.Started) (H : Type) (enc : TypeId × Value → H) :
    ReturnsInHanded {} Try.checked os 5 .any (Rows.bpduOrderSpec.pre6 enc Try.prog Try.f5 Rows.bpduOrderRow.domain false) (Rows.bpduOrderSpec.post enc Try.prog Try.f5 false true false false) := by
  refine returnsInHanded_of_change (C := Try.checked) own started (by kernel_rfl) Try.func5
    (ChangeSpec.witness6 (enc := enc) (C := Try.checked) false ⟨#[], #[.agg #[.int .i64 0, .int .u8 0, .int .u8 0, .int .u8 0, .int .u8 0, .int .u8 0, .int .u8 0], .agg #[.int .i64 0, .int .u8 0, .int .u8 0, .int .u8 0, .int .u8 0, .int .u8 0, .int .u8 0], .agg #[.int .i64 0, .int .u8 0, .int .u8 0, .int .u8 0, .int .u8 0, .int .u8 0, .int .u8 0]], []⟩ 8 (by kernel_rfl) (by kernel_rfl) (by kernel_rfl) (by kernel_rfl)) ?_
  intro W base args ds gs before hval0 hW _ _
  have hval : ∀ (j : Nat) t v, Try.f5.params[j]? = some t → args[j]? = some v → Value.okWide Try.prog W .any base t v := hval0
  have hW' := hW
  obtain ⟨p, q, hA0, hV, rfl, _, _⟩ := hW
  have hA : DataW.TrodAll enc Try.prog W 0 (fun _ => true) true Try.f5.params.toList args.toList ds p := hA0
  rw [Try.params5] at hA hval
  obtain ⟨v0, vs0, d0, ds0, p0, q0, hargs, rfl, rfl, h0, r0⟩ := trodAll_cons hA
  obtain ⟨v1, vs1, d1, ds1, p1, q1, rfl, rfl, rfl, h1, r1⟩ := trodAll_cons r0
  obtain ⟨v2, vs2, d2, ds2, p2, q2, rfl, rfl, rfl, h2, r2⟩ := trodAll_cons r1
  obtain ⟨rfl, rfl, rfl⟩ := trodAll_nil r2
  obtain rfl : args = #[v0, v1, v2] := by cases args; simp_all
  obtain ⟨rfl, rfl⟩ := trodVars_none hV
  have h0k := h0
  obtain ⟨i0, rfl, hi0⟩ := open_id (hval 0 25 v0 rfl rfl) h0
  have h1k := h1
  obtain ⟨i1, rfl, hi1⟩ := open_id (hval 1 25 v1 rfl rfl) h1
  have h2k := h2
  obtain ⟨i2, rfl, hi2⟩ := open_id (hval 2 25 v2 rfl rfl) h2
  clear hA0 hval0
  simp only [List.append_nil] at hW'
  have hlt : ∀ x ∈ p0 ++ p1 ++ p2, x.block < W.heap.size := fun x hx => by simpa using hW'.lt x (by simpa using hx)
  refine (orderWalk i0 i1 i2 W hi0 hi1 hi2).mono fun e W' ⟨he, hbl⟩ => ?_
  subst he
  exact ⟨_, rfl, _, _, _, [], _, [], hW', (trodAll_cons_mk (shut_bool Try.underlying4 _) trodAll_mk0), (trodAll_cons_mk (Below.trod Try.laidOut (by kernel_rfl) (of_decide_eq_true (by kernel_rfl)) h0k hbl (fun x hx => hlt x (by simp [hx]))) (trodAll_cons_mk (Below.trod Try.laidOut (by kernel_rfl) (of_decide_eq_true (by kernel_rfl)) h1k hbl (fun x hx => hlt x (by simp [hx]))) (trodAll_cons_mk (Below.trod Try.laidOut (by kernel_rfl) (of_decide_eq_true (by kernel_rfl)) h2k hbl (fun x hx => hlt x (by simp [hx]))) trodAll_mk0))), rfl, hbl.frame _, fun h => by cases h⟩

theorem bpduOrder_holds : Rows.BpduOrderSaid :=
  OpenClaim.holds_of_wide 5 Try.f5 rfl rfl rfl rfl rfl rfl rfl ⟨rfl, rfl, rfl, rfl, rfl⟩ rfl rfl rfl rfl rfl (by kernel_rfl) Try.func5 (by kernel_rfl)
    (of_decide_eq_true (by kernel_rfl)) (by unfold Func.isWrapper; first | (rw [if_pos (by decide +kernel)]; kernel_rfl) | (rw [if_neg (by decide +kernel)]; exact ⟨rfl, rfl⟩))
    (fun os started H enc _ => bpduOrderlifted os started H enc)

#print axioms bpduOrder_holds
end Go.Proofs.Ytdaglmimfkcmeaa
