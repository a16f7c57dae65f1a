/- BpduRight: for every BPDU the law answers true, and it reads behind the call as it read before. No condition. -/
import Derived.Test.YtdaglmimfkcmeaaAw
import Derived.Test.YtdaglmimfkcmeaaOp
namespace Go.Proofs.Ytdaglmimfkcmeaa
open Go.ChangeShapes Go.WideShapes Go.ChangeAt Go.RowKit

section
attribute [local go_sem] ZB BC_bare
set_option maxRecDepth 100000 in
set_option maxHeartbeats 4000000 in
theorem right_f (p : Bpd) (w : World) (hp : BpdB p) (k : brt p = false) :
    Calls Try.prog 8 #[.agg (BC p)] w fun e w' => e = .returned (.bool true) ∧ Below w.heap.size w w' := by
  have A0 : Box (w.alloc (.cells (BC p) 27)) w.heap.size (bcl p) := Box.new w (bcl p) 27
  have W0 := below_alloc w (.cells (BC p) 27)
  go_enter Try.func8, Try.ntmps8
  go_wp2_with fail
  refine (awake9 _).mono ?_
  rintro e w1 ⟨rfl, hb1⟩
  replace A0 := A0.on hb1; replace W0 := belowOn W0 hb1
  clear hb1
  have tk1 : True := trivial
  go_wp2_with (have _t := tk1; refine wpl_bpdu (.tmp 1) rfl A0 ?_ ?_ ?_; rfl; rfl; clear tk1)
  refine (encode10_no p _ hp k).mono ?_
  rintro e w2 ⟨rfl, hb1⟩
  replace A0 := A0.on hb1; replace W0 := belowOn W0 hb1
  have L2 : w.heap.size < w2.heap.size := A0.lt
  have D0 : Box (w2.alloc (.cells (BC zeroB) 27)) w2.heap.size (bcl zeroB) := Box.new w2 (bcl zeroB) 27
  replace A0 := A0.alloc (.cells (BC zeroB) 27)
  replace W0 := belowOn W0 (below_alloc w2 (.cells (BC zeroB) 27))
  have tk1 : True := trivial
  have tk2 : True := trivial
  clear hb1
  go_wp2_with (first | (have _t := tk1; refine wpl_putB bare zeroB (.tmp 6) (.tmp 13) rfl D0 ?_ ?_ ?_ ?_; rfl; rfl; rfl; clear tk1; intro w3 D1 g2; have A1 := A0.kept (by omega) g2) | (have _t := tk2; refine wpl_bpdu (.tmp 1) rfl A1 ?_ ?_ ?_; rfl; rfl; clear tk2))
  replace W0 := below_grown W0 g2 (by omega) (by simp; omega)
  refine (right12 p _ hp).mono ?_
  rw [k]
  rintro e w4 ⟨rfl, hb1⟩
  replace A1 := A1.on hb1; replace D1 := D1.on hb1; replace W0 := belowOn W0 hb1
  have c0 := A1.cell 0 (.int .i64 p.kd) rfl
  clear hb1 A0 D0 g2
  clear A1 D1
  go_wp2
  go_ret
  exact ⟨rfl, W0⟩
set_option maxRecDepth 100000 in
set_option maxHeartbeats 4000000 in
theorem right_t1 (p : Bpd) (w : World) (hp : BpdB p) (k : brt p = true) (h : ¬ p.kd = 128) :
    Calls Try.prog 8 #[.agg (BC p)] w fun e w' => e = .returned (.bool true) ∧ Below w.heap.size w w' := by
  have h1 : (p.kd != 128) = true := by simp [h]
  have A0 : Box (w.alloc (.cells (BC p) 27)) w.heap.size (bcl p) := Box.new w (bcl p) 27
  have W0 := below_alloc w (.cells (BC p) 27)
  go_enter Try.func8, Try.ntmps8
  go_wp2_with fail
  refine (awake9 _).mono ?_
  rintro e w1 ⟨rfl, hb1⟩
  replace A0 := A0.on hb1; replace W0 := belowOn W0 hb1
  clear hb1
  have tk1 : True := trivial
  go_wp2_with (have _t := tk1; refine wpl_bpdu (.tmp 1) rfl A0 ?_ ?_ ?_; rfl; rfl; clear tk1)
  refine (encode10_yes p _ hp k).mono ?_
  rintro e w2 ⟨g1, c1, rfl, Y1, hb1⟩
  have hl : 0 < (enc p).length := by rw [enc_length]; split <;> (try split) <;> omega
  have hl1 : (0 : Int) < (enc p).length := by omega
  generalize (enc p).length = N at *
  clear Y1
  replace A0 := A0.on hb1; replace W0 := belowOn W0 hb1
  have L2 : w.heap.size < w2.heap.size := A0.lt
  have D0 : Box (w2.alloc (.cells (BC zeroB) 27)) w2.heap.size (bcl zeroB) := Box.new w2 (bcl zeroB) 27
  replace A0 := A0.alloc (.cells (BC zeroB) 27)
  replace W0 := belowOn W0 (below_alloc w2 (.cells (BC zeroB) 27))
  have tk1 : True := trivial
  have tk2 : True := trivial
  clear hb1
  go_wp2_with (first | (have _t := tk1; refine wpl_putB bare zeroB (.tmp 6) (.tmp 13) rfl D0 ?_ ?_ ?_ ?_; rfl; rfl; rfl; clear tk1; intro w3 D1 g2; have A1 := A0.kept (by omega) g2) | (have _t := tk2; refine wpl_bpdu (.tmp 1) rfl A1 ?_ ?_ ?_; rfl; rfl; clear tk2))
  replace W0 := below_grown W0 g2 (by omega) (by simp; omega)
  refine (right12 p _ hp).mono ?_
  rw [k]
  rintro e w4 ⟨rfl, hb1⟩
  replace A1 := A1.on hb1; replace D1 := D1.on hb1; replace W0 := belowOn W0 hb1
  have c0 := A1.cell 0 (.int .i64 p.kd) rfl
  clear hb1 A0 D0 g2
  clear A1 D1
  go_wp2
  go_ret
  exact ⟨rfl, W0⟩
set_option maxRecDepth 100000 in
set_option maxHeartbeats 4000000 in
theorem right_t2 (p : Bpd) (w : World) (hp : BpdB p) (k : brt p = true) (h : p.kd = 128) :
    Calls Try.prog 8 #[.agg (BC p)] w fun e w' => e = .returned (.bool true) ∧ Below w.heap.size w w' := by
  have h1 : (p.kd != 128) = false := by simp [h]
  have he := eqB p bare
  have hq : bpeq p bare = true := by rw [brt_bare k h]; exact bpeq_self _
  have A0 : Box (w.alloc (.cells (BC p) 27)) w.heap.size (bcl p) := Box.new w (bcl p) 27
  have W0 := below_alloc w (.cells (BC p) 27)
  go_enter Try.func8, Try.ntmps8
  go_wp2_with fail
  refine (awake9 _).mono ?_
  rintro e w1 ⟨rfl, hb1⟩
  replace A0 := A0.on hb1; replace W0 := belowOn W0 hb1
  clear hb1
  have tk1 : True := trivial
  go_wp2_with (have _t := tk1; refine wpl_bpdu (.tmp 1) rfl A0 ?_ ?_ ?_; rfl; rfl; clear tk1)
  refine (encode10_yes p _ hp k).mono ?_
  rintro e w2 ⟨g1, c1, rfl, Y1, hb1⟩
  have hl : 0 < (enc p).length := by rw [enc_length]; split <;> (try split) <;> omega
  have hl1 : (0 : Int) < (enc p).length := by omega
  generalize (enc p).length = N at *
  clear Y1
  replace A0 := A0.on hb1; replace W0 := belowOn W0 hb1
  have L2 : w.heap.size < w2.heap.size := A0.lt
  have D0 : Box (w2.alloc (.cells (BC zeroB) 27)) w2.heap.size (bcl zeroB) := Box.new w2 (bcl zeroB) 27
  replace A0 := A0.alloc (.cells (BC zeroB) 27)
  replace W0 := belowOn W0 (below_alloc w2 (.cells (BC zeroB) 27))
  have tk1 : True := trivial
  have tk2 : True := trivial
  clear hb1
  go_wp2_with (first | (have _t := tk1; refine wpl_putB bare zeroB (.tmp 6) (.tmp 13) rfl D0 ?_ ?_ ?_ ?_; rfl; rfl; rfl; clear tk1; intro w3 D1 g2; have A1 := A0.kept (by omega) g2) | (have _t := tk2; refine wpl_bpdu (.tmp 1) rfl A1 ?_ ?_ ?_; rfl; rfl; clear tk2))
  replace W0 := below_grown W0 g2 (by omega) (by simp; omega)
  refine (right12 p _ hp).mono ?_
  rw [k]
  rintro e w4 ⟨rfl, hb1⟩
  replace A1 := A1.on hb1; replace D1 := D1.on hb1; replace W0 := belowOn W0 hb1
  have c0 := A1.cell 0 (.int .i64 p.kd) rfl
  clear hb1 A0 D0 g2
  have tk1 : True := trivial
  have tk2 : True := trivial
  go_wp2_with (first | (have _t := tk1; refine wpl_bpdu (.tmp 1) rfl A1 ?_ ?_ ?_; rfl; rfl; clear tk1) | (have _t := tk2; refine wpl_bpdu (.tmp 6) rfl D1 ?_ ?_ ?_; rfl; rfl; clear tk2))
  go_ret
  exact ⟨rfl, W0⟩
end
theorem rightWalk (p : Bpd) (w : World) (hp : BpdB p) :
    Calls Try.prog 8 #[.agg (BC p)] w fun e w' => e = .returned (.bool true) ∧ Below w.heap.size w w' := by
  cases k : brt p
  · exact right_f p w hp k
  · by_cases h : p.kd = 128
    · exact right_t2 p w hp k h
    · exact right_t1 p w hp k h
set_option maxRecDepth 100000 in
set_option maxHeartbeats 2000000 in
theorem bpduRightlifted (os : Os) (started : os.Started) (H : Type) (enc : TypeId × Value → H) :
    ReturnsInHanded {} Try.checked os 8 .any (Rows.bpduRightSpec.pre6 enc Try.prog Try.f8 Rows.bpduRightRow.domain false) (Rows.bpduRightSpec.post enc Try.prog Try.f8 false true false false) := by
  refine returnsInHanded_of_change (C := Try.checked) own started (by kernel_rfl) Try.func8
    (ChangeSpec.witness6 (enc := enc) (C := Try.checked) false ⟨#[], #[.agg #[.int .i64 0, .int .i64 0, .int .i64 0, .int .u8 0, .int .u8 0, .int .u8 0, .int .u8 0, .int .u8 0, .int .u8 0, .int .i64 0, .int .i64 0, .int .u8 0, .int .u8 0, .int .u8 0, .int .u8 0, .int .u8 0, .int .u8 0, .int .i64 0, .int .i64 0, .int .i64 0, .int .i64 0, .int .i64 0]], []⟩ 8 (by kernel_rfl) (by kernel_rfl) (by kernel_rfl) (by kernel_rfl)) ?_
  intro W base args ds gs before hval0 hW _ _
  have hval : ∀ (j : Nat) t v, Try.f8.params[j]? = some t → args[j]? = some v → Value.okWide Try.prog W .any base t v := hval0
  have hW' := hW
  obtain ⟨p, q, hA0, hV, rfl, _, _⟩ := hW
  have hA : DataW.TrodAll enc Try.prog W 0 (fun _ => true) true Try.f8.params.toList args.toList ds p := hA0
  rw [Try.params8] at hA hval
  obtain ⟨v0, vs0, d0, ds0, p0, q0, hargs, rfl, rfl, h0, r0⟩ := trodAll_cons hA
  obtain ⟨rfl, rfl, rfl⟩ := trodAll_nil r0
  obtain rfl : args = #[v0] := by cases args; simp_all
  obtain ⟨rfl, rfl⟩ := trodVars_none hV
  have h0k := h0
  obtain ⟨l0, rfl, hl0⟩ := open_bpdu (hval 0 27 v0 rfl rfl) h0
  clear hA0 hval0
  simp only [List.append_nil] at hW'
  have hlt : ∀ x ∈ p0, x.block < W.heap.size := fun x hx => by simpa using hW'.lt x (by simpa using hx)
  refine (rightWalk l0 W hl0).mono fun e W' ⟨he, hbl⟩ => ?_
  subst he
  exact ⟨_, rfl, _, _, _, [], _, [], hW', (trodAll_cons_mk (shut_bool Try.underlying4 _) trodAll_mk0), (trodAll_cons_mk (Below.trod Try.laidOut (by kernel_rfl) (of_decide_eq_true (by kernel_rfl)) h0k hbl (fun x hx => hlt x (by simp [hx]))) trodAll_mk0), rfl, hbl.frame _, fun h => by cases h⟩

theorem bpduRight_holds : Rows.BpduRightSaid :=
  OpenClaim.holds_of_wide 8 Try.f8 rfl rfl rfl rfl rfl rfl rfl ⟨rfl, rfl, rfl, rfl, rfl⟩ rfl rfl rfl rfl rfl (by kernel_rfl) Try.func8 (by kernel_rfl)
    (of_decide_eq_true (by kernel_rfl)) (by unfold Func.isWrapper; first | (rw [if_pos (by decide +kernel)]; kernel_rfl) | (rw [if_neg (by decide +kernel)]; exact ⟨rfl, rfl⟩))
    (fun os started H enc _ => bpduRightlifted os started H enc)

#print axioms bpduRight_holds
end Go.Proofs.Ytdaglmimfkcmeaa
