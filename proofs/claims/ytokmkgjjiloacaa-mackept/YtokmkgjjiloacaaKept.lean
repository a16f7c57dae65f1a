/- MacKept: for every address the law answers true, and the address reads behind the call as it read before. No condition. -/
import Derived.Test.YtokmkgjjiloacaaA5
import Derived.Test.YtokmkgjjiloacaaA7
import Derived.Test.YtokmkgjjiloacaaOpen
namespace Go.Proofs.Ytokmkgjjiloacaa
open Go.ChangeShapes Go.WideShapes Go.ChangeAt Go.RowKit

theorem rsv_group {a0 a1 a2 a3 a4 a5 : Int} (h : B6 a0 a1 a2 a3 a4 a5) (hr : rsv a0 a1 a2 a3 a4 a5 = true) : (a0 % 2 == 1) = true := by
  obtain ⟨l0, u0, l1, u1, l2, u2, l3, u3, l4, u4, l5, u5⟩ := h
  simp only [rsv, num, beq_iff_eq] at *
  omega
theorem rsv_num {a0 a1 a2 a3 a4 a5 : Int} (hr : rsv a0 a1 a2 a3 a4 a5 = true) : 1652522221568 ≤ num a0 a1 a2 a3 a4 a5 ∧ num a0 a1 a2 a3 a4 a5 ≤ 1652522221583 := by
  simp only [rsv, beq_iff_eq] at hr
  omega
theorem rsv_next {a0 a1 a2 a3 a4 a5 b0 b1 b2 b3 b4 b5 : Int} (hr : rsv a0 a1 a2 a3 a4 a5 = true) (hn : num b0 b1 b2 b3 b4 b5 = num a0 a1 a2 a3 a4 a5 + 16) : rsv b0 b1 b2 b3 b4 b5 = false := by
  have := rsv_num hr
  simp only [rsv, hn, beq_eq_false_iff_ne]
  omega

set_option maxRecDepth 100000 in
set_option maxHeartbeats 1000000 in
theorem keptWalk (a0 a1 a2 a3 a4 a5 : Int) (w : World) (h : B6 a0 a1 a2 a3 a4 a5) :
    Calls Try.prog 9 #[.agg #[.int .u8 a0, .int .u8 a1, .int .u8 a2, .int .u8 a3, .int .u8 a4, .int .u8 a5]] w fun e w' => e = .returned (.bool true) ∧ Below w.heap.size w w' := by
  go_enter Try.func9, Try.ntmps9
  go_wp2_with fail
  refine (awake10 _).mono ?_
  rintro e w1 ⟨rfl, hb1⟩
  obtain ⟨hc1, hf1⟩ := bcell hb1
  have hz1 : w.heap.size < w1.heap.size := by have := hb1.size; simp at this; omega
  have hB1 := belowOn ((Below.refl _ _).alloc (Nat.le_refl _) _) hb1
  clear hb1
  by_cases hr : rsv a0 a1 a2 a3 a4 a5 = true
  · go_wp2_with fail
    refine (res17 _ _ _ _ _ _ _ h).mono ?_
    rintro e w2 ⟨rfl, hb2⟩
    obtain ⟨hc2, hf2⟩ := bcell hb2
    have hz2 : w.heap.size < w2.heap.size := by have := hb2.size; omega
    have hB2 := belowOn hB1 hb2
    clear hb2 hB1
    go_wp2_with fail
    refine (num13 _ _ _ _ _ _ _ h).mono ?_
    rintro e w3 ⟨rfl, hb3⟩
    obtain ⟨hc3, hf3⟩ := bcell hb3
    have hz3 : w.heap.size < w3.heap.size := by have := hb3.size; omega
    have hB3 := belowOn hB2 hb3
    clear hb3 hB2
    have hn0 := (rsv_num hr).1
    have hn1 := (rsv_num hr).2
    go_wp2_with fail
    refine (of21_yes _ _ (by omega) (by omega)).mono ?_
    rintro e w4 ⟨b0, b1, b2, b3, b4, b5, hb6, hnum, rfl, hb4⟩
    obtain ⟨hc4, hf4⟩ := bcell hb4
    have hz4 : w.heap.size < w4.heap.size := by have := hb4.size; omega
    have hB4 := belowOn hB3 hb4
    have hnr := rsv_next hr hnum
    have hq : (num a0 a1 a2 a3 a4 a5 / 16 == 103282638848) = true := hr
    have hgr := rsv_group h hr
    clear hb4 hB3 hnum
    go_wp2_with fail
    refine (group15 _ _ _ _ _ _ _ h).mono ?_
    rintro e w5 ⟨rfl, hb5⟩
    obtain ⟨hc5, hf5⟩ := bcell hb5
    have hz5 : w4.heap.size < w5.heap.size := by have := hb5.size; simp at this; omega
    have hB5 := belowOn (hB4.alloc hB4.size _) hb5
    clear hb5 hB4
    go_wp2_with fail
    refine (res17 _ _ _ _ _ _ _ hb6).mono ?_
    rintro e w6 ⟨rfl, hb6'⟩
    have hB6 := belowOn hB5 hb6'
    clear hc1 hc2 hc3 hc4 hc5 hf1 hf2 hf3 hf4 hf5 hb6' hB5
    go_wp2
    go_ret
    exact ⟨rfl, hB6⟩
  · have hr' : rsv a0 a1 a2 a3 a4 a5 = false := by simpa using hr
    clear hr
    go_wp2_with fail
    refine (res17 _ _ _ _ _ _ _ h).mono ?_
    rintro e w2 ⟨rfl, hb2⟩
    have hB2 := belowOn hB1 hb2
    clear hb2 hB1 hc1 hf1
    go_wp2
    go_ret
    exact ⟨rfl, hB2⟩

set_option maxRecDepth 100000 in
theorem macKeptlifted (os : Os) (started : os.Started) (H : Type) (enc : TypeId × Value → H) :
    ReturnsInHanded {} Try.checked os 9 .any (Rows.macKeptSpec.pre6 enc Try.prog Try.f9 Rows.macKeptRow.domain false) (Rows.macKeptSpec.post enc Try.prog Try.f9 false true false false) := by
  refine returnsInHanded_of_change (C := Try.checked) own started (by kernel_rfl) Try.func9
    (ChangeSpec.witness6 (enc := enc) (C := Try.checked) false ⟨#[], #[.agg #[.int .u8 0, .int .u8 0, .int .u8 0, .int .u8 0, .int .u8 0, .int .u8 0]], []⟩ 8 (by kernel_rfl) (by kernel_rfl) (by kernel_rfl) (by kernel_rfl)) ?_
  intro W base args ds gs before hval0 hW _ _
  have hval : ∀ (j : Nat) t v, Try.f9.params[j]? = some t → args[j]? = some v → Value.okWide Try.prog W .any base t v := hval0
  have hW' := hW
  obtain ⟨p, q, hA0, hV, rfl, _, _⟩ := hW
  have hA : DataW.TrodAll enc Try.prog W 0 (fun _ => true) true Try.f9.params.toList args.toList ds p := hA0
  rw [Try.params9] at hA hval
  obtain ⟨v0, vs0, d0, ds0, p0, q0, hargs, rfl, rfl, h0, r0⟩ := trodAll_cons hA
  obtain ⟨rfl, rfl, rfl⟩ := trodAll_nil r0
  obtain rfl : args = #[v0] := by cases args; simp_all
  obtain ⟨rfl, rfl⟩ := trodVars_none hV
  obtain ⟨a0, a1, a2, a3, a4, a5, rfl, rfl, rfl, k0⟩ := open_mac (hval 0 23 v0 rfl rfl) h0
  clear hA0 hval0
  simp only [List.append_nil] at hW'
  refine (keptWalk a0 a1 a2 a3 a4 a5 W k0).mono fun e W' ⟨he, hb⟩ => ?_
  subst he
  exact ⟨_, rfl, _, _, _, [], [], [], hW', (trodAll_cons_mk (shut_bool Try.underlying4 _) trodAll_mk0), (trodAll_cons_mk (shut_mac k0) trodAll_mk0), rfl, hb.frame _, fun h => by cases h⟩

theorem macKept_holds : Rows.MacKeptSaid :=
  OpenClaim.holds_of_wide 9 Try.f9 rfl rfl rfl rfl rfl rfl rfl ⟨rfl, rfl, rfl, rfl, rfl⟩ rfl rfl rfl rfl rfl (by kernel_rfl) Try.func9 (by kernel_rfl)
    (of_decide_eq_true (by kernel_rfl)) (by unfold Func.isWrapper; first | (rw [if_pos (by decide +kernel)]; kernel_rfl) | (rw [if_neg (by decide +kernel)]; exact ⟨rfl, rfl⟩))
    (fun os started H enc _ => macKeptlifted os started H enc)

#print axioms macKept_holds
end Go.Proofs.Ytokmkgjjiloacaa
