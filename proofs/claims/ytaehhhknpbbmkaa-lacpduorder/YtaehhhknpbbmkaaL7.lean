/- LacpduOrder: for every three infos the law answers true, and all three read behind the call as they read before. No condition. -/
import Derived.Test.YtaehhhknpbbmkaaOb
import Derived.Test.YtaehhhknpbbmkaaOc
import Derived.Test.YtaehhhknpbbmkaaOp
namespace Go.Proofs.Ytaehhhknpbbmkaa
open Go.ChangeShapes Go.WideShapes Go.ChangeAt Go.RowKit

theorem orderWalk (a b c : Inf) (w : World) (ha : Rng (ml a)) (hb : Rng (ml b)) (hc : Rng (ml c)) :
    Calls Try.prog 7 #[.agg (IC a), .agg (IC b), .agg (IC c)] w fun e w' => e = .returned (.bool true) ∧ Below w.heap.size w w' := by
  by_cases h1 : a.sp = b.sp
  · have hsp : (a.sp == b.sp) = true := by simp [h1]
    by_cases h2 : nm a = nm b
    · have heq : eq6 a.m0 a.m1 a.m2 a.m3 a.m4 a.m5 b.m0 b.m1 b.m2 b.m3 b.m4 b.m5 = true := by rw [nm_eq6 ha hb]; simp [h2]
      exact ow7 a b c w ha hb hc (ls_same h1 h2) (ls_same h1.symm h2.symm) hsp heq
    · have heq : eq6 a.m0 a.m1 a.m2 a.m3 a.m4 a.m5 b.m0 b.m1 b.m2 b.m3 b.m4 b.m5 = false := by rw [nm_eq6 ha hb]; simp [h2]
      cases hab : ls a b
      · exact ow6 a b c w ha hb hc hab (ls_total hab (fun h => h2 h.2)) hsp heq
      · cases hbc : ls b c
        · exact ow3 a b c w ha hb hc hab (ls_anti hab) hsp heq hbc
        · exact ow4 a b c w ha hb hc hab (ls_anti hab) hsp heq hbc (ls_trans hab hbc)
  · have hsp : (a.sp == b.sp) = false := by simp [h1]
    cases hab : ls a b
    · exact ow5 a b c w ha hb hc hab (ls_total hab (fun h => h1 h.1)) hsp
    · cases hbc : ls b c
      · exact ow1 a b c w ha hb hc hab (ls_anti hab) hsp hbc
      · exact ow2 a b c w ha hb hc hab (ls_anti hab) hsp hbc (ls_trans hab hbc)
set_option maxRecDepth 100000 in
set_option maxHeartbeats 2000000 in
theorem lacpduOrderlifted (os : Os) (started : os.Started) (H : Type) (enc : TypeId × Value → H) :
    ReturnsInHanded {} Try.checked os 7 .any (Rows.lacpduOrderSpec.pre6 enc Try.prog Try.f7 Rows.lacpduOrderRow.domain false) (Rows.lacpduOrderSpec.post enc Try.prog Try.f7 false true false false) := by
  refine returnsInHanded_of_change (C := Try.checked) own started (by kernel_rfl) Try.func7
    (ChangeSpec.witness6 (enc := enc) (C := Try.checked) false ⟨#[], #[.agg #[.int .i64 0, .int .u8 0, .int .u8 0, .int .u8 0, .int .u8 0, .int .u8 0, .int .u8 0, .int .i64 0, .int .i64 0, .int .i64 0, .int .i64 0], .agg #[.int .i64 0, .int .u8 0, .int .u8 0, .int .u8 0, .int .u8 0, .int .u8 0, .int .u8 0, .int .i64 0, .int .i64 0, .int .i64 0, .int .i64 0], .agg #[.int .i64 0, .int .u8 0, .int .u8 0, .int .u8 0, .int .u8 0, .int .u8 0, .int .u8 0, .int .i64 0, .int .i64 0, .int .i64 0, .int .i64 0]], []⟩ 8 (by kernel_rfl) (by kernel_rfl) (by kernel_rfl) (by kernel_rfl)) ?_
  intro W base args ds gs before hval0 hW _ _
  have hval : ∀ (j : Nat) t v, Try.f7.params[j]? = some t → args[j]? = some v → Value.okWide Try.prog W .any base t v := hval0
  have hW' := hW
  obtain ⟨p, q, hA0, hV, rfl, _, _⟩ := hW
  have hA : DataW.TrodAll enc Try.prog W 0 (fun _ => true) true Try.f7.params.toList args.toList ds p := hA0
  rw [Try.params7] at hA hval
  obtain ⟨v0, vs0, d0, ds0, p0, q0, hargs, rfl, rfl, h0, r0⟩ := trodAll_cons hA
  obtain ⟨v1, vs1, d1, ds1, p1, q1, rfl, rfl, rfl, h1, r1⟩ := trodAll_cons r0
  obtain ⟨v2, vs2, d2, ds2, p2, q2, rfl, rfl, rfl, h2, r2⟩ := trodAll_cons r1
  obtain ⟨rfl, rfl, rfl⟩ := trodAll_nil r2
  obtain rfl : args = #[v0, v1, v2] := by cases args; simp_all
  obtain ⟨rfl, rfl⟩ := trodVars_none hV
  have h0k := h0
  obtain ⟨i0, rfl, hi0⟩ := open_info (hval 0 25 v0 rfl rfl) h0
  have h1k := h1
  obtain ⟨i1, rfl, hi1⟩ := open_info (hval 1 25 v1 rfl rfl) h1
  have h2k := h2
  obtain ⟨i2, rfl, hi2⟩ := open_info (hval 2 25 v2 rfl rfl) h2
  clear hA0 hval0
  simp only [List.append_nil] at hW'
  have hlt : ∀ x ∈ p0 ++ p1 ++ p2, x.block < W.heap.size := fun x hx => by simpa using hW'.lt x (by simpa using hx)
  refine (orderWalk i0 i1 i2 W hi0 hi1 hi2).mono fun e W' ⟨he, hbl⟩ => ?_
  subst he
  exact ⟨_, rfl, _, _, _, [], _, [], hW', (trodAll_cons_mk (shut_bool Try.underlying4 _) trodAll_mk0), (trodAll_cons_mk (Below.trod Try.laidOut (by kernel_rfl) (of_decide_eq_true (by kernel_rfl)) h0k hbl (fun x hx => hlt x (by simp [hx]))) (trodAll_cons_mk (Below.trod Try.laidOut (by kernel_rfl) (of_decide_eq_true (by kernel_rfl)) h1k hbl (fun x hx => hlt x (by simp [hx]))) (trodAll_cons_mk (Below.trod Try.laidOut (by kernel_rfl) (of_decide_eq_true (by kernel_rfl)) h2k hbl (fun x hx => hlt x (by simp [hx]))) trodAll_mk0))), rfl, hbl.frame _, fun h => by cases h⟩

theorem lacpduOrder_holds : Rows.LacpduOrderSaid :=
  OpenClaim.holds_of_wide 7 Try.f7 rfl rfl rfl rfl rfl rfl rfl ⟨rfl, rfl, rfl, rfl, rfl⟩ rfl rfl rfl rfl rfl (by kernel_rfl) Try.func7 (by kernel_rfl)
    (of_decide_eq_true (by kernel_rfl)) (by unfold Func.isWrapper; first | (rw [if_pos (by decide +kernel)]; kernel_rfl) | (rw [if_neg (by decide +kernel)]; exact ⟨rfl, rfl⟩))
    (fun os started H enc _ => lacpduOrderlifted os started H enc)

#print axioms lacpduOrder_holds
end Go.Proofs.Ytaehhhknpbbmkaa
