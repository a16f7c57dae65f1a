/- RateOrder: for every three numbers the law answers true, and these read behind the call as they read before. No condition. -/
import Derived.Test.YtgnpkommjnklfaaOa1
import Derived.Test.YtgnpkommjnklfaaOa2
import Derived.Test.YtgnpkommjnklfaaOa3
import Derived.Test.YtgnpkommjnklfaaOp
namespace Go.Proofs.Ytgnpkommjnklfaa
open Go.Deep Go.ChangeShapes Go.WideShapes Go.ChangeAt Go.RowKit


theorem orderWalk (a b c : Nat) (w : World) (ha : a < 18446744073709551616) (hb : b < 18446744073709551616) (_hc : c < 18446744073709551616) :
    Calls Try.prog 6 #[.float .f64 a, .float .f64 b, .float .f64 c] w fun e w' => e = .returned (.bool true) ∧ Below w.heap.size w w' := by
  have fin : (Calls Try.prog 6 #[.float .f64 a, .float .f64 b, .float .f64 c] w fun e w' => e = .returned (.bool true) ∧ w' = w) → Calls Try.prog 6 #[.float .f64 a, .float .f64 b, .float .f64 c] w fun e w' => e = .returned (.bool true) ∧ Below w.heap.size w w' :=
    fun h => h.mono fun e w' he => ⟨he.1, by rw [he.2]; exact Below.refl _ _⟩
  apply fin
  have ks := key_same ha hb
  by_cases q : a = b
  · have q2 : (a : Int) = (b : Int) := by omega
    have e : key a = key b := by rw [q]
    have e1 := cmp3_eq e
    have e4 := cmp3_eq e.symm
    rcases Int.lt_trichotomy (key b) (key c) with h | h | h
    · exact o_eq_l a b c w e1 e4 (cmp3_lt h) (cmp3_lt (by omega)) q2
    · exact o_eq_e a b c w e1 e4 (cmp3_eq h) (cmp3_eq (by omega)) q2
    · exact o_eq_g a b c w e1 e4 (cmp3_gt h) q2
  · have q1 : ((a : Int) == (b : Int)) = false := by simp; omega
    by_cases na : nn a
    · have na' := nanB_f na
      rcases Int.lt_trichotomy (key a) (key b) with g | g | g
      · have e1 := cmp3_lt g
        have e4 := cmp3_gt g
        rcases Int.lt_trichotomy (key b) (key c) with h | h | h
        · exact o_lt_l a b c w e1 e4 (cmp3_lt h) (cmp3_lt (by omega)) q1 na'
        · exact o_lt_e a b c w e1 e4 (cmp3_eq h) (cmp3_lt (by omega)) q1 na'
        · exact o_lt_g a b c w e1 e4 (cmp3_gt h) q1 na'
      · exfalso
        rcases ks.1 g with k | k
        · exact q k
        · exact k.1 na
      · exact o_gt a b c w (cmp3_gt g) (cmp3_lt g) q1 na'
    · have na' := nanB_t na
      by_cases nb : nn b
      · have g : key b < key a := by rw [key_nan na]; exact key_lt_nan nb
        exact o_gtn a b c w (cmp3_gt g) (cmp3_lt g) q1 na' (nanB_f nb)
      · have nb' := nanB_t nb
        have e := ks.2 (Or.inr ⟨na, nb⟩)
        have e1 := cmp3_eq e
        have e4 := cmp3_eq e.symm
        rcases Int.lt_trichotomy (key b) (key c) with h | h | h
        · exact o_nan_l a b c w e1 e4 (cmp3_lt h) (cmp3_lt (by omega)) q1 na' nb'
        · exact o_nan_e a b c w e1 e4 (cmp3_eq h) (cmp3_eq (by omega)) q1 na' nb'
        · exact o_nan_g a b c w e1 e4 (cmp3_gt h) q1 na' nb'

set_option maxRecDepth 100000 in
set_option maxHeartbeats 2000000 in
theorem rateOrderlifted (os : Os) (started : os.Started) (H : Type) (enc : TypeId × Value → H) :
    ReturnsInHanded {} Try.checked os 6 .any (Rows.rateOrderSpec.pre6 enc Try.prog Try.f6 Rows.rateOrderRow.domain false) (Rows.rateOrderSpec.post enc Try.prog Try.f6 false true false false) := by
  refine returnsInHanded_of_change (C := Try.checked) own started (by kernel_rfl) Try.func6
    (ChangeSpec.witness6 (enc := enc) (C := Try.checked) false ⟨#[], #[.float .f64 0, .float .f64 0, .float .f64 0], []⟩ 8 (by kernel_rfl) (by kernel_rfl) (by kernel_rfl) (by kernel_rfl)) ?_
  intro W base args ds gs before hval0 hW _ _
  have hval : ∀ (j : Nat) t v, Try.f6.params[j]? = some t → args[j]? = some v → Value.okWide Try.prog W .any base t v := hval0
  have hW' := hW
  obtain ⟨p, q, hA0, hV, rfl, _, _⟩ := hW
  have hA : DataW.TrodAll enc Try.prog W 0 (fun _ => true) true Try.f6.params.toList args.toList ds p := hA0
  rw [Try.params6] at hA hval
  obtain ⟨v0, vs0, d0, ds0, p0, q0, hargs, rfl, rfl, h0, r0⟩ := trodAll_cons hA
  obtain ⟨v1, vs1, d1, ds1, p1, q1, rfl, rfl, rfl, h1, r1⟩ := trodAll_cons r0
  obtain ⟨v2, vs2, d2, ds2, p2, q2, rfl, rfl, rfl, h2, r2⟩ := trodAll_cons r1
  obtain ⟨rfl, rfl, rfl⟩ := trodAll_nil r2
  obtain rfl : args = #[v0, v1, v2] := by cases args; simp_all
  obtain ⟨rfl, rfl⟩ := trodVars_none hV
  obtain ⟨x0, rfl, rfl, rfl, wx0⟩ := open_float Try.underlying22 (hval 0 22 v0 rfl rfl) h0
  obtain ⟨x1, rfl, rfl, rfl, wx1⟩ := open_float Try.underlying22 (hval 1 22 v1 rfl rfl) h1
  obtain ⟨x2, rfl, rfl, rfl, wx2⟩ := open_float Try.underlying22 (hval 2 22 v2 rfl rfl) h2
  clear hA0 hval0
  simp only [List.append_nil] at hW'
  refine (orderWalk x0 x1 x2 W (float_lt wx0) (float_lt wx1) (float_lt wx2)).mono fun e W' ⟨he, hbl⟩ => ?_
  subst he
  exact ⟨_, rfl, _, _, _, [], _, [], hW', (trodAll_cons_mk (shut_bool Try.underlying4 _) trodAll_mk0), (trodAll_cons_mk (shut_float Try.underlying22 wx0) (trodAll_cons_mk (shut_float Try.underlying22 wx1) (trodAll_cons_mk (shut_float Try.underlying22 wx2) trodAll_mk0))), rfl, hbl.frame _, fun h => by cases h⟩

theorem rateOrder_holds : Rows.RateOrderSaid :=
  OpenClaim.holds_of_wide 6 Try.f6 rfl rfl rfl rfl rfl rfl rfl ⟨rfl, rfl, rfl, rfl, rfl⟩ rfl rfl rfl rfl rfl (by kernel_rfl) Try.func6 (by kernel_rfl)
    (of_decide_eq_true (by kernel_rfl)) (by unfold Func.isWrapper; first | (rw [if_pos (by decide +kernel)]; kernel_rfl) | (rw [if_neg (by decide +kernel)]; exact ⟨rfl, rfl⟩))
    (fun os started H enc _ => rateOrderlifted os started H enc)

#print axioms rateOrder_holds
end Go.Proofs.Ytgnpkommjnklfaa
