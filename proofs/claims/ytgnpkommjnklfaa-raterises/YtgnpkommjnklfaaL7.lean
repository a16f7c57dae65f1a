/- RateRises: for every two numbers and every two capacities the law answers true, and these read behind the call as they read before. No condition. -/
import Derived.Test.YtgnpkommjnklfaaRa1
import Derived.Test.YtgnpkommjnklfaaRa2
import Derived.Test.YtgnpkommjnklfaaOp
import Derived.Laws.Unary
import Derived.Handy
namespace Go.Proofs.Ytgnpkommjnklfaa
open Go.Deep Go.ChangeShapes Go.WideShapes Go.ChangeAt Go.RowKit


set_option maxRecDepth 100000 in
set_option maxHeartbeats 2000000 in
theorem risesWalk (a b : Nat) (c d : Int) (w : World) :
    Calls Try.prog 7 #[.agg #[.float .f64 a, .float .f64 b], .agg #[.int .i64 c, .int .i64 d]] w fun e w' => e = .returned (.bool true) ∧ Below w.heap.size w w' := by
  by_cases ha : nn a
  · have na := nanB_f ha
    by_cases hb : nn b
    · have nb := nanB_f hb
      have g := gt_eq ha hb
      by_cases l : vl b < vl a
      · have dl : decide (vl b < vl a) = true := by simp [l]
        rw [dl] at g
        clear dl l ha hb
        go_enter Try.func7, Try.ntmps7
        go_wp2_with (first | (go_at_call 9; refine (awake9 _).mono ?_; rintro e w' ⟨rfl, rfl⟩) | (go_at_call 20; refine (isNaN20 _ _).mono ?_; rintro e w' ⟨rfl, rfl⟩) | (go_at_call 10; refine (cost10 _ _).mono ?_; rintro e w' ⟨rfl, rfl⟩) | (go_at_call 12; refine (lim12 _ _ _).mono ?_; rintro e w' ⟨rfl, rfl⟩))
        all_goals (go_ret; exact ⟨rfl, by go_grown⟩)
      · have dl : decide (vl b < vl a) = false := by simp; omega
        rw [dl] at g
        by_cases k : d < c
        · clear dl l ha hb
          go_enter Try.func7, Try.ntmps7
          go_wp2_with (first | (go_at_call 9; refine (awake9 _).mono ?_; rintro e w' ⟨rfl, rfl⟩) | (go_at_call 20; refine (isNaN20 _ _).mono ?_; rintro e w' ⟨rfl, rfl⟩) | (go_at_call 10; refine (cost10 _ _).mono ?_; rintro e w' ⟨rfl, rfl⟩) | (go_at_call 12; refine (lim12 _ _ _).mono ?_; rintro e w' ⟨rfl, rfl⟩))
          all_goals (go_ret; exact ⟨rfl, by go_grown⟩)
        · have m6 := lmt_lo a c
          have m7 := lmt_lo b c
          rcases m7.2 with z | z
          · exact rises1 a b c d w na nb g (by omega) (cst_mono ha hb (by omega)) (cst_lo b).1 (cst_lo a).2 (lmt_mono_x (a := a) (b := b) (c := c) hb (by omega)) (lmt_mono_c (a := a) (c := c) (d := d) (by omega)) m6.1 z
          · exact rises2 a b c d w na nb g (by omega) (cst_mono ha hb (by omega)) (cst_lo b).1 (cst_lo a).2 (lmt_mono_x (a := a) (b := b) (c := c) hb (by omega)) (lmt_mono_c (a := a) (c := c) (d := d) (by omega)) m6.1 z
    · have nb := nanB_t hb
      clear hb ha
      go_enter Try.func7, Try.ntmps7
      go_wp2_with (first | (go_at_call 9; refine (awake9 _).mono ?_; rintro e w' ⟨rfl, rfl⟩) | (go_at_call 20; refine (isNaN20 _ _).mono ?_; rintro e w' ⟨rfl, rfl⟩) | (go_at_call 10; refine (cost10 _ _).mono ?_; rintro e w' ⟨rfl, rfl⟩) | (go_at_call 12; refine (lim12 _ _ _).mono ?_; rintro e w' ⟨rfl, rfl⟩))
      all_goals (go_ret; exact ⟨rfl, by go_grown⟩)
  · have na := nanB_t ha
    clear ha
    go_enter Try.func7, Try.ntmps7
    go_wp2_with (first | (go_at_call 9; refine (awake9 _).mono ?_; rintro e w' ⟨rfl, rfl⟩) | (go_at_call 20; refine (isNaN20 _ _).mono ?_; rintro e w' ⟨rfl, rfl⟩) | (go_at_call 10; refine (cost10 _ _).mono ?_; rintro e w' ⟨rfl, rfl⟩) | (go_at_call 12; refine (lim12 _ _ _).mono ?_; rintro e w' ⟨rfl, rfl⟩))
    all_goals (go_ret; exact ⟨rfl, by go_grown⟩)

set_option maxRecDepth 100000 in
set_option maxHeartbeats 2000000 in
theorem rateRiseslifted (os : Os) (started : os.Started) (H : Type) (enc : TypeId × Value → H) :
    ReturnsInHanded {} Try.checked os 7 .any (Rows.rateRisesSpec.pre6 enc Try.prog Try.f7 Rows.rateRisesRow.domain false) (Rows.rateRisesSpec.post enc Try.prog Try.f7 false true false false) := by
  refine returnsInHanded_of_change (C := Try.checked) own started (by kernel_rfl) Try.func7
    (ChangeSpec.witness6 (enc := enc) (C := Try.checked) false ⟨#[], #[.agg #[.float .f64 0, .float .f64 0], .agg #[.int .i64 0, .int .i64 0]], []⟩ 8 (by kernel_rfl) (by kernel_rfl) (by kernel_rfl) (by kernel_rfl)) ?_
  intro W base args ds gs before hval0 hW _ _
  have hval : ∀ (j : Nat) t v, Try.f7.params[j]? = some t → args[j]? = some v → Value.okWide Try.prog W .any base t v := hval0
  have hW' := hW
  obtain ⟨p, q, hA0, hV, rfl, _, _⟩ := hW
  have hA : DataW.TrodAll enc Try.prog W 0 (fun _ => true) true Try.f7.params.toList args.toList ds p := hA0
  rw [Try.params7] at hA hval
  obtain ⟨v0, vs0, d0, ds0, p0, q0, hargs, rfl, rfl, h0, r0⟩ := trodAll_cons hA
  obtain ⟨v1, vs1, d1, ds1, p1, q1, rfl, rfl, rfl, h1, r1⟩ := trodAll_cons r0
  obtain ⟨rfl, rfl, rfl⟩ := trodAll_nil r1
  obtain rfl : args = #[v0, v1] := by cases args; simp_all
  obtain ⟨rfl, rfl⟩ := trodVars_none hV
  have h0k := h0
  obtain ⟨a0, b0, rfl⟩ := open_two (hval 0 37 v0 rfl rfl) h0
  have h1k := h1
  obtain ⟨a1, b1, rfl⟩ := open_pair (hval 1 38 v1 rfl rfl) h1
  clear hA0 hval0
  simp only [List.append_nil] at hW'
  have hlt : ∀ x ∈ p0 ++ p1, x.block < W.heap.size := fun x hx => by simpa using hW'.lt x (by simpa using hx)
  refine (risesWalk a0 b0 a1 b1 W ).mono fun e W' ⟨he, hbl⟩ => ?_
  subst he
  exact ⟨_, rfl, _, _, _, [], _, [], hW', (trodAll_cons_mk (shut_bool Try.underlying4 _) trodAll_mk0), (trodAll_cons_mk (Below.trod Try.laidOut (by kernel_rfl) (of_decide_eq_true (by kernel_rfl)) h0k hbl (fun x hx => hlt x (by simp [hx]))) (trodAll_cons_mk (Below.trod Try.laidOut (by kernel_rfl) (of_decide_eq_true (by kernel_rfl)) h1k hbl (fun x hx => hlt x (by simp [hx]))) trodAll_mk0)), rfl, hbl.frame _, fun h => by cases h⟩

theorem rateRises_holds : Rows.RateRisesSaid :=
  OpenClaim.holds_of_wide 7 Try.f7 rfl rfl rfl rfl rfl rfl rfl ⟨rfl, rfl, rfl, rfl, rfl⟩ rfl rfl rfl rfl rfl (by kernel_rfl) Try.func7 (by kernel_rfl)
    (of_decide_eq_true (by kernel_rfl)) (by unfold Func.isWrapper; first | (rw [if_pos (by decide +kernel)]; kernel_rfl) | (rw [if_neg (by decide +kernel)]; exact ⟨rfl, rfl⟩))
    (fun os started H enc _ => rateRiseslifted os started H enc)

#print axioms rateRises_holds
end Go.Proofs.Ytgnpkommjnklfaa
