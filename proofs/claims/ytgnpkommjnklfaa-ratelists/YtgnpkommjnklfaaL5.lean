/- RateLists: for every list of numbers the law answers true, and it reads behind the call as it read before. No condition. -/
import Derived.Test.YtgnpkommjnklfaaA9
import Derived.Test.YtgnpkommjnklfaaMb
import Derived.Test.YtgnpkommjnklfaaMd
import Derived.Test.YtgnpkommjnklfaaOp
import Derived.Laws.Unary
namespace Go.Proofs.Ytgnpkommjnklfaa
open Go.Deep Go.ChangeShapes Go.WideShapes Go.ChangeAt Go.RowKit


set_option maxHeartbeats 2000000 in
theorem listsWalk (ao : Option Addr) (n c : Nat) (xs : List Nat) (w : World) (hF : Flt w w.heap.size ao n c xs) :
    Calls Try.prog 5 #[.slice ao n c] w fun e w' => e = .returned (.bool true) ∧ Below w.heap.size w w' := by
  have hl := hF.len
  have hm := hF.mx
  have hle := hF.le
  unfold maxLen at hm
  by_cases hn : n ≤ 1000
  · have hn' : ¬ ((1000 : Int) < n) := by omega
    have b1 := bits16 (mnV xs)
    go_enter Try.func5, Try.ntmps5
    go_wp2_with (go_at_call 9; refine (awake9 _).mono ?_; rintro e w' ⟨rfl, rfl⟩)
    go_wp2_with fail
    refine (mean14 ao n c xs _ hF hn).mono ?_
    rintro e w1 ⟨rfl, B1⟩
    have F1 : Flt w1 w1.heap.size ao n c xs := (hF.on B1).up B1.size
    go_wp2_with fail
    refine (mean15 ao n c xs _ F1 hn).mono ?_
    rintro e w2 ⟨rfl, rfl⟩
    go_wp2_with fail
    refine (best17 ao n c xs _ F1 hn).mono ?_
    rintro e w3 ⟨rfl, B2⟩
    have F2 : Flt w3 w3.heap.size ao n c xs := (F1.on B2).up B2.size
    replace B2 := B1.trans (B2.mono B1.size)
    go_wp2_with fail
    refine (best18 ao n c xs _ F2 hn).mono ?_
    rintro e w4 ⟨rfl, B3⟩
    replace B3 := B2.trans (B3.mono B2.size)
    go_wp2
    go_ret
    exact ⟨rfl, B3⟩
  · have hn' : (1000 : Int) < n := by omega
    go_enter Try.func5, Try.ntmps5
    go_wp2_with (go_at_call 9; refine (awake9 _).mono ?_; rintro e w' ⟨rfl, rfl⟩)
    go_ret
    exact ⟨rfl, Below.refl _ _⟩

set_option maxRecDepth 100000 in
set_option maxHeartbeats 2000000 in
theorem rateListslifted (os : Os) (started : os.Started) (H : Type) (enc : TypeId × Value → H) :
    ReturnsInHanded {} Try.checked os 5 .any (Rows.rateListsSpec.pre6 enc Try.prog Try.f5 Rows.rateListsRow.domain false) (Rows.rateListsSpec.post enc Try.prog Try.f5 false true false false) := by
  refine returnsInHanded_of_change (C := Try.checked) own started (by kernel_rfl) Try.func5
    (ChangeSpec.witness6 (enc := enc) (C := Try.checked) false ⟨#[], #[.slice none 0 0], []⟩ 8 (by kernel_rfl) (by kernel_rfl) (by kernel_rfl) (by kernel_rfl)) ?_
  intro W base args ds gs before hval0 hW _ _
  have hval : ∀ (j : Nat) t v, Try.f5.params[j]? = some t → args[j]? = some v → Value.okWide Try.prog W .any base t v := hval0
  have hW' := hW
  obtain ⟨p, q, hA0, hV, rfl, _, _⟩ := hW
  have hA : DataW.TrodAll enc Try.prog W 0 (fun _ => true) true Try.f5.params.toList args.toList ds p := hA0
  rw [Try.params5] at hA hval
  obtain ⟨v0, vs0, d0, ds0, p0, q0, hargs, rfl, rfl, h0, r0⟩ := trodAll_cons hA
  obtain ⟨rfl, rfl, rfl⟩ := trodAll_nil r0
  obtain rfl : args = #[v0] := by cases args; simp_all
  obtain ⟨rfl, rfl⟩ := trodVars_none hV
  have h0k := h0
  obtain ⟨ao0, n0, c0, xs0, rfl, hb0⟩ := open_floats (hval 0 28 v0 rfl rfl) h0
  clear hA0 hval0
  simp only [List.append_nil] at hW'
  have hlt : ∀ x ∈ p0, x.block < W.heap.size := fun x hx => by simpa using hW'.lt x (by simpa using hx)
  refine (listsWalk ao0 n0 c0 xs0 W hb0).mono fun e W' ⟨he, hbl⟩ => ?_
  subst he
  exact ⟨_, rfl, _, _, _, [], _, [], hW', (trodAll_cons_mk (shut_bool Try.underlying4 _) trodAll_mk0), (trodAll_cons_mk (Below.trod Try.laidOut (by kernel_rfl) (of_decide_eq_true (by kernel_rfl)) h0k hbl (fun x hx => hlt x (by simp [hx]))) trodAll_mk0), rfl, hbl.frame _, fun h => by cases h⟩

theorem rateLists_holds : Rows.RateListsSaid :=
  OpenClaim.holds_of_wide 5 Try.f5 rfl rfl rfl rfl rfl rfl rfl ⟨rfl, rfl, rfl, rfl, rfl⟩ rfl rfl rfl rfl rfl (by kernel_rfl) Try.func5 (by kernel_rfl)
    (of_decide_eq_true (by kernel_rfl)) (by unfold Func.isWrapper; first | (rw [if_pos (by decide +kernel)]; kernel_rfl) | (rw [if_neg (by decide +kernel)]; exact ⟨rfl, rfl⟩))
    (fun os started H enc _ => rateListslifted os started H enc)

#print axioms rateLists_holds
end Go.Proofs.Ytgnpkommjnklfaa
