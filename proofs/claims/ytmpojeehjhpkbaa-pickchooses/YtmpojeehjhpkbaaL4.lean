/- PickChooses: for every list and hash the law answers true, and both read behind the call as they read before. No condition. -/
import Derived.Test.YtmpojeehjhpkbaaQo
namespace Go.Proofs.Ytmpojeehjhpkbaa
open Go.ChangeShapes Go.WideShapes Go.ChangeAt Go.RowKit Go.PlainAid

set_option maxRecDepth 100000 in
set_option maxHeartbeats 4000000 in
theorem choosesWalk (ao : Option Addr) (n c : Nat) (l : List Int) (h : Nat) (w : World) (hl : Its w 0 ao n c l) (hh : h < 4294967296) :
    Calls Try.prog 4 #[.slice ao n c, .int .u32 h] w fun e w' => e = .returned (.bool true) ∧ Below w.heap.size w w' := by
  have HI := hide hl
  have HH := hide hh
  clear hl hh
  by_cases hn : 500 < n
  · have hn2 : (500 : Int) < (n : Int) := by omega
    clear hn
    go_enter Try.func4, Try.ntmps4
    go_wp2_with fail
    refine (awakeC _).mono ?_
    rintro e w1 ⟨rfl, B1⟩
    have HB := hide B1
    clear B1
    go_wp2
    go_ret
    exact ⟨rfl, HB.out⟩
  · have hn2 : ¬ (500 : Int) < (n : Int) := by omega
    clear hn
    by_cases h0 : n = 0
    · subst h0
      go_enter Try.func4, Try.ntmps4
      go_wp2_with fail
      refine (awakeC _).mono ?_
      rintro e w1 ⟨rfl, B1⟩
      have HB := hide B1
      clear B1
      go_wp2_with fail
      refine (chooseQ_none ao c h _).mono ?_
      rintro e w2 ⟨rfl, B2⟩
      replace HB := hide (belowOn HB.out B2)
      clear B2
      go_wp2_with fail
      refine (chooseR_none ao c h _).mono ?_
      rintro e w3 ⟨rfl, rfl⟩
      go_wp2
      go_ret
      exact ⟨rfl, HB.out⟩
    · have hpos : Hid (0 < n) := hide (by omega)
      clear h0
      go_enter Try.func4, Try.ntmps4
      go_wp2_with fail
      refine (awakeC _).mono ?_
      rintro e w1 ⟨rfl, B1⟩
      have HB := hide B1
      replace HI := hide (HI.out.on B1)
      clear B1
      go_wp2_with fail
      refine (chooseQ ao n c l h _ HI.out HH.out hpos.out).mono ?_
      rintro e w2 ⟨rfl, B2⟩
      replace HB := hide (belowOn HB.out B2)
      replace HI := hide (HI.out.on B2)
      clear B2
      go_wp2_with fail
      refine (chooseR ao n c l h _ HI.out HH.out hpos.out).mono ?_
      rintro e w3 ⟨rfl, rfl⟩
      obtain ⟨m, hm⟩ : ∃ m, m = chs h l := ⟨_, rfl⟩
      rw [← hm]
      clear hm
      go_wp2
      go_ret
      exact ⟨ret_bool (by first | rfl | simp), HB.out⟩
set_option maxRecDepth 100000 in
set_option maxHeartbeats 2000000 in
theorem pickChooseslifted (os : Os) (started : os.Started) (H : Type) (enc : TypeId × Value → H) :
    ReturnsInHanded {} Try.checked os 4 .any (Rows.pickChoosesSpec.pre6 enc Try.prog Try.f4 Rows.pickChoosesRow.domain false) (Rows.pickChoosesSpec.post enc Try.prog Try.f4 false true false false) := by
  refine returnsInHanded_of_change (C := Try.checked) own started (by kernel_rfl) Try.func4
    (ChangeSpec.witness6 (enc := enc) (C := Try.checked) false ⟨#[], #[.slice none 0 0, .int .u32 0], []⟩ 8 (by kernel_rfl) (by kernel_rfl) (by kernel_rfl) (by kernel_rfl)) ?_
  intro W base args ds gs before hval0 hW _ _
  have hval : ∀ (j : Nat) t v, Try.f4.params[j]? = some t → args[j]? = some v → Value.okWide Try.prog W .any base t v := hval0
  have hW' := hW
  obtain ⟨p, q, hA0, hV, rfl, _, _⟩ := hW
  have hA : DataW.TrodAll enc Try.prog W 0 (fun _ => true) true Try.f4.params.toList args.toList ds p := hA0
  rw [Try.params4] at hA hval
  obtain ⟨v0, vs0, d0, ds0, p0, q0, hargs, rfl, rfl, h0, r0⟩ := trodAll_cons hA
  obtain ⟨v1, vs1, d1, ds1, p1, q1, rfl, rfl, rfl, h1, r1⟩ := trodAll_cons r0
  obtain ⟨rfl, rfl, rfl⟩ := trodAll_nil r1
  obtain rfl : args = #[v0, v1] := by cases args; simp_all
  obtain ⟨rfl, rfl⟩ := trodVars_none hV
  have h0k := h0
  obtain ⟨ao0, n0, c0, ss0, rfl, hs0⟩ := open_list (hval 0 32 v0 rfl rfl) h0
  have h1k := h1
  obtain ⟨x1, rfl, hx1⟩ := open_hash (hval 1 27 v1 rfl rfl) h1
  clear hA0 hval0
  simp only [List.append_nil] at hW'
  have hlt : ∀ x ∈ p0 ++ p1, x.block < W.heap.size := fun x hx => by simpa using hW'.lt x (by simpa using hx)
  refine (choosesWalk ao0 n0 c0 ss0 x1 W hs0 hx1).mono fun e W' ⟨he, hbl⟩ => ?_
  subst he
  exact ⟨_, rfl, _, _, _, [], _, [], hW', (trodAll_cons_mk (shut_bool Try.underlying4 _) trodAll_mk0), (trodAll_cons_mk (Below.trod Try.laidOut (by kernel_rfl) (of_decide_eq_true (by kernel_rfl)) h0k hbl (fun x hx => hlt x (by simp [hx]))) (trodAll_cons_mk (Below.trod Try.laidOut (by kernel_rfl) (of_decide_eq_true (by kernel_rfl)) h1k hbl (fun x hx => hlt x (by simp [hx]))) trodAll_mk0)), rfl, hbl.frame _, fun h => by cases h⟩

theorem pickChooses_holds : Rows.PickChoosesSaid :=
  OpenClaim.holds_of_wide 4 Try.f4 rfl rfl rfl rfl rfl rfl rfl ⟨rfl, rfl, rfl, rfl, rfl⟩ rfl rfl rfl rfl rfl (by kernel_rfl) Try.func4 (by kernel_rfl)
    (of_decide_eq_true (by kernel_rfl)) (by unfold Func.isWrapper; first | (rw [if_pos (by decide +kernel)]; kernel_rfl) | (rw [if_neg (by decide +kernel)]; exact ⟨rfl, rfl⟩))
    (fun os started H enc _ => pickChooseslifted os started H enc)

#print axioms pickChooses_holds
end Go.Proofs.Ytmpojeehjhpkbaa
