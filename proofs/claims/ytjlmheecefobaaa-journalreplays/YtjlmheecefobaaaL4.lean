/- JournalReplays: for all entries and all steps the law answers true, and both read behind the call as they read before. No condition. -/
import Derived.Test.YtjlmheecefobaaaOp
import Derived.Test.YtjlmheecefobaaaK1
import Derived.Test.YtjlmheecefobaaaAw
import Derived.Test.YtjlmheecefobaaaM8
namespace Go.Proofs.Ytjlmheecefobaaa
open Go.ChangeShapes Go.WideShapes Go.ChangeAt Go.RowKit Go.PlainAid

set_option maxRecDepth 100000 in
set_option maxHeartbeats 4000000 in
theorem replaysWalk (ao : Option Addr) (n c : Nat) (l : List En) (ao1 : Option Addr) (n1 c1 : Nat) (ss : List Sp) (w : World) (hl : Sl ecl 10 w w.heap.size ao n c l) (ho : ∀ s ∈ l, Eok s) (hs : Sl pcl 11 w w.heap.size ao1 n1 c1 ss) (hp : ∀ s ∈ ss, Eok s.x) :
    Calls Try.prog 4 #[.slice ao n c, .slice ao1 n1 c1] w fun e w' => e = .returned (.bool true) ∧ Below w.heap.size w w' := by
  have HL := hide hl
  have HS := hide hs
  have HO := hide ho
  have HP := hide hp
  clear hl hs ho hp
  by_cases a1 : (60 : Int) < (n : Int)
  · go_enter Try.func4, Try.ntmps4
    go_wp2_with fail
    refine (awake10 _).mono ?_
    rintro e w1 ⟨rfl, B1⟩
    have HB := hide B1
    clear B1
    go_wp2
    go_ret
    exact ⟨rfl, HB.out⟩
  by_cases a2 : (60 : Int) < (n1 : Int)
  · go_enter Try.func4, Try.ntmps4
    go_wp2_with fail
    refine (awake10 _).mono ?_
    rintro e w1 ⟨rfl, B1⟩
    have HB := hide B1
    clear B1
    go_wp2
    go_ret
    exact ⟨rfl, HB.out⟩
  go_enter Try.func4, Try.ntmps4
  go_wp2_with fail
  refine (awake10 _).mono ?_
  rintro e w1 ⟨rfl, B1⟩
  replace HL := hide (HL.out.on B1)
  replace HS := hide (HS.out.on B1)
  have HB := hide B1
  clear B1
  go_wp2_with fail
  refine (list19 ao1 n1 c1 ss 0 _ HS.out (by omega) (by omega) (by omega)).mono ?_
  rintro e w2 ⟨ao2, c2, rfl, C2, B2, -⟩
  replace HL := hide (HL.out.on B2)
  replace HB := hide (below_more HB.out B2 HB.out.size)
  have HC := hide C2.sl
  have HCO : Hid (∀ d ∈ lst ss 0, Eok d.x) := hide (fun d hd => by obtain ⟨p, h1, h2⟩ := lst_mem hd; rw [h2]; exact HP.out p h1)
  clear B2 C2
  go_wp2_with fail
  refine (replay21 ao n c l ao2 n1 c2 (lst ss 0) _ HL.out HC.out HO.out HCO.out (by omega)).mono ?_
  rintro e w3 ⟨ao3, c3, rfl, E3, B3⟩
  replace HL := hide (HL.out.on B3)
  replace HC := hide (HC.out.on B3)
  replace HB := hide (below_more HB.out B3 HB.out.size)
  have HE := hide E3.sl
  clear B3 E3
  go_wp2_with fail
  refine (replay22 ao n c l ao2 n1 c2 (lst ss 0) _ HL.out HC.out HO.out HCO.out (by omega)).mono ?_
  rintro e w4 ⟨ao4, c4, rfl, E4, B4⟩
  replace HE := hide (HE.out.on B4)
  replace HB := hide (below_more HB.out B4 HB.out.size)
  have HF := hide E4.sl
  clear B4 E4
  go_wp2_with fail
  refine (same20 (rep l (lst ss 0)) _ _ ao3 ao4 c3 c4 _ HE.out HF.out).mono ?_
  rintro e w5 ⟨rfl, B5⟩
  replace HB := hide (below_more HB.out B5 HB.out.size)
  clear B5
  go_wp2
  go_ret
  exact ⟨rfl, HB.out⟩
set_option maxRecDepth 100000 in
set_option maxHeartbeats 2000000 in
theorem journalReplayslifted (os : Os) (started : os.Started) (H : Type) (enc : TypeId × Value → H) :
    ReturnsInHanded {} Try.checked os 4 .any (Rows.journalReplaysSpec.pre6 enc Try.prog Try.f4 Rows.journalReplaysRow.domain false) (Rows.journalReplaysSpec.post enc Try.prog Try.f4 false true false false) := by
  refine returnsInHanded_of_change (C := Try.checked) own started (by kernel_rfl) Try.func4
    (ChangeSpec.witness6 (enc := enc) (C := Try.checked) false ⟨#[], #[.slice none 0 0, .slice none 0 0], []⟩ 8 (by kernel_rfl) (by kernel_rfl) (by kernel_rfl) (by kernel_rfl)) ?_
  intro W base args ds gs before hval0 hW _ _
  have hval : ∀ (j : Nat) t v, Try.f4.params[j]? = some t → args[j]? = some v → Value.okWide Try.prog W .any base t v := hval0
  have hW' := hW
  obtain ⟨p, q, hA0, hV, rfl, _, _⟩ := hW
  have hA : DataW.TrodAll enc Try.prog W 0 (fun _ => true) true Try.f4.params.toList args.toList ds p := hA0
  rw [Try.params4] at hA hval
  obtain ⟨v0, vs0, d0, ds0, p0, q0, hargs, rfl, rfl, h0, r0⟩ := trodAll_cons hA
  obtain ⟨v1, vs1, d1, ds1, p1, q1, rfl, rfl, rfl, h1, r1⟩ := trodAll_cons r0
  obtain ⟨rfl, rfl, rfl⟩ := trodAll_nil r1
  obtain rfl : args = #[v0, v1] := by cases args; simp_all
  obtain ⟨rfl, rfl⟩ := trodVars_none hV
  have h0k := h0
  obtain ⟨ao0, n0, c0, ss0, rfl, hs0, ho0⟩ := open_ents (hval 0 47 v0 rfl rfl) h0
  have h1k := h1
  obtain ⟨ao1, n1, c1, ss1, rfl, hs1, ho1⟩ := open_sps (hval 1 22 v1 rfl rfl) h1
  clear hA0 hval0
  simp only [List.append_nil] at hW'
  have hlt : ∀ x ∈ p0 ++ p1, x.block < W.heap.size := fun x hx => by simpa using hW'.lt x (by simpa using hx)
  refine (replaysWalk ao0 n0 c0 ss0 ao1 n1 c1 ss1 W hs0 ho0 hs1 ho1).mono fun e W' ⟨he, hbl⟩ => ?_
  subst he
  exact ⟨_, rfl, _, _, _, [], _, [], hW', (trodAll_cons_mk (shut_bool Try.underlying4 _) trodAll_mk0), (trodAll_cons_mk (Below.trod Try.laidOut (by kernel_rfl) (of_decide_eq_true (by kernel_rfl)) h0k hbl (fun x hx => hlt x (by simp [hx]))) (trodAll_cons_mk (Below.trod Try.laidOut (by kernel_rfl) (of_decide_eq_true (by kernel_rfl)) h1k hbl (fun x hx => hlt x (by simp [hx]))) trodAll_mk0)), rfl, hbl.frame _, fun h => by cases h⟩

theorem journalReplays_holds : Rows.JournalReplaysSaid :=
  OpenClaim.holds_of_wide 4 Try.f4 rfl rfl rfl rfl rfl rfl rfl ⟨rfl, rfl, rfl, rfl, rfl⟩ rfl rfl rfl rfl rfl (by kernel_rfl) Try.func4 (by kernel_rfl)
    (of_decide_eq_true (by kernel_rfl)) (by unfold Func.isWrapper; first | (rw [if_pos (by decide +kernel)]; kernel_rfl) | (rw [if_neg (by decide +kernel)]; exact ⟨rfl, rfl⟩))
    (fun os started H enc _ => journalReplayslifted os started H enc)

#print axioms journalReplays_holds
end Go.Proofs.Ytjlmheecefobaaa
