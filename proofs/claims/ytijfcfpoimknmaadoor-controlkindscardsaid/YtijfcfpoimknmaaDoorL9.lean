/- ControlKinds: for every kind and every VLAN the law answers true. No condition beyond what the card's tie says of the table of kinds. -/
import Derived.Test.YtijfcfpoimknmaaDoorOp
import Derived.Test.YtijfcfpoimknmaaDoorAw
import Derived.Test.YtijfcfpoimknmaaDoorCards
import Derived.Test.YtijfcfpoimknmaaDoorTie
import Derived.SevenTiedAt
import Derived.Test.YtijfcfpoimknmaaDoorB3
import Derived.Test.YtijfcfpoimknmaaDoorR2
import Derived.Deep.Cut
namespace Go.Proofs.YtijfcfpoimknmaaDoor
open Go.ChangeShapes Go.WideShapes Go.ChangeAt Go.RowKit

def nk (k v : Int) : Nt := ⟨k, v, 0, 0, 0, 0, 0, 0, 0, 0, []⟩
theorem NK1 (k : Int) : (NC zeroN (.slice none 0 0)).setIfInBounds 0 (.int .i64 k) = NC (nk k 0) (.slice none 0 0) := rfl
theorem NK2 (k v : Int) : ((NC zeroN (.slice none 0 0)).setIfInBounds 0 (.int .i64 k)).setIfInBounds 1 (.int .i64 v) = NC (nk k v) (.slice none 0 0) := rfl
theorem NK3 (k v : Int) : (NC (nk k 0) (.slice none 0 0)).setIfInBounds 1 (.int .i64 v) = NC (nk k v) (.slice none 0 0) := rfl
def hasK (k : Int) : Bool := k == 1 || k == 2 || k == 8
def noneK (k : Int) : Bool := k == 0 || (decide (3 ≤ k) && decide (k ≤ 7))
theorem rt_nk (k v : Int) : rt (nk k v) = (hasK k && wi v 1 4094 || noneK k && v == 0) := by
  rw [← rr_rt (nk k v) 0 rfl]
  have e : rr (nk k v) 0 = (wi k 0 8 && (!(hv k && !wi v 1 4094 || !hv k && !(v == 0)) && (!(!hm k && !true) && (!(hp k && !wi 0 0 1000 || !hp k && false) && (wi 0 0 (hi k) && (hb k && decide ((0 : Int) ≤ 1600) || true)))))) := rfl
  rw [e]
  clear e
  generalize wi v 1 4094 = A
  generalize (v == 0) = Z
  cases h : wi k 0 8
  · have hn : ¬ (0 ≤ k ∧ k ≤ 8) := fun e => by rw [(wi_iff _ _ _).2 e] at h; cases h
    have h1 : hasK k = false := by simp [hasK]; omega
    have h2 : noneK k = false := by simp [noneK]; omega
    rw [h1, h2]
    rfl
  · have hb := (wi_iff _ _ _).1 h
    clear h
    rcases (show k = 0 ∨ k = 1 ∨ k = 2 ∨ k = 3 ∨ k = 4 ∨ k = 5 ∨ k = 6 ∨ k = 7 ∨ k = 8 by omega) with rfl | rfl | rfl | rfl | rfl | rfl | rfl | rfl | rfl <;> clear hb <;> revert A Z <;> decide
section
attribute [local go_sem] ZN NK1 NK2 NK3
set_option maxRecDepth 100000 in
set_option maxHeartbeats 4000000 in
theorem kindsWalk (k v : Int) (w : World) (hT : KT w) :
    Calls Tryd.prog 9 #[.int .i64 k, .int .i64 v] w fun e w' => e = .returned (.bool true) ∧ Below w.heap.size w w' := by
  have E0 : rt (nk k 0) = noneK k := by rw [rt_nk]; simp [wi]
  have E1 := rt_nk k v
  have C0 := fun W h => right13 (nk k 0) none 0 0 rfl W h
  have C1 := fun W h => right13 (nk k v) none 0 0 rfl W h
  rw [E0] at C0
  rw [E1] at C1
  have H0 : Hid (noneK k = (k == 0 || (decide (3 ≤ k) && decide (k ≤ 7)))) := hide rfl
  have H1 : Hid (hasK k = (k == 1 || k == 2 || k == 8)) := hide rfl
  replace C0 := hide C0
  replace C1 := hide C1
  clear E0 E1
  generalize noneK k = N at *
  generalize hasK k = X at *
  go_enter Tryd.func9, Tryd.ntmps9
  go_wp2_with fail
  refine (awake10 _ hT).mono ?_
  rintro e w1 ⟨rfl, hb1⟩
  have K1 := hT.on hb1
  go_wp2_with fail
  refine (C0.out _ K1).mono ?_
  rintro e w2 ⟨rfl, hb2⟩
  replace K1 := K1.on hb2
  replace hb1 := belowOn hb1 hb2
  clear hb2 C0
  go_wp2_with fail
  refine (C1.out _ K1).mono ?_
  rintro e w3 ⟨rfl, hb2⟩
  have BW := hide (belowOn hb1 hb2)
  clear hb2 C1 hb1 K1 hT
  go_upto_region 4 with fail
  go_cut [8] from 10 (fun s w' => s = .bool X ∧ w' = w3)
  case first =>
    rcases Bool.eq_false_or_eq_true (k == 1) with h1 | h1
    · replace H1 : Hid (X = true) := hide (by rw [H1.out, h1]; rfl)
      go_wp2
      go_meet
      case rel => exact ⟨by rw [H1.out], rfl⟩
    · rcases Bool.eq_false_or_eq_true (k == 2) with h2 | h2
      · replace H1 : Hid (X = true) := hide (by rw [H1.out, h1, h2]; rfl)
        go_wp2
        go_meet
        case rel => exact ⟨by rw [H1.out], rfl⟩
      · replace H1 : Hid (X = (k == 8)) := hide (by rw [H1.out, h1, h2]; rfl)
        go_wp2
        go_meet
        case rel => exact ⟨by rw [H1.out], rfl⟩
  case rest =>
  obtain ⟨rfl, rfl⟩ := hcut
  clear H1
  go_upto_region 5 with fail
  go_cut [9] from 10 (fun s w' => s = .bool N ∧ w' = wc)
  case first =>
    rcases Bool.eq_false_or_eq_true (k == 0) with h1 | h1
    · replace H0 : Hid (N = true) := hide (by rw [H0.out, h1]; rfl)
      go_wp2
      go_meet
      case rel => exact ⟨by rw [H0.out], rfl⟩
    · rcases Bool.eq_false_or_eq_true (decide (3 ≤ k)) with h2 | h2
      · replace H0 : Hid (N = decide (k ≤ 7)) := hide (by rw [H0.out, h1, h2]; rfl)
        go_wp2
        go_meet
        case rel => exact ⟨by rw [H0.out], rfl⟩
      · replace H0 : Hid (N = false) := hide (by rw [H0.out, h1, h2]; rfl)
        go_wp2
        go_meet
        case rel => exact ⟨by rw [H0.out], rfl⟩
  case rest =>
  obtain ⟨rfl, rfl⟩ := hcut
  clear H0
  have e1 : wi v 1 4094 = (decide (1 ≤ v) && decide (v ≤ 4094)) := rfl
  rw [e1]
  clear e1
  cases X
  · cases N
    · go_wp2
      go_ret
      exact ⟨rfl, BW.out⟩
    · rcases Bool.eq_false_or_eq_true (v == 0) with h3 | h3
      all_goals
        rw [h3]
        go_wp2
        go_ret
        exact ⟨rfl, BW.out⟩
  · rcases Bool.eq_false_or_eq_true (decide (1 ≤ v)) with h1 | h1
    · rcases Bool.eq_false_or_eq_true (decide (v ≤ 4094)) with h2 | h2
      · rw [h1, h2]
        go_wp2
        go_ret
        exact ⟨rfl, BW.out⟩
      · rw [h1, h2]
        cases N
        · go_wp2
          go_ret
          exact ⟨rfl, BW.out⟩
        · rcases Bool.eq_false_or_eq_true (v == 0) with h3 | h3
          all_goals
            rw [h3]
            go_wp2
            go_ret
            exact ⟨rfl, BW.out⟩
    · rw [h1]
      cases N
      · go_wp2
        go_ret
        exact ⟨rfl, BW.out⟩
      · rcases Bool.eq_false_or_eq_true (v == 0) with h3 | h3
        all_goals
          rw [h3]
          go_wp2
          go_ret
          exact ⟨rfl, BW.out⟩
end
set_option maxRecDepth 100000 in
set_option maxHeartbeats 2000000 in
theorem controlKindslifted (os : Os) (started : os.Started) (H : Type) (enc : TypeId × Value → H) :
    ReturnsInHanded {} Tryd.checked os 9 .any (fun w args => (Rows.controlKindsSpec.pre enc Tryd.prog Tryd.f9 [] false w args ∧ laidMetH Tryd.prog laidK w) ∧ sizedMet enc Tryd.prog Tryd.f9 (OpenSpec.ofChange Rows.controlKindsSpec) false w args)
      (Rows.controlKindsSpec.post enc Tryd.prog Tryd.f9 false true false false) := by
  refine returnsInHanded_of_change_and (C := Tryd.checked) (X := fun w _ => laidMetH Tryd.prog laidK w) (fun _ _ _ hh h => h.of_heap hh) own started (by kernel_rfl) Tryd.func9
    (ChangeSpec.witness_shaped (enc := enc) (C := Tryd.checked) (os := os) (X := fun w _ => laidMetH Tryd.prog laidK w) false (World.doorLaid Tryd.prog 14 os) #[.int .i64 0, .int .i64 0] 8 rfl (World.shaped_of_RefB (by kernel_rfl) (by kernel_rfl)) (by kernel_rfl) (by kernel_rfl) (by kernel_rfl) (door_met os _)) ?_
  intro W base args ds gs before hval0 hW _ _ hL _
  have hval : ∀ (j : Nat) t v, Tryd.f9.params[j]? = some t → args[j]? = some v → Value.okWide Tryd.prog W .any base t v := hval0
  have hW' := hW
  obtain ⟨p, q, hA0, hV, rfl, _, _⟩ := hW
  have hA : DataW.TrodAll enc Tryd.prog W 0 (fun _ => true) true Tryd.f9.params.toList args.toList ds p := hA0
  rw [Tryd.params9] at hA hval
  have hT := kt_of_laid hL
  obtain ⟨v0, vs0, d0, ds0, p0, q0, hargs, rfl, rfl, h0, r0⟩ := trodAll_cons hA
  obtain ⟨v1, vs1, d1, ds1, p1, q1, rfl, rfl, rfl, h1, r1⟩ := trodAll_cons r0
  obtain ⟨rfl, rfl, rfl⟩ := trodAll_nil r1
  obtain rfl : args = #[v0, v1] := by cases args; simp_all
  obtain ⟨rfl, rfl⟩ := trodVars_none hV
  have h0k := h0
  obtain ⟨x0, rfl, _, _, _⟩ := open_int Tryd.underlying3 (hval 0 3 v0 rfl rfl) h0
  have h1k := h1
  obtain ⟨x1, rfl, _, _, _⟩ := open_int Tryd.underlying3 (hval 1 3 v1 rfl rfl) h1
  clear hA0 hval0
  simp only [List.append_nil] at hW'
  have hlt : ∀ x ∈ p0 ++ p1, x.block < W.heap.size := fun x hx => by simpa using hW'.lt x (by simpa using hx)
  refine (kindsWalk x0 x1 W hT ).mono fun e W' ⟨he, hbl⟩ => ?_
  subst he
  exact ⟨_, rfl, _, _, _, [], _, [], hW', (trodAll_cons_mk (shut_bool Tryd.underlying4 _) trodAll_mk0), (trodAll_cons_mk (Below.trod Tryd.laidOut (by kernel_rfl) (of_decide_eq_true (by kernel_rfl)) h0k hbl (fun x hx => hlt x (by simp [hx]))) (trodAll_cons_mk (Below.trod Tryd.laidOut (by kernel_rfl) (of_decide_eq_true (by kernel_rfl)) h1k hbl (fun x hx => hlt x (by simp [hx]))) trodAll_mk0)), rfl, hbl.frame _, fun h => by cases h⟩

theorem controlKinds_holds : Rows.ControlKindsSaid :=
  OpenClaim.holds_of_wide 9 Tryd.f9 rfl rfl rfl rfl rfl rfl rfl ⟨rfl, rfl, rfl, rfl, rfl⟩ rfl rfl rfl rfl rfl (by kernel_rfl) Tryd.func9 (by kernel_rfl)
    (of_decide_eq_true (by kernel_rfl)) (by unfold Func.isWrapper; first | (rw [if_pos (by decide +kernel)]; kernel_rfl) | (rw [if_neg (by decide +kernel)]; exact ⟨rfl, rfl⟩))
    (fun os started H enc _ => controlKindslifted os started H enc)

theorem controlKinds_card_holds : Rows.ControlKindsCardSaid :=
  Claim7.holds_tied_plain_at .later [] [.data] true (true, "40610068b199d95fe10dea4bfc5d373c8e4676b673a11564a6585a93802516b6") false
    controlKinds_holds (fun _ h => by cases h) (by kernel_rfl) (fun _ h => by cases h) controlKinds_row_tie rfl ⟨rfl, rfl⟩ (by kernel_rfl) rfl
    (fun f fn hf hfn => by
      obtain rfl : f = 9 := Option.some.inj ((show Tryd.prog.funcNamed "gemel/gemellaw06.ControlKinds" = some 9 by kernel_rfl).symm.trans hf) |>.symm
      obtain rfl : fn = Tryd.f9 := (Option.some.inj (Tryd.func9.symm.trans hfn)).symm
      exact ⟨by kernel_rfl, fun j t ht => by
        rw [Tryd.params9] at ht
        have hm : t ∈ [3, 3] := by simpa using Array.mem_of_getElem? ht
        have hall : ([3, 3].all fun u => !Tryd.prog.wantsStandIn u) = true := by kernel_rfl
        exact (show Tryd.prog.wantsStandIn t = false by simpa using List.all_eq_true.1 hall t hm)⟩)
    (by kernel_rfl)

#print axioms controlKinds_card_holds
end Go.Proofs.YtijfcfpoimknmaaDoor
