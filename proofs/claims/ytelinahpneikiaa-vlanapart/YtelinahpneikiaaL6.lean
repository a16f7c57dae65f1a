/- VlanApart: for all steps, every VLAN and every step the law answers true, and all three read behind the call as they read before. No condition. -/
import Derived.Test.YtelinahpneikiaaOp
import Derived.Test.YtelinahpneikiaaAw
import Derived.Test.YtelinahpneikiaaD2
namespace Go.Proofs.Ytelinahpneikiaa
open Go.ChangeShapes Go.WideShapes Go.ChangeAt Go.RowKit

theorem mbs_nx {T : Tb} (hw : Wf T) {s : St} {v : Int} (h : s.v ≠ v) : mbs (nx T s).l v (nx T s).n = mbs T.l v T.n := by
  rw [n_nx]
  refine mbs_congr _ (fun p _ _ => ?_)
  unfold nx
  split
  · unfold tAdd
    split
    · rw [hs_ad]
      have : mt ⟨s.v, s.p, s.t⟩ v p = false := by simp [mt, h]
      rw [this, Bool.false_or]
    · rfl
  · split
    · unfold tRm
      split
      · rw [hs_rm _ _ _ hw.ap]
        have : mt ⟨s.v, s.p, false⟩ v p = false := by simp [mt, h]
        rw [this]
        simp
      · rfl
    · unfold tNat
      split <;> rfl
section
attribute [local go_sem] SC0 SC1 SC2 SC3 SC_size
set_option maxRecDepth 100000 in
set_option maxHeartbeats 4000000 in
theorem apartWalk (ao : Option Addr) (n c : Nat) (ss : List St) (v : Int) (s : St) (w : World) (hS : Sts w w.heap.size ao n c ss) (hv : I64 v) :
    Calls Try.prog 6 #[.slice ao n c, .int .i64 v, .agg (SC s)] w fun e w' => e = .returned (.bool true) ∧ Below w.heap.size w w' := by
  have B0 := below_alloc w (.cells (SC s) 48)
  have S0 : Box (w.alloc (.cells (SC s) 48)) w.heap.size (scs s) := Box.new w (scs s) 48
  have HS := hide (hS.below B0)
  have HV := hide hv
  clear hS hv
  go_enter Try.func6, Try.ntmps6
  go_wp2_with fail
  refine (awake10 _).mono ?_
  rintro e w1 ⟨rfl, C1⟩
  have B1 := belowOn B0 C1
  have S1 := S0.on C1
  have hz1 := C1.size
  have HS1 : Hid (Sts w1 w1.heap.size ao n c ss) := hide ((HS.out.below (C1.mono (by simp))).up (by have := B1.size; omega))
  have lS := S1.lt
  clear B0 C1 S0 HS
  go_wp2_with fail
  refine (made11 5 ao n c ss _ (by omega) (by omega) HS1.out).mono ?_
  rintro e w2 ⟨h, g, lv, T, rfl, M⟩
  have S2 := S1.on M.B
  have hw1 : Hid (w.heap.size ≤ h) := hide (Nat.le_trans B1.size M.hw)
  have lh := M.hw
  have B2 := hide (B1.trans (M.B.mono B1.size))
  have P2 := hide M.P
  have hH3 := M.P.lt
  have lS2 := S2.lt
  clear M B1 S1 HS1
  have c0 := S2.cell 0 _ rfl
  have c1 := S2.cell 1 _ rfl
  have c2 := S2.cell 2 _ rfl
  have c3 := S2.cell 3 _ rfl
  rcases Bool.eq_false_or_eq_true (s.v == v) with hsv | hsv
  · go_wp2
    go_ret
    exact ⟨rfl, B2.out⟩
  · have hne : s.v ≠ v := by simpa using hsv
    have HEQ := hide (mbs_nx P2.out.wf hne)
    clear hne
    go_wp2_with fail
    refine (members13 h T v _ HV.out P2.out).mono ?_
    rintro e w3 ⟨ao3, c3', rfl, I3, C3⟩
    have P4 := hide (P2.out.on C3)
    have S3 := S2.on C3
    have d0 := S3.cell 0 _ rfl
    have d1 := S3.cell 1 _ rfl
    have d2 := S3.cell 2 _ rfl
    have d3 := S3.cell 3 _ rfl
    have B4 := hide (B2.out.trans (C3.mono (by have := hw1.out; omega)))
    have I4 := hide I3
    have hI : Hid (h + 3 ≤ w2.heap.size) := hide hH3
    have lC3 := C3.size
    have hHH : Hid (h ≤ w3.heap.size) := hide (by omega)
    clear I3 C3 P2 B2 S2 S3 c0 c1 c2 c3 hH3
    by_cases hd0 : s.d = 0
    · have EN : Hid (nx T s = tAdd T s.v s.p s.t) := hide (by rw [nx, if_pos hd0])
      have hd : (s.d == 0) = true := by simp [hd0]
      clear hd0
      go_wp2_with fail
      refine (add23 h T s.v s.p s.t _ P4.out).mono ?_
      rintro e w4 ⟨rfl, P5, M5⟩
      have P6 : Hid (PT w4 h (nx T s)) := hide (by rw [EN.out]; exact P5)
      have I6 := hide (I4.out.mid M5 hI.out)
      have BX := hide (B4.out.trans ((M5.below hHH.out).mono hw1.out))
      have lB := M5.size
      clear P5 M5 P4 I4 B4
      go_wp2_with fail
      refine (members13 h (nx T s) v _ HV.out P6.out).mono ?_
      rintro e w5 ⟨ao', c', rfl, J1, C1⟩
      have I7 := hide (I6.out.on C1)
      have BY := hide (BX.out.trans (C1.mono (by have := hw1.out; have := hHH.out; omega)))
      have JJ := hide J1
      have lC := C1.size
      clear J1 C1 I6 BX P6
      go_wp2_with fail
      refine (same12 _ _ _ _ _ _ _ _ _ _ _ JJ.out I7.out).mono ?_
      rintro e w6 ⟨rfl, C2⟩
      have BZ := hide (BY.out.trans (C2.mono (by have := hw1.out; have := hHH.out; omega)))
      clear C2 BY JJ I7
      go_wp2
      go_ret
      exact ⟨ret_bool (by simpa using HEQ.out), BZ.out⟩
    · by_cases hd1 : s.d = 1
      · have EN : Hid (nx T s = tRm T s.v s.p) := hide (by rw [nx, if_neg hd0, if_pos hd1])
        have hd : (s.d == 0) = false := by simp [hd0]
        have hd' : (s.d == 1) = true := by simp [hd1]
        clear hd0 hd1
        go_wp2_with fail
        refine (remove24 h T s.v s.p _ P4.out).mono ?_
        rintro e w4 ⟨rfl, P5, M5⟩
        have P6 : Hid (PT w4 h (nx T s)) := hide (by rw [EN.out]; exact P5)
        have I6 := hide (I4.out.mid M5 hI.out)
        have BX := hide (B4.out.trans ((M5.below hHH.out).mono hw1.out))
        have lB := M5.size
        clear P5 M5 P4 I4 B4
        go_wp2_with fail
        refine (members13 h (nx T s) v _ HV.out P6.out).mono ?_
        rintro e w5 ⟨ao', c', rfl, J1, C1⟩
        have I7 := hide (I6.out.on C1)
        have BY := hide (BX.out.trans (C1.mono (by have := hw1.out; have := hHH.out; omega)))
        have JJ := hide J1
        have lC := C1.size
        clear J1 C1 I6 BX P6
        go_wp2_with fail
        refine (same12 _ _ _ _ _ _ _ _ _ _ _ JJ.out I7.out).mono ?_
        rintro e w6 ⟨rfl, C2⟩
        have BZ := hide (BY.out.trans (C2.mono (by have := hw1.out; have := hHH.out; omega)))
        clear C2 BY JJ I7
        go_wp2
        go_ret
        exact ⟨ret_bool (by simpa using HEQ.out), BZ.out⟩
      · have EN : Hid (nx T s = tNat T s.p s.v) := hide (by rw [nx, if_neg hd0, if_neg hd1])
        have hd : (s.d == 0) = false := by simp [hd0]
        have hd' : (s.d == 1) = false := by simp [hd1]
        clear hd0 hd1
        go_wp2_with fail
        refine (native22 h T s.p s.v _ P4.out).mono ?_
        rintro e w4 ⟨rfl, P5, M5⟩
        have P6 : Hid (PT w4 h (nx T s)) := hide (by rw [EN.out]; exact P5)
        have I6 := hide (I4.out.mid M5 hI.out)
        have BX := hide (B4.out.trans ((M5.below hHH.out).mono hw1.out))
        have lB := M5.size
        clear P5 M5 P4 I4 B4
        go_wp2_with fail
        refine (members13 h (nx T s) v _ HV.out P6.out).mono ?_
        rintro e w5 ⟨ao', c', rfl, J1, C1⟩
        have I7 := hide (I6.out.on C1)
        have BY := hide (BX.out.trans (C1.mono (by have := hw1.out; have := hHH.out; omega)))
        have JJ := hide J1
        have lC := C1.size
        clear J1 C1 I6 BX P6
        go_wp2_with fail
        refine (same12 _ _ _ _ _ _ _ _ _ _ _ JJ.out I7.out).mono ?_
        rintro e w6 ⟨rfl, C2⟩
        have BZ := hide (BY.out.trans (C2.mono (by have := hw1.out; have := hHH.out; omega)))
        clear C2 BY JJ I7
        go_wp2
        go_ret
        exact ⟨ret_bool (by simpa using HEQ.out), BZ.out⟩
end
set_option maxRecDepth 100000 in
set_option maxHeartbeats 2000000 in
theorem vlanApartlifted (os : Os) (started : os.Started) (H : Type) (enc : TypeId × Value → H) :
    ReturnsInHanded {} Try.checked os 6 .any (Rows.vlanApartSpec.pre6 enc Try.prog Try.f6 Rows.vlanApartRow.domain false) (Rows.vlanApartSpec.post enc Try.prog Try.f6 false true false false) := by
  refine returnsInHanded_of_change (C := Try.checked) own started (by kernel_rfl) Try.func6
    (ChangeSpec.witness6 (enc := enc) (C := Try.checked) false ⟨#[], #[.slice none 0 0, .int .i64 0, .agg #[.int .i64 0, .int .i64 0, .int .i64 0, .bool false]], []⟩ 8 (by kernel_rfl) (by kernel_rfl) (by kernel_rfl) (by kernel_rfl)) ?_
  intro W base args ds gs before hval0 hW _ _
  have hval : ∀ (j : Nat) t v, Try.f6.params[j]? = some t → args[j]? = some v → Value.okWide Try.prog W .any base t v := hval0
  have hW' := hW
  obtain ⟨p, q, hA0, hV, rfl, _, _⟩ := hW
  have hA : DataW.TrodAll enc Try.prog W 0 (fun _ => true) true Try.f6.params.toList args.toList ds p := hA0
  rw [Try.params6] at hA hval
  obtain ⟨v0, vs0, d0, ds0, p0, q0, hargs, rfl, rfl, h0, r0⟩ := trodAll_cons hA
  obtain ⟨v1, vs1, d1, ds1, p1, q1, rfl, rfl, rfl, h1, r1⟩ := trodAll_cons r0
  obtain ⟨v2, vs2, d2, ds2, p2, q2, rfl, rfl, rfl, h2, r2⟩ := trodAll_cons r1
  obtain ⟨rfl, rfl, rfl⟩ := trodAll_nil r2
  obtain rfl : args = #[v0, v1, v2] := by cases args; simp_all
  obtain ⟨rfl, rfl⟩ := trodVars_none hV
  have h0k := h0
  obtain ⟨ao0, n0, c0, ss0, rfl, hs0⟩ := open_steps (hval 0 22 v0 rfl rfl) h0
  have h1k := h1
  obtain ⟨x1, rfl, hx1⟩ := open_num (hval 1 3 v1 rfl rfl) h1
  have h2k := h2
  obtain ⟨s2, rfl⟩ := open_step (hval 2 48 v2 rfl rfl) h2
  clear hA0 hval0
  simp only [List.append_nil] at hW'
  have hlt : ∀ x ∈ p0 ++ p1 ++ p2, x.block < W.heap.size := fun x hx => by simpa using hW'.lt x (by simpa using hx)
  refine (apartWalk ao0 n0 c0 ss0 x1 s2 W hs0 hx1).mono fun e W' ⟨he, hbl⟩ => ?_
  subst he
  exact ⟨_, rfl, _, _, _, [], _, [], hW', (trodAll_cons_mk (shut_bool Try.underlying4 _) trodAll_mk0), (trodAll_cons_mk (Below.trod Try.laidOut (by kernel_rfl) (of_decide_eq_true (by kernel_rfl)) h0k hbl (fun x hx => hlt x (by simp [hx]))) (trodAll_cons_mk (Below.trod Try.laidOut (by kernel_rfl) (of_decide_eq_true (by kernel_rfl)) h1k hbl (fun x hx => hlt x (by simp [hx]))) (trodAll_cons_mk (Below.trod Try.laidOut (by kernel_rfl) (of_decide_eq_true (by kernel_rfl)) h2k hbl (fun x hx => hlt x (by simp [hx]))) trodAll_mk0))), rfl, hbl.frame _, fun h => by cases h⟩

theorem vlanApart_holds : Rows.VlanApartSaid :=
  OpenClaim.holds_of_wide 6 Try.f6 rfl rfl rfl rfl rfl rfl rfl ⟨rfl, rfl, rfl, rfl, rfl⟩ rfl rfl rfl rfl rfl (by kernel_rfl) Try.func6 (by kernel_rfl)
    (of_decide_eq_true (by kernel_rfl)) (by unfold Func.isWrapper; first | (rw [if_pos (by decide +kernel)]; kernel_rfl) | (rw [if_neg (by decide +kernel)]; exact ⟨rfl, rfl⟩))
    (fun os started H enc _ => vlanApartlifted os started H enc)

#print axioms vlanApart_holds
end Go.Proofs.Ytelinahpneikiaa
