/- VlanScripts: for every number of ports, all steps and every number the law answers true, and all three read behind the call as they read before. No condition. -/
import Derived.Test.YtelinahpneikiaaOp
import Derived.Test.YtelinahpneikiaaAw
import Derived.Test.YtelinahpneikiaaD2
import Derived.Test.YtelinahpneikiaaG5
import Derived.Test.YtelinahpneikiaaG6
namespace Go.Proofs.Ytelinahpneikiaa
open Go.ChangeShapes Go.WideShapes Go.ChangeAt Go.RowKit

set_option maxRecDepth 100000 in
set_option maxHeartbeats 4000000 in
theorem scriptsWalk (k : Int) (ao : Option Addr) (n c : Nat) (ss : List St) (v : Int) (w : World) (_ : I64 k) (hS : Sts w w.heap.size ao n c ss) (hv : I64 v) :
    Calls Try.prog 3 #[.int .i64 k, .slice ao n c, .int .i64 v] w fun e w' => e = .returned (.bool true) ∧ Below w.heap.size w w' := by
  have HS := hide hS
  have HV := hide hv
  clear hS hv
  by_cases hp : 1 ≤ k ∧ k ≤ 64
  · obtain ⟨q, rfl⟩ := Int.eq_ofNat_of_zero_le (show 0 ≤ k by omega)
    have HQ : Hid (1 ≤ q ∧ q ≤ 64) := hide (by omega)
    clear hp
    go_enter Try.func3, Try.ntmps3
    go_wp2_with fail
    refine (awake10 _).mono ?_
    rintro e w1 ⟨rfl, C1⟩
    have HS1 : Hid (Sts w1 w1.heap.size ao n c ss) := hide ((HS.out.below C1).up C1.size)
    have B1 := hide C1
    clear C1 HS
    go_wp2_with fail
    refine (made11 q ao n c ss _ HQ.out.1 HQ.out.2 HS1.out).mono ?_
    rintro e w2 ⟨h, g, lv, T, rfl, M⟩
    have hw1 : Hid (w.heap.size ≤ w2.heap.size) := hide (Nat.le_trans B1.out.size M.B.size)
    have B2 := hide (B1.out.trans (M.B.mono B1.out.size))
    have P2 := hide M.P
    have R2 := hide M.R
    have hL : Hid (T.l.length ≤ 1000) := hide (by have := M.le; omega)
    clear M B1 HS1
    go_wp2_with fail
    refine (members13 h T v _ HV.out P2.out).mono ?_
    rintro e w3 ⟨ao3, c3, rfl, I3, C3⟩
    have P3 := hide (P2.out.on C3)
    have R3 := hide (R2.out.on C3)
    have B3 := hide (B2.out.trans (C3.mono hw1.out))
    have hw3 : Hid (w.heap.size ≤ w3.heap.size) := hide (Nat.le_trans hw1.out C3.size)
    have J3 := hide I3
    clear C3 I3 P2 R2 B2 hw1
    generalize (mbs T.l v T.n).length = N1 at *
    go_wp2_with fail
    refine (members14 g lv T v _ R3.out).mono ?_
    rintro e w4 ⟨ao4, c4, rfl, I4, C4⟩
    have P4 := hide (P3.out.on C4)
    have R4 := hide (R3.out.on C4)
    have B4 := hide (B3.out.trans (C4.mono hw3.out))
    have hw4 : Hid (w.heap.size ≤ w4.heap.size) := hide (Nat.le_trans hw3.out C4.size)
    have J4 := hide (J3.out.on C4)
    have K4 := hide I4
    clear C4 I4 P3 R3 B3 hw3 J3
    go_wp2_with fail
    refine (same12 _ _ _ _ _ _ _ _ _ _ _ J4.out K4.out).mono ?_
    rintro e w5 ⟨rfl, C5⟩
    rw [decide_eq_true rfl]
    have P5 := hide (P4.out.on C5)
    have R5 := hide (R4.out.on C5)
    have B5 := hide (B4.out.trans (C5.mono hw4.out))
    have hw5 : Hid (w.heap.size ≤ w5.heap.size) := hide (Nat.le_trans hw4.out C5.size)
    clear C5 P4 R4 B4 hw4 J4 K4
    go_wp2_with fail
    refine (vlans15 h T _ P5.out hL.out).mono ?_
    rintro e w6 ⟨ao6, c6, rfl, I6, C6⟩
    have R6 := hide (R5.out.on C6)
    have B6 := hide (B5.out.trans (C6.mono hw5.out))
    have hw6 : Hid (w.heap.size ≤ w6.heap.size) := hide (Nat.le_trans hw5.out C6.size)
    have J6 := hide I6
    clear C6 I6 P5 R5 B5 hw5
    go_wp2_with fail
    refine (vlans16 g lv T _ R6.out).mono ?_
    rintro e w7 ⟨ao7, c7, rfl, I7, C7⟩
    have B7 := hide (B6.out.trans (C7.mono hw6.out))
    have hw7 : Hid (w.heap.size ≤ w7.heap.size) := hide (Nat.le_trans hw6.out C7.size)
    have J7 := hide (J6.out.on C7)
    have K7 := hide I7
    clear C7 I7 R6 B6 hw6 J6
    go_wp2_with fail
    refine (same12 _ _ _ _ _ _ _ _ _ _ _ J7.out K7.out).mono ?_
    rintro e w8 ⟨rfl, C8⟩
    rw [decide_eq_true rfl]
    have B8 := hide (B7.out.trans (C8.mono hw7.out))
    clear C8 B7 hw7 J7 K7
    go_wp2
    go_ret
    exact ⟨rfl, B8.out⟩
  · have HP := hide hp
    clear hp
    go_enter Try.func3, Try.ntmps3
    go_wp2_with fail
    refine (awake10 _).mono ?_
    rintro e w1 ⟨rfl, C1⟩
    have B1 := hide C1
    clear C1
    go_wp2_with fail
    refine (made11_no k ao n c _ HP.out).mono ?_
    rintro e w2 ⟨rfl, rfl⟩
    go_wp2
    go_ret
    exact ⟨rfl, B1.out⟩
set_option maxRecDepth 100000 in
set_option maxHeartbeats 2000000 in
theorem vlanScriptslifted (os : Os) (started : os.Started) (H : Type) (enc : TypeId × Value → H) :
    ReturnsInHanded {} Try.checked os 3 .any (Rows.vlanScriptsSpec.pre6 enc Try.prog Try.f3 Rows.vlanScriptsRow.domain false) (Rows.vlanScriptsSpec.post enc Try.prog Try.f3 false true false false) := by
  refine returnsInHanded_of_change (C := Try.checked) own started (by kernel_rfl) Try.func3
    (ChangeSpec.witness6 (enc := enc) (C := Try.checked) false ⟨#[], #[.int .i64 0, .slice none 0 0, .int .i64 0], []⟩ 8 (by kernel_rfl) (by kernel_rfl) (by kernel_rfl) (by kernel_rfl)) ?_
  intro W base args ds gs before hval0 hW _ _
  have hval : ∀ (j : Nat) t v, Try.f3.params[j]? = some t → args[j]? = some v → Value.okWide Try.prog W .any base t v := hval0
  have hW' := hW
  obtain ⟨p, q, hA0, hV, rfl, _, _⟩ := hW
  have hA : DataW.TrodAll enc Try.prog W 0 (fun _ => true) true Try.f3.params.toList args.toList ds p := hA0
  rw [Try.params3] at hA hval
  obtain ⟨v0, vs0, d0, ds0, p0, q0, hargs, rfl, rfl, h0, r0⟩ := trodAll_cons hA
  obtain ⟨v1, vs1, d1, ds1, p1, q1, rfl, rfl, rfl, h1, r1⟩ := trodAll_cons r0
  obtain ⟨v2, vs2, d2, ds2, p2, q2, rfl, rfl, rfl, h2, r2⟩ := trodAll_cons r1
  obtain ⟨rfl, rfl, rfl⟩ := trodAll_nil r2
  obtain rfl : args = #[v0, v1, v2] := by cases args; simp_all
  obtain ⟨rfl, rfl⟩ := trodVars_none hV
  have h0k := h0
  obtain ⟨x0, rfl, hx0⟩ := open_num (hval 0 3 v0 rfl rfl) h0
  have h1k := h1
  obtain ⟨ao1, n1, c1, ss1, rfl, hs1⟩ := open_steps (hval 1 22 v1 rfl rfl) h1
  have h2k := h2
  obtain ⟨x2, rfl, hx2⟩ := open_num (hval 2 3 v2 rfl rfl) h2
  clear hA0 hval0
  simp only [List.append_nil] at hW'
  have hlt : ∀ x ∈ p0 ++ p1 ++ p2, x.block < W.heap.size := fun x hx => by simpa using hW'.lt x (by simpa using hx)
  refine (scriptsWalk x0 ao1 n1 c1 ss1 x2 W hx0 hs1 hx2).mono fun e W' ⟨he, hbl⟩ => ?_
  subst he
  exact ⟨_, rfl, _, _, _, [], _, [], hW', (trodAll_cons_mk (shut_bool Try.underlying4 _) trodAll_mk0), (trodAll_cons_mk (Below.trod Try.laidOut (by kernel_rfl) (of_decide_eq_true (by kernel_rfl)) h0k hbl (fun x hx => hlt x (by simp [hx]))) (trodAll_cons_mk (Below.trod Try.laidOut (by kernel_rfl) (of_decide_eq_true (by kernel_rfl)) h1k hbl (fun x hx => hlt x (by simp [hx]))) (trodAll_cons_mk (Below.trod Try.laidOut (by kernel_rfl) (of_decide_eq_true (by kernel_rfl)) h2k hbl (fun x hx => hlt x (by simp [hx]))) trodAll_mk0))), rfl, hbl.frame _, fun h => by cases h⟩

theorem vlanScripts_holds : Rows.VlanScriptsSaid :=
  OpenClaim.holds_of_wide 3 Try.f3 rfl rfl rfl rfl rfl rfl rfl ⟨rfl, rfl, rfl, rfl, rfl⟩ rfl rfl rfl rfl rfl (by kernel_rfl) Try.func3 (by kernel_rfl)
    (of_decide_eq_true (by kernel_rfl)) (by unfold Func.isWrapper; first | (rw [if_pos (by decide +kernel)]; kernel_rfl) | (rw [if_neg (by decide +kernel)]; exact ⟨rfl, rfl⟩))
    (fun os started H enc _ => vlanScriptslifted os started H enc)

#print axioms vlanScripts_holds
end Go.Proofs.Ytelinahpneikiaa
