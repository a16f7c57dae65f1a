/- FdbForgets: for all steps and every step the law answers true, and both read behind the call as they read before. No condition. -/
import Derived.Test.YtbpkdkniiggcpaaOp
import Derived.Test.YtbpkdkniiggcpaaF2
import Derived.Test.YtbpkdkniiggcpaaF3
import Derived.Test.YtbpkdkniiggcpaaF5
import Derived.Test.YtbpkdkniiggcpaaL6a
import Derived.Test.YtbpkdkniiggcpaaL6b
import Derived.Test.YtbpkdkniiggcpaaL6c
namespace Go.Proofs.Ytbpkdkniiggcpaa
open Go.ChangeShapes Go.WideShapes Go.ChangeAt Go.RowKit

section
attribute [local go_sem] SC0 SC1 SC8 SC9 SC10 SC_size ZE
set_option maxRecDepth 100000 in
set_option maxHeartbeats 4000000 in
theorem forgetsLo (ao : Option Addr) (n c : Nat) (ss : List St) (s : St) (w : World) (hS : Sts w w.heap.size ao n c ss) (hm : Mok s.m) (hd : s.d < 3) :
    Calls Try.prog 6 #[.slice ao n c, .agg (SC s)] w fun e w' => e = .returned (.bool true) ∧ Below w.heap.size w w' := by
  have HD := hide hd
  clear hd
  have B0 := below_alloc w (.cells (SC s) 26)
  have S0 := box_s w s
  have HM := hide hm
  have HS := hide (hS.below B0)
  clear hS hm
  go_enter Try.func6, Try.ntmps6
  go_wp2_with fail
  refine (awake9 _).mono ?_
  rintro e w1 ⟨rfl, C1⟩
  have B1 := belowOn B0 C1
  have S1 := S0.on C1
  have lS := S1.lt
  have HS1 : Hid (Sts w1 w1.heap.size ao n c ss) := hide ((HS.out.below (C1.mono (by simp))).up (by have := B1.size; omega))
  clear B0 C1 S0 HS
  go_wp2_with fail
  refine (made10 8 ao n c ss _ (by omega) (by omega) HS1.out).mono ?_
  rintro e w2 ⟨h, g, ps, lv, T, rfl, M⟩
  have hw1 : Hid (w.heap.size ≤ h) := hide (Nat.le_trans B1.size M.hw)
  have hb1 : Hid (w.heap.size < h) := hide (Nat.lt_of_lt_of_le lS M.hw)
  have S2 := S1.on M.B
  have B2 := hide (B1.trans (M.B.mono B1.size))
  have P2 := hide M.P
  have R2 := hide M.R
  have TN := hide M.tn
  have hG2 := hide M.hg
  clear M B1 HS1 S1 lS
  have c0 := S2.cell 0 _ rfl
  have h3 : s.d < 3 := HD.out
  go_wp2
  go_ret
  exact ⟨rfl, B2.out⟩
set_option maxRecDepth 100000 in
set_option maxHeartbeats 4000000 in
theorem forgetsHi (ao : Option Addr) (n c : Nat) (ss : List St) (s : St) (w : World) (hS : Sts w w.heap.size ao n c ss) (hm : Mok s.m) (hd : 5 < s.d) :
    Calls Try.prog 6 #[.slice ao n c, .agg (SC s)] w fun e w' => e = .returned (.bool true) ∧ Below w.heap.size w w' := by
  have HD := hide hd
  clear hd
  have B0 := below_alloc w (.cells (SC s) 26)
  have S0 := box_s w s
  have HM := hide hm
  have HS := hide (hS.below B0)
  clear hS hm
  go_enter Try.func6, Try.ntmps6
  go_wp2_with fail
  refine (awake9 _).mono ?_
  rintro e w1 ⟨rfl, C1⟩
  have B1 := belowOn B0 C1
  have S1 := S0.on C1
  have lS := S1.lt
  have HS1 : Hid (Sts w1 w1.heap.size ao n c ss) := hide ((HS.out.below (C1.mono (by simp))).up (by have := B1.size; omega))
  clear B0 C1 S0 HS
  go_wp2_with fail
  refine (made10 8 ao n c ss _ (by omega) (by omega) HS1.out).mono ?_
  rintro e w2 ⟨h, g, ps, lv, T, rfl, M⟩
  have hw1 : Hid (w.heap.size ≤ h) := hide (Nat.le_trans B1.size M.hw)
  have hb1 : Hid (w.heap.size < h) := hide (Nat.lt_of_lt_of_le lS M.hw)
  have S2 := S1.on M.B
  have B2 := hide (B1.trans (M.B.mono B1.size))
  have P2 := hide M.P
  have R2 := hide M.R
  have TN := hide M.tn
  have hG2 := hide M.hg
  clear M B1 HS1 S1 lS
  have c0 := S2.cell 0 _ rfl
  have h3 : ¬ s.d < 3 := by have := HD.out; omega
  have h4 : 5 < s.d := HD.out
  go_wp2
  go_ret
  exact ⟨rfl, B2.out⟩
end
theorem forgetsWalk (ao : Option Addr) (n c : Nat) (ss : List St) (s : St) (w : World) (hS : Sts w w.heap.size ao n c ss) (hm : Mok s.m) :
    Calls Try.prog 6 #[.slice ao n c, .agg (SC s)] w fun e w' => e = .returned (.bool true) ∧ Below w.heap.size w w' := by
  by_cases h1 : s.d < 3
  · exact forgetsLo ao n c ss s w hS hm h1
  · by_cases h2 : 5 < s.d
    · exact forgetsHi ao n c ss s w hS hm h2
    · rcases (by omega : s.d = 3 ∨ s.d = 4 ∨ s.d = 5) with h | h | h
      · exact forgetsWalk3 ao n c ss s w hS hm h
      · exact forgetsWalk4 ao n c ss s w hS hm h
      · exact forgetsWalk5 ao n c ss s w hS hm h
set_option maxRecDepth 100000 in
set_option maxHeartbeats 2000000 in
theorem fdbForgetslifted (os : Os) (started : os.Started) (H : Type) (enc : TypeId × Value → H) :
    ReturnsInHanded {} Try.checked os 6 .any (Rows.fdbForgetsSpec.pre6 enc Try.prog Try.f6 Rows.fdbForgetsRow.domain false) (Rows.fdbForgetsSpec.post enc Try.prog Try.f6 false true false false) := by
  refine returnsInHanded_of_change (C := Try.checked) own started (by kernel_rfl) Try.func6
    (ChangeSpec.witness6 (enc := enc) (C := Try.checked) false ⟨#[], #[.slice none 0 0, .agg #[.int .i64 0, .int .i64 0, .int .u8 0, .int .u8 0, .int .u8 0, .int .u8 0, .int .u8 0, .int .u8 0, .int .i64 0, .int .i64 0, .int .i64 0]], []⟩ 8 (by kernel_rfl) (by kernel_rfl) (by kernel_rfl) (by kernel_rfl)) ?_
  intro W base args ds gs before hval0 hW _ _
  have hval : ∀ (j : Nat) t v, Try.f6.params[j]? = some t → args[j]? = some v → Value.okWide Try.prog W .any base t v := hval0
  have hW' := hW
  obtain ⟨p, q, hA0, hV, rfl, _, _⟩ := hW
  have hA : DataW.TrodAll enc Try.prog W 0 (fun _ => true) true Try.f6.params.toList args.toList ds p := hA0
  rw [Try.params6] at hA hval
  obtain ⟨v0, vs0, d0, ds0, p0, q0, hargs, rfl, rfl, h0, r0⟩ := trodAll_cons hA
  obtain ⟨v1, vs1, d1, ds1, p1, q1, rfl, rfl, rfl, h1, r1⟩ := trodAll_cons r0
  obtain ⟨rfl, rfl, rfl⟩ := trodAll_nil r1
  obtain rfl : args = #[v0, v1] := by cases args; simp_all
  obtain ⟨rfl, rfl⟩ := trodVars_none hV
  have h0k := h0
  obtain ⟨ao0, n0, c0, ss0, rfl, hs0⟩ := open_steps (hval 0 22 v0 rfl rfl) h0
  have h1k := h1
  obtain ⟨s1, rfl, hs1⟩ := open_step (hval 1 26 v1 rfl rfl) h1
  clear hA0 hval0
  simp only [List.append_nil] at hW'
  have hlt : ∀ x ∈ p0 ++ p1, x.block < W.heap.size := fun x hx => by simpa using hW'.lt x (by simpa using hx)
  refine (forgetsWalk ao0 n0 c0 ss0 s1 W hs0 hs1).mono fun e W' ⟨he, hbl⟩ => ?_
  subst he
  exact ⟨_, rfl, _, _, _, [], _, [], hW', (trodAll_cons_mk (shut_bool Try.underlying4 _) trodAll_mk0), (trodAll_cons_mk (Below.trod Try.laidOut (by kernel_rfl) (of_decide_eq_true (by kernel_rfl)) h0k hbl (fun x hx => hlt x (by simp [hx]))) (trodAll_cons_mk (Below.trod Try.laidOut (by kernel_rfl) (of_decide_eq_true (by kernel_rfl)) h1k hbl (fun x hx => hlt x (by simp [hx]))) trodAll_mk0)), rfl, hbl.frame _, fun h => by cases h⟩

theorem fdbForgets_holds : Rows.FdbForgetsSaid :=
  OpenClaim.holds_of_wide 6 Try.f6 rfl rfl rfl rfl rfl rfl rfl ⟨rfl, rfl, rfl, rfl, rfl⟩ rfl rfl rfl rfl rfl (by kernel_rfl) Try.func6 (by kernel_rfl)
    (of_decide_eq_true (by kernel_rfl)) (by unfold Func.isWrapper; first | (rw [if_pos (by decide +kernel)]; kernel_rfl) | (rw [if_neg (by decide +kernel)]; exact ⟨rfl, rfl⟩))
    (fun os started H enc _ => fdbForgetslifted os started H enc)

#print axioms fdbForgets_holds
end Go.Proofs.Ytbpkdkniiggcpaa
