/- EtherDecodes: for every list of bytes the law answers true, and the list reads behind the call as it read before. No condition. -/
import Derived.Test.YtkhdaibpggmklaaAw
import Derived.Test.YtkhdaibpggmklaaAd
import Derived.Test.YtkhdaibpggmklaaAe
import Derived.Test.YtkhdaibpggmklaaAf
namespace Go.Proofs.Ytkhdaibpggmklaa
open Go.ChangeShapes Go.WideShapes Go.ChangeAt Go.RowKit

set_option maxRecDepth 100000 in
set_option maxHeartbeats 4000000 in
theorem decodesWalk (ao : Option Addr) (n c : Nat) (ns : List Int) (w : World) (hb : Byt w ao n c ns) :
    Calls Try.prog 4 #[.slice ao n c] w fun e w' => e = .returned (.bool true) ∧ Below w.heap.size w w' := by
  by_cases hn : (3000 : Int) < n
  · have hn' : decide ((3000 : Int) < n) = true := by simp; omega
    clear hb
    go_enter Try.func4, Try.ntmps4
    go_wp2_with fail
    refine (awake9 _).mono ?_
    rintro e w1 ⟨rfl, hb1⟩
    go_wp2
    go_ret
    exact ⟨rfl, hb1⟩
  have hn' : decide ((3000 : Int) < n) = false := by simp; omega
  obtain ⟨D, E, hD⟩ : ∃ D E, dec ns = (D, E) := ⟨_, _, rfl⟩
  have HD := hide hD
  clear hD
  go_enter Try.func4, Try.ntmps4
  go_wp2_with fail
  refine (awake9 _).mono ?_
  rintro e w1 ⟨rfl, W1⟩
  have Y0 := hb.on W1
  clear hb
  go_wp2_with fail
  refine (decode14' ao n c ns _ Y0 D E HD.out).mono ?_
  rintro e w2 ⟨a1, n1, c1, rfl, Y1, hb1⟩
  replace Y0 := Y0.on hb1; replace W1 := belowOn W1 hb1
  clear hb1
  have T1 : (w2.alloc (.cells #[.int .u8 0, .int .u8 0, .int .u8 0, .int .u8 0, .int .u8 0, .int .u8 0, .int .u8 0, .int .u8 0, .int .u8 0, .int .u8 0, .int .u8 0, .int .u8 0, .bool false, .int .i64 0, .int .i64 0, .int .i64 0, .slice none 0 0] 26)).there w2.heap.size 0 17 := there_new w2 #[.int .u8 0, .int .u8 0, .int .u8 0, .int .u8 0, .int .u8 0, .int .u8 0, .int .u8 0, .int .u8 0, .int .u8 0, .int .u8 0, .int .u8 0, .int .u8 0, .bool false, .int .i64 0, .int .i64 0, .int .i64 0, .slice none 0 0] 26
  have tk1 : True := trivial
  go_wp2_with (have _t := tk1; refine wpl_put D a1 n1 c1 (.tmp 4) (.tmp 21) rfl T1 ?_ ?_ ?_ ?_; rfl; rfl; rfl; clear tk1; intro w3 B1 T2 G1)
  have hb1 := put_below G1
  replace Y0 := Y0.on hb1; replace Y1 := Y1.on hb1; replace W1 := belowOn W1 hb1
  clear T1 T2 G1 hb1
  refine (decode15 ao n c ns _ Y0 (by omega) D E HD.out).mono ?_
  rintro e w4 ⟨a2, n2, c2, rfl, Y2, hb1⟩
  replace Y1 := Y1.on hb1; replace B1 := B1.on hb1; replace W1 := belowOn W1 hb1
  clear hb1 Y0
  have T1 : (w4.alloc (.cells #[.int .u8 0, .int .u8 0, .int .u8 0, .int .u8 0, .int .u8 0, .int .u8 0, .int .u8 0, .int .u8 0, .int .u8 0, .int .u8 0, .int .u8 0, .int .u8 0, .bool false, .int .i64 0, .int .i64 0, .int .i64 0, .slice none 0 0] 26)).there w4.heap.size 0 17 := there_new w4 #[.int .u8 0, .int .u8 0, .int .u8 0, .int .u8 0, .int .u8 0, .int .u8 0, .int .u8 0, .int .u8 0, .int .u8 0, .int .u8 0, .int .u8 0, .int .u8 0, .bool false, .int .i64 0, .int .i64 0, .int .i64 0, .slice none 0 0] 26
  have tk1 : True := trivial
  have tk2 : True := trivial
  have tk3 : True := trivial
  go_wp2_with (first | (have _t := tk1; refine wpl_put D a2 n2 c2 (.tmp 6) (.tmp 26) rfl T1 ?_ ?_ ?_ ?_; rfl; rfl; rfl; clear tk1; intro w5 B2 T2 G1; have hb1 := put_below G1; replace B1 := B1.on hb1; replace Y1 := Y1.on hb1; replace Y2 := Y2.on hb1; replace W1 := belowOn W1 hb1; clear T1 T2 G1 hb1) | (have _t := tk2; refine wpl_frame (.tmp 4) rfl B1 ?_ ?_ ?_; rfl; rfl; clear tk2) | (have _t := tk3; refine wpl_frame (.tmp 6) rfl B2 ?_ ?_ ?_; rfl; rfl; clear tk3))
  refine (same16 D D a1 a2 n1 c1 n2 c2 _ Y1 Y2).mono ?_
  rintro e w6 ⟨rfl, hb1⟩
  have hs := sm_self D
  replace W1 := belowOn W1 hb1
  clear hb1 Y1 Y2 B1 B2
  go_wp2
  go_ret
  exact ⟨rfl, W1⟩

set_option maxRecDepth 100000 in
set_option maxHeartbeats 2000000 in
theorem etherDecodeslifted (os : Os) (started : os.Started) (H : Type) (enc : TypeId × Value → H) :
    ReturnsInHanded {} Try.checked os 4 .any (Rows.etherDecodesSpec.pre6 enc Try.prog Try.f4 Rows.etherDecodesRow.domain false) (Rows.etherDecodesSpec.post enc Try.prog Try.f4 false true false false) := by
  refine returnsInHanded_of_change (C := Try.checked) own started (by kernel_rfl) Try.func4
    (ChangeSpec.witness6 (enc := enc) (C := Try.checked) false ⟨#[], #[.slice none 0 0], []⟩ 8 (by kernel_rfl) (by kernel_rfl) (by kernel_rfl) (by kernel_rfl)) ?_
  intro W base args ds gs before hval0 hW _ _
  have hval : ∀ (j : Nat) t v, Try.f4.params[j]? = some t → args[j]? = some v → Value.okWide Try.prog W .any base t v := hval0
  have hW' := hW
  obtain ⟨p, q, hA0, hV, rfl, _, _⟩ := hW
  have hA : DataW.TrodAll enc Try.prog W 0 (fun _ => true) true Try.f4.params.toList args.toList ds p := hA0
  rw [Try.params4] at hA hval
  obtain ⟨v0, vs0, d0, ds0, p0, q0, hargs, rfl, rfl, h0, r0⟩ := trodAll_cons hA
  obtain ⟨rfl, rfl, rfl⟩ := trodAll_nil r0
  obtain rfl : args = #[v0] := by cases args; simp_all
  obtain ⟨rfl, rfl⟩ := trodVars_none hV
  have h0k := h0
  obtain ⟨ao0, n0, c0, ns0, rfl, hb0⟩ := open_bytes (hval 0 24 v0 rfl rfl) h0
  clear hA0 hval0
  simp only [List.append_nil] at hW'
  have hlt : ∀ x ∈ p0, x.block < W.heap.size := fun x hx => by simpa using hW'.lt x (by simpa using hx)
  refine (decodesWalk ao0 n0 c0 ns0 W hb0).mono fun e W' ⟨he, hbl⟩ => ?_
  subst he
  exact ⟨_, rfl, _, _, _, [], _, [], hW', (trodAll_cons_mk (shut_bool Try.underlying4 _) trodAll_mk0), (trodAll_cons_mk (Below.trod Try.laidOut (by kernel_rfl) (of_decide_eq_true (by kernel_rfl)) h0k hbl (fun x hx => hlt x (by simp [hx]))) trodAll_mk0), rfl, hbl.frame _, fun h => by cases h⟩

theorem etherDecodes_holds : Rows.EtherDecodesSaid :=
  OpenClaim.holds_of_wide 4 Try.f4 rfl rfl rfl rfl rfl rfl rfl ⟨rfl, rfl, rfl, rfl, rfl⟩ rfl rfl rfl rfl rfl (by kernel_rfl) Try.func4 (by kernel_rfl)
    (of_decide_eq_true (by kernel_rfl)) (by unfold Func.isWrapper; first | (rw [if_pos (by decide +kernel)]; kernel_rfl) | (rw [if_neg (by decide +kernel)]; exact ⟨rfl, rfl⟩))
    (fun os started H enc _ => etherDecodeslifted os started H enc)

#print axioms etherDecodes_holds
end Go.Proofs.Ytkhdaibpggmklaa
