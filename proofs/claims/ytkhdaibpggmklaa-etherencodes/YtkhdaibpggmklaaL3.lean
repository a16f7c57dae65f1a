/- EtherEncodes: for every frame the law answers true, and the frame reads behind the call as it read before. No condition. -/
import Derived.Test.YtkhdaibpggmklaaAc
import Derived.Test.YtkhdaibpggmklaaAe
import Derived.Test.YtkhdaibpggmklaaAf
namespace Go.Proofs.Ytkhdaibpggmklaa
open Go.ChangeShapes Go.WideShapes Go.ChangeAt Go.RowKit

theorem AtF.drew {w : World} {k : Nat} {f : Fd} {b : Value} (h : AtF w k f b) : AtF w.drew k f b := ⟨h.lt, h.c0, h.c1, h.c2, h.c3, h.c4, h.c5, h.c6, h.c7, h.c8, h.c9, h.c10, h.c11, h.c12, h.c13, h.c14, h.c15, h.c16⟩
theorem Byt.drew {w : World} {ao : Option Addr} {n c : Nat} {ns : List Int} (h : Byt w ao n c ns) : Byt w.drew ao n c ns := ⟨h.len, h.nil, h.cell, h.le, h.mx, h.rng⟩
theorem ldF {W : World} {k : Nat} {f : Fd} {b : Value} (h : AtF W k f b) : (Instr.loadAt 26 (.pointer (some ⟨k, 0, none⟩))).run Try.prog W = .ok (.agg #[.int .u8 f.d0, .int .u8 f.d1, .int .u8 f.d2, .int .u8 f.d3, .int .u8 f.d4, .int .u8 f.d5, .int .u8 f.s0, .int .u8 f.s1, .int .u8 f.s2, .int .u8 f.s3, .int .u8 f.s4, .int .u8 f.s5, .bool f.tg, .int .i64 f.vl, .int .i64 f.pr, .int .i64 f.ty, b]) W :=
  run_loadAt_mid W k 0 26 _ _ h.all Try.underlying26 rfl Try.size26
set_option maxRecDepth 100000 in
set_option maxHeartbeats 4000000 in
theorem encodesWalk (f : Fd) (ao : Option Addr) (n c : Nat) (w : World) (hf : FdB f) (hb : Byt w ao n c f.bs) :
    Calls Try.prog 3 #[.agg #[.int .u8 f.d0, .int .u8 f.d1, .int .u8 f.d2, .int .u8 f.d3, .int .u8 f.d4, .int .u8 f.d5, .int .u8 f.s0, .int .u8 f.s1, .int .u8 f.s2, .int .u8 f.s3, .int .u8 f.s4, .int .u8 f.s5, .bool f.tg, .int .i64 f.vl, .int .i64 f.pr, .int .i64 f.ty, (.slice ao n c)]] w fun e w' => e = .returned (.bool true) ∧ Below w.heap.size w w' := by
  have HN := hide hb.len
  by_cases hn : (3000 : Int) < n
  · have hn' : decide ((3000 : Int) < n) = true := by simp; omega
    have A0 := AtF.new w f (.slice ao n c)
    have Y0 := hb.alloc (.cells #[.int .u8 f.d0, .int .u8 f.d1, .int .u8 f.d2, .int .u8 f.d3, .int .u8 f.d4, .int .u8 f.d5, .int .u8 f.s0, .int .u8 f.s1, .int .u8 f.s2, .int .u8 f.s3, .int .u8 f.s4, .int .u8 f.s5, .bool f.tg, .int .i64 f.vl, .int .i64 f.pr, .int .i64 f.ty, (.slice ao n c)] 26)
    have W0 := below_alloc w (.cells #[.int .u8 f.d0, .int .u8 f.d1, .int .u8 f.d2, .int .u8 f.d3, .int .u8 f.d4, .int .u8 f.d5, .int .u8 f.s0, .int .u8 f.s1, .int .u8 f.s2, .int .u8 f.s3, .int .u8 f.s4, .int .u8 f.s5, .bool f.tg, .int .i64 f.vl, .int .i64 f.pr, .int .i64 f.ty, (.slice ao n c)] 26)
    clear hb
    go_enter Try.func3, Try.ntmps3
    go_wp2_with fail
    refine (awake9 _).mono ?_
    rintro e w1 ⟨rfl, hb1⟩
    replace A0 := A0.on hb1; replace Y0 := Y0.on hb1; replace W0 := belowOn W0 hb1
    clear hb1
    have p16 := A0.c16
    go_wp2
    go_ret
    exact ⟨rfl, W0⟩
  have hn' : decide ((3000 : Int) < n) = false := by simp; omega
  have A0 := AtF.new w f (.slice ao n c)
  have Y0 := hb.alloc (.cells #[.int .u8 f.d0, .int .u8 f.d1, .int .u8 f.d2, .int .u8 f.d3, .int .u8 f.d4, .int .u8 f.d5, .int .u8 f.s0, .int .u8 f.s1, .int .u8 f.s2, .int .u8 f.s3, .int .u8 f.s4, .int .u8 f.s5, .bool f.tg, .int .i64 f.vl, .int .i64 f.pr, .int .i64 f.ty, (.slice ao n c)] 26)
  have W0 := below_alloc w (.cells #[.int .u8 f.d0, .int .u8 f.d1, .int .u8 f.d2, .int .u8 f.d3, .int .u8 f.d4, .int .u8 f.d5, .int .u8 f.s0, .int .u8 f.s1, .int .u8 f.s2, .int .u8 f.s3, .int .u8 f.s4, .int .u8 f.s5, .bool f.tg, .int .i64 f.vl, .int .i64 f.pr, .int .i64 f.ty, (.slice ao n c)] 26)
  clear hb
  go_enter Try.func3, Try.ntmps3
  go_wp2_with fail
  refine (awake9 _).mono ?_
  rintro e w1 ⟨rfl, hb1⟩
  replace A0 := A0.on hb1; replace Y0 := Y0.on hb1; replace W0 := belowOn W0 hb1
  clear hb1
  have p16 := A0.c16
  have tk1 : True := trivial
  go_wp2_with (have _t := tk1; refine wpl_frame (.tmp 1) rfl A0 ?_ ?_ ?_; rfl; rfl; clear tk1)
  refine (encode10 f ao n c _ hf Y0).mono ?_
  rintro e w2 ⟨a1, n1, c1, rfl, Y1, hb1⟩
  replace A0 := A0.on hb1; replace Y0 := Y0.on hb1; replace W0 := belowOn W0 hb1
  clear hb1 p16
  have tk1 : True := trivial
  go_wp2_with (have _t := tk1; refine wpl_frame (.tmp 1) rfl A0 ?_ ?_ ?_; rfl; rfl; clear tk1)
  refine (encode11 f ao n c _ hf Y0).mono ?_
  rintro e w3 ⟨a2, n2, c2, rfl, Y2, hb1⟩
  replace A0 := (A0.on hb1).drew; replace Y1 := (Y1.on hb1).drew; replace Y2 := Y2.drew; replace W0 := (belowOn W0 hb1).drew
  clear hb1 Y0
  have hq := bs_beq_self (eb f)
  have hc1 : ∀ W, Byt W a1 n1 c1 (eb f) → (convert 24 9 (.slice a1 n1 c1)).run Try.prog W = .ok (.string (bs (eb f))) W := fun W h => bytStr h
  have hc2 : ∀ W, Byt W a2 n2 c2 (eb f) → (convert 24 9 (.slice a2 n2 c2)).run Try.prog W = .ok (.string (bs (eb f))) W := fun W h => bytStr h
  go_wp2_with fail
  go_region_held3 (fun w' => w'.cell? ⟨w.heap.size, 0, none⟩ = some (.int .u8 f.d0) ∧ w'.cell? ⟨w.heap.size, 1, none⟩ = some (.int .u8 f.d1) ∧ w'.cell? ⟨w.heap.size, 2, none⟩ = some (.int .u8 f.d2) ∧ w'.cell? ⟨w.heap.size, 3, none⟩ = some (.int .u8 f.d3) ∧ w'.cell? ⟨w.heap.size, 4, none⟩ = some (.int .u8 f.d4) ∧ w'.cell? ⟨w.heap.size, 5, none⟩ = some (.int .u8 f.d5) ∧ w'.cell? ⟨w.heap.size, 6, none⟩ = some (.int .u8 f.s0) ∧ w'.cell? ⟨w.heap.size, 7, none⟩ = some (.int .u8 f.s1) ∧ w'.cell? ⟨w.heap.size, 8, none⟩ = some (.int .u8 f.s2) ∧ w'.cell? ⟨w.heap.size, 9, none⟩ = some (.int .u8 f.s3) ∧ w'.cell? ⟨w.heap.size, 10, none⟩ = some (.int .u8 f.s4) ∧ w'.cell? ⟨w.heap.size, 11, none⟩ = some (.int .u8 f.s5) ∧ w'.cell? ⟨w.heap.size, 12, none⟩ = some (.bool f.tg) ∧ w'.cell? ⟨w.heap.size, 13, none⟩ = some (.int .i64 f.vl) ∧ w'.cell? ⟨w.heap.size, 14, none⟩ = some (.int .i64 f.pr) ∧ w'.cell? ⟨w.heap.size, 15, none⟩ = some (.int .i64 f.ty) ∧ w'.cell? ⟨w.heap.size, 16, none⟩ = some (.slice ao n c) ∧ Byt w' a1 n1 c1 (eb f) ∧ Byt w' a2 n2 c2 (eb f)) (first | exact ⟨A2.c0, A2.c1, A2.c2, A2.c3, A2.c4, A2.c5, A2.c6, A2.c7, A2.c8, A2.c9, A2.c10, A2.c11, A2.c12, A2.c13, A2.c14, A2.c15, A2.c16, Y12, Y22⟩ | exact ⟨A1.c0, A1.c1, A1.c2, A1.c3, A1.c4, A1.c5, A1.c6, A1.c7, A1.c8, A1.c9, A1.c10, A1.c11, A1.c12, A1.c13, A1.c14, A1.c15, A1.c16, Y11, Y21⟩ | exact ⟨A0.c0, A0.c1, A0.c2, A0.c3, A0.c4, A0.c5, A0.c6, A0.c7, A0.c8, A0.c9, A0.c10, A0.c11, A0.c12, A0.c13, A0.c14, A0.c15, A0.c16, Y1, Y2⟩)
    (first | (go_at_call 12; refine (right12 f ao n c _ HN.out).mono ?_; rintro e w5 ⟨rfl, hb5⟩; have A1 := A0.on hb5; have Y11 := Y1.on hb5; have Y21 := Y2.on hb5; have W1 := belowOn W0 hb5) | (go_at_call 13; refine (right13 f ao n c _ HN.out).mono ?_; rintro e w6 ⟨rfl, hb6⟩; have A2 := A1.on hb6; have Y12 := Y11.on hb6; have Y22 := Y21.on hb6; have W2 := belowOn W1 hb6))
  go_wp2
  go_ret
  exact ⟨rfl, W2⟩

set_option maxRecDepth 100000 in
set_option maxHeartbeats 2000000 in
theorem etherEncodeslifted (os : Os) (started : os.Started) (H : Type) (enc : TypeId × Value → H) :
    ReturnsInHanded {} Try.checked os 3 .any (Rows.etherEncodesSpec.pre6 enc Try.prog Try.f3 Rows.etherEncodesRow.domain false) (Rows.etherEncodesSpec.post enc Try.prog Try.f3 false true false false) := by
  refine returnsInHanded_of_change (C := Try.checked) own started (by kernel_rfl) Try.func3
    (ChangeSpec.witness6 (enc := enc) (C := Try.checked) false ⟨#[], #[.agg #[.int .u8 0, .int .u8 0, .int .u8 0, .int .u8 0, .int .u8 0, .int .u8 0, .int .u8 0, .int .u8 0, .int .u8 0, .int .u8 0, .int .u8 0, .int .u8 0, .bool false, .int .i64 0, .int .i64 0, .int .i64 0, .slice none 0 0]], []⟩ 8 (by kernel_rfl) (by kernel_rfl) (by kernel_rfl) (by kernel_rfl)) ?_
  intro W base args ds gs before hval0 hW _ _
  have hval : ∀ (j : Nat) t v, Try.f3.params[j]? = some t → args[j]? = some v → Value.okWide Try.prog W .any base t v := hval0
  have hW' := hW
  obtain ⟨p, q, hA0, hV, rfl, _, _⟩ := hW
  have hA : DataW.TrodAll enc Try.prog W 0 (fun _ => true) true Try.f3.params.toList args.toList ds p := hA0
  rw [Try.params3] at hA hval
  obtain ⟨v0, vs0, d0, ds0, p0, q0, hargs, rfl, rfl, h0, r0⟩ := trodAll_cons hA
  obtain ⟨rfl, rfl, rfl⟩ := trodAll_nil r0
  obtain rfl : args = #[v0] := by cases args; simp_all
  obtain ⟨rfl, rfl⟩ := trodVars_none hV
  have h0k := h0
  obtain ⟨f0, ao0, n0, c0, rfl, hf0, hb0⟩ := open_frame (hval 0 26 v0 rfl rfl) h0
  clear hA0 hval0
  simp only [List.append_nil] at hW'
  have hlt : ∀ x ∈ p0, x.block < W.heap.size := fun x hx => by simpa using hW'.lt x (by simpa using hx)
  refine (encodesWalk f0 ao0 n0 c0 W hf0 hb0).mono fun e W' ⟨he, hbl⟩ => ?_
  subst he
  exact ⟨_, rfl, _, _, _, [], _, [], hW', (trodAll_cons_mk (shut_bool Try.underlying4 _) trodAll_mk0), (trodAll_cons_mk (Below.trod Try.laidOut (by kernel_rfl) (of_decide_eq_true (by kernel_rfl)) h0k hbl (fun x hx => hlt x (by simp [hx]))) trodAll_mk0), rfl, hbl.frame _, fun h => by cases h⟩

theorem etherEncodes_holds : Rows.EtherEncodesSaid :=
  OpenClaim.holds_of_wide 3 Try.f3 rfl rfl rfl rfl rfl rfl rfl ⟨rfl, rfl, rfl, rfl, rfl⟩ rfl rfl rfl rfl rfl (by kernel_rfl) Try.func3 (by kernel_rfl)
    (of_decide_eq_true (by kernel_rfl)) (by unfold Func.isWrapper; first | (rw [if_pos (by decide +kernel)]; kernel_rfl) | (rw [if_neg (by decide +kernel)]; exact ⟨rfl, rfl⟩))
    (fun os started H enc _ => etherEncodeslifted os started H enc)

#print axioms etherEncodes_holds
end Go.Proofs.Ytkhdaibpggmklaa
