/- EtherTags: for every frame and every two numbers the law answers true, and the frame reads behind the call as it read before. No condition. -/
import Derived.Test.YtkhdaibpggmklaaAd
import Derived.Test.YtkhdaibpggmklaaAe
import Derived.Test.YtkhdaibpggmklaaAf
import Derived.Test.YtkhdaibpggmklaaAh
namespace Go.Proofs.Ytkhdaibpggmklaa
open Go.ChangeShapes Go.WideShapes Go.ChangeAt Go.RowKit

theorem AtF.drew {w : World} {k : Nat} {f : Fd} {b : Value} (h : AtF w k f b) : AtF w.drew k f b := ⟨h.lt, h.c0, h.c1, h.c2, h.c3, h.c4, h.c5, h.c6, h.c7, h.c8, h.c9, h.c10, h.c11, h.c12, h.c13, h.c14, h.c15, h.c16⟩
theorem Byt.drew {w : World} {ao : Option Addr} {n c : Nat} {ns : List Int} (h : Byt w ao n c ns) : Byt w.drew ao n c ns := ⟨h.len, h.nil, h.cell, h.le, h.mx, h.rng⟩
theorem put_below {w w1 : World} {o : Obj} (hg : (w.alloc o).grownBy w1 (some w.heap.size)) : Below w.heap.size w w1 := below_grown (below_alloc w o) hg (Nat.le_refl _) (by simp)
set_option maxRecDepth 100000 in
set_option maxHeartbeats 8000000 in
theorem tagsWalk (f : Fd) (ao : Option Addr) (n c : Nat) (v p : Int) (w : World) (_hf : FdB f) (hb : Byt w ao n c f.bs) :
    Calls Try.prog 5 #[.agg #[.int .u8 f.d0, .int .u8 f.d1, .int .u8 f.d2, .int .u8 f.d3, .int .u8 f.d4, .int .u8 f.d5, .int .u8 f.s0, .int .u8 f.s1, .int .u8 f.s2, .int .u8 f.s3, .int .u8 f.s4, .int .u8 f.s5, .bool f.tg, .int .i64 f.vl, .int .i64 f.pr, .int .i64 f.ty, (.slice ao n c)], .int .i64 v, .int .i64 p] w fun e w' => e = .returned (.bool true) ∧ Below w.heap.size w w' := by
  by_cases hn : (3000 : Int) < n
  · have hn' : decide ((3000 : Int) < n) = true := by simp; omega
    have A0 := AtF.new w f (.slice ao n c)
    have Y0 := hb.alloc (.cells #[.int .u8 f.d0, .int .u8 f.d1, .int .u8 f.d2, .int .u8 f.d3, .int .u8 f.d4, .int .u8 f.d5, .int .u8 f.s0, .int .u8 f.s1, .int .u8 f.s2, .int .u8 f.s3, .int .u8 f.s4, .int .u8 f.s5, .bool f.tg, .int .i64 f.vl, .int .i64 f.pr, .int .i64 f.ty, (.slice ao n c)] 26)
    have W0 := below_alloc w (.cells #[.int .u8 f.d0, .int .u8 f.d1, .int .u8 f.d2, .int .u8 f.d3, .int .u8 f.d4, .int .u8 f.d5, .int .u8 f.s0, .int .u8 f.s1, .int .u8 f.s2, .int .u8 f.s3, .int .u8 f.s4, .int .u8 f.s5, .bool f.tg, .int .i64 f.vl, .int .i64 f.pr, .int .i64 f.ty, (.slice ao n c)] 26)
    clear hb
    go_enter Try.func5, Try.ntmps5
    go_wp2_with fail
    refine (awake9 _).mono ?_
    rintro e w1 ⟨rfl, hb1⟩
    replace A0 := A0.on hb1; replace Y0 := Y0.on hb1; replace W0 := belowOn W0 hb1
    clear hb1
    have p16 := A0.c16
    go_wp2
    go_ret
    exact ⟨rfl, W0⟩
  have hn' : decide ((3000 : Int) < n) = false := by simp; omega
  have A0 := AtF.new w f (.slice ao n c)
  have Y0 := hb.alloc (.cells #[.int .u8 f.d0, .int .u8 f.d1, .int .u8 f.d2, .int .u8 f.d3, .int .u8 f.d4, .int .u8 f.d5, .int .u8 f.s0, .int .u8 f.s1, .int .u8 f.s2, .int .u8 f.s3, .int .u8 f.s4, .int .u8 f.s5, .bool f.tg, .int .i64 f.vl, .int .i64 f.pr, .int .i64 f.ty, (.slice ao n c)] 26)
  have W0 := below_alloc w (.cells #[.int .u8 f.d0, .int .u8 f.d1, .int .u8 f.d2, .int .u8 f.d3, .int .u8 f.d4, .int .u8 f.d5, .int .u8 f.s0, .int .u8 f.s1, .int .u8 f.s2, .int .u8 f.s3, .int .u8 f.s4, .int .u8 f.s5, .bool f.tg, .int .i64 f.vl, .int .i64 f.pr, .int .i64 f.ty, (.slice ao n c)] 26)
  clear hb
  go_enter Try.func5, Try.ntmps5
  go_wp2_with fail
  refine (awake9 _).mono ?_
  rintro e w1 ⟨rfl, hb1⟩
  replace A0 := A0.on hb1; replace Y0 := Y0.on hb1; replace W0 := belowOn W0 hb1
  clear hb1
  have p16 := A0.c16
  have tk1 : True := trivial
  go_wp2_with (have _t := tk1; refine wpl_frame (.tmp 3) rfl A0 ?_ ?_ ?_; rfl; rfl; clear tk1)
  refine (tag17 f ao n c v p _ Y0 (by omega)).mono ?_
  rintro e w2 ⟨a1, n1, c1, rfl, Y1, hb1⟩
  replace A0 := A0.on hb1; replace Y0 := Y0.on hb1; replace W0 := belowOn W0 hb1
  clear hb1 p16
  have T1 : (w2.alloc (.cells #[.int .u8 0, .int .u8 0, .int .u8 0, .int .u8 0, .int .u8 0, .int .u8 0, .int .u8 0, .int .u8 0, .int .u8 0, .int .u8 0, .int .u8 0, .int .u8 0, .bool false, .int .i64 0, .int .i64 0, .int .i64 0, .slice none 0 0] 26)).there w2.heap.size 0 17 := there_new w2 #[.int .u8 0, .int .u8 0, .int .u8 0, .int .u8 0, .int .u8 0, .int .u8 0, .int .u8 0, .int .u8 0, .int .u8 0, .int .u8 0, .int .u8 0, .int .u8 0, .bool false, .int .i64 0, .int .i64 0, .int .i64 0, .slice none 0 0] 26
  have tk1 : True := trivial
  have tk2 : True := trivial
  go_wp2_with (first | (have _t := tk1; refine wpl_put (tF f v p) a1 n1 c1 (.tmp 8) (.tmp 28) rfl T1 ?_ ?_ ?_ ?_; rfl; rfl; rfl; clear tk1; intro w3 B1 T2 G1; have hb1 := put_below G1; replace A0 := A0.on hb1; replace Y0 := Y0.on hb1; replace Y1 := Y1.on hb1; replace W0 := belowOn W0 hb1; clear T1 T2 G1 hb1) | (have _t := tk2; refine wpl_frame (.tmp 3) rfl A0 ?_ ?_ ?_; rfl; rfl; clear tk2))
  refine (tag18 f ao n c v p _ Y0).mono ?_
  rintro e w4 ⟨a2, n2, c2, rfl, Y2, hb1⟩
  replace A0 := A0.on hb1; replace B1 := B1.on hb1; replace Y0 := Y0.on hb1; replace Y1 := Y1.on hb1; replace W0 := belowOn W0 hb1
  clear hb1
  have T1 : (w4.alloc (.cells #[.int .u8 0, .int .u8 0, .int .u8 0, .int .u8 0, .int .u8 0, .int .u8 0, .int .u8 0, .int .u8 0, .int .u8 0, .int .u8 0, .int .u8 0, .int .u8 0, .bool false, .int .i64 0, .int .i64 0, .int .i64 0, .slice none 0 0] 26)).there w4.heap.size 0 17 := there_new w4 #[.int .u8 0, .int .u8 0, .int .u8 0, .int .u8 0, .int .u8 0, .int .u8 0, .int .u8 0, .int .u8 0, .int .u8 0, .int .u8 0, .int .u8 0, .int .u8 0, .bool false, .int .i64 0, .int .i64 0, .int .i64 0, .slice none 0 0] 26
  have tk1 : True := trivial
  have tk2 : True := trivial
  have tk3 : True := trivial
  go_wp2_with (first | (have _t := tk1; refine wpl_put (tF f v p) a2 n2 c2 (.tmp 10) (.tmp 35) rfl T1 ?_ ?_ ?_ ?_; rfl; rfl; rfl; clear tk1; intro w5 B2 T2 G1; have hb1 := put_below G1; replace A0 := A0.on hb1; replace B1 := B1.on hb1; replace Y0 := Y0.on hb1; replace Y1 := Y1.on hb1; replace Y2 := Y2.on hb1; replace W0 := belowOn W0 hb1; clear T1 T2 G1 hb1) | (have _t := tk2; refine wpl_frame (.tmp 8) rfl B1 ?_ ?_ ?_; rfl; rfl; clear tk2) | (have _t := tk3; refine wpl_frame (.tmp 10) rfl B2 ?_ ?_ ?_; rfl; rfl; clear tk3))
  refine (same16 (tF f v p) (tF f v p) a1 a2 n1 c1 n2 c2 _ Y1 Y2).mono ?_
  rintro e w6 ⟨rfl, hb1⟩
  replace A0 := (A0.on hb1).drew; replace Y0 := (Y0.on hb1).drew; replace W0 := (belowOn W0 hb1).drew
  have hs1 := sm_self (tF f v p)
  have hs2 := sm_self (ut f)
  clear hb1 B1 B2 Y1 Y2
  go_wp2_with fail
  go_region_held3 (fun w' => w'.cell? ⟨w.heap.size, 0, none⟩ = some (.int .u8 f.d0) ∧ w'.cell? ⟨w.heap.size, 1, none⟩ = some (.int .u8 f.d1) ∧ w'.cell? ⟨w.heap.size, 2, none⟩ = some (.int .u8 f.d2) ∧ w'.cell? ⟨w.heap.size, 3, none⟩ = some (.int .u8 f.d3) ∧ w'.cell? ⟨w.heap.size, 4, none⟩ = some (.int .u8 f.d4) ∧ w'.cell? ⟨w.heap.size, 5, none⟩ = some (.int .u8 f.d5) ∧ w'.cell? ⟨w.heap.size, 6, none⟩ = some (.int .u8 f.s0) ∧ w'.cell? ⟨w.heap.size, 7, none⟩ = some (.int .u8 f.s1) ∧ w'.cell? ⟨w.heap.size, 8, none⟩ = some (.int .u8 f.s2) ∧ w'.cell? ⟨w.heap.size, 9, none⟩ = some (.int .u8 f.s3) ∧ w'.cell? ⟨w.heap.size, 10, none⟩ = some (.int .u8 f.s4) ∧ w'.cell? ⟨w.heap.size, 11, none⟩ = some (.int .u8 f.s5) ∧ w'.cell? ⟨w.heap.size, 12, none⟩ = some (.bool f.tg) ∧ w'.cell? ⟨w.heap.size, 13, none⟩ = some (.int .i64 f.vl) ∧ w'.cell? ⟨w.heap.size, 14, none⟩ = some (.int .i64 f.pr) ∧ w'.cell? ⟨w.heap.size, 15, none⟩ = some (.int .i64 f.ty) ∧ w'.cell? ⟨w.heap.size, 16, none⟩ = some (.slice ao n c)) (first | exact ⟨A3.c0, A3.c1, A3.c2, A3.c3, A3.c4, A3.c5, A3.c6, A3.c7, A3.c8, A3.c9, A3.c10, A3.c11, A3.c12, A3.c13, A3.c14, A3.c15, A3.c16⟩ | exact ⟨A2.c0, A2.c1, A2.c2, A2.c3, A2.c4, A2.c5, A2.c6, A2.c7, A2.c8, A2.c9, A2.c10, A2.c11, A2.c12, A2.c13, A2.c14, A2.c15, A2.c16⟩ | exact ⟨A1.c0, A1.c1, A1.c2, A1.c3, A1.c4, A1.c5, A1.c6, A1.c7, A1.c8, A1.c9, A1.c10, A1.c11, A1.c12, A1.c13, A1.c14, A1.c15, A1.c16⟩ | exact ⟨A0.c0, A0.c1, A0.c2, A0.c3, A0.c4, A0.c5, A0.c6, A0.c7, A0.c8, A0.c9, A0.c10, A0.c11, A0.c12, A0.c13, A0.c14, A0.c15, A0.c16⟩)
    (first | (go_at_call 19; refine (untag19 f ao n c _ Y0 (by omega)).mono ?_; rintro e w7 ⟨u1, k1, rfl, U1, hb7⟩; have A1 := A0.on hb7; have Y3 := Y0.on hb7; have W1 := belowOn W0 hb7) | (go_at_call 20; refine (untag20 f ao n c _ Y3).mono ?_; rintro e w8 ⟨rfl, U2, hb8⟩; have A2 := A1.on hb8; have U3 := U1.on hb8; have W2 := belowOn W1 hb8) | (go_at_call 16; refine (same16 (ut f) (ut f) u1 ao n k1 n c _ U3 U2).mono ?_; rintro e w9 ⟨rfl, hb9⟩; have A3 := A2.on hb9; have W3 := belowOn W2 hb9))
  go_wp2
  go_ret
  exact ⟨rfl, W3⟩

set_option maxRecDepth 100000 in
set_option maxHeartbeats 2000000 in
theorem etherTagslifted (os : Os) (started : os.Started) (H : Type) (enc : TypeId × Value → H) :
    ReturnsInHanded {} Try.checked os 5 .any (Rows.etherTagsSpec.pre6 enc Try.prog Try.f5 Rows.etherTagsRow.domain false) (Rows.etherTagsSpec.post enc Try.prog Try.f5 false true false false) := by
  refine returnsInHanded_of_change (C := Try.checked) own started (by kernel_rfl) Try.func5
    (ChangeSpec.witness6 (enc := enc) (C := Try.checked) false ⟨#[], #[.agg #[.int .u8 0, .int .u8 0, .int .u8 0, .int .u8 0, .int .u8 0, .int .u8 0, .int .u8 0, .int .u8 0, .int .u8 0, .int .u8 0, .int .u8 0, .int .u8 0, .bool false, .int .i64 0, .int .i64 0, .int .i64 0, .slice none 0 0], .int .i64 0, .int .i64 0], []⟩ 8 (by kernel_rfl) (by kernel_rfl) (by kernel_rfl) (by kernel_rfl)) ?_
  intro W base args ds gs before hval0 hW _ _
  have hval : ∀ (j : Nat) t v, Try.f5.params[j]? = some t → args[j]? = some v → Value.okWide Try.prog W .any base t v := hval0
  have hW' := hW
  obtain ⟨p, q, hA0, hV, rfl, _, _⟩ := hW
  have hA : DataW.TrodAll enc Try.prog W 0 (fun _ => true) true Try.f5.params.toList args.toList ds p := hA0
  rw [Try.params5] at hA hval
  obtain ⟨v0, vs0, d0, ds0, p0, q0, hargs, rfl, rfl, h0, r0⟩ := trodAll_cons hA
  obtain ⟨v1, vs1, d1, ds1, p1, q1, rfl, rfl, rfl, h1, r1⟩ := trodAll_cons r0
  obtain ⟨v2, vs2, d2, ds2, p2, q2, rfl, rfl, rfl, h2, r2⟩ := trodAll_cons r1
  obtain ⟨rfl, rfl, rfl⟩ := trodAll_nil r2
  obtain rfl : args = #[v0, v1, v2] := by cases args; simp_all
  obtain ⟨rfl, rfl⟩ := trodVars_none hV
  have h0k := h0
  obtain ⟨f0, ao0, n0, c0, rfl, hf0, hb0⟩ := open_frame (hval 0 26 v0 rfl rfl) h0
  have h1k := h1
  obtain ⟨x1, rfl, rfl, rfl, wx1⟩ := open_int Try.underlying3 (hval 1 3 v1 rfl rfl) h1
  have h2k := h2
  obtain ⟨x2, rfl, rfl, rfl, wx2⟩ := open_int Try.underlying3 (hval 2 3 v2 rfl rfl) h2
  clear hA0 hval0
  simp only [List.append_nil] at hW'
  have hlt : ∀ x ∈ p0, x.block < W.heap.size := fun x hx => by simpa using hW'.lt x (by simpa using hx)
  refine (tagsWalk f0 ao0 n0 c0 x1 x2 W hf0 hb0).mono fun e W' ⟨he, hbl⟩ => ?_
  subst he
  exact ⟨_, rfl, _, _, _, [], _, [], hW', (trodAll_cons_mk (shut_bool Try.underlying4 _) trodAll_mk0), (trodAll_cons_mk (Below.trod Try.laidOut (by kernel_rfl) (of_decide_eq_true (by kernel_rfl)) h0k hbl (fun x hx => hlt x (by simp [hx]))) (trodAll_cons_mk (shut_int Try.underlying3 wx1) (trodAll_cons_mk (shut_int Try.underlying3 wx2) trodAll_mk0))), rfl, hbl.frame _, fun h => by cases h⟩

theorem etherTags_holds : Rows.EtherTagsSaid :=
  OpenClaim.holds_of_wide 5 Try.f5 rfl rfl rfl rfl rfl rfl rfl ⟨rfl, rfl, rfl, rfl, rfl⟩ rfl rfl rfl rfl rfl (by kernel_rfl) Try.func5 (by kernel_rfl)
    (of_decide_eq_true (by kernel_rfl)) (by unfold Func.isWrapper; first | (rw [if_pos (by decide +kernel)]; kernel_rfl) | (rw [if_neg (by decide +kernel)]; exact ⟨rfl, rfl⟩))
    (fun os started H enc _ => etherTagslifted os started H enc)

#print axioms etherTags_holds
end Go.Proofs.Ytkhdaibpggmklaa
