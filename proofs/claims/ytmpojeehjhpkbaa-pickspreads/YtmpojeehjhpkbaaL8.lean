/- PickSpreads: for every two members and hash the law answers true. No condition. -/
import Derived.Test.YtmpojeehjhpkbaaQo
namespace Go.Proofs.Ytmpojeehjhpkbaa
open Go.ChangeShapes Go.WideShapes Go.ChangeAt Go.RowKit Go.PlainAid

theorem chs_one (h : Nat) (a : Int) : chs h [a] = a := by
  show chf h a [] = a
  unfold chf
  rw [List.foldl_nil]
set_option maxRecDepth 100000 in
set_option maxHeartbeats 4000000 in
theorem spreadsWalk (a b : Int) (h : Nat) (w : World) (hh : h < 4294967296) :
    Calls Try.prog 8 #[.int .i64 a, .int .i64 b, .int .u32 h] w fun e w' => e = .returned (.bool true) ∧ Below w.heap.size w w' := by
  have HH := hide hh
  clear hh
  go_enter Try.func8, Try.ntmps8
  go_wp2_with fail
  refine (awakeC _).mono ?_
  rintro e w1 ⟨rfl, B1⟩
  have HI : Hid (Its (w1.alloc (.cells #[.int .i64 a] 3)) 0 (some ⟨w1.heap.size, 0, none⟩) 1 1 [a]) := hide (its_lit rfl rfl (by omega))
  have HB := hide (belowOn B1 (below_alloc w1 (.cells #[.int .i64 a] 3)))
  clear B1
  go_wp2_with fail
  refine (chooseQ _ 1 1 [a] h _ HI.out HH.out (by omega)).mono ?_
  rintro e w2 ⟨rfl, B2⟩
  rw [chs_one]
  replace HB := hide (belowOn (belowOn HB.out B2) (below_alloc w2 (.cells #[.int .i64 a, .int .i64 b] 3)))
  have HJ : Hid (Its (w2.alloc (.cells #[.int .i64 a, .int .i64 b] 3)) 0 (some ⟨w2.heap.size, 0, none⟩) 2 2 [a, b]) := hide (its_lit rfl rfl (by omega))
  clear B2 HI
  go_wp2_with fail
  refine (chooseQ _ 2 2 [a, b] h _ HJ.out HH.out (by omega)).mono ?_
  rintro e w3 ⟨rfl, B3⟩
  replace HB := hide (belowOn HB.out B3)
  clear B3 HJ
  have h2 : chs h [a, b] = if wgh h a < wgh h b ∨ (wgh h b = wgh h a ∧ b < a) then b else a := by
    rw [chs_two]
    by_cases hb : wgh h a < wgh h b ∨ (wgh h b = wgh h a ∧ b < a)
    · rw [if_pos hb, if_pos (btr_iff.2 hb)]
    · rw [if_neg hb, if_neg (by rw [btr_iff]; exact hb)]
  obtain ⟨z, hz⟩ : ∃ z, z = chs h [a, b] := ⟨_, rfl⟩
  rw [← hz] at h2
  rw [← hz]
  have HZ := hide h2
  clear hz h2
  go_wp2_with fail
  refine (weighQ h a _ HH.out).mono ?_
  rintro e w4 ⟨rfl, B4⟩
  replace HB := hide (belowOn HB.out B4)
  clear B4
  go_wp2_with fail
  refine (weighQ h b _ HH.out).mono ?_
  rintro e w5 ⟨rfl, B5⟩
  replace HB := hide (belowOn HB.out B5)
  clear B5
  obtain ⟨x, hx⟩ : ∃ x, x = wgh h a := ⟨_, rfl⟩
  obtain ⟨y, hy⟩ : ∃ y, y = wgh h b := ⟨_, rfl⟩
  rw [← hx, ← hy] at HZ
  rw [← hx, ← hy]
  clear hx hy
  rcases (show x < y ∨ (¬ x < y ∧ y = x ∧ b < a) ∨ (¬ x < y ∧ y = x ∧ ¬ b < a) ∨ (¬ x < y ∧ ¬ x = y) by omega) with h1 | ⟨h1, h2, h3⟩ | ⟨h1, h2, h3⟩ | ⟨h1, h2⟩
  · obtain rfl : z = b := by rw [HZ.out, if_pos (Or.inl h1)]
    have f1 : (x : Int) < (y : Int) := by omega
    clear h1 HZ
    go_wp2
    go_ret
    exact ⟨ret_bool (by first | rfl | simp), HB.out⟩
  · subst h2
    obtain rfl : z = b := by rw [HZ.out, if_pos (Or.inr ⟨rfl, h3⟩)]
    have f1 : ¬ (y : Int) < (y : Int) := by omega
    clear h1 HZ
    go_wp2
    go_ret
    exact ⟨ret_bool (by first | rfl | simp), HB.out⟩
  · subst h2
    obtain rfl : z = a := by rw [HZ.out, if_neg (by omega)]
    have f1 : ¬ (y : Int) < (y : Int) := by omega
    clear h1 HZ
    go_wp2
    go_ret
    exact ⟨ret_bool (by first | rfl | simp), HB.out⟩
  · obtain rfl : z = a := by rw [HZ.out, if_neg (by omega)]
    have f1 : ¬ (x : Int) < (y : Int) := by omega
    have f2 : ¬ (x : Int) = (y : Int) := by omega
    have f3 : ((x : Int) == (y : Int)) = false := by simp; omega
    clear h1 h2 HZ
    go_wp2
    go_ret
    exact ⟨ret_bool (by first | rfl | simp), HB.out⟩
set_option maxRecDepth 100000 in
set_option maxHeartbeats 2000000 in
theorem pickSpreadslifted (os : Os) (started : os.Started) (H : Type) (enc : TypeId × Value → H) :
    ReturnsInHanded {} Try.checked os 8 .any (Rows.pickSpreadsSpec.pre6 enc Try.prog Try.f8 Rows.pickSpreadsRow.domain false) (Rows.pickSpreadsSpec.post enc Try.prog Try.f8 false true false false) := by
  refine returnsInHanded_of_change (C := Try.checked) own started (by kernel_rfl) Try.func8
    (ChangeSpec.witness6 (enc := enc) (C := Try.checked) false ⟨#[], #[.int .i64 0, .int .i64 0, .int .u32 0], []⟩ 8 (by kernel_rfl) (by kernel_rfl) (by kernel_rfl) (by kernel_rfl)) ?_
  intro W base args ds gs before hval0 hW _ _
  have hval : ∀ (j : Nat) t v, Try.f8.params[j]? = some t → args[j]? = some v → Value.okWide Try.prog W .any base t v := hval0
  have hW' := hW
  obtain ⟨p, q, hA0, hV, rfl, _, _⟩ := hW
  have hA : DataW.TrodAll enc Try.prog W 0 (fun _ => true) true Try.f8.params.toList args.toList ds p := hA0
  rw [Try.params8] at hA hval
  obtain ⟨v0, vs0, d0, ds0, p0, q0, hargs, rfl, rfl, h0, r0⟩ := trodAll_cons hA
  obtain ⟨v1, vs1, d1, ds1, p1, q1, rfl, rfl, rfl, h1, r1⟩ := trodAll_cons r0
  obtain ⟨v2, vs2, d2, ds2, p2, q2, rfl, rfl, rfl, h2, r2⟩ := trodAll_cons r1
  obtain ⟨rfl, rfl, rfl⟩ := trodAll_nil r2
  obtain rfl : args = #[v0, v1, v2] := by cases args; simp_all
  obtain ⟨rfl, rfl⟩ := trodVars_none hV
  have h0k := h0
  obtain ⟨x0, rfl⟩ := open_num (hval 0 3 v0 rfl rfl) h0
  have h1k := h1
  obtain ⟨x1, rfl⟩ := open_num (hval 1 3 v1 rfl rfl) h1
  have h2k := h2
  obtain ⟨x2, rfl, hx2⟩ := open_hash (hval 2 27 v2 rfl rfl) h2
  clear hA0 hval0
  simp only [List.append_nil] at hW'
  have hlt : ∀ x ∈ p0 ++ p1 ++ p2, x.block < W.heap.size := fun x hx => by simpa using hW'.lt x (by simpa using hx)
  refine (spreadsWalk x0 x1 x2 W hx2).mono fun e W' ⟨he, hbl⟩ => ?_
  subst he
  exact ⟨_, rfl, _, _, _, [], _, [], hW', (trodAll_cons_mk (shut_bool Try.underlying4 _) trodAll_mk0), (trodAll_cons_mk (Below.trod Try.laidOut (by kernel_rfl) (of_decide_eq_true (by kernel_rfl)) h0k hbl (fun x hx => hlt x (by simp [hx]))) (trodAll_cons_mk (Below.trod Try.laidOut (by kernel_rfl) (of_decide_eq_true (by kernel_rfl)) h1k hbl (fun x hx => hlt x (by simp [hx]))) (trodAll_cons_mk (Below.trod Try.laidOut (by kernel_rfl) (of_decide_eq_true (by kernel_rfl)) h2k hbl (fun x hx => hlt x (by simp [hx]))) trodAll_mk0))), rfl, hbl.frame _, fun h => by cases h⟩

theorem pickSpreads_holds : Rows.PickSpreadsSaid :=
  OpenClaim.holds_of_wide 8 Try.f8 rfl rfl rfl rfl rfl rfl rfl ⟨rfl, rfl, rfl, rfl, rfl⟩ rfl rfl rfl rfl rfl (by kernel_rfl) Try.func8 (by kernel_rfl)
    (of_decide_eq_true (by kernel_rfl)) (by unfold Func.isWrapper; first | (rw [if_pos (by decide +kernel)]; kernel_rfl) | (rw [if_neg (by decide +kernel)]; exact ⟨rfl, rfl⟩))
    (fun os started H enc _ => pickSpreadslifted os started H enc)

#print axioms pickSpreads_holds
end Go.Proofs.Ytmpojeehjhpkbaa
