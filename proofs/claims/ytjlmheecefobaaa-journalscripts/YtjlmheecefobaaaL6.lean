/- JournalTwice: for all entries of two lists and all steps the law answers true, and all three read behind the call as they read before. No condition. -/
import Derived.Test.YtjlmheecefobaaaOp
import Derived.Test.YtjlmheecefobaaaK1
import Derived.Test.YtjlmheecefobaaaK2
import Derived.Test.YtjlmheecefobaaaAw
import Derived.Test.YtjlmheecefobaaaM8
namespace Go.Proofs.Ytjlmheecefobaaa
open Go.ChangeShapes Go.WideShapes Go.ChangeAt Go.RowKit Go.PlainAid

theorem sl_at {α : Type} {cl : α → List Value} {k : Nat} {w : World} {G b o n c : Nat} {l : List α} (h : Sl cl k w G (some ⟨b, o, none⟩) n c l) {j : Nat} {s : α} (hj : l[j]? = some s) : w.rangeAt b (o + j * k) (cl s) := by
  obtain ⟨b', o', e, _, hA⟩ := h.cell j s hj
  injection Option.some.inj e with e1 e2
  subst e1 e2
  exact hA
set_option maxRecDepth 100000 in
set_option maxHeartbeats 4000000 in
theorem twiceWalk (ao : Option Addr) (n c : Nat) (l : List En) (ao1 : Option Addr) (n1 c1 : Nat) (m : List En) (ao2 : Option Addr) (n2 c2 : Nat) (ss : List Sp) (w : World) (hl : Sl ecl 10 w w.heap.size ao n c l) (ho : ∀ s ∈ l, Eok s) (hm : Sl ecl 10 w w.heap.size ao1 n1 c1 m) (hom : ∀ s ∈ m, Eok s) (hs : Sl pcl 11 w w.heap.size ao2 n2 c2 ss) (hp : ∀ s ∈ ss, Eok s.x) :
    Calls Try.prog 6 #[.slice ao n c, .slice ao1 n1 c1, .slice ao2 n2 c2] w fun e w' => e = .returned (.bool true) ∧ Below w.heap.size w w' := by
  have HL := hide hl
  have HM := hide hm
  have HS := hide hs
  have HO := hide ho
  have HOM := hide hom
  have HP := hide hp
  clear hl hm hs ho hom hp
  by_cases a1 : (40 : Int) < (n : Int)
  · skip
    go_enter Try.func6, Try.ntmps6
    go_wp2_with fail
    refine (awake10 _).mono ?_
    rintro e w1 ⟨rfl, B1⟩
    have HB := hide B1
    clear B1
    go_wp2
    go_ret
    exact ⟨rfl, HB.out⟩
  by_cases a2 : (40 : Int) < (n1 : Int)
  · skip
    go_enter Try.func6, Try.ntmps6
    go_wp2_with fail
    refine (awake10 _).mono ?_
    rintro e w1 ⟨rfl, B1⟩
    have HB := hide B1
    clear B1
    go_wp2
    go_ret
    exact ⟨rfl, HB.out⟩
  by_cases a3 : (60 : Int) < (n2 : Int)
  · skip
    go_enter Try.func6, Try.ntmps6
    go_wp2_with fail
    refine (awake10 _).mono ?_
    rintro e w1 ⟨rfl, B1⟩
    have HB := hide B1
    clear B1
    go_wp2
    go_ret
    exact ⟨rfl, HB.out⟩
  go_enter Try.func6, Try.ntmps6
  go_wp2_with fail
  refine (awake10 _).mono ?_
  rintro e w1 ⟨rfl, B1⟩
  replace HL := hide (HL.out.on B1)
  replace HM := hide (HM.out.on B1)
  replace HS := hide (HS.out.on B1)
  have HB := hide B1
  clear B1
  go_wp2_with fail
  refine (list19 ao2 n2 c2 ss 5 _ HS.out (by omega) (by omega) (by omega)).mono ?_
  rintro e w2 ⟨ao3, c3, rfl, C2, B2, -⟩
  replace HL := hide (HL.out.on B2)
  replace HM := hide (HM.out.on B2)
  replace HS := hide (HS.out.on B2)
  replace HB := hide (below_more HB.out B2 HB.out.size)
  have HC := hide C2.sl
  have HCO : Hid (∀ d ∈ lst ss 5, Eok d.x) := hide (fun d hd => by obtain ⟨p, h1, h2⟩ := lst_mem hd; rw [h2]; exact HP.out p h1)
  clear B2 C2
  go_wp2_with fail
  refine (replay21 ao n c l ao3 n2 c3 (lst ss 5) _ HL.out HC.out HO.out HCO.out (by omega)).mono ?_
  rintro e w3 ⟨ao4, c4, rfl, E3, B3⟩
  replace HM := hide (HM.out.on B3)
  replace HS := hide (HS.out.on B3)
  replace HC := hide (HC.out.on B3)
  replace HB := hide (below_more HB.out B3 HB.out.size)
  have HX := hide E3.sl
  clear B3 E3
  have hxl : Hid ((rep l (lst ss 5)).length + n2 ≤ 50000) := hide (by have h1 := rep_le l (lst ss 5); have h2 := HL.out.len; have h3 := HC.out.len; omega)
  clear HL
  go_wp2_with fail
  refine (replay21 ao1 n1 c1 m ao3 n2 c3 (lst ss 5) _ HM.out HC.out HOM.out HCO.out (by omega)).mono ?_
  rintro e w4 ⟨ao5, c5, rfl, E4, B4⟩
  replace HX := hide (HX.out.on B4)
  replace HS := hide (HS.out.on B4)
  replace HC := hide (HC.out.on B4)
  replace HB := hide (below_more HB.out B4 HB.out.size)
  have HY := hide E4.sl
  clear B4 E4 HM
  have hxo : Hid (∀ s ∈ rep l (lst ss 5), Eok s) := hide (rep_all (p := Eok) HO.out HCO.out)
  go_wp2_with fail
  refine (replay21 ao4 _ c4 (rep l (lst ss 5)) ao3 n2 c3 (lst ss 5) _ HX.out HC.out hxo.out HCO.out hxl.out).mono ?_
  rintro e w5 ⟨ao6, c6, rfl, E5, B5⟩
  replace HX := hide (HX.out.on B5)
  replace HY := hide (HY.out.on B5)
  replace HS := hide (HS.out.on B5)
  replace HB := hide (below_more HB.out B5 HB.out.size)
  have hag : rep (rep l (lst ss 5)) (lst ss 5) = rep l (lst ss 5) := rep_again (fun z hz => (HO.out z hz).m) (fun d hd => (HCO.out d hd).m)
  have e5 := E5.sl
  rw [hag] at e5 ⊢
  have HZ := hide e5
  clear B5 E5 HC e5 hag
  go_wp2_with fail
  refine (same20 (rep l (lst ss 5)) _ _ ao6 ao4 c6 c4 _ HZ.out HX.out).mono ?_
  rintro e w6 ⟨rfl, B6⟩
  replace HX := hide (HX.out.on B6)
  replace HY := hide (HY.out.on B6)
  replace HS := hide (HS.out.on B6)
  replace HB := hide (below_more HB.out B6 HB.out.size)
  clear B6 HZ
  have hsl := HS.out.len
  have HSL := hide hsl
  have hsc := HS.out.le
  have hsm := HS.out.mx
  unfold maxLen at hsm
  clear hsl
  go_wp2
  go_loopw [12, 13, 14, 15, 16] (fun i _ _ _ _ wr => ∃ k : Nat, k ≤ n2 ∧ i = .int .i64 k ∧ Below w6.heap.size w6 wr) (fun i _ _ _ _ _ => n2 - (intOf i).toNat)
  case atStart => exact ⟨0, Nat.zero_le _, rfl, Below.refl _ _⟩
  case round =>
    obtain ⟨k, hk, rfl, hb⟩ := hrel
    have HR := hide hb
    have HX1 := hide (HX.out.on hb)
    have HY1 := hide (HY.out.on hb)
    clear hb
    by_cases hkn : k < n2
    · obtain ⟨p, hp⟩ : ∃ p, ss[k]? = some p := ⟨_, List.getElem?_eq_getElem (by rw [HSL.out]; exact hkn)⟩
      obtain ⟨b0, o0, rfl, hG, hA⟩ := (HS.out.on HR.out).cell k p hp
      have hmem : (⟨5 + (k : Int) + 1, p.x, p.g⟩ : Ch) ∈ lst ss 5 := List.mem_of_getElem? (lst_get hp)
      have HSM := hide (rep_same (fun z hz => (HO.out z hz).m) (fun z hz => (HOM.out z hz).m) (fun d hd => (HCO.out d hd).m) hmem)
      have HA := hide (stp_ent hA)
      have hA1 := HA.out
      have HGG := hide hG
      have hk2 : (k : Int) < (n2 : Int) := by omega
      have e1 : IntKind.i64.wrap ((k : Int) + 1) = (k : Int) + 1 := IntWalk.i64_in _ (by omega)
      have HPK := hide hp
      clear hp hG hA hmem
      have tk1 : True := trivial
      have tk2 : True := trivial
      have tk3 : True := trivial
      have tk4 : True := trivial
      have tk5 : True := trivial
      have tk6 : True := trivial
      go_wp2_with (first | (have _t := tk1; refine wpl_ent (.tmp 60) rfl hA1 ?_ ?_ ?_; rfl; rfl; clear tk1))
      refine (find23 ao4 _ c4 (rep l (lst ss 5)) p.x _ HX1.out).mono ?_
      rintro e w7 ⟨rfl, B7⟩
      generalize hz1 : lk (rep l (lst ss 5)) p.x.v p.x.m = z1 at *
      generalize hi1 : hs (rep l (lst ss 5)) p.x.v p.x.m = i1 at *
      have HZ1 := hide hz1
      have HI1 := hide hi1
      clear hz1 hi1 hA1
      have R7 := hide (below_more HR.out B7 HR.out.size)
      have N7 := hide (box_e w7 zE)
      clear B7
      go_wp2_with (first | (have _t := tk2; refine wpl_putE z1 zE (.tmp 13) (.tmp 63) rfl N7.out ?_ rfl rfl ?_; rfl; clear tk2))
      intro w8 X8 G8
      have b8 : Below w7.heap.size w7 w8 := below_grown (below_alloc w7 (.cells (EC zE) 36)) G8 (Nat.le_refl _) (by simp)
      have R8 := hide (below_more R7.out b8 R7.out.size)
      have HY8 := hide (HY.out.on R8.out)
      have hA8 := stp_ent (sl_at (HS.out.on R8.out) HPK.out)
      have HX8 := hide X8
      clear X8 G8 b8 N7
      go_wp2_with (first | (have _t := tk3; refine wpl_ent (.tmp 70) rfl hA8 ?_ ?_ ?_; rfl; rfl; clear tk3))
      refine (find23 ao5 _ c5 (rep m (lst ss 5)) p.x _ HY8.out).mono ?_
      rintro e w9 ⟨rfl, B9⟩
      rw [← HSM.out.1, ← HSM.out.2]
      have R9 := hide (below_more R8.out B9 R8.out.size)
      replace HX8 := hide (HX8.out.on B9)
      have N9 := hide (box_e w9 zE)
      have hk78 : Hid (w7.heap.size < w9.heap.size) := hide (by have := HX8.out.lt; exact this)
      clear B9 hA8
      go_wp2_with (first | (have _t := tk4; refine wpl_putE z1 zE (.tmp 15) (.tmp 73) rfl N9.out ?_ rfl rfl ?_; rfl; clear tk4))
      intro w10 X10 G10
      have b10 : Below w9.heap.size w9 w10 := below_grown (below_alloc w9 (.cells (EC zE) 36)) G10 (Nat.le_refl _) (by simp)
      have R10 := hide (below_more R9.out b10 R9.out.size)
      have X8' := (HX8.out.on b10).at_
      have X10' := X10.at_
      have he := fun w => eqEnt z1 z1 w
      rw [(eqE_iff z1 z1).2 rfl] at he
      have hbn : (i1 != i1) = false := by cases i1 <;> rfl
      clear X10 G10 b10 N9
      go_wp2_with (first | (have _t := tk5; refine wpl_ent (.tmp 13) rfl X8' ?_ ?_ ?_; rfl; rfl; clear tk5) | (have _t := tk6; refine wpl_ent (.tmp 15) rfl X10' ?_ ?_ ?_; rfl; rfl; clear tk6))
      go_roundw
      case rel => exact ⟨k + 1, by omega, by go_num, R10.out⟩
      case measure => simp [intOf]; omega
    · have hk2 : ¬ (k : Int) < (n2 : Int) := by omega
      have B9 := hide (below_more HB.out HR.out HB.out.size)
      go_wp2
      go_ret
      exact ⟨rfl, B9.out⟩
set_option maxRecDepth 100000 in
set_option maxHeartbeats 2000000 in
theorem journalTwicelifted (os : Os) (started : os.Started) (H : Type) (enc : TypeId × Value → H) :
    ReturnsInHanded {} Try.checked os 6 .any (Rows.journalTwiceSpec.pre6 enc Try.prog Try.f6 Rows.journalTwiceRow.domain false) (Rows.journalTwiceSpec.post enc Try.prog Try.f6 false true false false) := by
  refine returnsInHanded_of_change (C := Try.checked) own started (by kernel_rfl) Try.func6
    (ChangeSpec.witness6 (enc := enc) (C := Try.checked) false ⟨#[], #[.slice none 0 0, .slice none 0 0, .slice none 0 0], []⟩ 8 (by kernel_rfl) (by kernel_rfl) (by kernel_rfl) (by kernel_rfl)) ?_
  intro W base args ds gs before hval0 hW _ _
  have hval : ∀ (j : Nat) t v, Try.f6.params[j]? = some t → args[j]? = some v → Value.okWide Try.prog W .any base t v := hval0
  have hW' := hW
  obtain ⟨p, q, hA0, hV, rfl, _, _⟩ := hW
  have hA : DataW.TrodAll enc Try.prog W 0 (fun _ => true) true Try.f6.params.toList args.toList ds p := hA0
  rw [Try.params6] at hA hval
  obtain ⟨v0, vs0, d0, ds0, p0, q0, hargs, rfl, rfl, h0, r0⟩ := trodAll_cons hA
  obtain ⟨v1, vs1, d1, ds1, p1, q1, rfl, rfl, rfl, h1, r1⟩ := trodAll_cons r0
  obtain ⟨v2, vs2, d2, ds2, p2, q2, rfl, rfl, rfl, h2, r2⟩ := trodAll_cons r1
  obtain ⟨rfl, rfl, rfl⟩ := trodAll_nil r2
  obtain rfl : args = #[v0, v1, v2] := by cases args; simp_all
  obtain ⟨rfl, rfl⟩ := trodVars_none hV
  have h0k := h0
  obtain ⟨ao0, n0, c0, ss0, rfl, hs0, ho0⟩ := open_ents (hval 0 47 v0 rfl rfl) h0
  have h1k := h1
  obtain ⟨ao1, n1, c1, ss1, rfl, hs1, ho1⟩ := open_ents (hval 1 47 v1 rfl rfl) h1
  have h2k := h2
  obtain ⟨ao2, n2, c2, ss2, rfl, hs2, ho2⟩ := open_sps (hval 2 22 v2 rfl rfl) h2
  clear hA0 hval0
  simp only [List.append_nil] at hW'
  have hlt : ∀ x ∈ p0 ++ p1 ++ p2, x.block < W.heap.size := fun x hx => by simpa using hW'.lt x (by simpa using hx)
  refine (twiceWalk ao0 n0 c0 ss0 ao1 n1 c1 ss1 ao2 n2 c2 ss2 W hs0 ho0 hs1 ho1 hs2 ho2).mono fun e W' ⟨he, hbl⟩ => ?_
  subst he
  exact ⟨_, rfl, _, _, _, [], _, [], hW', (trodAll_cons_mk (shut_bool Try.underlying4 _) trodAll_mk0), (trodAll_cons_mk (Below.trod Try.laidOut (by kernel_rfl) (of_decide_eq_true (by kernel_rfl)) h0k hbl (fun x hx => hlt x (by simp [hx]))) (trodAll_cons_mk (Below.trod Try.laidOut (by kernel_rfl) (of_decide_eq_true (by kernel_rfl)) h1k hbl (fun x hx => hlt x (by simp [hx]))) (trodAll_cons_mk (Below.trod Try.laidOut (by kernel_rfl) (of_decide_eq_true (by kernel_rfl)) h2k hbl (fun x hx => hlt x (by simp [hx]))) trodAll_mk0))), rfl, hbl.frame _, fun h => by cases h⟩

theorem journalTwice_holds : Rows.JournalTwiceSaid :=
  OpenClaim.holds_of_wide 6 Try.f6 rfl rfl rfl rfl rfl rfl rfl ⟨rfl, rfl, rfl, rfl, rfl⟩ rfl rfl rfl rfl rfl (by kernel_rfl) Try.func6 (by kernel_rfl)
    (of_decide_eq_true (by kernel_rfl)) (by unfold Func.isWrapper; first | (rw [if_pos (by decide +kernel)]; kernel_rfl) | (rw [if_neg (by decide +kernel)]; exact ⟨rfl, rfl⟩))
    (fun os started H enc _ => journalTwicelifted os started H enc)

#print axioms journalTwice_holds
end Go.Proofs.Ytjlmheecefobaaa
