/- PickStays: for every list, member and hash the law answers true, and the list reads behind the call as it read before. No condition. -/
import Derived.Test.YtmpojeehjhpkbaaQo
import Derived.Test.YtmpojeehjhpkbaaSt
import Derived.Deep.LoopGhost
namespace Go.Proofs.Ytmpojeehjhpkbaa
open Go.ChangeShapes Go.WideShapes Go.ChangeAt Go.RowKit Go.PlainAid

set_option maxRecDepth 100000 in
set_option maxHeartbeats 4000000 in
theorem staysOut (ao : Option Addr) (n c : Nat) (o : Int) (h : Nat) (w : World) (hn : n = 0 ∨ 500 < n) :
    Calls Try.prog 6 #[.slice ao n c, .int .i64 o, .int .u32 h] w fun e w' => e = .returned (.bool true) ∧ Below w.heap.size w w' := by
  rcases hn with rfl | hn
  · go_enter Try.func6, Try.ntmps6
    go_wp2_with fail
    refine (awakeC _).mono ?_
    rintro e w1 ⟨rfl, B1⟩
    have HB := hide B1
    clear B1
    go_wp2
    go_ret
    exact ⟨rfl, HB.out⟩
  · have h1 : (500 : Int) < (n : Int) := by omega
    have h2 : ¬ (n : Int) = 0 := by omega
    have h3 : ((n : Int) == 0) = false := by simp; omega
    clear hn
    go_enter Try.func6, Try.ntmps6
    go_wp2_with fail
    refine (awakeC _).mono ?_
    rintro e w1 ⟨rfl, B1⟩
    have HB := hide B1
    clear B1
    go_wp2
    go_ret
    exact ⟨rfl, HB.out⟩
set_option maxRecDepth 100000 in
set_option maxHeartbeats 8000000 in
theorem staysIn (ao : Option Addr) (n c : Nat) (l : List Int) (o : Int) (h : Nat) (w : World) (hl : Its w 0 ao n c l) (hh : h < 4294967296) (hn0 : 0 < n) (hn : n ≤ 500) :
    Calls Try.prog 6 #[.slice ao n c, .int .i64 o, .int .u32 h] w fun e w' => e = .returned (.bool true) ∧ Below w.heap.size w w' := by
  have HI := hide hl
  have HH := hide hh
  have HN := hide (And.intro hn0 hn)
  have HLL : Hid (l.length = n) := hide hl.len
  have HBL := hide hl.blk
  have HNE : Hid (l ≠ []) := hide (fun e => by have := hl.len; rw [e] at this; simp at this; omega)
  have hnc := hl.le
  have hcm := hl.mx
  unfold maxLen at hcm
  have g1 : ¬ (500 : Int) < (n : Int) := by omega
  have g2 : ¬ (n : Int) = 0 := by omega
  have g3 : ((n : Int) == 0) = false := by simp; omega
  clear hl hh hn0 hn
  go_enter Try.func6, Try.ntmps6
  go_wp2_with fail
  refine (awakeC _).mono ?_
  rintro e w1 ⟨rfl, B1⟩
  have HB := hide B1
  replace HI := hide (HI.out.on B1)
  clear B1
  go_wp2_with fail
  refine (chooseQ ao n c l h _ HI.out HH.out HN.out.1).mono ?_
  rintro e w2 ⟨rfl, B2⟩
  replace HB := hide (belowOn HB.out B2)
  replace HI := hide (HI.out.on B2)
  clear B2 g1 g2 g3
  obtain ⟨m, hm⟩ : ∃ m, m = chs h l := ⟨_, rfl⟩
  rw [← hm]
  have HM := hide hm
  clear hm
  -- all and one more
  obtain ⟨N, hN⟩ : ∃ N, N = w2.heap.size := ⟨_, rfl⟩
  have HNN := hide hN
  have R0 := irow0 w2 N (by omega)
  have b2 := below_alloc w2 (.cells #[] 3)
  have HS := hide (HI.out.on b2).isr
  have hs1 : Hid (N ≤ (w2.alloc (.cells #[] 3)).heap.size) := hide (by simp; omega)
  have HB2 := hide b2
  have tk1 : True := trivial
  have tk2 : True := trivial
  clear b2 hN
  go_wp2_with (first | (have _t := tk1; at_builtin; refine wpl_iapp rfl (.tmp 37) (.tmp 38) rfl N _ 0 [] rfl R0 ao n c l rfl HS.out (by have := HN.out; omega) hs1.out ?_; clear tk1))
  intro v3 w3 R3 B3
  have B23 : Below N w2 w3 := (HB2.out.mono (by have := HNN.out; omega)).trans B3
  have b4 := below_alloc w3 (.cells #[.int .i64 o] 3)
  have R4 := R3.alloc (.cells #[.int .i64 o] 3)
  have S4 := hide (isr_one w3 o)
  have hz3 : N ≤ w3.heap.size := by have := B23.size; have := HNN.out; omega
  have hs4 : Hid (N ≤ (w3.alloc (.cells #[.int .i64 o] 3)).heap.size) := hide (by simp; omega)
  have HB4 := hide (B23.trans (b4.mono hz3))
  clear R0 HS R3 B3 B23 b4 hz3 hs1 HB2
  go_wp2_with (first | (have _t := tk2; at_builtin; refine wpl_iapp rfl (.tmp 39) (.tmp 41) rfl N v3 n l rfl R4 _ 1 1 [o] rfl S4.out (by have := HN.out; omega) hs4.out ?_; clear tk2))
  intro v5 w5 R5 B5
  have B25 : Below w2.heap.size w2 w5 := (HB4.out.trans B5).mono (by have := HNN.out; omega)
  replace HB := hide (belowOn HB.out B25)
  replace HI := hide (HI.out.on B25)
  obtain ⟨a5, c5, rfl, I5⟩ := its_of_row R5
  have HI5 := hide I5
  clear R4 R5 B5 B25 HB4 hs4 I5 S4
  go_wp2_with fail
  refine (chooseQ a5 (n + 1) c5 (l ++ [o]) h _ HI5.out HH.out (by omega)).mono ?_
  rintro e w6 ⟨rfl, B6⟩
  replace HB := hide (belowOn HB.out B6)
  replace HI := hide (HI.out.on B6)
  clear B6 HI5
  obtain ⟨z, hz⟩ : ∃ z, z = chs h (l ++ [o]) := ⟨_, rfl⟩
  have HZ : Hid (z = m ∨ z = o) := hide (by rw [hz, HM.out]; exact chs_more HNE.out)
  rw [← hz]
  clear hz
  obtain ⟨G, hG⟩ : ∃ G, G = w6.heap.size := ⟨_, rfl⟩
  have HGG := hide hG
  have HWG : Hid (w.heap.size ≤ G) := hide (by rw [hG]; exact HB.out.size)
  clear hG
  go_wp2
  go_loopg [12, 13] n (fun r v i wr => ∃ q : Nat, q ≤ n ∧ r = n - q ∧ i = .int .i64 q ∧ IRow wr G v (oth o (l.take q)).length (oth o (l.take q)) ∧ Below w.heap.size w wr ∧ Its wr 0 ao n c l ∧ G ≤ wr.heap.size)
  case atStart => exact ⟨0, Nat.zero_le _, rfl, rfl, IRow.nil _ _, HB.out, HI.out, by rw [HGG.out]; exact Nat.le_refl _⟩
  case round =>
    obtain ⟨q, hq, hr, rfl, hR, hB, hI, hg⟩ := hrel
    clear HB HI
    have HR := hide hR
    have HB := hide hB
    have HI := hide hI
    have HGR := hide hg
    have HRK := hide hr
    clear hR hB hI hg hr
    by_cases hc : q < n
    · obtain ⟨y, hy⟩ : ∃ y, l[q]? = some y := ⟨_, List.getElem?_eq_getElem (by rw [HLL.out]; exact hc)⟩
      obtain ⟨b, oo, rfl, hcell, -⟩ := HI.out.at HN.out.1
      have cq := hcell q hc
      rw [List.getD_eq_getElem?_getD, hy] at cq
      have HT := hide (oth_take (o := o) hy)
      have hq2 : (q : Int) < (n : Int) := by omega
      have n0 : (0 : Int) ≤ (q : Int) := by omega
      have e1 : IntKind.i64.wrap ((q : Int) + 1) = (q : Int) + 1 := IntWalk.i64_in _ (by have := HN.out; omega)
      have cq2 : wr.cell? ⟨b, oo + q, none⟩ = some (.int .i64 y) := cq
      clear hy hcell cq
      rcases Bool.eq_false_or_eq_true (y != o) with hb | hb
      · have HE : Hid (¬ y = o) := hide (by simpa using hb)
        have R7 := HR.out.alloc (.cells #[.int .i64 y] 3)
        have S7 := hide (isr_one wr y)
        have hs7 : Hid (G ≤ (wr.alloc (.cells #[.int .i64 y] 3)).heap.size) := hide (by have := HGR.out; simp; omega)
        have b7 := hide (below_alloc wr (.cells #[.int .i64 y] 3))
        have tk3 : True := trivial
        go_wp2_with (first | (have _t := tk3; at_builtin; refine wpl_iapp rfl (.tmp 59) (.tmp 64) rfl G u12 _ (oth o (l.take q)) rfl R7 _ 1 1 [y] rfl S7.out (by have := oth_le o l q; have := HN.out; omega) hs7.out ?_; clear tk3))
        intro v8 w8 R8 B8
        have B78 : Below G wr w8 := (b7.out.mono HGR.out).trans B8
        have hx : IRow w8 G v8 (oth o (l.take (q + 1))).length (oth o (l.take (q + 1))) := by
          rw [HT.out, if_neg HE.out, List.length_append]; exact R8
        have HX := hide hx
        have HB8 := hide (HB.out.trans (B78.mono HWG.out))
        have HI8 := hide (HI.out.low (fun b' o' e hn => Nat.lt_of_lt_of_le (HBL.out b' o' e hn) HWG.out) B78)
        have HG8 : Hid (G ≤ w8.heap.size) := hide (Nat.le_trans HGR.out B78.size)
        clear R7 S7 hs7 b7 R8 B8 B78 hx HB HI cq2
        go_wp2
        go_roundg (n - (q + 1))
        case measure => rw [HRK.out]; omega
        case rel => exact ⟨q + 1, by omega, rfl, by go_num, HX.out, HB8.out, HI8.out, HG8.out⟩
      · have HE : Hid (y = o) := hide (by simpa using hb)
        go_wp2
        go_roundg (n - (q + 1))
        case measure => rw [HRK.out]; omega
        case rel => exact ⟨q + 1, by omega, rfl, by go_num, by rw [HT.out, if_pos HE.out]; exact HR.out, HB.out, HI.out, HGR.out⟩
    · obtain rfl : q = n := by omega
      have hq2 : ¬ (q : Int) < (q : Int) := by omega
      rw [List.take_of_length_le (show l.length ≤ q by rw [HLL.out]; exact Nat.le_refl _)] at HR
      obtain ⟨a9, c9, rfl, I9⟩ := its_of_row HR.out
      have HI9 := hide I9
      clear hc hq I9 HR
      by_cases hem : oth o l = []
      · have h0 : (oth o l).length = 0 := by rw [hem]; rfl
        rw [h0]
        have HOM : Hid (o = m) := hide (by
          by_cases e : o = m
          · exact e
          · exact absurd hem (chs_less HNE.out (by rw [← HM.out]; exact e)).1)
        clear h0 hem
        go_wp2_with fail
        refine (chooseQ_none a9 c9 h _).mono ?_
        rintro e w9 ⟨rfl, B9⟩
        replace HB := hide (belowOn HB.out B9)
        have ho := HOM.out
        clear B9
        subst ho
        rcases HZ.out with rfl | rfl
        all_goals
          go_wp2
          go_ret
          exact ⟨ret_bool (by first | rfl | simp), HB.out⟩
      · have h0 : 0 < (oth o l).length := List.length_pos_iff.2 hem
        go_wp2_with fail
        refine (chooseQ a9 _ c9 (oth o l) h _ HI9.out HH.out h0).mono ?_
        rintro e w9 ⟨rfl, B9⟩
        replace HB := hide (belowOn HB.out B9)
        have HK : Hid (o = m ∨ (¬ o = m ∧ chs h (oth o l) = m)) := hide (by
          by_cases e : o = m
          · exact Or.inl e
          · refine Or.inr ⟨e, ?_⟩
            rw [HM.out] at e ⊢
            exact (chs_less HNE.out e).2)
        obtain ⟨y, hy⟩ : ∃ y, y = chs h (oth o l) := ⟨_, rfl⟩
        rw [← hy] at HK
        rw [← hy]
        clear hy B9 hem h0 HI9
        rcases HK.out with rfl | ⟨hom, rfl⟩
        · rcases HZ.out with rfl | rfl
          all_goals
            go_wp2
            go_ret
            exact ⟨ret_bool (by first | rfl | simp), HB.out⟩
        · have f1 : (o == y) = false := by simp [hom]
          rcases HZ.out with rfl | rfl
          · go_wp2
            go_ret
            exact ⟨ret_bool (by first | rfl | simp), HB.out⟩
          · have f2 : (z == y) = false := f1
            go_wp2
            go_ret
            exact ⟨ret_bool (by first | rfl | simp), HB.out⟩
theorem staysWalk (ao : Option Addr) (n c : Nat) (l : List Int) (o : Int) (h : Nat) (w : World) (hl : Its w 0 ao n c l) (hh : h < 4294967296) :
    Calls Try.prog 6 #[.slice ao n c, .int .i64 o, .int .u32 h] w fun e w' => e = .returned (.bool true) ∧ Below w.heap.size w w' := by
  by_cases hn : n = 0 ∨ 500 < n
  · exact staysOut ao n c o h w hn
  · exact staysIn ao n c l o h w hl hh (by omega) (by omega)
set_option maxRecDepth 100000 in
set_option maxHeartbeats 2000000 in
theorem pickStayslifted (os : Os) (started : os.Started) (H : Type) (enc : TypeId × Value → H) :
    ReturnsInHanded {} Try.checked os 6 .any (Rows.pickStaysSpec.pre6 enc Try.prog Try.f6 Rows.pickStaysRow.domain false) (Rows.pickStaysSpec.post enc Try.prog Try.f6 false true false false) := by
  refine returnsInHanded_of_change (C := Try.checked) own started (by kernel_rfl) Try.func6
    (ChangeSpec.witness6 (enc := enc) (C := Try.checked) false ⟨#[], #[.slice none 0 0, .int .i64 0, .int .u32 0], []⟩ 8 (by kernel_rfl) (by kernel_rfl) (by kernel_rfl) (by kernel_rfl)) ?_
  intro W base args ds gs before hval0 hW _ _
  have hval : ∀ (j : Nat) t v, Try.f6.params[j]? = some t → args[j]? = some v → Value.okWide Try.prog W .any base t v := hval0
  have hW' := hW
  obtain ⟨p, q, hA0, hV, rfl, _, _⟩ := hW
  have hA : DataW.TrodAll enc Try.prog W 0 (fun _ => true) true Try.f6.params.toList args.toList ds p := hA0
  rw [Try.params6] at hA hval
  obtain ⟨v0, vs0, d0, ds0, p0, q0, hargs, rfl, rfl, h0, r0⟩ := trodAll_cons hA
  obtain ⟨v1, vs1, d1, ds1, p1, q1, rfl, rfl, rfl, h1, r1⟩ := trodAll_cons r0
  obtain ⟨v2, vs2, d2, ds2, p2, q2, rfl, rfl, rfl, h2, r2⟩ := trodAll_cons r1
  obtain ⟨rfl, rfl, rfl⟩ := trodAll_nil r2
  obtain rfl : args = #[v0, v1, v2] := by cases args; simp_all
  obtain ⟨rfl, rfl⟩ := trodVars_none hV
  have h0k := h0
  obtain ⟨ao0, n0, c0, ss0, rfl, hs0⟩ := open_list (hval 0 32 v0 rfl rfl) h0
  have h1k := h1
  obtain ⟨x1, rfl⟩ := open_num (hval 1 3 v1 rfl rfl) h1
  have h2k := h2
  obtain ⟨x2, rfl, hx2⟩ := open_hash (hval 2 27 v2 rfl rfl) h2
  clear hA0 hval0
  simp only [List.append_nil] at hW'
  have hlt : ∀ x ∈ p0 ++ p1 ++ p2, x.block < W.heap.size := fun x hx => by simpa using hW'.lt x (by simpa using hx)
  refine (staysWalk ao0 n0 c0 ss0 x1 x2 W hs0 hx2).mono fun e W' ⟨he, hbl⟩ => ?_
  subst he
  exact ⟨_, rfl, _, _, _, [], _, [], hW', (trodAll_cons_mk (shut_bool Try.underlying4 _) trodAll_mk0), (trodAll_cons_mk (Below.trod Try.laidOut (by kernel_rfl) (of_decide_eq_true (by kernel_rfl)) h0k hbl (fun x hx => hlt x (by simp [hx]))) (trodAll_cons_mk (Below.trod Try.laidOut (by kernel_rfl) (of_decide_eq_true (by kernel_rfl)) h1k hbl (fun x hx => hlt x (by simp [hx]))) (trodAll_cons_mk (Below.trod Try.laidOut (by kernel_rfl) (of_decide_eq_true (by kernel_rfl)) h2k hbl (fun x hx => hlt x (by simp [hx]))) trodAll_mk0))), rfl, hbl.frame _, fun h => by cases h⟩

theorem pickStays_holds : Rows.PickStaysSaid :=
  OpenClaim.holds_of_wide 6 Try.f6 rfl rfl rfl rfl rfl rfl rfl ⟨rfl, rfl, rfl, rfl, rfl⟩ rfl rfl rfl rfl rfl (by kernel_rfl) Try.func6 (by kernel_rfl)
    (of_decide_eq_true (by kernel_rfl)) (by unfold Func.isWrapper; first | (rw [if_pos (by decide +kernel)]; kernel_rfl) | (rw [if_neg (by decide +kernel)]; exact ⟨rfl, rfl⟩))
    (fun os started H enc _ => pickStayslifted os started H enc)

#print axioms pickStays_holds
end Go.Proofs.Ytmpojeehjhpkbaa
