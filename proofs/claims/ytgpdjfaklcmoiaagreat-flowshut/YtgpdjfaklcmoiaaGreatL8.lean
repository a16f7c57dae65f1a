/- FlowShut: for all steps, any step and any state the law answers true, and the arguments read behind the call as they read before. No condition. -/
import Derived.Test.YtgpdjfaklcmoiaaGreatLr
import Derived.Test.YtgpdjfaklcmoiaaGreatM12
import Derived.Test.YtgpdjfaklcmoiaaGreatM15
import Derived.BigQuiet
namespace Go.Proofs.YtgpdjfaklcmoiaaGreat
open Go.ChangeShapes Go.WideShapes Go.ChangeAt Go.RowKit Go.PlainAid

/-- What the law's loop leaves: a bridge whose port is shut. -/
structure Shu (w wr : World) (P : PAd) (B : Br) (k : Nat) (s : Stp) (st : Int) : Prop where
  p : PB wr P B
  x : Box wr w.heap.size (stc s)
  g : Stq wr s
  b : Below w.heap.size w wr
  cb : Cb (85 + k) B
  st : sta B s.p = st
theorem Shu.on {w wr w1 : World} {P : PAd} {B : Br} {k : Nat} {s : Stp} {st : Int} (h : Shu w wr P B k s st) (hb : Below wr.heap.size wr w1) : Shu w w1 P B k s st :=
  ⟨h.p.on hb, h.x.on hb, h.g.on hb, belowOn h.b hb, h.cb, h.st⟩
theorem Shu.more {w wr : World} {P : PAd} {B : Br} {k j : Nat} {s : Stp} {st : Int} (h : Shu w wr P B k s st) (hk : k ≤ j) : Shu w wr P B j s st :=
  ⟨h.p, h.x, h.g, h.b, h.cb.mono (by omega), h.st⟩
set_option maxRecDepth 100000 in
set_option maxHeartbeats 8000000 in
theorem flowShutWalk (ao : Option Addr) (n c : Nat) (xs : List Stp) (s : Stp) (st : Int) (w : World) (H : StsI w ao n c xs) (G : Stq w s) (_ : I64 st) :
    Calls Tryz.prog 8 #[.slice ao n c, .agg (stc s).toArray, .int .i64 st] w fun e w' => e = .returned (.bool true) ∧ Below w.heap.size w w' := by
  have b0 := below_alloc w (.cells (SPC s) 40)
  have HX := hide (show Box (w.alloc (.cells (SPC s) 40)) w.heap.size (stc s) from Box.new w (stc s) 40)
  have HB := hide b0
  have HS := hide (H.on b0)
  have HG := hide (G.on b0)
  have hsz := World.size_alloc w (.cells (SPC s) 40)
  have HZ : Hid (w.heap.size + 1 ≤ (w.alloc (.cells (SPC s) 40)).heap.size) := hide (by rw [hsz]; exact Nat.le_refl _)
  have HYL : Hid (∀ b o, s.a = some ⟨b, o, none⟩ → 0 < s.k → b < w.heap.size) := hide G.byt.lt
  clear b0 H G hsz
  go_enter Tryz.func8, Tryz.ntmps8
  go_wp2_with fail
  refine (awakeQ _).mono ?_
  rintro e w1 ⟨rfl, bb⟩
  replace HX := hide (HX.out.on bb)
  replace HS := hide (HS.out.on bb)
  replace HG := hide (HG.out.on bb)
  replace HB := hide (belowOn HB.out bb)
  replace HZ := hide (Nat.le_trans HZ.out bb.size)
  clear bb
  go_wp2_with fail
  refine (fewR ao n c xs _ HS.out.s).mono ?_
  rintro e w2 ⟨rfl, hw⟩
  obtain rfl : w1 = w2 := hw.symm
  go_wp2_with fail
  refine (madeQ ao n c xs _ HS.out).mono ?_
  rintro e w3 ⟨P, rfl, hP, hlo, bb⟩
  have HP := hide hP
  have HLO : Hid (w.heap.size + 1 ≤ P.lo) := hide (Nat.le_trans HZ.out hlo)
  replace HX := hide (HX.out.on bb)
  replace HS := hide (HS.out.on bb)
  replace HG := hide (HG.out.on bb)
  replace HB := hide (belowOn HB.out bb)
  have HW13 := hide bb.size
  clear hP hlo
  have c21 := HX.out.cell 21 _ rfl
  rcases Bool.eq_false_or_eq_true (fewB xs) with hf | hf
  rotate_left
  · rw [hf]
    go_wp2
    go_ret
    exact ⟨rfl, HB.out⟩
  rw [hf]
  clear hf
  by_cases hk : s.k ≤ 2000
  rotate_left
  · have hk2 : (2000 : Int) < (s.k : Int) := by omega
    go_wp2
    go_ret
    exact ⟨rfl, HB.out⟩
  have hk2 : ¬ (2000 : Int) < (s.k : Int) := by omega
  clear hk
  have c1 := HX.out.cell 1 _ rfl
  by_cases p1 : s.p < 1
  · go_wp2
    go_ret
    exact ⟨rfl, HB.out⟩
  by_cases p2 : 4 < s.p
  · go_wp2
    go_ret
    exact ⟨rfl, HB.out⟩
  by_cases p3 : st < 0
  · go_wp2
    go_ret
    exact ⟨rfl, HB.out⟩
  by_cases p4 : 1 < st
  · go_wp2
    go_ret
    exact ⟨rfl, HB.out⟩
  go_wp2_with fail
  refine (setQ P (mkB xs) s.p st _ HP.out).mono ?_
  rintro e w4 ⟨rfl, hP1, hM⟩
  have hlt := HP.out.lt
  have hpp : hasP (mkB xs).n s.p = true := (hasP_iff _ _).2 (by rw [mkB_n]; omega)
  have hss : isS st = true := (isS_iff _).2 (by omega)
  have he : eSet (mkB xs) s.p st = 0 := by unfold eSet; rw [hpp, hss]; rfl
  have HST : Hid (sta (tSet (mkB xs) s.p st) s.p = st) := hide (tSet_sta HP.out.wf hpp hss)
  have HS01 : Hid (st = 0 ∨ st = 1) := hide (by omega)
  rw [he]
  replace HB := hide (HB.out.trans (hM.below (N := P.lo) (by omega) |>.mono (show w.heap.size ≤ P.lo by have := HLO.out; omega)))
  replace HX := hide (HX.out.block (hM.block _ HX.out.lt (Or.inl (by have := HLO.out; omega))))
  replace HG : Hid (Stq w4 s) := hide ⟨byt_keep HG.out.byt (fun b o _ e hp hc => hM.block b (World.block_lt_of_cell? _ _ hc) (Or.inl (by have := HYL.out b o e hp; have := HLO.out; omega))), HG.out.md, HG.out.ms, HG.out.vi⟩
  replace HP := hide hP1
  clear hP1 hM hlt hpp hss he p1 p2 p3 p4 c1 HS HW13
  have HCB := hide (tSet_cb (mkB_cb xs) s.p st)
  generalize tSet (mkB xs) s.p st = B0 at *
  have HW0 := hide HP.out.wf
  have c1 := HX.out.cell 1 _ rfl
  have c22 := HX.out.cell 22 _ rfl
  have hq1 := fun z (h : PB z P B0) (y : Byt z s.a s.k s.c s.f.bs) => takeQ P B0 s.p s.f s.a s.k s.c s.t z h y HG.out.md HG.out.ms (cb_ok HCB.out (by omega)).1 (cb_ok HCB.out (by omega)).2.1 (fun b o e hp => Or.inl (by have := HYL.out b o e hp; have := HLO.out; omega))
  unfold WyQ at hq1
  obtain ⟨T, hT⟩ : ∃ T, T = tk B0 s.p s.f s.t := ⟨_, rfl⟩
  have HVI : Hid (I64 T.1.v) := hide (by rw [hT]; exact tk_i64 HW0.out _ _ _)
  rw [← hT] at hq1
  have HT := hide hT
  clear hT
  obtain ⟨⟨C, V, TT, oo⟩, B1⟩ := T
  dsimp only at *
  have HQ1 := hide hq1
  clear hq1
  have tk1 : True := trivial
  go_wp2_with (first | (have _t := tk1; refine wpl_sf (.tmp 71) rfl HX.out ?_ ?_ ?_; rfl; rfl; clear tk1))
  refine (HQ1.out _ HP.out HG.out.byt).mono ?_
  rintro e z1 ⟨ao, ys, cc, rfl, hO, hm, hP1, hM, hown⟩
  have hsi := shut_in HT.out (by rw [HST.out]; exact HS01.out)
  obtain ⟨rfl, hC1, hC8, hC0⟩ := hsi
  obtain rfl : ys = [] := by simpa using hm
  rw [List.length_nil]
  have hlt := HP.out.lt
  replace HB := hide (HB.out.trans (hM.below (N := P.lo) (by omega) |>.mono (show w.heap.size ≤ P.lo by have := HLO.out; omega)))
  replace HX := hide (HX.out.block (hM.block _ HX.out.lt (Or.inl (by have := HLO.out; omega))))
  replace HG : Hid (Stq z1 s) := hide ⟨byt_keep HG.out.byt (fun b o _ e hp hc => hM.block b (World.block_lt_of_cell? _ _ hc) (Or.inl (by have := HYL.out b o e hp; have := HLO.out; omega))), HG.out.md, HG.out.ms, HG.out.vi⟩
  replace HP := hide hP1
  have HO := hide hO
  have HM := hide hm
  have bz := below_alloc z1 (.cells (wcl 0 0 0 (.slice none 0 0)).toArray 50)
  have K0 := Box.new z1 (wcl 0 0 0 (.slice none 0 0)) 50
  have HBZ := hide bz
  have HK0 := hide K0
  clear hO hm hP1 hM hown hlt bz K0 HQ1 c1 c22 c21
  have tk2 : True := trivial
  go_upto_region 8 with (first | (have _t := tk2; refine wpl_putW C V TT ao 0 cc _ (.tmp 12) (.tmp 75) rfl HK0.out rfl ?_ ?_ ?_ ?_; rfl; rfl; rfl; clear tk2; intro z9 K9 G9; have HK9 := hide K9; have HB9 := hide (below_grown HBZ.out G9 (Nat.le_refl _) HBZ.out.size); clear K9 G9))
  replace HP := hide (HP.out.on HB9.out)
  replace HX := hide (HX.out.on HB9.out)
  replace HG := hide (HG.out.on HB9.out)
  replace HO := hide (HO.out.on HB9.out)
  replace HB := hide (belowOn HB.out HB9.out)
  obtain ⟨k9, hk9⟩ : ∃ k9, k9 = z1.heap.size := ⟨_, rfl⟩
  rw [← hk9] at HK9
  try rw [← hk9]
  clear hk9 HBZ HK0 HB9
  have hsp := shut_plain (p := s.p) HP.out.wf HT.out (by rw [HST.out]; have := HS01.out; omega)
  have hc85 : Cb 85 B1 := by have h1 := tk_cb HCB.out s.p s.f s.t; rw [← HT.out] at h1; exact h1
  have HSH := hide (show Shu w _ P B1 0 s st from ⟨HP.out, HX.out, HG.out, HB.out, hc85, by rw [hsp.1, HST.out]⟩)
  have HC0 := hide hC0
  have HC1 : Hid ((C == 0) = false) := hide (by simp; omega)
  clear hC1 hC8 hC0 hsp hc85 HM HO HVI HT HCB HW0 HZ HX HG HB HP
  have cw := HK9.out.cell 0 _ rfl
  have co := HK9.out.cell 3 _ rfl
  clear HK9
  try dsimp only [Act.put]
  go_cut [76, 77, 78, 79, 80, 81, 82, 83, 84, 85, 86, 87, 88, 89, 90, 91, 92, 93, 94, 95, 96, 97, 98, 99, 100, 101, 102, 103, 104, 105, 106, 107] from 108 (fun _ _ _ _ _ _ _ _ _ _ _ _ _ _ _ _ _ _ _ _ _ _ _ _ _ _ _ _ _ _ _ s107 w' => s107 = .bool false ∧ Below z9.heap.size z9 w')
  case first =>
    rcases HS01.out with h | h
    · have g0 : (st == 0) = true := by simpa using h
      have hC := HC0.out (by rw [HST.out]; exact h)
      clear h
      rcases hC with rfl | rfl | rfl
      all_goals
        go_wp2
        go_meet
        case rel => exact ⟨rfl, Below.refl _ _⟩
    · have g0 : (st == 0) = false := by rw [h]; rfl
      clear h
      have h1 := HC1.out
      go_wp2
      go_meet
      case rel => exact ⟨rfl, Below.refl _ _⟩
  case rest =>
  obtain ⟨rfl, bb⟩ := hcut
  replace HSH := hide (HSH.out.on bb)
  clear bb cw co HC0 HC1 HST
  go_wp2_with fail
  go_loopg [13, 14, 15] 4 (fun r i _ _ wr => ∃ (k : Nat) (Bk : Br), k ≤ 4 ∧ r = 4 - k ∧ i = .int .i64 ((k + 1 : Nat) : Int) ∧ Shu w wr P Bk k s st)
  case atStart => exact ⟨0, B1, Nat.zero_le _, rfl, rfl, HSH.out⟩
  case round =>
    obtain ⟨k, Bk, hk, hr, rfl, hsh⟩ := hrel
    replace HSH := hide hsh
    have HRK := hide hr
    clear hr hsh
    by_cases hc : k < 4
    · obtain ⟨p, hp⟩ : ∃ p : Int, p = ((k + 1 : Nat) : Int) := ⟨_, rfl⟩
      have hle : p ≤ 4 := by omega
      have e1 : IntKind.i64.wrap (p + 1) = p + 1 := IntWalk.i64_in _ (by omega)
      have HPK := hide hp
      rw [← hp]
      clear hp
      have c1 := HSH.out.x.cell 1 _ rfl
      rcases Bool.eq_false_or_eq_true (p == s.p) with hps | hps
      · go_wp2
        go_roundg (4 - (k + 1))
        case measure => rw [HRK.out]; omega
        case rel => exact ⟨k + 1, Bk, by omega, rfl, by rw [HPK.out]; go_num, HSH.out.more (by omega)⟩
      · have c22 := HSH.out.x.cell 22 _ rfl
        have hq1 := fun z (h : PB z P Bk) (y : Byt z s.a s.k s.c s.f.bs) => takeQ P Bk p s.f s.a s.k s.c s.t z h y HSH.out.g.md HSH.out.g.ms (cb_ok HSH.out.cb (by omega)).1 (cb_ok HSH.out.cb (by omega)).2.1 (fun b o e hp => Or.inl (by have := HYL.out b o e hp; have := HLO.out; omega))
        unfold WyQ at hq1
        have HCT := hide (tk_cb HSH.out.cb p s.f s.t)
        have HST : Hid (sta Bk s.p ≠ 2) := hide (by rw [HSH.out.st]; have := HS01.out; omega)
        obtain ⟨T, hT⟩ : ∃ T, T = tk Bk p s.f s.t := ⟨_, rfl⟩
        rw [← hT] at hq1 HCT
        have HT := hide hT
        clear hT
        obtain ⟨⟨C2, V2, TT2, oo2⟩, B2⟩ := T
        dsimp only at *
        have HQ2 := hide hq1
        clear hq1
        have tk3 : True := trivial
        go_wp2_with (first | (have _t := tk3; refine wpl_sf (.tmp 118) rfl HSH.out.x ?_ ?_ ?_; rfl; rfl; clear tk3))
        refine (HQ2.out _ HSH.out.p HSH.out.g.byt).mono ?_
        rintro e z1 ⟨ao2, ys2, cc2, rfl, hO, hm, hP1, hM, hown⟩
        have hlt := HSH.out.p.lt
        have hsp := shut_plain (p := s.p) hP1.wf HT.out HST.out
        have hS1 : Shu w z1 P B2 (k + 1) s st := ⟨hP1, HSH.out.x.block (hM.block _ HSH.out.x.lt (Or.inl (by have := HLO.out; omega))), ⟨byt_keep HSH.out.g.byt (fun b o _ e hp hc => hM.block b (World.block_lt_of_cell? _ _ hc) (Or.inl (by have := HYL.out b o e hp; have := HLO.out; omega))), HSH.out.g.md, HSH.out.g.ms, HSH.out.g.vi⟩, HSH.out.b.trans (hM.below (N := P.lo) (by omega) |>.mono (show w.heap.size ≤ P.lo by have := HLO.out; omega)), HCT.out, by rw [hsp.1, HSH.out.st]⟩
        have HNE := hide hsp.2
        replace HSH := hide hS1
        have HO := hide hO
        have HM := hide hm
        have bz := below_alloc z1 (.cells (wcl 0 0 0 (.slice none 0 0)).toArray 50)
        have K0 := Box.new z1 (wcl 0 0 0 (.slice none 0 0)) 50
        have HBZ := hide bz
        have HK0 := hide K0
        clear hO hm hP1 hM hown hlt hsp hS1 bz K0 HQ2 c1 c22 HT HCT HST
        have tk4 : True := trivial
        go_wp2_with (first | (have _t := tk4; refine wpl_putW C2 V2 TT2 ao2 ys2.length cc2 _ (.tmp 14) (.tmp 122) rfl HK0.out rfl ?_ ?_ ?_ ?_; rfl; rfl; rfl; clear tk4; intro z7 K9 G9; have HK14 := hide K9; have HB14 := hide (below_grown HBZ.out G9 (Nat.le_refl _) HBZ.out.size); clear K9 G9))
        replace HSH := hide (HSH.out.on HB14.out)
        replace HO := hide (HO.out.on HB14.out)
        obtain ⟨k14, hk14⟩ : ∃ k14, k14 = z1.heap.size := ⟨_, rfl⟩
        rw [← hk14] at HK14
        try rw [← hk14]
        clear hk14 HBZ HK0 HB14
        have HL : Hid (ys2.length ≤ 9223372036854775807) := hide (by have h1 := HO.out.le; have h2 := HO.out.mx; unfold maxLen at h2; omega)
        go_loopg [15] ys2.length (fun r i wr => ∃ j : Nat, j ≤ ys2.length ∧ r = ys2.length - j ∧ i = .int .i64 j ∧ Shu w wr P B2 (k + 1) s st ∧ Box wr k14 (wcl C2 V2 TT2 (.slice ao2 ys2.length cc2)) ∧ Ots wr ao2 ys2.length cc2 ys2)
        case atStart => exact ⟨0, Nat.zero_le _, rfl, rfl, HSH.out, HK14.out, HO.out⟩
        case round =>
          obtain ⟨j, hj, hr, rfl, hsh, hkk, ho⟩ := hrel
          replace HSH := hide hsh
          replace HK14 := hide hkk
          replace HO := hide ho
          have HRJ := hide hr
          clear hr hsh hkk ho
          have co := HK14.out.cell 3 _ rfl
          by_cases hd : j < ys2.length
          · obtain ⟨y, hy⟩ : ∃ y, ys2[j]? = some y := ⟨_, List.getElem?_eq_getElem hd⟩
            obtain ⟨b, o, rfl, hra⟩ := HO.out.at_ j y hy
            have cp := ocl_port hra
            have c1 := HSH.out.x.cell 1 _ rfl
            have j1 : (0 : Int) ≤ (j : Int) := by omega
            have j2 : (j : Int) < (ys2.length : Int) := by omega
            have j3 : IntKind.i64.wrap ((j : Int) + 1) = (j : Int) + 1 := IntWalk.i64_in _ (by have := HL.out; omega)
            have j4 : (y.o.p == s.p) = false := by simpa using HNE.out y.o (by rw [← HM.out]; exact List.mem_map.2 ⟨y, List.mem_of_getElem? hy, rfl⟩)
            clear hy hra
            go_upto_region 18 with fail
            go_quiet (fail)
            go_wp2
            go_roundg (ys2.length - (j + 1))
            case measure => rw [HRJ.out]; omega
            case rel => exact ⟨j + 1, by omega, rfl, by go_num, HSH.out.on ⟨rfl, rfl, rfl, Nat.le_refl _, fun _ _ => rfl⟩, HK14.out.on ⟨rfl, rfl, rfl, Nat.le_refl _, fun _ _ => rfl⟩, HO.out.on ⟨rfl, rfl, rfl, Nat.le_refl _, fun _ _ => rfl⟩⟩
          · have j2 : ¬ (j : Int) < (ys2.length : Int) := by omega
            go_wp2
            go_roundg (4 - (k + 1))
            case measure => rw [HRK.out]; omega
            case rel => exact ⟨k + 1, B2, by omega, rfl, by rw [HPK.out]; go_num, HSH.out⟩
    · obtain rfl : k = 4 := by omega
      have c1 := HSH.out.x.cell 1 _ rfl
      go_wp2_with fail
      refine (stateQ P Bk _ _ HSH.out.p).mono ?_
      rintro e w' ⟨rfl, hw⟩
      obtain rfl : _ = w' := hw.symm
      rw [HSH.out.st]
      have h1 : (st == st) = true := by simp
      go_wp2
      go_ret
      exact ⟨rfl, HSH.out.b⟩
set_option maxRecDepth 100000 in
set_option maxHeartbeats 2000000 in
theorem flowShutlifted (os : Os) (started : os.Started) (H : Type) (enc : TypeId × Value → H) :
    ReturnsInHanded {} Tryz.checked os 8 .any (Rows.flowShutSpec.pre6 enc Tryz.prog Tryz.f8 Rows.flowShutRow.domain false) (Rows.flowShutSpec.post enc Tryz.prog Tryz.f8 false true false false) := by
  refine returnsInHanded_of_change (C := Tryz.checked) own started (by kernel_rfl) Tryz.func8
    (ChangeSpec.witness6 (enc := enc) (C := Tryz.checked) false ⟨#[], #[.slice none 0 0, .agg #[.int .i64 0, .int .i64 0, .int .i64 0, .int .i64 0, .bool false, .int .u8 0, .int .u8 0, .int .u8 0, .int .u8 0, .int .u8 0, .int .u8 0, .int .u8 0, .int .u8 0, .int .u8 0, .int .u8 0, .int .u8 0, .int .u8 0, .bool false, .int .i64 0, .int .i64 0, .int .i64 0, .slice none 0 0, .int .i64 0], .int .i64 0], []⟩ 8 (by kernel_rfl) (by kernel_rfl) (by kernel_rfl) (by kernel_rfl)) ?_
  intro W base args ds gs before hval0 hW _ _
  have hval : ∀ (j : Nat) t v, Tryz.f8.params[j]? = some t → args[j]? = some v → Value.okWide Tryz.prog W .any base t v := hval0
  have hW' := hW
  obtain ⟨p, q, hA0, hV, rfl, _, _⟩ := hW
  have hA : DataW.TrodAll enc Tryz.prog W 0 (fun _ => true) true Tryz.f8.params.toList args.toList ds p := hA0
  rw [Tryz.params8] at hA hval
  obtain ⟨v0, vs0, d0, ds0, p0, q0, hargs, rfl, rfl, h0, r0⟩ := trodAll_cons hA
  obtain ⟨v1, vs1, d1, ds1, p1, q1, rfl, rfl, rfl, h1, r1⟩ := trodAll_cons r0
  obtain ⟨v2, vs2, d2, ds2, p2, q2, rfl, rfl, rfl, h2, r2⟩ := trodAll_cons r1
  obtain ⟨rfl, rfl, rfl⟩ := trodAll_nil r2
  obtain rfl : args = #[v0, v1, v2] := by cases args; simp_all
  obtain ⟨rfl, rfl⟩ := trodVars_none hV
  have h0k := h0
  obtain ⟨ao0, n0, c0, ss0, rfl, hs0⟩ := open_steps (hval 0 23 v0 rfl rfl) h0
  have h1k := h1
  obtain ⟨s1, rfl, hp1⟩ := open_step (hval 1 40 v1 rfl rfl) h1
  have h2k := h2
  obtain ⟨x2, rfl, hx2⟩ := open_num (hval 2 3 v2 rfl rfl) h2
  clear hA0 hval0
  simp only [List.append_nil] at hW'
  have hlt : ∀ x ∈ p0 ++ p1 ++ p2, x.block < W.heap.size := fun x hx => by simpa using hW'.lt x (by simpa using hx)
  refine (flowShutWalk ao0 n0 c0 ss0 s1 x2 W hs0 hp1 hx2).mono fun e W' ⟨he, hbl⟩ => ?_
  subst he
  exact ⟨_, rfl, _, _, _, [], _, [], hW', (trodAll_cons_mk (shut_bool Tryz.underlying4 _) trodAll_mk0), (trodAll_cons_mk (Below.trod Tryz.laidOut (by kernel_rfl) (of_decide_eq_true (by kernel_rfl)) h0k hbl (fun x hx => hlt x (by simp [hx]))) (trodAll_cons_mk (Below.trod Tryz.laidOut (by kernel_rfl) (of_decide_eq_true (by kernel_rfl)) h1k hbl (fun x hx => hlt x (by simp [hx]))) (trodAll_cons_mk (Below.trod Tryz.laidOut (by kernel_rfl) (of_decide_eq_true (by kernel_rfl)) h2k hbl (fun x hx => hlt x (by simp [hx]))) trodAll_mk0))), rfl, hbl.frame _, fun h => by cases h⟩

theorem flowShut_holds : Rows.FlowShutSaid :=
  OpenClaim.holds_of_wide 8 Tryz.f8 rfl rfl rfl rfl rfl rfl rfl ⟨rfl, rfl, rfl, rfl, rfl⟩ rfl rfl rfl rfl rfl (by kernel_rfl) Tryz.func8 (by kernel_rfl)
    (of_decide_eq_true (by kernel_rfl)) (by unfold Func.isWrapper; first | (rw [if_pos (by decide +kernel)]; kernel_rfl) | (rw [if_neg (by decide +kernel)]; exact ⟨rfl, rfl⟩))
    (fun os started H enc _ => flowShutlifted os started H enc)

#print axioms flowShut_holds
end Go.Proofs.YtgpdjfaklcmoiaaGreat
