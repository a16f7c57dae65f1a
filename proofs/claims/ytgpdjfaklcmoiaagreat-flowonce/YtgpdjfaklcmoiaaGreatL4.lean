/- FlowOnce: for all steps and any step the law answers true, and the arguments read behind the call as they read before. No condition. -/
import Derived.Test.YtgpdjfaklcmoiaaGreatLr
import Derived.Test.YtgpdjfaklcmoiaaGreatM12
import Derived.Test.YtgpdjfaklcmoiaaGreatM15
namespace Go.Proofs.YtgpdjfaklcmoiaaGreat
open Go.ChangeShapes Go.WideShapes Go.ChangeAt Go.RowKit Go.PlainAid

/-- What the law's loops leave as it is. -/
structure Onc (w wr : World) (P : PAd) (B : Br) (s : Stp) (k9 : Nat) (C V TT : Int) (ao : Option Addr) (cc : Nat) (ys : List Ow) (AI : Nat) (am : Option Addr) (cm : Nat) (ms : List Int) : Prop where
  p : PB wr P B
  x : Box wr w.heap.size (stc s)
  k : Box wr k9 (wcl C V TT (.slice ao ys.length cc))
  o : Ots wr ao ys.length cc ys
  i : Its wr AI am ms.length cm ms
  b : Below w.heap.size w wr
set_option maxRecDepth 100000 in
set_option maxHeartbeats 8000000 in
theorem flowOnceWalk (ao : Option Addr) (n c : Nat) (xs : List Stp) (s : Stp) (w : World) (H : StsI w ao n c xs) (G : Stq w s) :
    Calls Tryz.prog 4 #[.slice ao n c, .agg (stc s).toArray] w fun e w' => e = .returned (.bool true) ∧ Below w.heap.size w w' := by
  have b0 := below_alloc w (.cells (SPC s) 40)
  have HX := hide (show Box (w.alloc (.cells (SPC s) 40)) w.heap.size (stc s) from Box.new w (stc s) 40)
  have HB := hide b0
  have HS := hide (H.on b0)
  have HG := hide (G.on b0)
  have hsz := World.size_alloc w (.cells (SPC s) 40)
  have HZ : Hid (w.heap.size + 1 ≤ (w.alloc (.cells (SPC s) 40)).heap.size) := hide (by rw [hsz]; exact Nat.le_refl _)
  have HYL : Hid (∀ b o, s.a = some ⟨b, o, none⟩ → 0 < s.k → b < w.heap.size) := hide G.byt.lt
  clear b0 H G hsz
  go_enter Tryz.func4, Tryz.ntmps4
  go_wp2_with fail
  refine (awakeQ _).mono ?_
  rintro e w1 ⟨rfl, bb⟩
  replace HX := hide (HX.out.on bb)
  replace HS := hide (HS.out.on bb)
  replace HG := hide (HG.out.on bb)
  replace HB := hide (belowOn HB.out bb)
  replace HZ := hide (Nat.le_trans HZ.out bb.size)
  clear bb
  go_wp2_with fail
  refine (fewR ao n c xs _ HS.out.s).mono ?_
  rintro e w2 ⟨rfl, hw⟩
  obtain rfl : w1 = w2 := hw.symm
  go_wp2_with fail
  refine (madeQ ao n c xs _ HS.out).mono ?_
  rintro e w3 ⟨P, rfl, hP, hlo, bb⟩
  have HP := hide hP
  have HLO : Hid (w.heap.size + 1 ≤ P.lo) := hide (Nat.le_trans HZ.out hlo)
  replace HX := hide (HX.out.on bb)
  replace HS := hide (HS.out.on bb)
  replace HG := hide (HG.out.on bb)
  replace HB := hide (belowOn HB.out bb)
  have HW13 := hide bb.size
  clear hP hlo
  have c21 := HX.out.cell 21 _ rfl
  rcases Bool.eq_false_or_eq_true (fewB xs) with hf | hf
  rotate_left
  · rw [hf]
    go_wp2
    go_ret
    exact ⟨rfl, HB.out⟩
  rw [hf]
  clear hf
  by_cases hk : s.k ≤ 2000
  rotate_left
  · have hk2 : (2000 : Int) < (s.k : Int) := by omega
    go_wp2
    go_ret
    exact ⟨rfl, HB.out⟩
  have hk2 : ¬ (2000 : Int) < (s.k : Int) := by omega
  clear hk
  go_wp2_with fail
  refine (countsQ P (mkB xs) _ HP.out).mono ?_
  rintro e w4 ⟨rfl, bb⟩
  replace HP := hide (HP.out.on bb)
  replace HX := hide (HX.out.on bb)
  replace HG := hide (HG.out.on bb)
  replace HB := hide (belowOn HB.out bb)
  clear bb c21
  go_wp2_with fail
  refine (sumR (mkB xs).ct HP.out.wf.cl (fun y hy => by have := HP.out.wf.cs y hy; omega) _).mono ?_
  rintro e w5 ⟨rfl, bb⟩
  replace HP := hide (HP.out.on bb)
  replace HX := hide (HX.out.on bb)
  replace HG := hide (HG.out.on bb)
  replace HB := hide (belowOn HB.out bb)
  clear bb
  have c21 := HX.out.cell 21 _ rfl
  have HCB := hide (mkB_cb xs)
  have HFN := hide (mkB_fn xs)
  have HNN := hide (mkB_n xs)
  generalize mkB xs = B0 at *
  have HW0 := hide HP.out.wf
  have c1 := HX.out.cell 1 _ rfl
  have c22 := HX.out.cell 22 _ rfl
  have hq1 := fun z (h : PB z P B0) (y : Byt z s.a s.k s.c s.f.bs) => takeQ P B0 s.p s.f s.a s.k s.c s.t z h y HG.out.md HG.out.ms (cb_ok HCB.out (by omega)).1 (cb_ok HCB.out (by omega)).2.1 (fun b o e hp => Or.inl (by have := HYL.out b o e hp; have := HLO.out; omega))
  unfold WyQ at hq1
  obtain ⟨T, hT⟩ : ∃ T, T = tk B0 s.p s.f s.t := ⟨_, rfl⟩
  have HVI : Hid (I64 T.1.v) := hide (by rw [hT]; exact tk_i64 HW0.out _ _ _)
  rw [← hT] at hq1
  have HT := hide hT
  clear hT
  obtain ⟨⟨C, V, TT, oo⟩, B1⟩ := T
  dsimp only at *
  have HQ1 := hide hq1
  clear hq1
  have tk1 : True := trivial
  go_wp2_with (first | (have _t := tk1; refine wpl_sf (.tmp 51) rfl HX.out ?_ ?_ ?_; rfl; rfl; clear tk1))
  refine (HQ1.out _ HP.out HG.out.byt).mono ?_
  rintro e z1 ⟨ao, ys, cc, rfl, hO, hm, hP1, hM, hown⟩
  have hlt := HP.out.lt
  replace HB := hide (HB.out.trans (hM.below (N := P.lo) (by omega) |>.mono (show w.heap.size ≤ P.lo by have := HLO.out; omega)))
  replace HX := hide (HX.out.block (hM.block _ HX.out.lt (Or.inl (by have := HLO.out; omega))))
  replace HG : Hid (Stq z1 s) := hide ⟨byt_keep HG.out.byt (fun b o _ e hp hc => hM.block b (World.block_lt_of_cell? _ _ hc) (Or.inl (by have := HYL.out b o e hp; have := HLO.out; omega))), HG.out.md, HG.out.ms, HG.out.vi⟩
  replace HP := hide hP1
  have HO := hide hO
  have HM := hide hm
  have bz := below_alloc z1 (.cells (wcl 0 0 0 (.slice none 0 0)).toArray 50)
  have K0 := Box.new z1 (wcl 0 0 0 (.slice none 0 0)) 50
  have HBZ := hide bz
  have HK0 := hide K0
  clear hO hm hP1 hM hown hlt bz K0 HQ1 c1 c22 c21
  have tk2 : True := trivial
  go_wp2_with (first | (have _t := tk2; refine wpl_putW C V TT ao ys.length cc _ (.tmp 10) (.tmp 55) rfl HK0.out rfl ?_ ?_ ?_ ?_; rfl; rfl; rfl; clear tk2; intro z9 K9 G9; have HK9 := hide K9; have HB9 := hide (below_grown HBZ.out G9 (Nat.le_refl _) HBZ.out.size); clear K9 G9))
  replace HP := hide (HP.out.on HB9.out)
  replace HX := hide (HX.out.on HB9.out)
  replace HG := hide (HG.out.on HB9.out)
  replace HO := hide (HO.out.on HB9.out)
  replace HB := hide (belowOn HB.out HB9.out)
  obtain ⟨k9, hk9⟩ : ∃ k9, k9 = z1.heap.size := ⟨_, rfl⟩
  rw [← hk9] at HK9
  try rw [← hk9]
  clear hk9 HBZ HK0 HB9
  have SS : Hid (∀ y : World, Below z9.heap.size z9 y → (y.cell? ⟨k9, 1, none⟩ = some (.int .i64 V)) ∧ PB y P B1) := hide (fun y b => ⟨(HK9.out.on b).cell 1 _ rfl, HP.out.on b⟩)
  have BW : Hid (Below z9.heap.size z9 z9.drew) := hide (below_drew z9)
  have PVX := hide HP.out.pv
  obtain ⟨ms, hms⟩ : ∃ ms, ms = mbs B1.V.l V B1.V.n := ⟨_, rfl⟩
  have HMS := hide hms
  clear hms
  try dsimp only [Act.put]
  go_cut [11] from 12 (fun s11 w' => Below z9.heap.size z9 w' ∧ ∃ A am cm, s11 = .slice am ms.length cm ∧ Its w' A am ms.length cm ms)
  case first =>
    go_wp2_with fail
    refine wp_region_held_drew (S := fun w' => w'.cell? ⟨k9, 1, none⟩ = some (.int .i64 V)) (by kernel_rfl) (SS.out _ BW.out).1 (fun hHeld => ?_)
    generalize z9.drew = y0 at *
    refine wpAnyH_take (i := 0) (v := .pointer (some ⟨P.g, 0, none⟩)) rfl (by kernel_rfl) (by kernel_rfl) (by kernel_rfl) (fun _ _ _ h => h) (Or.inl ⟨by rfl, ?_⟩) hHeld ?_
    · intro W hW; (try dsimp only at hW); go_simp
    change wpAnyH _ _ _ _ _ _ _ ⟨#[_,_,_,.pointer (some ⟨w.heap.size, 0, none⟩),_,_,_,.pointer (some ⟨P.g, 0, none⟩),_,_,.pointer (some ⟨k9, 0, none⟩),_,_,_,_,_,_,_,_,_,_,_,_,_,_,_,_,_,_,_,_,_,_,_,_,_,_,_,_,_,_,_,_,_,_,_,_,_,_,_,_,_,_,_,_,_,.pointer (some ⟨P.g, 0, none⟩),_,_,_,_,_,_,_,_,_,_,_,_,_,_,_,_,_,_,_,_,_,_,_,_,_,_,_,_,_,_,_,_,_,_,_,_,_,_,_,_,_,_,_,_,_,_,_,_,_,_,_,_,_,_,_,_,_,_,_,_,_,_,_,_,_,_,_,_,_,_,_,_,_,_,_,_,_,_,_,_,_,_,_,_,_,_,_], []⟩ _
    refine wpAnyH_take (i := 2) (v := .pointer (some ⟨k9, 1, none⟩)) rfl (by kernel_rfl) (by kernel_rfl) (by kernel_rfl) (fun _ _ _ h => h) (Or.inl ⟨by rfl, ?_⟩) hHeld ?_
    · intro W hW; (try dsimp only at hW); go_simp
    change wpAnyH _ _ _ _ _ _ _ ⟨#[_,_,_,.pointer (some ⟨w.heap.size, 0, none⟩),_,_,_,.pointer (some ⟨P.g, 0, none⟩),_,_,.pointer (some ⟨k9, 0, none⟩),_,_,_,_,_,_,_,_,_,_,_,_,_,_,_,_,_,_,_,_,_,_,_,_,_,_,_,_,_,_,_,_,_,_,_,_,_,_,_,_,_,_,_,_,_,.pointer (some ⟨P.g, 0, none⟩),_,.pointer (some ⟨k9, 1, none⟩),_,_,_,_,_,_,_,_,_,_,_,_,_,_,_,_,_,_,_,_,_,_,_,_,_,_,_,_,_,_,_,_,_,_,_,_,_,_,_,_,_,_,_,_,_,_,_,_,_,_,_,_,_,_,_,_,_,_,_,_,_,_,_,_,_,_,_,_,_,_,_,_,_,_,_,_,_,_,_,_,_,_,_,_,_], []⟩ _
    refine wpAnyH_take (i := 3) (v := .int .i64 (V)) rfl (by kernel_rfl) (by kernel_rfl) (by kernel_rfl) (fun _ _ _ h => h) (Or.inl ⟨by rfl, ?_⟩) hHeld ?_
    · intro W hW; (try dsimp only at hW); have hc := hW; clear hW; go_simp
    change wpAnyH _ _ _ _ _ _ _ ⟨#[_,_,_,.pointer (some ⟨w.heap.size, 0, none⟩),_,_,_,.pointer (some ⟨P.g, 0, none⟩),_,_,.pointer (some ⟨k9, 0, none⟩),_,_,_,_,_,_,_,_,_,_,_,_,_,_,_,_,_,_,_,_,_,_,_,_,_,_,_,_,_,_,_,_,_,_,_,_,_,_,_,_,_,_,_,_,_,.pointer (some ⟨P.g, 0, none⟩),_,.pointer (some ⟨k9, 1, none⟩),.int .i64 (V),_,_,_,_,_,_,_,_,_,_,_,_,_,_,_,_,_,_,_,_,_,_,_,_,_,_,_,_,_,_,_,_,_,_,_,_,_,_,_,_,_,_,_,_,_,_,_,_,_,_,_,_,_,_,_,_,_,_,_,_,_,_,_,_,_,_,_,_,_,_,_,_,_,_,_,_,_,_,_,_,_,_,_,_], []⟩ _
    refine wpAnyH_ready (rs := [1]) (by kernel_rfl) (by simp) ?_
    refine AllReadyH.cons rfl (fun K hK => ?_) AllReadyH.nil
    go_simp
    refine (vlansQ P B1 _ (SS.out _ BW.out).2).mono ?_
    rintro e y1 ⟨rfl, hw⟩
    obtain rfl : y0 = y1 := hw.symm
    refine hK.out _ _ (SS.out _ BW.out).1 (fun hHeld => ?_)
    clear hK K
    change wpAnyH _ _ _ _ _ _ _ ⟨#[_,_,_,.pointer (some ⟨w.heap.size, 0, none⟩),_,_,_,.pointer (some ⟨P.g, 0, none⟩),_,_,.pointer (some ⟨k9, 0, none⟩),_,_,_,_,_,_,_,_,_,_,_,_,_,_,_,_,_,_,_,_,_,_,_,_,_,_,_,_,_,_,_,_,_,_,_,_,_,_,_,_,_,_,_,_,_,.pointer (some ⟨P.g, 0, none⟩),.pointer (some ⟨P.h + 2, 0, none⟩),.pointer (some ⟨k9, 1, none⟩),.int .i64 (V),_,_,_,_,_,_,_,_,_,_,_,_,_,_,_,_,_,_,_,_,_,_,_,_,_,_,_,_,_,_,_,_,_,_,_,_,_,_,_,_,_,_,_,_,_,_,_,_,_,_,_,_,_,_,_,_,_,_,_,_,_,_,_,_,_,_,_,_,_,_,_,_,_,_,_,_,_,_,_,_,_,_,_,_], []⟩ _
    refine wpAnyH_ready (rs := [4]) (by kernel_rfl) (by simp) ?_
    refine AllReadyH.cons rfl (fun K hK => ?_) AllReadyH.nil
    go_simp
    refine (members13 P.h B1.V (V) _ HVI.out (SS.out _ BW.out).2.pv).mono ?_
    rw [← HMS.out]
    rintro e y2 ⟨am, cm, rfl, hI, b1⟩
    have HI := hide hI
    replace BW := hide (belowOn BW.out b1)
    refine hK.out _ _ (SS.out _ BW.out).1 (fun hHeld => ?_)
    clear hK K b1 hI
    change wpAnyH _ _ _ _ _ _ _ ⟨#[_,_,_,.pointer (some ⟨w.heap.size, 0, none⟩),_,_,_,.pointer (some ⟨P.g, 0, none⟩),_,_,.pointer (some ⟨k9, 0, none⟩),_,_,_,_,_,_,_,_,_,_,_,_,_,_,_,_,_,_,_,_,_,_,_,_,_,_,_,_,_,_,_,_,_,_,_,_,_,_,_,_,_,_,_,_,_,.pointer (some ⟨P.g, 0, none⟩),.pointer (some ⟨P.h + 2, 0, none⟩),.pointer (some ⟨k9, 1, none⟩),.int .i64 (V),.slice am ms.length cm,_,_,_,_,_,_,_,_,_,_,_,_,_,_,_,_,_,_,_,_,_,_,_,_,_,_,_,_,_,_,_,_,_,_,_,_,_,_,_,_,_,_,_,_,_,_,_,_,_,_,_,_,_,_,_,_,_,_,_,_,_,_,_,_,_,_,_,_,_,_,_,_,_,_,_,_,_,_,_,_,_,_,_], []⟩ _
    refine wpAnyH_take (i := 5) (v := .slice am ms.length cm) rfl (by kernel_rfl) (by kernel_rfl) (by kernel_rfl) (fun _ _ _ h => h) (Or.inl ⟨by rfl, ?_⟩) hHeld ?_
    · intro W hW; (try dsimp only at hW); go_simp
    change wpAnyH _ _ _ _ _ _ _ ⟨#[_,_,_,.pointer (some ⟨w.heap.size, 0, none⟩),_,_,_,.pointer (some ⟨P.g, 0, none⟩),_,_,.pointer (some ⟨k9, 0, none⟩),.slice am ms.length cm,_,_,_,_,_,_,_,_,_,_,_,_,_,_,_,_,_,_,_,_,_,_,_,_,_,_,_,_,_,_,_,_,_,_,_,_,_,_,_,_,_,_,_,_,.pointer (some ⟨P.g, 0, none⟩),.pointer (some ⟨P.h + 2, 0, none⟩),.pointer (some ⟨k9, 1, none⟩),.int .i64 (V),.slice am ms.length cm,_,_,_,_,_,_,_,_,_,_,_,_,_,_,_,_,_,_,_,_,_,_,_,_,_,_,_,_,_,_,_,_,_,_,_,_,_,_,_,_,_,_,_,_,_,_,_,_,_,_,_,_,_,_,_,_,_,_,_,_,_,_,_,_,_,_,_,_,_,_,_,_,_,_,_,_,_,_,_,_,_,_,_], []⟩ _
    refine wpAnyH_done (by kernel_rfl) ?_ _
    go_wp2_with fail
    go_meet
    case rel => exact ⟨BW.out, _, am, cm, rfl, HI.out⟩
  case rest =>
  obtain ⟨bb, AI, am, cm, rfl, hI⟩ := hcut
  have HI := hide hI
  replace HP := hide (HP.out.on bb)
  replace HX := hide (HX.out.on bb)
  replace HO := hide (HO.out.on bb)
  replace HK9 := hide (HK9.out.on bb)
  replace HB := hide (belowOn HB.out bb)
  clear hI SS BW bb PVX
  have HON := hide (show Onc w _ P B1 s k9 C V TT ao cc ys AI am cm ms from ⟨HP.out, HX.out, HK9.out, HO.out, HI.out, HB.out⟩)
  have HPL := hide (once_plain HW0.out HP.out.wf HT.out)
  have HSL : Hid (0 ≤ sumL B0.ct ∧ sumL B0.ct ≤ 9000000) := hide (by have := sum_le B0.ct (fun y hy => by have := HW0.out.cs y hy; omega); rw [HW0.out.cl] at this; omega)
  have HL : Hid (ys.length ≤ 9223372036854775807) := hide (by have h1 := HO.out.le; have h2 := HO.out.mx; unfold maxLen at h2; omega)
  have HL2 : Hid (ms.length ≤ 9223372036854775807) := hide (by have h1 := HI.out.le; have h2 := HI.out.mx; unfold maxLen at h2; omega)
  clear HP HX HK9 HO HI HB HT HFN HNN HCB HW0 HVI HG HW13 HLO HYL HZ
  rw [← HMS.out] at HPL
  go_wp2_with fail
  go_loopg [12, 13, 14, 15] ys.length (fun r i _ _ _ wr => ∃ q : Nat, q ≤ ys.length ∧ r = ys.length - q ∧ i = .int .i64 q ∧ Onc w wr P B1 s k9 C V TT ao cc ys AI am cm ms)
  case atStart => exact ⟨0, Nat.zero_le _, rfl, rfl, HON.out⟩
  case round =>
    obtain ⟨q, hq, hr, rfl, hon⟩ := hrel
    replace HON := hide hon
    have HRK := hide hr
    clear hr hon
    by_cases hc : q < ys.length
    · obtain ⟨y, hy⟩ : ∃ y, ys[q]? = some y := ⟨_, List.getElem?_eq_getElem hc⟩
      have HY := hide hy
      have hyo : y.o ∈ oo := by rw [← HM.out]; exact List.mem_map.2 ⟨y, List.mem_of_getElem? hy, rfl⟩
      have HYP := hide (HPL.out.2.2.2.2.2 y.o hyo)
      obtain ⟨b, o, rfl, hra⟩ := HON.out.o.at_ q y hy
      have cp := ocl_port hra
      have co := HON.out.k.cell 3 _ rfl
      have k1 : (0 : Int) ≤ (q : Int) := by omega
      have k2 : (q : Int) < (ys.length : Int) := by omega
      clear hy hyo hra
      go_wp2_with fail
      go_loopg [14, 15] ms.length (fun r n k wr => ∃ j : Nat, j ≤ ms.length ∧ r = ms.length - j ∧ k = .int .i64 j ∧ n = .bool ((ms.take j).contains y.o.p) ∧ Onc w wr P B1 s k9 C V TT (some ⟨b, o, none⟩) cc ys AI am cm ms)
      case atStart => exact ⟨0, Nat.zero_le _, rfl, rfl, rfl, HON.out⟩
      case round =>
        obtain ⟨j, hj, hr, rfl, rfl, hon⟩ := hrel
        replace HON := hide hon
        have HRJ := hide hr
        clear hr hon cp co
        by_cases hd : j < ms.length
        · obtain ⟨b2, o2, rfl, -, cm2⟩ := HON.out.i.cell j hd
          obtain ⟨x, hx⟩ : ∃ x, x = ms.getD j 0 := ⟨_, rfl⟩
          have hx2 : ms[j]? = some x := by rw [hx, List.getD_eq_getElem?_getD, List.getElem?_eq_getElem hd]; rfl
          have HN := hide (mem_take_next hx2 y.o.p)
          rw [← hx] at cm2
          have j1 : (0 : Int) ≤ (j : Int) := by omega
          have j2 : (j : Int) < (ms.length : Int) := by omega
          have j3 : IntKind.i64.wrap ((j : Int) + 1) = (j : Int) + 1 := IntWalk.i64_in _ (by have := HL2.out; omega)
          clear hx hx2
          rcases Bool.eq_false_or_eq_true ((ms.take j).contains y.o.p) with hi | hi
          · rw [hi] at HN ⊢
            go_wp2
            go_roundg (ms.length - (j + 1))
            case measure => rw [HRJ.out]; omega
            case rel => exact ⟨j + 1, by omega, rfl, by go_num, by rw [HN.out]; rfl, HON.out⟩
          · rw [hi] at HN ⊢
            rcases Bool.eq_false_or_eq_true (x == y.o.p) with he | he
            · rw [he] at HN
              go_wp2
              go_roundg (ms.length - (j + 1))
              case measure => rw [HRJ.out]; omega
              case rel => exact ⟨j + 1, by omega, rfl, by go_num, by rw [HN.out]; rfl, HON.out⟩
            · rw [he] at HN
              go_wp2
              go_roundg (ms.length - (j + 1))
              case measure => rw [HRJ.out]; omega
              case rel => exact ⟨j + 1, by omega, rfl, by go_num, by rw [HN.out]; rfl, HON.out⟩
        · have j2 : ¬ (j : Int) < (ms.length : Int) := by omega
          have hi : (ms.take j).contains y.o.p = true := by rw [mem_take_all (by omega)]; exact List.contains_iff_mem.2 HYP.out.2.2.1
          rw [hi]
          clear hi hj hd
          have c1 := HON.out.x.cell 1 _ rfl
          have e3 : (y.o.p == s.p) = false := by simpa using HYP.out.1
          go_wp2_with fail
          refine (stateQ P B1 _ _ HON.out.p).mono ?_
          rintro e w' ⟨rfl, hw⟩
          obtain rfl : _ = w' := hw.symm
          rw [HYP.out.2.1]
          have k3 : IntKind.i64.wrap ((q : Int) + 1) = (q : Int) + 1 := IntWalk.i64_in _ (by have := HL.out; omega)
          have co := HON.out.k.cell 3 _ rfl
          by_cases h0 : q = 0
          · subst h0
            go_wp2
            go_roundg (ys.length - (0 + 1))
            case measure => rw [HRK.out]; omega
            case rel => exact ⟨0 + 1, by omega, rfl, by go_num, HON.out⟩
          · obtain ⟨i, hqi⟩ : ∃ i, q = i + 1 := ⟨q - 1, by omega⟩
            obtain ⟨x, hx⟩ : ∃ x, ys[i]? = some x := ⟨_, List.getElem?_eq_getElem (by omega)⟩
            obtain ⟨b3, o3, he3, hra⟩ := HON.out.o.at_ i x hx
            obtain ⟨rfl, rfl⟩ : b = b3 ∧ o = o3 := by simpa using he3
            have cx := ocl_port hra
            have hlt : x.o.p < y.o.p := srt_next (by rw [HM.out]; exact HPL.out.2.2.2.2.1) hx (by rw [← hqi]; exact HY.out)
            have g1 : (0 : Int) < (q : Int) := by omega
            have g2 : IntKind.i64.wrap ((q : Int) - 1) = (i : Int) := by rw [IntWalk.i64_in _ (by have := HL.out; omega)]; omega
            have g3 : (0 : Int) ≤ (i : Int) := by omega
            have g4 : (i : Int) < (ys.length : Int) := by omega
            have g5 : ¬ y.o.p ≤ x.o.p := by omega
            clear hra hx he3 hlt hqi
            go_wp2
            go_roundg (ys.length - (q + 1))
            case measure => rw [HRK.out]; omega
            case rel => exact ⟨q + 1, by omega, rfl, by go_num, HON.out⟩
    · have k2 : ¬ (q : Int) < (ys.length : Int) := by omega
      have co := HON.out.k.cell 3 _ rfl
      clear hc hq
      go_wp2_with fail
      refine (countsQ P B1 _ HON.out.p).mono ?_
      rintro e z1 ⟨rfl, bb⟩
      have HPB := hide (HON.out.p.on bb)
      have HBB := hide (belowOn HON.out.b bb)
      have HKK := hide (HON.out.k.on bb)
      clear bb co
      go_wp2_with fail
      refine (sumR B1.ct HPB.out.wf.cl (fun y hy => by have := HPB.out.wf.cs y hy; omega) _).mono ?_
      rintro e z2 ⟨rfl, bb⟩
      replace HBB := hide (belowOn HBB.out bb)
      replace HKK := hide (HKK.out.on bb)
      clear bb HPB HON
      rw [HPL.out.1]
      have cw := HKK.out.cell 0 _ rfl
      have co := HKK.out.cell 3 _ rfl
      have s1 : IntKind.i64.wrap (sumL B0.ct + 1) = sumL B0.ct + 1 := IntWalk.i64_in _ (by have := HSL.out; omega)
      have s2 : (sumL B0.ct + 1 == sumL B0.ct + 1) = true := by simp
      have s3 := HPL.out.2.1
      have s4 := HPL.out.2.2.1
      have s5 := HPL.out.2.2.2.1
      have hlen := congrArg List.length HM.out
      rw [List.length_map] at hlen
      rcases Bool.eq_false_or_eq_true oo.isEmpty with hoo | hoo
      · have h1 : (C == 0) = false := by rw [s5, hoo]; rfl
        have hy0 : ys = [] := by
          have : oo = [] := List.isEmpty_iff.1 hoo
          rw [this] at hlen
          exact List.eq_nil_of_length_eq_zero hlen
        subst hy0
        have co : z2.cell? ⟨k9, 3, none⟩ = some (.slice ao 0 cc) := co
        clear s5 hlen hoo
        go_wp2
        go_ret
        exact ⟨rfl, HBB.out⟩
      · have h1 : (C == 0) = true := by rw [s5, hoo]; rfl
        have h2 : (0 : Int) < (ys.length : Int) := by
          have : oo ≠ [] := by intro h; rw [h] at hoo; cases hoo
          have := List.length_pos_iff.2 this
          omega
        clear s5 hlen hoo
        go_wp2
        go_ret
        exact ⟨rfl, HBB.out⟩
set_option maxRecDepth 100000 in
set_option maxHeartbeats 2000000 in
theorem flowOncelifted (os : Os) (started : os.Started) (H : Type) (enc : TypeId × Value → H) :
    ReturnsInHanded {} Tryz.checked os 4 .any (Rows.flowOnceSpec.pre6 enc Tryz.prog Tryz.f4 Rows.flowOnceRow.domain false) (Rows.flowOnceSpec.post enc Tryz.prog Tryz.f4 false true false false) := by
  refine returnsInHanded_of_change (C := Tryz.checked) own started (by kernel_rfl) Tryz.func4
    (ChangeSpec.witness6 (enc := enc) (C := Tryz.checked) false ⟨#[], #[.slice none 0 0, .agg #[.int .i64 0, .int .i64 0, .int .i64 0, .int .i64 0, .bool false, .int .u8 0, .int .u8 0, .int .u8 0, .int .u8 0, .int .u8 0, .int .u8 0, .int .u8 0, .int .u8 0, .int .u8 0, .int .u8 0, .int .u8 0, .int .u8 0, .bool false, .int .i64 0, .int .i64 0, .int .i64 0, .slice none 0 0, .int .i64 0]], []⟩ 8 (by kernel_rfl) (by kernel_rfl) (by kernel_rfl) (by kernel_rfl)) ?_
  intro W base args ds gs before hval0 hW _ _
  have hval : ∀ (j : Nat) t v, Tryz.f4.params[j]? = some t → args[j]? = some v → Value.okWide Tryz.prog W .any base t v := hval0
  have hW' := hW
  obtain ⟨p, q, hA0, hV, rfl, _, _⟩ := hW
  have hA : DataW.TrodAll enc Tryz.prog W 0 (fun _ => true) true Tryz.f4.params.toList args.toList ds p := hA0
  rw [Tryz.params4] at hA hval
  obtain ⟨v0, vs0, d0, ds0, p0, q0, hargs, rfl, rfl, h0, r0⟩ := trodAll_cons hA
  obtain ⟨v1, vs1, d1, ds1, p1, q1, rfl, rfl, rfl, h1, r1⟩ := trodAll_cons r0
  obtain ⟨rfl, rfl, rfl⟩ := trodAll_nil r1
  obtain rfl : args = #[v0, v1] := by cases args; simp_all
  obtain ⟨rfl, rfl⟩ := trodVars_none hV
  have h0k := h0
  obtain ⟨ao0, n0, c0, ss0, rfl, hs0⟩ := open_steps (hval 0 23 v0 rfl rfl) h0
  have h1k := h1
  obtain ⟨s1, rfl, hp1⟩ := open_step (hval 1 40 v1 rfl rfl) h1
  clear hA0 hval0
  simp only [List.append_nil] at hW'
  have hlt : ∀ x ∈ p0 ++ p1, x.block < W.heap.size := fun x hx => by simpa using hW'.lt x (by simpa using hx)
  refine (flowOnceWalk ao0 n0 c0 ss0 s1 W hs0 hp1).mono fun e W' ⟨he, hbl⟩ => ?_
  subst he
  exact ⟨_, rfl, _, _, _, [], _, [], hW', (trodAll_cons_mk (shut_bool Tryz.underlying4 _) trodAll_mk0), (trodAll_cons_mk (Below.trod Tryz.laidOut (by kernel_rfl) (of_decide_eq_true (by kernel_rfl)) h0k hbl (fun x hx => hlt x (by simp [hx]))) (trodAll_cons_mk (Below.trod Tryz.laidOut (by kernel_rfl) (of_decide_eq_true (by kernel_rfl)) h1k hbl (fun x hx => hlt x (by simp [hx]))) trodAll_mk0)), rfl, hbl.frame _, fun h => by cases h⟩

theorem flowOnce_holds : Rows.FlowOnceSaid :=
  OpenClaim.holds_of_wide 4 Tryz.f4 rfl rfl rfl rfl rfl rfl rfl ⟨rfl, rfl, rfl, rfl, rfl⟩ rfl rfl rfl rfl rfl (by kernel_rfl) Tryz.func4 (by kernel_rfl)
    (of_decide_eq_true (by kernel_rfl)) (by unfold Func.isWrapper; first | (rw [if_pos (by decide +kernel)]; kernel_rfl) | (rw [if_neg (by decide +kernel)]; exact ⟨rfl, rfl⟩))
    (fun os started H enc _ => flowOncelifted os started H enc)

#print axioms flowOnce_holds
end Go.Proofs.YtgpdjfaklcmoiaaGreat
