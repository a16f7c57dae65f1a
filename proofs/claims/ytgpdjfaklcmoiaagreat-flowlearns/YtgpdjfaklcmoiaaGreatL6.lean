/- FlowLearns: for all steps and any step the law answers true, and the arguments read behind the call as they read before. No condition. -/
import Derived.Test.YtgpdjfaklcmoiaaGreatLq
import Derived.Test.YtgpdjfaklcmoiaaGreatM12
namespace Go.Proofs.YtgpdjfaklcmoiaaGreat
open Go.ChangeShapes Go.WideShapes Go.ChangeAt Go.RowKit Go.PlainAid

set_option maxRecDepth 100000 in
set_option maxHeartbeats 8000000 in
theorem flowLearnsWalk (ao : Option Addr) (n c : Nat) (xs : List Stp) (s : Stp) (w : World) (H : StsI w ao n c xs) (G : Stq w s) :
    Calls Tryz.prog 6 #[.slice ao n c, .agg (stc s).toArray] w fun e w' => e = .returned (.bool true) ∧ Below w.heap.size w w' := by
  have b0 := below_alloc w (.cells (SPC s) 40)
  have HX := hide (show Box (w.alloc (.cells (SPC s) 40)) w.heap.size (stc s) from Box.new w (stc s) 40)
  have HB := hide b0
  have HS := hide (H.on b0)
  have HG := hide (G.on b0)
  have hsz := World.size_alloc w (.cells (SPC s) 40)
  have HZ : Hid (w.heap.size + 1 ≤ (w.alloc (.cells (SPC s) 40)).heap.size) := hide (by rw [hsz]; exact Nat.le_refl _)
  have HYL : Hid (∀ b o, s.a = some ⟨b, o, none⟩ → 0 < s.k → b < w.heap.size) := hide G.byt.lt
  clear b0 H G hsz
  go_enter Tryz.func6, Tryz.ntmps6
  go_wp2_with fail
  refine (awakeQ _).mono ?_
  rintro e w1 ⟨rfl, bb⟩
  replace HX := hide (HX.out.on bb)
  replace HS := hide (HS.out.on bb)
  replace HG := hide (HG.out.on bb)
  replace HB := hide (belowOn HB.out bb)
  replace HZ := hide (Nat.le_trans HZ.out bb.size)
  clear bb
  go_wp2_with fail
  refine (fewR ao n c xs _ HS.out.s).mono ?_
  rintro e w2 ⟨rfl, hw⟩
  obtain rfl : w1 = w2 := hw.symm
  go_wp2_with fail
  refine (madeQ ao n c xs _ HS.out).mono ?_
  rintro e w3 ⟨P, rfl, hP, hlo, bb⟩
  have HP := hide hP
  have HLO : Hid (w.heap.size + 1 ≤ P.lo) := hide (Nat.le_trans HZ.out hlo)
  replace HX := hide (HX.out.on bb)
  replace HS := hide (HS.out.on bb)
  replace HG := hide (HG.out.on bb)
  replace HB := hide (belowOn HB.out bb)
  have HW13 := hide bb.size
  clear hP hlo
  have c21 := HX.out.cell 21 _ rfl
  rcases Bool.eq_false_or_eq_true (fewB xs) with hf | hf
  rotate_left
  · rw [hf]
    go_wp2
    go_ret
    exact ⟨rfl, HB.out⟩
  rw [hf]
  clear hf
  by_cases hk : s.k ≤ 2000
  rotate_left
  · have hk2 : (2000 : Int) < (s.k : Int) := by omega
    go_wp2
    go_ret
    exact ⟨rfl, HB.out⟩
  have hk2 : ¬ (2000 : Int) < (s.k : Int) := by omega
  clear hk
  go_wp2_with (go_at_call 23; refine (stationsQ P (mkB xs) _ HP.out).mono ?_; rintro e w' ⟨rfl, hw⟩; obtain rfl : w3 = w' := hw.symm)
  obtain ⟨ps, hpf⟩ := HP.out.pf
  refine (all14 P.hf ps (mkB xs).F _ hpf).mono ?_
  rintro e w4 ⟨ae, ce, rfl, hE, bb⟩
  have HE1 := hide hE
  have HHI : Hid (P.hi ≤ w3.heap.size) := hide HP.out.lt.2.2.2.2
  replace HP := hide (HP.out.on bb)
  replace HX := hide (HX.out.on bb)
  replace HG := hide (HG.out.on bb)
  replace HB := hide (belowOn HB.out bb)
  clear bb hE hpf c21
  have c21 := HX.out.cell 21 _ rfl
  have HCB := hide (mkB_cb xs)
  have HFN := hide (mkB_fn xs)
  have HNN := hide (mkB_n xs)
  generalize mkB xs = B0 at *
  have HW0 := hide HP.out.wf
  have c1 := HX.out.cell 1 _ rfl
  have c22 := HX.out.cell 22 _ rfl
  have hq1 := fun z (h : PB z P B0) (y : Byt z s.a s.k s.c s.f.bs) => takeQ P B0 s.p s.f s.a s.k s.c s.t z h y HG.out.md HG.out.ms (cb_ok HCB.out (by omega)).1 (cb_ok HCB.out (by omega)).2.1 (fun b o e hp => Or.inl (by have := HYL.out b o e hp; have := HLO.out; omega))
  unfold WyQ at hq1
  obtain ⟨T, hT⟩ : ∃ T, T = tk B0 s.p s.f s.t := ⟨_, rfl⟩
  have HVI : Hid (I64 T.1.v) := hide (by rw [hT]; exact tk_i64 HW0.out _ _ _)
  rw [← hT] at hq1
  have HT := hide hT
  clear hT
  obtain ⟨⟨C, V, TT, oo⟩, B1⟩ := T
  dsimp only at *
  have HQ1 := hide hq1
  clear hq1 c21
  have tk1 : True := trivial
  go_wp2_with (first | (have _t := tk1; refine wpl_sf (.tmp 48) rfl HX.out ?_ ?_ ?_; rfl; rfl; clear tk1))
  refine (HQ1.out _ HP.out HG.out.byt).mono ?_
  rintro e z1 ⟨ao, ys, cc, rfl, hO, hm, hP1, hM, hown⟩
  have hlt := HP.out.lt
  replace HB := hide (HB.out.trans (hM.below (N := P.lo) (by omega) |>.mono (show w.heap.size ≤ P.lo by have := HLO.out; omega)))
  replace HX := hide (HX.out.block (hM.block _ HX.out.lt (Or.inl (by have := HLO.out; omega))))
  replace HG : Hid (Stq z1 s) := hide ⟨byt_keep HG.out.byt (fun b o _ e hp hc => hM.block b (World.block_lt_of_cell? _ _ hc) (Or.inl (by have := HYL.out b o e hp; have := HLO.out; omega))), HG.out.md, HG.out.ms, HG.out.vi⟩
  replace HE1 := hide (HE1.out.mid hM HHI.out)
  replace HP := hide hP1
  have HO := hide hO
  have HM := hide hm
  have bz := below_alloc z1 (.cells (wcl 0 0 0 (.slice none 0 0)).toArray 50)
  have K0 := Box.new z1 (wcl 0 0 0 (.slice none 0 0)) 50
  have HBZ := hide bz
  have HK0 := hide K0
  clear hO hm hP1 hM hown hlt bz K0 HQ1 c1 c22
  have tk2 : True := trivial
  go_wp2_with (first | (have _t := tk2; refine wpl_putW C V TT ao ys.length cc _ (.tmp 10) (.tmp 52) rfl HK0.out rfl ?_ ?_ ?_ ?_; rfl; rfl; rfl; clear tk2; intro z9 K9 G9; have HK9 := hide K9; have HB9 := hide (below_grown HBZ.out G9 (Nat.le_refl _) HBZ.out.size); clear K9 G9))
  replace HP := hide (HP.out.on HB9.out)
  replace HX := hide (HX.out.on HB9.out)
  replace HG := hide (HG.out.on HB9.out)
  replace HO := hide (HO.out.on HB9.out)
  replace HB := hide (belowOn HB.out HB9.out)
  replace HE1 := hide (HE1.out.on HB9.out)
  obtain ⟨k9, hk9⟩ : ∃ k9, k9 = z1.heap.size := ⟨_, rfl⟩
  rw [← hk9] at HK9
  try rw [← hk9]
  clear hk9 HBZ HK0 HB9
  have SS : Hid (∀ z : World, Below z9.heap.size z9 z → (z.cell? ⟨k9, 1, none⟩ = some (.int .i64 V) ∧ Box z w.heap.size (stc s)) ∧ PB z P B1) := hide (fun z b => ⟨⟨(HK9.out.on b).cell 1 _ rfl, HX.out.on b⟩, HP.out.on b⟩)
  have BW : Hid (Below z9.heap.size z9 z9.drew) := hide (below_drew z9)
  obtain ⟨x, hx⟩ : ∃ x, x = lk B1.F.l V (mS s.f) := ⟨_, rfl⟩
  obtain ⟨is, his⟩ : ∃ is, is = fhs B1.F.l V (mS s.f) := ⟨_, rfl⟩
  have HXX := hide hx
  have HIS := hide his
  clear hx his
  dsimp only [Act.put]
  go_cut [11, 12] from 13 (fun s11 s12 w' => Below z9.heap.size z9 w' ∧ ∃ k11, s11 = .pointer (some ⟨k11, 0, none⟩) ∧ s12 = .bool is ∧ Box w' k11 (ecl x))
  case first =>
    go_wp2_with fail
    refine wp_region_held_drew (S := fun w' => w'.cell? ⟨k9, 1, none⟩ = some (.int .i64 V) ∧ Box w' w.heap.size (stc s)) (by kernel_rfl) (SS.out _ BW.out).1 (fun hHeld => ?_)
    generalize z9.drew = y0 at *
    refine wpAnyH_take (i := 0) (v := .pointer (some ⟨P.g, 0, none⟩)) rfl (by kernel_rfl) (by kernel_rfl) (by kernel_rfl) (fun _ _ _ h => h) (Or.inl ⟨by rfl, ?_⟩) hHeld ?_
    · intro W hW; (try dsimp only at hW); go_simp
    change wpAnyH _ _ _ _ _ _ _ ⟨#[_,_,_,.pointer (some ⟨w.heap.size, 0, none⟩),_,_,_,.pointer (some ⟨P.g, 0, none⟩),_,_,.pointer (some ⟨k9, 0, none⟩),_,_,_,_,_,_,_,_,_,_,_,_,_,_,_,_,_,_,_,_,_,_,_,_,_,_,_,_,_,_,_,_,_,_,_,_,_,_,_,_,_,_,_,.pointer (some ⟨P.g, 0, none⟩),_,_,_,_,_,_,_,_,_,_,_,_,_,_,_,_,_,_,_,_,_,_,_,_,_,_,_,_,_,_,_,_,_,_,_,_,_,_,_,_,_,_,_], []⟩ _
    refine wpAnyH_take (i := 2) (v := .pointer (some ⟨k9, 1, none⟩)) rfl (by kernel_rfl) (by kernel_rfl) (by kernel_rfl) (fun _ _ _ h => h) (Or.inl ⟨by rfl, ?_⟩) hHeld ?_
    · intro W hW; (try dsimp only at hW); go_simp
    change wpAnyH _ _ _ _ _ _ _ ⟨#[_,_,_,.pointer (some ⟨w.heap.size, 0, none⟩),_,_,_,.pointer (some ⟨P.g, 0, none⟩),_,_,.pointer (some ⟨k9, 0, none⟩),_,_,_,_,_,_,_,_,_,_,_,_,_,_,_,_,_,_,_,_,_,_,_,_,_,_,_,_,_,_,_,_,_,_,_,_,_,_,_,_,_,_,_,.pointer (some ⟨P.g, 0, none⟩),_,.pointer (some ⟨k9, 1, none⟩),_,_,_,_,_,_,_,_,_,_,_,_,_,_,_,_,_,_,_,_,_,_,_,_,_,_,_,_,_,_,_,_,_,_,_,_,_,_,_,_,_], []⟩ _
    refine wpAnyH_take (i := 3) (v := .int .i64 V) rfl (by kernel_rfl) (by kernel_rfl) (by kernel_rfl) (fun _ _ _ h => h) (Or.inl ⟨by rfl, ?_⟩) hHeld ?_
    · intro W hW; (try dsimp only at hW); have hc := hW.1; clear hW; go_simp
    change wpAnyH _ _ _ _ _ _ _ ⟨#[_,_,_,.pointer (some ⟨w.heap.size, 0, none⟩),_,_,_,.pointer (some ⟨P.g, 0, none⟩),_,_,.pointer (some ⟨k9, 0, none⟩),_,_,_,_,_,_,_,_,_,_,_,_,_,_,_,_,_,_,_,_,_,_,_,_,_,_,_,_,_,_,_,_,_,_,_,_,_,_,_,_,_,_,_,.pointer (some ⟨P.g, 0, none⟩),_,.pointer (some ⟨k9, 1, none⟩),.int .i64 V,_,_,_,_,_,_,_,_,_,_,_,_,_,_,_,_,_,_,_,_,_,_,_,_,_,_,_,_,_,_,_,_,_,_,_,_,_,_,_,_], []⟩ _
    refine wpAnyH_take (i := 4) (v := .pointer (some ⟨w.heap.size, 5, none⟩)) rfl (by kernel_rfl) (by kernel_rfl) (by kernel_rfl) (fun _ _ _ h => h) (Or.inl ⟨by rfl, ?_⟩) hHeld ?_
    · intro W hW; (try dsimp only at hW); go_simp
    change wpAnyH _ _ _ _ _ _ _ ⟨#[_,_,_,.pointer (some ⟨w.heap.size, 0, none⟩),_,_,_,.pointer (some ⟨P.g, 0, none⟩),_,_,.pointer (some ⟨k9, 0, none⟩),_,_,_,_,_,_,_,_,_,_,_,_,_,_,_,_,_,_,_,_,_,_,_,_,_,_,_,_,_,_,_,_,_,_,_,_,_,_,_,_,_,_,_,.pointer (some ⟨P.g, 0, none⟩),_,.pointer (some ⟨k9, 1, none⟩),.int .i64 V,.pointer (some ⟨w.heap.size, 5, none⟩),_,_,_,_,_,_,_,_,_,_,_,_,_,_,_,_,_,_,_,_,_,_,_,_,_,_,_,_,_,_,_,_,_,_,_,_,_,_,_], []⟩ _
    refine wpAnyH_take (i := 5) (v := .pointer (some ⟨w.heap.size, 11, none⟩)) rfl (by kernel_rfl) (by kernel_rfl) (by kernel_rfl) (fun _ _ _ h => h) (Or.inl ⟨by rfl, ?_⟩) hHeld ?_
    · intro W hW; (try dsimp only at hW); go_simp
    change wpAnyH _ _ _ _ _ _ _ ⟨#[_,_,_,.pointer (some ⟨w.heap.size, 0, none⟩),_,_,_,.pointer (some ⟨P.g, 0, none⟩),_,_,.pointer (some ⟨k9, 0, none⟩),_,_,_,_,_,_,_,_,_,_,_,_,_,_,_,_,_,_,_,_,_,_,_,_,_,_,_,_,_,_,_,_,_,_,_,_,_,_,_,_,_,_,_,.pointer (some ⟨P.g, 0, none⟩),_,.pointer (some ⟨k9, 1, none⟩),.int .i64 V,.pointer (some ⟨w.heap.size, 5, none⟩),.pointer (some ⟨w.heap.size, 11, none⟩),_,_,_,_,_,_,_,_,_,_,_,_,_,_,_,_,_,_,_,_,_,_,_,_,_,_,_,_,_,_,_,_,_,_,_,_,_,_], []⟩ _
    refine wpAnyH_take (i := 6) (v := .agg (MC (mS s.f))) rfl (by kernel_rfl) (by kernel_rfl) (by kernel_rfl) (fun _ _ _ h => h) (yieldsIf_load_mid (by rfl) 35 (.tmp 59) rfl w.heap.size 11 rfl (mcl (mS s.f)) _ (fun W hW => stc_src hW.2) Tryz.underlying35 rfl Tryz.size35) hHeld ?_
    change wpAnyH _ _ _ _ _ _ _ ⟨#[_,_,_,.pointer (some ⟨w.heap.size, 0, none⟩),_,_,_,.pointer (some ⟨P.g, 0, none⟩),_,_,.pointer (some ⟨k9, 0, none⟩),_,_,_,_,_,_,_,_,_,_,_,_,_,_,_,_,_,_,_,_,_,_,_,_,_,_,_,_,_,_,_,_,_,_,_,_,_,_,_,_,_,_,_,.pointer (some ⟨P.g, 0, none⟩),_,.pointer (some ⟨k9, 1, none⟩),.int .i64 V,.pointer (some ⟨w.heap.size, 5, none⟩),.pointer (some ⟨w.heap.size, 11, none⟩),.agg (MC (mS s.f)),_,_,_,_,_,_,_,_,_,_,_,_,_,_,_,_,_,_,_,_,_,_,_,_,_,_,_,_,_,_,_,_,_,_,_,_,_], []⟩ _
    refine wpAnyH_ready (rs := [1, 11]) (by kernel_rfl) (by simp) ?_
    refine AllReadyH.cons rfl (fun K hK => ?_) (AllReadyH.cons rfl (fun K hK => ?_) AllReadyH.nil)
    · skip
      go_simp
      refine (stationsQ P B1 _ (SS.out _ BW.out).2).mono ?_
      rintro e y1 ⟨rfl, hw⟩
      obtain rfl : y0 = y1 := hw.symm
      refine hK.out _ _ (SS.out _ BW.out).1 (fun hHeld => ?_)
      clear hK K
      change wpAnyH _ _ _ _ _ _ _ ⟨#[_,_,_,.pointer (some ⟨w.heap.size, 0, none⟩),_,_,_,.pointer (some ⟨P.g, 0, none⟩),_,_,.pointer (some ⟨k9, 0, none⟩),_,_,_,_,_,_,_,_,_,_,_,_,_,_,_,_,_,_,_,_,_,_,_,_,_,_,_,_,_,_,_,_,_,_,_,_,_,_,_,_,_,_,_,.pointer (some ⟨P.g, 0, none⟩),.pointer (some ⟨P.hf + 1, 0, none⟩),.pointer (some ⟨k9, 1, none⟩),.int .i64 V,.pointer (some ⟨w.heap.size, 5, none⟩),.pointer (some ⟨w.heap.size, 11, none⟩),.agg (MC (mS s.f)),_,_,_,_,_,_,_,_,_,_,_,_,_,_,_,_,_,_,_,_,_,_,_,_,_,_,_,_,_,_,_,_,_,_,_,_,_], []⟩ _
      refine wpAnyH_ready (rs := [7, 11]) (by kernel_rfl) (by simp) ?_
      refine AllReadyH.cons rfl (fun K hK => ?_) (AllReadyH.cons rfl (fun K hK => ?_) AllReadyH.nil)
      · skip
        go_simp
        obtain ⟨ps, hpf⟩ := (SS.out _ BW.out).2.pf
        refine (look11 P.hf ps B1.F V (mS s.f) _ HG.out.ms hpf).mono ?_
        rw [← HXX.out, ← HIS.out]
        rintro e y2 ⟨rfl, b1⟩
        replace BW := hide (belowOn BW.out b1)
        refine hK.out _ _ (SS.out _ BW.out).1 (fun hHeld => ?_)
        clear hK K b1 hpf
        change wpAnyH _ _ _ _ _ _ _ ⟨#[_,_,_,.pointer (some ⟨w.heap.size, 0, none⟩),_,_,_,.pointer (some ⟨P.g, 0, none⟩),_,_,.pointer (some ⟨k9, 0, none⟩),_,_,_,_,_,_,_,_,_,_,_,_,_,_,_,_,_,_,_,_,_,_,_,_,_,_,_,_,_,_,_,_,_,_,_,_,_,_,_,_,_,_,_,.pointer (some ⟨P.g, 0, none⟩),.pointer (some ⟨P.hf + 1, 0, none⟩),.pointer (some ⟨k9, 1, none⟩),.int .i64 V,.pointer (some ⟨w.heap.size, 5, none⟩),.pointer (some ⟨w.heap.size, 11, none⟩),.agg (MC (mS s.f)),.tuple #[.agg (EC x), .bool is],_,_,_,_,_,_,_,_,_,_,_,_,_,_,_,_,_,_,_,_,_,_,_,_,_,_,_,_,_,_,_,_,_,_,_,_], []⟩ _
        refine wpAnyH_take (i := 8) (v := .tuple #[.agg (EC x), .bool is]) rfl (by kernel_rfl) (by kernel_rfl) (by kernel_rfl) (fun _ _ _ h => h) (Or.inl ⟨by rfl, ?_⟩) hHeld ?_
        · intro W hW; (try dsimp only at hW); go_simp
        change wpAnyH _ _ _ _ _ _ _ ⟨#[_,_,_,.pointer (some ⟨w.heap.size, 0, none⟩),_,_,_,.pointer (some ⟨P.g, 0, none⟩),_,_,.pointer (some ⟨k9, 0, none⟩),_,_,_,_,_,_,_,_,_,_,_,_,_,_,_,_,_,_,_,_,_,_,_,_,_,_,_,_,_,_,_,_,_,_,_,_,_,_,_,_,_,_,.tuple #[.agg (EC x), .bool is],.pointer (some ⟨P.g, 0, none⟩),.pointer (some ⟨P.hf + 1, 0, none⟩),.pointer (some ⟨k9, 1, none⟩),.int .i64 V,.pointer (some ⟨w.heap.size, 5, none⟩),.pointer (some ⟨w.heap.size, 11, none⟩),.agg (MC (mS s.f)),.tuple #[.agg (EC x), .bool is],_,_,_,_,_,_,_,_,_,_,_,_,_,_,_,_,_,_,_,_,_,_,_,_,_,_,_,_,_,_,_,_,_,_,_,_], []⟩ _
        refine wpAnyH_take (i := 9) (v := .agg (EC x)) rfl (by kernel_rfl) (by kernel_rfl) (by kernel_rfl) (fun _ _ _ h => h) (Or.inl ⟨by rfl, ?_⟩) hHeld ?_
        · intro W hW; (try dsimp only at hW); go_simp
        change wpAnyH _ _ _ _ _ _ _ ⟨#[_,_,_,.pointer (some ⟨w.heap.size, 0, none⟩),_,_,_,.pointer (some ⟨P.g, 0, none⟩),_,_,.pointer (some ⟨k9, 0, none⟩),_,_,_,_,_,_,_,_,_,_,_,_,_,_,_,_,_,_,_,_,_,_,_,_,_,_,_,_,_,_,_,_,_,_,_,_,_,_,_,_,_,_,.tuple #[.agg (EC x), .bool is],.pointer (some ⟨P.g, 0, none⟩),.pointer (some ⟨P.hf + 1, 0, none⟩),.pointer (some ⟨k9, 1, none⟩),.int .i64 V,.pointer (some ⟨w.heap.size, 5, none⟩),.pointer (some ⟨w.heap.size, 11, none⟩),.agg (MC (mS s.f)),.tuple #[.agg (EC x), .bool is],.agg (EC x),_,_,_,_,_,_,_,_,_,_,_,_,_,_,_,_,_,_,_,_,_,_,_,_,_,_,_,_,_,_,_,_,_,_,_], []⟩ _
        refine wpAnyH_take (i := 10) (v := .bool is) rfl (by kernel_rfl) (by kernel_rfl) (by kernel_rfl) (fun _ _ _ h => h) (Or.inl ⟨by rfl, ?_⟩) hHeld ?_
        · intro W hW; (try dsimp only at hW); go_simp
        change wpAnyH _ _ _ _ _ _ _ ⟨#[_,_,_,.pointer (some ⟨w.heap.size, 0, none⟩),_,_,_,.pointer (some ⟨P.g, 0, none⟩),_,_,.pointer (some ⟨k9, 0, none⟩),_,_,_,_,_,_,_,_,_,_,_,_,_,_,_,_,_,_,_,_,_,_,_,_,_,_,_,_,_,_,_,_,_,_,_,_,_,_,_,_,_,_,.tuple #[.agg (EC x), .bool is],.pointer (some ⟨P.g, 0, none⟩),.pointer (some ⟨P.hf + 1, 0, none⟩),.pointer (some ⟨k9, 1, none⟩),.int .i64 V,.pointer (some ⟨w.heap.size, 5, none⟩),.pointer (some ⟨w.heap.size, 11, none⟩),.agg (MC (mS s.f)),.tuple #[.agg (EC x), .bool is],.agg (EC x),.bool is,_,_,_,_,_,_,_,_,_,_,_,_,_,_,_,_,_,_,_,_,_,_,_,_,_,_,_,_,_,_,_,_,_,_], []⟩ _
        refine wpAnyH_ready (rs := [11]) (by kernel_rfl) (by simp) ?_
        refine AllReadyH.cons rfl (fun K hK => ?_) AllReadyH.nil
        go_simp
        have bz : Box (y2.alloc (.cells #[.int .i64 0, .int .u8 0, .int .u8 0, .int .u8 0, .int .u8 0, .int .u8 0, .int .u8 0, .int .i64 0, .int .i64 0, .bool false] 61)) y2.heap.size (ecl zE) := Box.new y2 (ecl zE) 61
        have L11 : Hid (z9.heap.size ≤ y2.heap.size) := hide BW.out.size
        replace BW := hide (belowOn BW.out (below_alloc y2 (.cells #[.int .i64 0, .int .u8 0, .int .u8 0, .int .u8 0, .int .u8 0, .int .u8 0, .int .u8 0, .int .i64 0, .int .i64 0, .bool false] 61)))
        generalize (y2.alloc (.cells #[.int .i64 0, .int .u8 0, .int .u8 0, .int .u8 0, .int .u8 0, .int .u8 0, .int .u8 0, .int .i64 0, .int .i64 0, .bool false] 61)) = y3 at *
        generalize y2.heap.size = k11 at *
        have E11 := hide bz
        refine hK.out _ _ (SS.out _ BW.out).1 (fun hHeld => ?_)
        clear hK K bz
        change wpAnyH _ _ _ _ _ _ _ ⟨#[_,_,_,.pointer (some ⟨w.heap.size, 0, none⟩),_,_,_,.pointer (some ⟨P.g, 0, none⟩),_,_,.pointer (some ⟨k9, 0, none⟩),.pointer (some ⟨k11, 0, none⟩),_,_,_,_,_,_,_,_,_,_,_,_,_,_,_,_,_,_,_,_,_,_,_,_,_,_,_,_,_,_,_,_,_,_,_,_,_,_,_,_,_,.tuple #[.agg (EC x), .bool is],.pointer (some ⟨P.g, 0, none⟩),.pointer (some ⟨P.hf + 1, 0, none⟩),.pointer (some ⟨k9, 1, none⟩),.int .i64 V,.pointer (some ⟨w.heap.size, 5, none⟩),.pointer (some ⟨w.heap.size, 11, none⟩),.agg (MC (mS s.f)),.tuple #[.agg (EC x), .bool is],.agg (EC x),.bool is,_,_,_,_,_,_,_,_,_,_,_,_,_,_,_,_,_,_,_,_,_,_,_,_,_,_,_,_,_,_,_,_,_,_], []⟩ _
        refine wpAnyH_ready (rs := [12]) (by kernel_rfl) (by simp) ?_
        refine AllReadyH.cons rfl (fun K hK => ?_) AllReadyH.nil
        rw [if_pos (by rfl)]
        refine wp_store_mid 61 (.tmp 11) (.tmp 62) rfl k11 0 (EC x) rfl rfl E11.out.th Tryz.size61 (one_EC x) ?_
        have G3 := setCells_grown k11 (ecl x) 0 y3
        have bf := E11.out.self (cs' := ecl x) rfl
        have BW3 := below_grown BW.out G3 L11.out BW.out.size
        have e4 : World.setCells y3 k11 0 (EC x).toList = World.setCells y3 k11 0 (ecl x) := rfl
        rw [e4]
        generalize World.setCells y3 k11 0 (ecl x) = y4 at *
        refine hK.out _ _ (SS.out _ BW3).1 (fun hHeld => ?_)
        replace E11 := hide bf
        replace BW := hide BW3
        clear hK K G3 bf BW3 e4
        change wpAnyH _ _ _ _ _ _ _ ⟨#[_,_,_,.pointer (some ⟨w.heap.size, 0, none⟩),_,_,_,.pointer (some ⟨P.g, 0, none⟩),_,_,.pointer (some ⟨k9, 0, none⟩),.pointer (some ⟨k11, 0, none⟩),_,_,_,_,_,_,_,_,_,_,_,_,_,_,_,_,_,_,_,_,_,_,_,_,_,_,_,_,_,_,_,_,_,_,_,_,_,_,_,_,_,.tuple #[.agg (EC x), .bool is],.pointer (some ⟨P.g, 0, none⟩),.pointer (some ⟨P.hf + 1, 0, none⟩),.pointer (some ⟨k9, 1, none⟩),.int .i64 V,.pointer (some ⟨w.heap.size, 5, none⟩),.pointer (some ⟨w.heap.size, 11, none⟩),.agg (MC (mS s.f)),.tuple #[.agg (EC x), .bool is],.agg (EC x),.bool is,_,_,_,_,_,_,_,_,_,_,_,_,_,_,_,_,_,_,_,_,_,_,_,_,_,_,_,_,_,_,_,_,_,_], []⟩ _
        refine wpAnyH_take (i := 13) (v := .bool is) rfl (by kernel_rfl) (by kernel_rfl) (by kernel_rfl) (fun _ _ _ h => h) (Or.inl ⟨by rfl, ?_⟩) hHeld ?_
        · intro W hW; (try dsimp only at hW); go_simp
        change wpAnyH _ _ _ _ _ _ _ ⟨#[_,_,_,.pointer (some ⟨w.heap.size, 0, none⟩),_,_,_,.pointer (some ⟨P.g, 0, none⟩),_,_,.pointer (some ⟨k9, 0, none⟩),.pointer (some ⟨k11, 0, none⟩),.bool is,_,_,_,_,_,_,_,_,_,_,_,_,_,_,_,_,_,_,_,_,_,_,_,_,_,_,_,_,_,_,_,_,_,_,_,_,_,_,_,_,.tuple #[.agg (EC x), .bool is],.pointer (some ⟨P.g, 0, none⟩),.pointer (some ⟨P.hf + 1, 0, none⟩),.pointer (some ⟨k9, 1, none⟩),.int .i64 V,.pointer (some ⟨w.heap.size, 5, none⟩),.pointer (some ⟨w.heap.size, 11, none⟩),.agg (MC (mS s.f)),.tuple #[.agg (EC x), .bool is],.agg (EC x),.bool is,_,_,_,_,_,_,_,_,_,_,_,_,_,_,_,_,_,_,_,_,_,_,_,_,_,_,_,_,_,_,_,_,_,_], []⟩ _
        refine wpAnyH_done (by kernel_rfl) ?_ _
        go_wp2_with fail
        go_meet
        case rel => exact ⟨BW.out, k11, rfl, rfl, E11.out⟩
      · skip
        go_simp
        have bz : Box (y0.alloc (.cells #[.int .i64 0, .int .u8 0, .int .u8 0, .int .u8 0, .int .u8 0, .int .u8 0, .int .u8 0, .int .i64 0, .int .i64 0, .bool false] 61)) y0.heap.size (ecl zE) := Box.new y0 (ecl zE) 61
        have L11 : Hid (z9.heap.size ≤ y0.heap.size) := hide BW.out.size
        replace BW := hide (belowOn BW.out (below_alloc y0 (.cells #[.int .i64 0, .int .u8 0, .int .u8 0, .int .u8 0, .int .u8 0, .int .u8 0, .int .u8 0, .int .i64 0, .int .i64 0, .bool false] 61)))
        generalize (y0.alloc (.cells #[.int .i64 0, .int .u8 0, .int .u8 0, .int .u8 0, .int .u8 0, .int .u8 0, .int .u8 0, .int .i64 0, .int .i64 0, .bool false] 61)) = y5 at *
        generalize y0.heap.size = k11 at *
        have E11 := hide bz
        refine hK.out _ _ (SS.out _ BW.out).1 (fun hHeld => ?_)
        clear hK K bz
        change wpAnyH _ _ _ _ _ _ _ ⟨#[_,_,_,.pointer (some ⟨w.heap.size, 0, none⟩),_,_,_,.pointer (some ⟨P.g, 0, none⟩),_,_,.pointer (some ⟨k9, 0, none⟩),.pointer (some ⟨k11, 0, none⟩),_,_,_,_,_,_,_,_,_,_,_,_,_,_,_,_,_,_,_,_,_,_,_,_,_,_,_,_,_,_,_,_,_,_,_,_,_,_,_,_,_,_,.pointer (some ⟨P.g, 0, none⟩),.pointer (some ⟨P.hf + 1, 0, none⟩),.pointer (some ⟨k9, 1, none⟩),.int .i64 V,.pointer (some ⟨w.heap.size, 5, none⟩),.pointer (some ⟨w.heap.size, 11, none⟩),.agg (MC (mS s.f)),_,_,_,_,_,_,_,_,_,_,_,_,_,_,_,_,_,_,_,_,_,_,_,_,_,_,_,_,_,_,_,_,_,_,_,_,_], []⟩ _
        refine wpAnyH_ready (rs := [7]) (by kernel_rfl) (by simp) ?_
        refine AllReadyH.cons rfl (fun K hK => ?_) AllReadyH.nil
        go_simp
        obtain ⟨ps, hpf⟩ := (SS.out _ BW.out).2.pf
        refine (look11 P.hf ps B1.F V (mS s.f) _ HG.out.ms hpf).mono ?_
        rw [← HXX.out, ← HIS.out]
        rintro e y6 ⟨rfl, b1⟩
        replace BW := hide (belowOn BW.out b1)
        replace E11 := hide (E11.out.on b1)
        refine hK.out _ _ (SS.out _ BW.out).1 (fun hHeld => ?_)
        clear hK K b1 hpf
        change wpAnyH _ _ _ _ _ _ _ ⟨#[_,_,_,.pointer (some ⟨w.heap.size, 0, none⟩),_,_,_,.pointer (some ⟨P.g, 0, none⟩),_,_,.pointer (some ⟨k9, 0, none⟩),.pointer (some ⟨k11, 0, none⟩),_,_,_,_,_,_,_,_,_,_,_,_,_,_,_,_,_,_,_,_,_,_,_,_,_,_,_,_,_,_,_,_,_,_,_,_,_,_,_,_,_,_,.pointer (some ⟨P.g, 0, none⟩),.pointer (some ⟨P.hf + 1, 0, none⟩),.pointer (some ⟨k9, 1, none⟩),.int .i64 V,.pointer (some ⟨w.heap.size, 5, none⟩),.pointer (some ⟨w.heap.size, 11, none⟩),.agg (MC (mS s.f)),.tuple #[.agg (EC x), .bool is],_,_,_,_,_,_,_,_,_,_,_,_,_,_,_,_,_,_,_,_,_,_,_,_,_,_,_,_,_,_,_,_,_,_,_,_], []⟩ _
        refine wpAnyH_take (i := 8) (v := .tuple #[.agg (EC x), .bool is]) rfl (by kernel_rfl) (by kernel_rfl) (by kernel_rfl) (fun _ _ _ h => h) (Or.inl ⟨by rfl, ?_⟩) hHeld ?_
        · intro W hW; (try dsimp only at hW); go_simp
        change wpAnyH _ _ _ _ _ _ _ ⟨#[_,_,_,.pointer (some ⟨w.heap.size, 0, none⟩),_,_,_,.pointer (some ⟨P.g, 0, none⟩),_,_,.pointer (some ⟨k9, 0, none⟩),.pointer (some ⟨k11, 0, none⟩),_,_,_,_,_,_,_,_,_,_,_,_,_,_,_,_,_,_,_,_,_,_,_,_,_,_,_,_,_,_,_,_,_,_,_,_,_,_,_,_,_,.tuple #[.agg (EC x), .bool is],.pointer (some ⟨P.g, 0, none⟩),.pointer (some ⟨P.hf + 1, 0, none⟩),.pointer (some ⟨k9, 1, none⟩),.int .i64 V,.pointer (some ⟨w.heap.size, 5, none⟩),.pointer (some ⟨w.heap.size, 11, none⟩),.agg (MC (mS s.f)),.tuple #[.agg (EC x), .bool is],_,_,_,_,_,_,_,_,_,_,_,_,_,_,_,_,_,_,_,_,_,_,_,_,_,_,_,_,_,_,_,_,_,_,_,_], []⟩ _
        refine wpAnyH_take (i := 9) (v := .agg (EC x)) rfl (by kernel_rfl) (by kernel_rfl) (by kernel_rfl) (fun _ _ _ h => h) (Or.inl ⟨by rfl, ?_⟩) hHeld ?_
        · intro W hW; (try dsimp only at hW); go_simp
        change wpAnyH _ _ _ _ _ _ _ ⟨#[_,_,_,.pointer (some ⟨w.heap.size, 0, none⟩),_,_,_,.pointer (some ⟨P.g, 0, none⟩),_,_,.pointer (some ⟨k9, 0, none⟩),.pointer (some ⟨k11, 0, none⟩),_,_,_,_,_,_,_,_,_,_,_,_,_,_,_,_,_,_,_,_,_,_,_,_,_,_,_,_,_,_,_,_,_,_,_,_,_,_,_,_,_,.tuple #[.agg (EC x), .bool is],.pointer (some ⟨P.g, 0, none⟩),.pointer (some ⟨P.hf + 1, 0, none⟩),.pointer (some ⟨k9, 1, none⟩),.int .i64 V,.pointer (some ⟨w.heap.size, 5, none⟩),.pointer (some ⟨w.heap.size, 11, none⟩),.agg (MC (mS s.f)),.tuple #[.agg (EC x), .bool is],.agg (EC x),_,_,_,_,_,_,_,_,_,_,_,_,_,_,_,_,_,_,_,_,_,_,_,_,_,_,_,_,_,_,_,_,_,_,_], []⟩ _
        refine wpAnyH_take (i := 10) (v := .bool is) rfl (by kernel_rfl) (by kernel_rfl) (by kernel_rfl) (fun _ _ _ h => h) (Or.inl ⟨by rfl, ?_⟩) hHeld ?_
        · intro W hW; (try dsimp only at hW); go_simp
        change wpAnyH _ _ _ _ _ _ _ ⟨#[_,_,_,.pointer (some ⟨w.heap.size, 0, none⟩),_,_,_,.pointer (some ⟨P.g, 0, none⟩),_,_,.pointer (some ⟨k9, 0, none⟩),.pointer (some ⟨k11, 0, none⟩),_,_,_,_,_,_,_,_,_,_,_,_,_,_,_,_,_,_,_,_,_,_,_,_,_,_,_,_,_,_,_,_,_,_,_,_,_,_,_,_,_,.tuple #[.agg (EC x), .bool is],.pointer (some ⟨P.g, 0, none⟩),.pointer (some ⟨P.hf + 1, 0, none⟩),.pointer (some ⟨k9, 1, none⟩),.int .i64 V,.pointer (some ⟨w.heap.size, 5, none⟩),.pointer (some ⟨w.heap.size, 11, none⟩),.agg (MC (mS s.f)),.tuple #[.agg (EC x), .bool is],.agg (EC x),.bool is,_,_,_,_,_,_,_,_,_,_,_,_,_,_,_,_,_,_,_,_,_,_,_,_,_,_,_,_,_,_,_,_,_,_], []⟩ _
        refine wpAnyH_ready (rs := [12]) (by kernel_rfl) (by simp) ?_
        refine AllReadyH.cons rfl (fun K hK => ?_) AllReadyH.nil
        rw [if_pos (by rfl)]
        refine wp_store_mid 61 (.tmp 11) (.tmp 62) rfl k11 0 (EC x) rfl rfl E11.out.th Tryz.size61 (one_EC x) ?_
        have G3 := setCells_grown k11 (ecl x) 0 y6
        have bf := E11.out.self (cs' := ecl x) rfl
        have BW3 := below_grown BW.out G3 L11.out BW.out.size
        have e4 : World.setCells y6 k11 0 (EC x).toList = World.setCells y6 k11 0 (ecl x) := rfl
        rw [e4]
        generalize World.setCells y6 k11 0 (ecl x) = y7 at *
        refine hK.out _ _ (SS.out _ BW3).1 (fun hHeld => ?_)
        replace E11 := hide bf
        replace BW := hide BW3
        clear hK K G3 bf BW3 e4
        change wpAnyH _ _ _ _ _ _ _ ⟨#[_,_,_,.pointer (some ⟨w.heap.size, 0, none⟩),_,_,_,.pointer (some ⟨P.g, 0, none⟩),_,_,.pointer (some ⟨k9, 0, none⟩),.pointer (some ⟨k11, 0, none⟩),_,_,_,_,_,_,_,_,_,_,_,_,_,_,_,_,_,_,_,_,_,_,_,_,_,_,_,_,_,_,_,_,_,_,_,_,_,_,_,_,_,.tuple #[.agg (EC x), .bool is],.pointer (some ⟨P.g, 0, none⟩),.pointer (some ⟨P.hf + 1, 0, none⟩),.pointer (some ⟨k9, 1, none⟩),.int .i64 V,.pointer (some ⟨w.heap.size, 5, none⟩),.pointer (some ⟨w.heap.size, 11, none⟩),.agg (MC (mS s.f)),.tuple #[.agg (EC x), .bool is],.agg (EC x),.bool is,_,_,_,_,_,_,_,_,_,_,_,_,_,_,_,_,_,_,_,_,_,_,_,_,_,_,_,_,_,_,_,_,_,_], []⟩ _
        refine wpAnyH_take (i := 13) (v := .bool is) rfl (by kernel_rfl) (by kernel_rfl) (by kernel_rfl) (fun _ _ _ h => h) (Or.inl ⟨by rfl, ?_⟩) hHeld ?_
        · intro W hW; (try dsimp only at hW); go_simp
        change wpAnyH _ _ _ _ _ _ _ ⟨#[_,_,_,.pointer (some ⟨w.heap.size, 0, none⟩),_,_,_,.pointer (some ⟨P.g, 0, none⟩),_,_,.pointer (some ⟨k9, 0, none⟩),.pointer (some ⟨k11, 0, none⟩),.bool is,_,_,_,_,_,_,_,_,_,_,_,_,_,_,_,_,_,_,_,_,_,_,_,_,_,_,_,_,_,_,_,_,_,_,_,_,_,_,_,_,.tuple #[.agg (EC x), .bool is],.pointer (some ⟨P.g, 0, none⟩),.pointer (some ⟨P.hf + 1, 0, none⟩),.pointer (some ⟨k9, 1, none⟩),.int .i64 V,.pointer (some ⟨w.heap.size, 5, none⟩),.pointer (some ⟨w.heap.size, 11, none⟩),.agg (MC (mS s.f)),.tuple #[.agg (EC x), .bool is],.agg (EC x),.bool is,_,_,_,_,_,_,_,_,_,_,_,_,_,_,_,_,_,_,_,_,_,_,_,_,_,_,_,_,_,_,_,_,_,_], []⟩ _
        refine wpAnyH_done (by kernel_rfl) ?_ _
        go_wp2_with fail
        go_meet
        case rel => exact ⟨BW.out, k11, rfl, rfl, E11.out⟩
    · skip
      go_simp
      have bz : Box (y0.alloc (.cells #[.int .i64 0, .int .u8 0, .int .u8 0, .int .u8 0, .int .u8 0, .int .u8 0, .int .u8 0, .int .i64 0, .int .i64 0, .bool false] 61)) y0.heap.size (ecl zE) := Box.new y0 (ecl zE) 61
      have L11 : Hid (z9.heap.size ≤ y0.heap.size) := hide BW.out.size
      replace BW := hide (belowOn BW.out (below_alloc y0 (.cells #[.int .i64 0, .int .u8 0, .int .u8 0, .int .u8 0, .int .u8 0, .int .u8 0, .int .u8 0, .int .i64 0, .int .i64 0, .bool false] 61)))
      generalize (y0.alloc (.cells #[.int .i64 0, .int .u8 0, .int .u8 0, .int .u8 0, .int .u8 0, .int .u8 0, .int .u8 0, .int .i64 0, .int .i64 0, .bool false] 61)) = y8 at *
      generalize y0.heap.size = k11 at *
      have E11 := hide bz
      refine hK.out _ _ (SS.out _ BW.out).1 (fun hHeld => ?_)
      clear hK K bz
      change wpAnyH _ _ _ _ _ _ _ ⟨#[_,_,_,.pointer (some ⟨w.heap.size, 0, none⟩),_,_,_,.pointer (some ⟨P.g, 0, none⟩),_,_,.pointer (some ⟨k9, 0, none⟩),.pointer (some ⟨k11, 0, none⟩),_,_,_,_,_,_,_,_,_,_,_,_,_,_,_,_,_,_,_,_,_,_,_,_,_,_,_,_,_,_,_,_,_,_,_,_,_,_,_,_,_,_,.pointer (some ⟨P.g, 0, none⟩),_,.pointer (some ⟨k9, 1, none⟩),.int .i64 V,.pointer (some ⟨w.heap.size, 5, none⟩),.pointer (some ⟨w.heap.size, 11, none⟩),.agg (MC (mS s.f)),_,_,_,_,_,_,_,_,_,_,_,_,_,_,_,_,_,_,_,_,_,_,_,_,_,_,_,_,_,_,_,_,_,_,_,_,_], []⟩ _
      refine wpAnyH_ready (rs := [1]) (by kernel_rfl) (by simp) ?_
      refine AllReadyH.cons rfl (fun K hK => ?_) AllReadyH.nil
      go_simp
      refine (stationsQ P B1 _ (SS.out _ BW.out).2).mono ?_
      rintro e y9 ⟨rfl, hw⟩
      obtain rfl : y8 = y9 := hw.symm
      refine hK.out _ _ (SS.out _ BW.out).1 (fun hHeld => ?_)
      clear hK K
      change wpAnyH _ _ _ _ _ _ _ ⟨#[_,_,_,.pointer (some ⟨w.heap.size, 0, none⟩),_,_,_,.pointer (some ⟨P.g, 0, none⟩),_,_,.pointer (some ⟨k9, 0, none⟩),.pointer (some ⟨k11, 0, none⟩),_,_,_,_,_,_,_,_,_,_,_,_,_,_,_,_,_,_,_,_,_,_,_,_,_,_,_,_,_,_,_,_,_,_,_,_,_,_,_,_,_,_,.pointer (some ⟨P.g, 0, none⟩),.pointer (some ⟨P.hf + 1, 0, none⟩),.pointer (some ⟨k9, 1, none⟩),.int .i64 V,.pointer (some ⟨w.heap.size, 5, none⟩),.pointer (some ⟨w.heap.size, 11, none⟩),.agg (MC (mS s.f)),_,_,_,_,_,_,_,_,_,_,_,_,_,_,_,_,_,_,_,_,_,_,_,_,_,_,_,_,_,_,_,_,_,_,_,_,_], []⟩ _
      refine wpAnyH_ready (rs := [7]) (by kernel_rfl) (by simp) ?_
      refine AllReadyH.cons rfl (fun K hK => ?_) AllReadyH.nil
      go_simp
      obtain ⟨ps, hpf⟩ := (SS.out _ BW.out).2.pf
      refine (look11 P.hf ps B1.F V (mS s.f) _ HG.out.ms hpf).mono ?_
      rw [← HXX.out, ← HIS.out]
      rintro e y10 ⟨rfl, b1⟩
      replace BW := hide (belowOn BW.out b1)
      replace E11 := hide (E11.out.on b1)
      refine hK.out _ _ (SS.out _ BW.out).1 (fun hHeld => ?_)
      clear hK K b1 hpf
      change wpAnyH _ _ _ _ _ _ _ ⟨#[_,_,_,.pointer (some ⟨w.heap.size, 0, none⟩),_,_,_,.pointer (some ⟨P.g, 0, none⟩),_,_,.pointer (some ⟨k9, 0, none⟩),.pointer (some ⟨k11, 0, none⟩),_,_,_,_,_,_,_,_,_,_,_,_,_,_,_,_,_,_,_,_,_,_,_,_,_,_,_,_,_,_,_,_,_,_,_,_,_,_,_,_,_,_,.pointer (some ⟨P.g, 0, none⟩),.pointer (some ⟨P.hf + 1, 0, none⟩),.pointer (some ⟨k9, 1, none⟩),.int .i64 V,.pointer (some ⟨w.heap.size, 5, none⟩),.pointer (some ⟨w.heap.size, 11, none⟩),.agg (MC (mS s.f)),.tuple #[.agg (EC x), .bool is],_,_,_,_,_,_,_,_,_,_,_,_,_,_,_,_,_,_,_,_,_,_,_,_,_,_,_,_,_,_,_,_,_,_,_,_], []⟩ _
      refine wpAnyH_take (i := 8) (v := .tuple #[.agg (EC x), .bool is]) rfl (by kernel_rfl) (by kernel_rfl) (by kernel_rfl) (fun _ _ _ h => h) (Or.inl ⟨by rfl, ?_⟩) hHeld ?_
      · intro W hW; (try dsimp only at hW); go_simp
      change wpAnyH _ _ _ _ _ _ _ ⟨#[_,_,_,.pointer (some ⟨w.heap.size, 0, none⟩),_,_,_,.pointer (some ⟨P.g, 0, none⟩),_,_,.pointer (some ⟨k9, 0, none⟩),.pointer (some ⟨k11, 0, none⟩),_,_,_,_,_,_,_,_,_,_,_,_,_,_,_,_,_,_,_,_,_,_,_,_,_,_,_,_,_,_,_,_,_,_,_,_,_,_,_,_,_,.tuple #[.agg (EC x), .bool is],.pointer (some ⟨P.g, 0, none⟩),.pointer (some ⟨P.hf + 1, 0, none⟩),.pointer (some ⟨k9, 1, none⟩),.int .i64 V,.pointer (some ⟨w.heap.size, 5, none⟩),.pointer (some ⟨w.heap.size, 11, none⟩),.agg (MC (mS s.f)),.tuple #[.agg (EC x), .bool is],_,_,_,_,_,_,_,_,_,_,_,_,_,_,_,_,_,_,_,_,_,_,_,_,_,_,_,_,_,_,_,_,_,_,_,_], []⟩ _
      refine wpAnyH_take (i := 9) (v := .agg (EC x)) rfl (by kernel_rfl) (by kernel_rfl) (by kernel_rfl) (fun _ _ _ h => h) (Or.inl ⟨by rfl, ?_⟩) hHeld ?_
      · intro W hW; (try dsimp only at hW); go_simp
      change wpAnyH _ _ _ _ _ _ _ ⟨#[_,_,_,.pointer (some ⟨w.heap.size, 0, none⟩),_,_,_,.pointer (some ⟨P.g, 0, none⟩),_,_,.pointer (some ⟨k9, 0, none⟩),.pointer (some ⟨k11, 0, none⟩),_,_,_,_,_,_,_,_,_,_,_,_,_,_,_,_,_,_,_,_,_,_,_,_,_,_,_,_,_,_,_,_,_,_,_,_,_,_,_,_,_,.tuple #[.agg (EC x), .bool is],.pointer (some ⟨P.g, 0, none⟩),.pointer (some ⟨P.hf + 1, 0, none⟩),.pointer (some ⟨k9, 1, none⟩),.int .i64 V,.pointer (some ⟨w.heap.size, 5, none⟩),.pointer (some ⟨w.heap.size, 11, none⟩),.agg (MC (mS s.f)),.tuple #[.agg (EC x), .bool is],.agg (EC x),_,_,_,_,_,_,_,_,_,_,_,_,_,_,_,_,_,_,_,_,_,_,_,_,_,_,_,_,_,_,_,_,_,_,_], []⟩ _
      refine wpAnyH_take (i := 10) (v := .bool is) rfl (by kernel_rfl) (by kernel_rfl) (by kernel_rfl) (fun _ _ _ h => h) (Or.inl ⟨by rfl, ?_⟩) hHeld ?_
      · intro W hW; (try dsimp only at hW); go_simp
      change wpAnyH _ _ _ _ _ _ _ ⟨#[_,_,_,.pointer (some ⟨w.heap.size, 0, none⟩),_,_,_,.pointer (some ⟨P.g, 0, none⟩),_,_,.pointer (some ⟨k9, 0, none⟩),.pointer (some ⟨k11, 0, none⟩),_,_,_,_,_,_,_,_,_,_,_,_,_,_,_,_,_,_,_,_,_,_,_,_,_,_,_,_,_,_,_,_,_,_,_,_,_,_,_,_,_,.tuple #[.agg (EC x), .bool is],.pointer (some ⟨P.g, 0, none⟩),.pointer (some ⟨P.hf + 1, 0, none⟩),.pointer (some ⟨k9, 1, none⟩),.int .i64 V,.pointer (some ⟨w.heap.size, 5, none⟩),.pointer (some ⟨w.heap.size, 11, none⟩),.agg (MC (mS s.f)),.tuple #[.agg (EC x), .bool is],.agg (EC x),.bool is,_,_,_,_,_,_,_,_,_,_,_,_,_,_,_,_,_,_,_,_,_,_,_,_,_,_,_,_,_,_,_,_,_,_], []⟩ _
      refine wpAnyH_ready (rs := [12]) (by kernel_rfl) (by simp) ?_
      refine AllReadyH.cons rfl (fun K hK => ?_) AllReadyH.nil
      rw [if_pos (by rfl)]
      refine wp_store_mid 61 (.tmp 11) (.tmp 62) rfl k11 0 (EC x) rfl rfl E11.out.th Tryz.size61 (one_EC x) ?_
      have G3 := setCells_grown k11 (ecl x) 0 y10
      have bf := E11.out.self (cs' := ecl x) rfl
      have BW3 := below_grown BW.out G3 L11.out BW.out.size
      have e4 : World.setCells y10 k11 0 (EC x).toList = World.setCells y10 k11 0 (ecl x) := rfl
      rw [e4]
      generalize World.setCells y10 k11 0 (ecl x) = y11 at *
      refine hK.out _ _ (SS.out _ BW3).1 (fun hHeld => ?_)
      replace E11 := hide bf
      replace BW := hide BW3
      clear hK K G3 bf BW3 e4
      change wpAnyH _ _ _ _ _ _ _ ⟨#[_,_,_,.pointer (some ⟨w.heap.size, 0, none⟩),_,_,_,.pointer (some ⟨P.g, 0, none⟩),_,_,.pointer (some ⟨k9, 0, none⟩),.pointer (some ⟨k11, 0, none⟩),_,_,_,_,_,_,_,_,_,_,_,_,_,_,_,_,_,_,_,_,_,_,_,_,_,_,_,_,_,_,_,_,_,_,_,_,_,_,_,_,_,.tuple #[.agg (EC x), .bool is],.pointer (some ⟨P.g, 0, none⟩),.pointer (some ⟨P.hf + 1, 0, none⟩),.pointer (some ⟨k9, 1, none⟩),.int .i64 V,.pointer (some ⟨w.heap.size, 5, none⟩),.pointer (some ⟨w.heap.size, 11, none⟩),.agg (MC (mS s.f)),.tuple #[.agg (EC x), .bool is],.agg (EC x),.bool is,_,_,_,_,_,_,_,_,_,_,_,_,_,_,_,_,_,_,_,_,_,_,_,_,_,_,_,_,_,_,_,_,_,_], []⟩ _
      refine wpAnyH_take (i := 13) (v := .bool is) rfl (by kernel_rfl) (by kernel_rfl) (by kernel_rfl) (fun _ _ _ h => h) (Or.inl ⟨by rfl, ?_⟩) hHeld ?_
      · intro W hW; (try dsimp only at hW); go_simp
      change wpAnyH _ _ _ _ _ _ _ ⟨#[_,_,_,.pointer (some ⟨w.heap.size, 0, none⟩),_,_,_,.pointer (some ⟨P.g, 0, none⟩),_,_,.pointer (some ⟨k9, 0, none⟩),.pointer (some ⟨k11, 0, none⟩),.bool is,_,_,_,_,_,_,_,_,_,_,_,_,_,_,_,_,_,_,_,_,_,_,_,_,_,_,_,_,_,_,_,_,_,_,_,_,_,_,_,_,.tuple #[.agg (EC x), .bool is],.pointer (some ⟨P.g, 0, none⟩),.pointer (some ⟨P.hf + 1, 0, none⟩),.pointer (some ⟨k9, 1, none⟩),.int .i64 V,.pointer (some ⟨w.heap.size, 5, none⟩),.pointer (some ⟨w.heap.size, 11, none⟩),.agg (MC (mS s.f)),.tuple #[.agg (EC x), .bool is],.agg (EC x),.bool is,_,_,_,_,_,_,_,_,_,_,_,_,_,_,_,_,_,_,_,_,_,_,_,_,_,_,_,_,_,_,_,_,_,_], []⟩ _
      refine wpAnyH_done (by kernel_rfl) ?_ _
      go_wp2_with fail
      go_meet
      case rel => exact ⟨BW.out, k11, rfl, rfl, E11.out⟩
  case rest =>
  obtain ⟨bb, k11, rfl, rfl, he⟩ := hcut
  have HE := hide he
  replace HP := hide (HP.out.on bb)
  replace HX := hide (HX.out.on bb)
  replace HG := hide (HG.out.on bb)
  replace HO := hide (HO.out.on bb)
  replace HK9 := hide (HK9.out.on bb)
  replace HB := hide (belowOn HB.out bb)
  replace HE1 := hide (HE1.out.on bb)
  clear he SS BW bb
  have cw := HK9.out.cell 0 _ rfl
  have c1 := HX.out.cell 1 _ rfl
  have c22 := HX.out.cell 22 _ rfl
  have x7 := HE.out.cell 7 _ rfl
  have x8 := HE.out.cell 8 _ rfl
  have x9 := HE.out.cell 9 _ rfl
  rcases learns_plain HW0.out HT.out HG.out.ms HXX.out HIS.out with ⟨h1, h5, hF⟩ | ⟨hC, hn, hy⟩
  · go_wp2_with (go_at_call 23; refine (stationsQ P B1 _ HP.out).mono ?_; rintro e w' ⟨rfl, hw⟩; obtain rfl : _ = w' := hw.symm)
    obtain ⟨ps2, hpf⟩ := HP.out.pf
    refine (all14 P.hf ps2 B1.F _ hpf).mono ?_
    rintro e z4 ⟨ae2, ce2, rfl, hE, bb⟩
    have HE2 := hide hE
    replace HE1 := hide (HE1.out.on bb)
    replace HB := hide (belowOn HB.out bb)
    clear bb hE hpf
    rw [hF] at HE2
    rw [hF]
    go_wp2_with fail
    refine (same13 _ _ _ _ _ _ _ _ HE2.out HE1.out).mono ?_
    rintro e z5 ⟨rfl, bb⟩
    replace HB := hide (belowOn HB.out bb)
    clear bb HE1 HE2
    go_wp2
    go_ret
    exact ⟨rfl, HB.out⟩
  · have HL : Hid (is = false → B0.F.l.length = 20) := hide (fun h => by rw [hn h]; exact HFN.out)
    have HY2 := hide hy
    clear hn hy HXX HIS HT
    rcases hC with rfl | rfl | rfl | rfl
    all_goals
      cases is
      · have hl := HL.out rfl
        rw [hl]
        go_wp2
        go_ret
        exact ⟨rfl, HB.out⟩
      · rcases HY2.out rfl with hs | ⟨hp, ht⟩
        · rw [hs] at x9
          go_wp2
          go_ret
          exact ⟨rfl, HB.out⟩
        · rw [hp] at x7
          rw [ht] at x8
          generalize x.s = xs1 at *
          cases xs1
          · go_wp2
            go_ret
            exact ⟨by simp, HB.out⟩
          · go_wp2
            go_ret
            exact ⟨rfl, HB.out⟩
set_option maxRecDepth 100000 in
set_option maxHeartbeats 2000000 in
theorem flowLearnslifted (os : Os) (started : os.Started) (H : Type) (enc : TypeId × Value → H) :
    ReturnsInHanded {} Tryz.checked os 6 .any (Rows.flowLearnsSpec.pre6 enc Tryz.prog Tryz.f6 Rows.flowLearnsRow.domain false) (Rows.flowLearnsSpec.post enc Tryz.prog Tryz.f6 false true false false) := by
  refine returnsInHanded_of_change (C := Tryz.checked) own started (by kernel_rfl) Tryz.func6
    (ChangeSpec.witness6 (enc := enc) (C := Tryz.checked) false ⟨#[], #[.slice none 0 0, .agg #[.int .i64 0, .int .i64 0, .int .i64 0, .int .i64 0, .bool false, .int .u8 0, .int .u8 0, .int .u8 0, .int .u8 0, .int .u8 0, .int .u8 0, .int .u8 0, .int .u8 0, .int .u8 0, .int .u8 0, .int .u8 0, .int .u8 0, .bool false, .int .i64 0, .int .i64 0, .int .i64 0, .slice none 0 0, .int .i64 0]], []⟩ 8 (by kernel_rfl) (by kernel_rfl) (by kernel_rfl) (by kernel_rfl)) ?_
  intro W base args ds gs before hval0 hW _ _
  have hval : ∀ (j : Nat) t v, Tryz.f6.params[j]? = some t → args[j]? = some v → Value.okWide Tryz.prog W .any base t v := hval0
  have hW' := hW
  obtain ⟨p, q, hA0, hV, rfl, _, _⟩ := hW
  have hA : DataW.TrodAll enc Tryz.prog W 0 (fun _ => true) true Tryz.f6.params.toList args.toList ds p := hA0
  rw [Tryz.params6] at hA hval
  obtain ⟨v0, vs0, d0, ds0, p0, q0, hargs, rfl, rfl, h0, r0⟩ := trodAll_cons hA
  obtain ⟨v1, vs1, d1, ds1, p1, q1, rfl, rfl, rfl, h1, r1⟩ := trodAll_cons r0
  obtain ⟨rfl, rfl, rfl⟩ := trodAll_nil r1
  obtain rfl : args = #[v0, v1] := by cases args; simp_all
  obtain ⟨rfl, rfl⟩ := trodVars_none hV
  have h0k := h0
  obtain ⟨ao0, n0, c0, ss0, rfl, hs0⟩ := open_steps (hval 0 23 v0 rfl rfl) h0
  have h1k := h1
  obtain ⟨s1, rfl, hp1⟩ := open_step (hval 1 40 v1 rfl rfl) h1
  clear hA0 hval0
  simp only [List.append_nil] at hW'
  have hlt : ∀ x ∈ p0 ++ p1, x.block < W.heap.size := fun x hx => by simpa using hW'.lt x (by simpa using hx)
  refine (flowLearnsWalk ao0 n0 c0 ss0 s1 W hs0 hp1).mono fun e W' ⟨he, hbl⟩ => ?_
  subst he
  exact ⟨_, rfl, _, _, _, [], _, [], hW', (trodAll_cons_mk (shut_bool Tryz.underlying4 _) trodAll_mk0), (trodAll_cons_mk (Below.trod Tryz.laidOut (by kernel_rfl) (of_decide_eq_true (by kernel_rfl)) h0k hbl (fun x hx => hlt x (by simp [hx]))) (trodAll_cons_mk (Below.trod Tryz.laidOut (by kernel_rfl) (of_decide_eq_true (by kernel_rfl)) h1k hbl (fun x hx => hlt x (by simp [hx]))) trodAll_mk0)), rfl, hbl.frame _, fun h => by cases h⟩

theorem flowLearns_holds : Rows.FlowLearnsSaid :=
  OpenClaim.holds_of_wide 6 Tryz.f6 rfl rfl rfl rfl rfl rfl rfl ⟨rfl, rfl, rfl, rfl, rfl⟩ rfl rfl rfl rfl rfl (by kernel_rfl) Tryz.func6 (by kernel_rfl)
    (of_decide_eq_true (by kernel_rfl)) (by unfold Func.isWrapper; first | (rw [if_pos (by decide +kernel)]; kernel_rfl) | (rw [if_neg (by decide +kernel)]; exact ⟨rfl, rfl⟩))
    (fun os started H enc _ => flowLearnslifted os started H enc)

#print axioms flowLearns_holds
end Go.Proofs.YtgpdjfaklcmoiaaGreat
