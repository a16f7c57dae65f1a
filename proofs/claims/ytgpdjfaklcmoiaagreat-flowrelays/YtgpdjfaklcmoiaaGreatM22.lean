/- A step at both bridges: kind 0. -/
import Derived.Test.YtgpdjfaklcmoiaaGreatM16
namespace Go.Proofs.YtgpdjfaklcmoiaaGreat
open Go.RowKit Go.PlainAid
set_option maxRecDepth 100000 in
set_option maxHeartbeats 8000000 in
theorem step0 (A : RAd) (P : PAd) (B Z : Br) (x : Stp) (w : World) (H : Bh w A P B Z) (hd : x.d = 0) (G : Gst A P B Z x w) :
    Calls Tryz.prog 14 #[.pointer (some ⟨P.g, 0, none⟩), .pointer (some ⟨A.g, 0, none⟩), .agg (SPC x)] w (StP A P B Z x w) := by
  obtain ⟨hY, hm, hs, hya, hob, hoz, hvx⟩ := G
  have b0 := below_alloc w (.cells (SPC x) 40)
  have X0 : Box (w.alloc (.cells (SPC x) 40)) w.heap.size (stc x) := Box.new w (stc x) 40
  have HN : Hid (∀ B : Br, nxt B x = (tk B x.p x.f x.t).2) := hide (fun B => by unfold nxt; rw [hd, if_pos rfl])
  have c0 := X0.cell 0 _ rfl
  have c1 := X0.cell 1 _ rfl
  have c22 := X0.cell 22 _ rfl
  rw [hd] at c0
  have HH := hide (H.on b0)
  have HB := hide b0
  have HX := hide X0
  have HY := hide (hY.on b0)
  have HXW : Hid (∀ i, Dm A i → i < w.heap.size) := hide H.r.lt
  have HP : Hid (P.hi ≤ w.heap.size) := hide H.p.lt.2.2.2.2
  have HYW := hide hY.lt
  have HYD := hide hya
  have HQ := hide (fun z (h : PB z P B) (y : Byt z x.a x.k x.c x.f.bs) => takeQ P B x.p x.f x.a x.k x.c x.t z h y hm hs hob.1 hob.2.1 (fun b o e hn => by have h1 := hya b o e hn; have h2 : ¬ (P.lo ≤ b ∧ b < P.hi) := fun h => h1 (Or.inr h); omega))
  have HT := hide (fun z (h : RB z A Z) (y : Byt z x.a x.k x.c x.f.bs) => takeR A Z x.p x.f x.a x.k x.c x.t z h y (fun b o e hn hd => hya b o e hn (Or.inl hd)) hm hs hoz.1 hoz.2.1)
  clear b0 X0 H hd hY hm hs hya hob hoz hvx
  have tk1 : True := trivial
  go_enter Tryz.func14, Tryz.ntmps14
  go_wp2_with (first | (have _t := tk1; refine wpl_sf (.tmp 22) rfl HX.out ?_ ?_ ?_; rfl; rfl; clear tk1))
  generalize (w.alloc (.cells (SPC x) 40)) = z0 at *
  refine (HQ.out _ HH.out.p HY.out).mono ?_
  rintro e z1 ⟨ao, xs, cc, rfl, hO, hm1, hP, hM, hown⟩
  have HNB := hide (HN.out B)
  have HNZ := hide (HN.out Z)
  have HBZ : Hid (B = Z → tk B x.p x.f x.t = tk Z x.p x.f x.t) := hide (fun h => by rw [h])
  generalize (tk B x.p x.f x.t) = TB at *
  generalize (tk Z x.p x.f x.t) = TZ at *
  obtain ⟨⟨C, v, tt, oo⟩, B1⟩ := TB
  obtain ⟨⟨C2, v2, tt2, oo2⟩, Z1⟩ := TZ
  dsimp only at *
  have hyk : Byt z1 x.a x.k x.c x.f.bs := byt_ch (O := fun i => P.lo ≤ i ∧ i < P.hi) (O' := fun i => P.lo ≤ i ∧ i < P.hi) HY.out ⟨hM.os, hM.tape, hM.output, hM.size, fun i hi ho => hM.block i hi (by by_cases h1 : i < P.lo; exact Or.inl h1; exact Or.inr (Nat.le_of_not_lt (fun h2 => ho ⟨by omega, h2⟩))), fun i hi => Or.inl hi⟩ (fun b o e hn h => HYD.out b o e hn (Or.inr h))
  have HO := hide hO
  have HOO := hide hm1
  have HPB := hide hP
  have HM := hide hM
  have HOWN := hide hown
  have hx1 := HX.out.block (hM.block _ HX.out.lt (Or.inr HP.out))
  replace HX := hide hx1
  replace HY := hide hyk
  have HZ0 := hide HB.out.size
  have HS1 := hide hM.size
  clear hO hm1 hP hM hown hx1 hyk c0 c1 c22
  obtain ⟨z2, hz2⟩ : ∃ z2, z2 = z1.alloc (.cells #[.int .i64 C, .int .i64 v, .int .i64 tt, .slice ao xs.length cc] 50) := ⟨_, rfl⟩
  have hz2' : z1.alloc (.cells #[.int .i64 C, .int .i64 v, .int .i64 tt, .slice ao xs.length cc] 50) = z2 := hz2.symm
  have b2 : Below z1.heap.size z1 z2 := by rw [hz2]; exact below_alloc z1 _
  have K7 : Box z2 z1.heap.size (wcl C v tt (.slice ao xs.length cc)) := by rw [hz2]; exact Box.new z1 (wcl C v tt (.slice ao xs.length cc)) 50
  have HB2 := hide (belowOn b2 (below_drew z2))
  have HK := hide K7.drew
  replace HX := hide (HX.out.on HB2.out)
  replace HY := hide (HY.out.on HB2.out)
  replace HO := hide (HO.out.on HB2.out)
  have HRB := hide ((HH.out.mid HM.out).on HB2.out)
  clear hz2 b2 K7
  go_wp2_with fail
  refine wp_region_held_drew (S := fun w' => Box w' w.heap.size (stc x) ∧ Box w' z1.heap.size (wcl C v tt (.slice ao xs.length cc))) (by kernel_rfl) ⟨HX.out, HK.out⟩ (fun hHeld => ?_)
  clear hz2'
  generalize z2.drew = y1 at *
  refine wpAnyH_take (i := 0) (v := .agg #[.int .i64 C, .int .i64 v, .int .i64 tt, .slice ao xs.length cc]) rfl (by kernel_rfl) (by kernel_rfl) (by kernel_rfl) (fun _ _ _ h => h) (yieldsIf_load_mid (by rfl) 50 (.tmp 7) rfl z1.heap.size 0 rfl (wcl C v tt (.slice ao xs.length cc)) _ (fun W hW => hW.2.at_) Tryz.underlying50 rfl Tryz.size50) hHeld ?_
  change wpAnyH _ _ _ _ _ _ _ ⟨#[.pointer (some ⟨P.g, 0, none⟩),.pointer (some ⟨A.g, 0, none⟩),_,_,_,.pointer (some ⟨w.heap.size, 0, none⟩),_,.pointer (some ⟨z1.heap.size, 0, none⟩),_,_,_,_,_,_,_,_,_,_,_,_,_,_,_,_,_,_,_,.agg #[.int .i64 C, .int .i64 v, .int .i64 tt, .slice ao xs.length cc],_,_,_,_,_,_,_,_,_,_,_,_,_,_,_,_,_,_,_,_,_,_,_,_,_,_,_,_,_,_,_,_,_,_,_,_,_,_,_,_,_,_,_,_,_,_,_,_,_,_,_,_,_,_,_,_,_,_,_,_,_,_,_,_,_,_,_,_,_,_,_,_,_,_,_,_,_,_,_,_,_,_,_,_,_,_,_,_,_,_,_,_,_,_,_,_,_,_,_,_,_,_,_,_,_,_,_,_,_,_,_,_,_,_,_,_,_,_,_,_,_,_,_,_,_,_,_,_,_,_,_,_,_,_,_,_,_,_,_,_,_,_,_,_,_,_,_,_,_,_,_,_,_,_,_,_,_], []⟩ _
  refine wpAnyH_take (i := 1) (v := .pointer (some ⟨A.g, 0, none⟩)) rfl (by kernel_rfl) (by kernel_rfl) (by kernel_rfl) (fun _ _ _ h => h) (Or.inl ⟨by rfl, ?_⟩) hHeld ?_
  · intro W hW; (try dsimp only at hW); go_simp
  change wpAnyH _ _ _ _ _ _ _ ⟨#[.pointer (some ⟨P.g, 0, none⟩),.pointer (some ⟨A.g, 0, none⟩),_,_,_,.pointer (some ⟨w.heap.size, 0, none⟩),_,.pointer (some ⟨z1.heap.size, 0, none⟩),_,_,_,_,_,_,_,_,_,_,_,_,_,_,_,_,_,_,_,.agg #[.int .i64 C, .int .i64 v, .int .i64 tt, .slice ao xs.length cc],.pointer (some ⟨A.g, 0, none⟩),_,_,_,_,_,_,_,_,_,_,_,_,_,_,_,_,_,_,_,_,_,_,_,_,_,_,_,_,_,_,_,_,_,_,_,_,_,_,_,_,_,_,_,_,_,_,_,_,_,_,_,_,_,_,_,_,_,_,_,_,_,_,_,_,_,_,_,_,_,_,_,_,_,_,_,_,_,_,_,_,_,_,_,_,_,_,_,_,_,_,_,_,_,_,_,_,_,_,_,_,_,_,_,_,_,_,_,_,_,_,_,_,_,_,_,_,_,_,_,_,_,_,_,_,_,_,_,_,_,_,_,_,_,_,_,_,_,_,_,_,_,_,_,_,_,_,_,_,_,_,_,_,_,_,_,_], []⟩ _
  refine wpAnyH_take (i := 2) (v := .pointer (some ⟨w.heap.size, 1, none⟩)) rfl (by kernel_rfl) (by kernel_rfl) (by kernel_rfl) (fun _ _ _ h => h) (Or.inl ⟨by rfl, ?_⟩) hHeld ?_
  · intro W hW; (try dsimp only at hW); go_simp
  change wpAnyH _ _ _ _ _ _ _ ⟨#[.pointer (some ⟨P.g, 0, none⟩),.pointer (some ⟨A.g, 0, none⟩),_,_,_,.pointer (some ⟨w.heap.size, 0, none⟩),_,.pointer (some ⟨z1.heap.size, 0, none⟩),_,_,_,_,_,_,_,_,_,_,_,_,_,_,_,_,_,_,_,.agg #[.int .i64 C, .int .i64 v, .int .i64 tt, .slice ao xs.length cc],.pointer (some ⟨A.g, 0, none⟩),.pointer (some ⟨w.heap.size, 1, none⟩),_,_,_,_,_,_,_,_,_,_,_,_,_,_,_,_,_,_,_,_,_,_,_,_,_,_,_,_,_,_,_,_,_,_,_,_,_,_,_,_,_,_,_,_,_,_,_,_,_,_,_,_,_,_,_,_,_,_,_,_,_,_,_,_,_,_,_,_,_,_,_,_,_,_,_,_,_,_,_,_,_,_,_,_,_,_,_,_,_,_,_,_,_,_,_,_,_,_,_,_,_,_,_,_,_,_,_,_,_,_,_,_,_,_,_,_,_,_,_,_,_,_,_,_,_,_,_,_,_,_,_,_,_,_,_,_,_,_,_,_,_,_,_,_,_,_,_,_,_,_,_,_,_,_,_], []⟩ _
  refine wpAnyH_take (i := 3) (v := .int .i64 x.p) rfl (by kernel_rfl) (by kernel_rfl) (by kernel_rfl) (fun _ _ _ h => h) (Or.inl ⟨by rfl, ?_⟩) hHeld ?_
  · intro W hW; (try dsimp only at hW); have hc := hW.1.cell 1 _ rfl; clear hW; go_simp
  change wpAnyH _ _ _ _ _ _ _ ⟨#[.pointer (some ⟨P.g, 0, none⟩),.pointer (some ⟨A.g, 0, none⟩),_,_,_,.pointer (some ⟨w.heap.size, 0, none⟩),_,.pointer (some ⟨z1.heap.size, 0, none⟩),_,_,_,_,_,_,_,_,_,_,_,_,_,_,_,_,_,_,_,.agg #[.int .i64 C, .int .i64 v, .int .i64 tt, .slice ao xs.length cc],.pointer (some ⟨A.g, 0, none⟩),.pointer (some ⟨w.heap.size, 1, none⟩),.int .i64 x.p,_,_,_,_,_,_,_,_,_,_,_,_,_,_,_,_,_,_,_,_,_,_,_,_,_,_,_,_,_,_,_,_,_,_,_,_,_,_,_,_,_,_,_,_,_,_,_,_,_,_,_,_,_,_,_,_,_,_,_,_,_,_,_,_,_,_,_,_,_,_,_,_,_,_,_,_,_,_,_,_,_,_,_,_,_,_,_,_,_,_,_,_,_,_,_,_,_,_,_,_,_,_,_,_,_,_,_,_,_,_,_,_,_,_,_,_,_,_,_,_,_,_,_,_,_,_,_,_,_,_,_,_,_,_,_,_,_,_,_,_,_,_,_,_,_,_,_,_,_,_,_,_,_,_], []⟩ _
  refine wpAnyH_take (i := 4) (v := .pointer (some ⟨w.heap.size, 5, none⟩)) rfl (by kernel_rfl) (by kernel_rfl) (by kernel_rfl) (fun _ _ _ h => h) (Or.inl ⟨by rfl, ?_⟩) hHeld ?_
  · intro W hW; (try dsimp only at hW); go_simp
  change wpAnyH _ _ _ _ _ _ _ ⟨#[.pointer (some ⟨P.g, 0, none⟩),.pointer (some ⟨A.g, 0, none⟩),_,_,_,.pointer (some ⟨w.heap.size, 0, none⟩),_,.pointer (some ⟨z1.heap.size, 0, none⟩),_,_,_,_,_,_,_,_,_,_,_,_,_,_,_,_,_,_,_,.agg #[.int .i64 C, .int .i64 v, .int .i64 tt, .slice ao xs.length cc],.pointer (some ⟨A.g, 0, none⟩),.pointer (some ⟨w.heap.size, 1, none⟩),.int .i64 x.p,.pointer (some ⟨w.heap.size, 5, none⟩),_,_,_,_,_,_,_,_,_,_,_,_,_,_,_,_,_,_,_,_,_,_,_,_,_,_,_,_,_,_,_,_,_,_,_,_,_,_,_,_,_,_,_,_,_,_,_,_,_,_,_,_,_,_,_,_,_,_,_,_,_,_,_,_,_,_,_,_,_,_,_,_,_,_,_,_,_,_,_,_,_,_,_,_,_,_,_,_,_,_,_,_,_,_,_,_,_,_,_,_,_,_,_,_,_,_,_,_,_,_,_,_,_,_,_,_,_,_,_,_,_,_,_,_,_,_,_,_,_,_,_,_,_,_,_,_,_,_,_,_,_,_,_,_,_,_,_,_,_,_,_,_,_], []⟩ _
  refine wpAnyH_take (i := 5) (v := .agg (FC x.f (.slice x.a x.k x.c))) rfl (by kernel_rfl) (by kernel_rfl) (by kernel_rfl) (fun _ _ _ h => h) (yieldsIf_load_mid (by rfl) 38 (.tmp 31) rfl w.heap.size 5 rfl (fcl x.f (.slice x.a x.k x.c)) _ (fun W hW => stc_frame hW.1) Tryz.underlying38 rfl Tryz.size38) hHeld ?_
  change wpAnyH _ _ _ _ _ _ _ ⟨#[.pointer (some ⟨P.g, 0, none⟩),.pointer (some ⟨A.g, 0, none⟩),_,_,_,.pointer (some ⟨w.heap.size, 0, none⟩),_,.pointer (some ⟨z1.heap.size, 0, none⟩),_,_,_,_,_,_,_,_,_,_,_,_,_,_,_,_,_,_,_,.agg #[.int .i64 C, .int .i64 v, .int .i64 tt, .slice ao xs.length cc],.pointer (some ⟨A.g, 0, none⟩),.pointer (some ⟨w.heap.size, 1, none⟩),.int .i64 x.p,.pointer (some ⟨w.heap.size, 5, none⟩),.agg (FC x.f (.slice x.a x.k x.c)),_,_,_,_,_,_,_,_,_,_,_,_,_,_,_,_,_,_,_,_,_,_,_,_,_,_,_,_,_,_,_,_,_,_,_,_,_,_,_,_,_,_,_,_,_,_,_,_,_,_,_,_,_,_,_,_,_,_,_,_,_,_,_,_,_,_,_,_,_,_,_,_,_,_,_,_,_,_,_,_,_,_,_,_,_,_,_,_,_,_,_,_,_,_,_,_,_,_,_,_,_,_,_,_,_,_,_,_,_,_,_,_,_,_,_,_,_,_,_,_,_,_,_,_,_,_,_,_,_,_,_,_,_,_,_,_,_,_,_,_,_,_,_,_,_,_,_,_,_,_,_,_], []⟩ _
  refine wpAnyH_take (i := 6) (v := .pointer (some ⟨w.heap.size, 22, none⟩)) rfl (by kernel_rfl) (by kernel_rfl) (by kernel_rfl) (fun _ _ _ h => h) (Or.inl ⟨by rfl, ?_⟩) hHeld ?_
  · intro W hW; (try dsimp only at hW); go_simp
  change wpAnyH _ _ _ _ _ _ _ ⟨#[.pointer (some ⟨P.g, 0, none⟩),.pointer (some ⟨A.g, 0, none⟩),_,_,_,.pointer (some ⟨w.heap.size, 0, none⟩),_,.pointer (some ⟨z1.heap.size, 0, none⟩),_,_,_,_,_,_,_,_,_,_,_,_,_,_,_,_,_,_,_,.agg #[.int .i64 C, .int .i64 v, .int .i64 tt, .slice ao xs.length cc],.pointer (some ⟨A.g, 0, none⟩),.pointer (some ⟨w.heap.size, 1, none⟩),.int .i64 x.p,.pointer (some ⟨w.heap.size, 5, none⟩),.agg (FC x.f (.slice x.a x.k x.c)),.pointer (some ⟨w.heap.size, 22, none⟩),_,_,_,_,_,_,_,_,_,_,_,_,_,_,_,_,_,_,_,_,_,_,_,_,_,_,_,_,_,_,_,_,_,_,_,_,_,_,_,_,_,_,_,_,_,_,_,_,_,_,_,_,_,_,_,_,_,_,_,_,_,_,_,_,_,_,_,_,_,_,_,_,_,_,_,_,_,_,_,_,_,_,_,_,_,_,_,_,_,_,_,_,_,_,_,_,_,_,_,_,_,_,_,_,_,_,_,_,_,_,_,_,_,_,_,_,_,_,_,_,_,_,_,_,_,_,_,_,_,_,_,_,_,_,_,_,_,_,_,_,_,_,_,_,_,_,_,_,_,_,_], []⟩ _
  refine wpAnyH_take (i := 7) (v := .int .i64 x.t) rfl (by kernel_rfl) (by kernel_rfl) (by kernel_rfl) (fun _ _ _ h => h) (Or.inl ⟨by rfl, ?_⟩) hHeld ?_
  · intro W hW; (try dsimp only at hW); have hc := hW.1.cell 22 _ rfl; clear hW; go_simp
  change wpAnyH _ _ _ _ _ _ _ ⟨#[.pointer (some ⟨P.g, 0, none⟩),.pointer (some ⟨A.g, 0, none⟩),_,_,_,.pointer (some ⟨w.heap.size, 0, none⟩),_,.pointer (some ⟨z1.heap.size, 0, none⟩),_,_,_,_,_,_,_,_,_,_,_,_,_,_,_,_,_,_,_,.agg #[.int .i64 C, .int .i64 v, .int .i64 tt, .slice ao xs.length cc],.pointer (some ⟨A.g, 0, none⟩),.pointer (some ⟨w.heap.size, 1, none⟩),.int .i64 x.p,.pointer (some ⟨w.heap.size, 5, none⟩),.agg (FC x.f (.slice x.a x.k x.c)),.pointer (some ⟨w.heap.size, 22, none⟩),.int .i64 x.t,_,_,_,_,_,_,_,_,_,_,_,_,_,_,_,_,_,_,_,_,_,_,_,_,_,_,_,_,_,_,_,_,_,_,_,_,_,_,_,_,_,_,_,_,_,_,_,_,_,_,_,_,_,_,_,_,_,_,_,_,_,_,_,_,_,_,_,_,_,_,_,_,_,_,_,_,_,_,_,_,_,_,_,_,_,_,_,_,_,_,_,_,_,_,_,_,_,_,_,_,_,_,_,_,_,_,_,_,_,_,_,_,_,_,_,_,_,_,_,_,_,_,_,_,_,_,_,_,_,_,_,_,_,_,_,_,_,_,_,_,_,_,_,_,_,_,_,_,_,_], []⟩ _
  refine wpAnyH_ready (rs := [8]) (by kernel_rfl) (by simp) ?_
  refine AllReadyH.cons rfl (fun K hK => ?_) AllReadyH.nil
  go_simp
  refine (HT.out _ HRB.out HY.out).mono ?_
  rintro e z4 ⟨ao2, xs2, cc2, lf', rfl, hO2, hm2, hR2, hC2, _, _⟩
  have HF := hide (HH.out.both HPB.out HM.out HB2.out hR2 hC2)
  have hx4 : Box z4 w.heap.size (stc x) := HX.out.block (hC2.block _ HX.out.lt (fun h => by have := HXW.out _ h; omega))
  have hk4 : Box z4 z1.heap.size (wcl C v tt (.slice ao xs.length cc)) := HK.out.block (hC2.block _ HK.out.lt (fun h => by have := HXW.out _ h; have := HZ0.out; have := HS1.out; omega))
  have HO1 := hide (ots_ch HO.out hC2 (fun b o e h => by have := HXW.out _ h; have := HZ0.out; have := HOWN.out.1 b o e; omega) (fun y hy b o e hn h => by have := HXW.out _ h; have := HZ0.out; have := HOWN.out.2 y hy b o e hn; omega))
  have HO2 := hide hO2
  have HE : Hid (B = Z → C = C2 ∧ v = v2 ∧ tt = tt2 ∧ xs.map Ow.o = xs2.map Ow.o) := hide (fun h => by have := HBZ.out h; simp only [Prod.mk.injEq, Wy.mk.injEq] at this; exact ⟨this.1.1, this.1.2.1, this.1.2.2.1, by rw [HOO.out, hm2, this.1.2.2.2]⟩)
  have HS4 := hide (And.intro hx4 hk4)
  refine hK.out _ _ HS4.out (fun hHeld => ?_)
  clear hK K hO2 hm2 hR2 hC2 hx4 hk4
  change wpAnyH _ _ _ _ _ _ _ ⟨#[.pointer (some ⟨P.g, 0, none⟩),.pointer (some ⟨A.g, 0, none⟩),_,_,_,.pointer (some ⟨w.heap.size, 0, none⟩),_,.pointer (some ⟨z1.heap.size, 0, none⟩),_,_,_,_,_,_,_,_,_,_,_,_,_,_,_,_,_,_,_,.agg #[.int .i64 C, .int .i64 v, .int .i64 tt, .slice ao xs.length cc],.pointer (some ⟨A.g, 0, none⟩),.pointer (some ⟨w.heap.size, 1, none⟩),.int .i64 x.p,.pointer (some ⟨w.heap.size, 5, none⟩),.agg (FC x.f (.slice x.a x.k x.c)),.pointer (some ⟨w.heap.size, 22, none⟩),.int .i64 x.t,.agg #[.int .i64 C2, .int .i64 v2, .int .i64 tt2, .slice ao2 xs2.length cc2],_,_,_,_,_,_,_,_,_,_,_,_,_,_,_,_,_,_,_,_,_,_,_,_,_,_,_,_,_,_,_,_,_,_,_,_,_,_,_,_,_,_,_,_,_,_,_,_,_,_,_,_,_,_,_,_,_,_,_,_,_,_,_,_,_,_,_,_,_,_,_,_,_,_,_,_,_,_,_,_,_,_,_,_,_,_,_,_,_,_,_,_,_,_,_,_,_,_,_,_,_,_,_,_,_,_,_,_,_,_,_,_,_,_,_,_,_,_,_,_,_,_,_,_,_,_,_,_,_,_,_,_,_,_,_,_,_,_,_,_,_,_,_,_,_,_,_,_,_], []⟩ _
  refine wpAnyH_ready (rs := [9]) (by kernel_rfl) (by simp) ?_
  refine AllReadyH.cons rfl (fun K hK => ?_) AllReadyH.nil
  go_simp
  refine (sameRg C v tt C2 v2 tt2 ao ao2 _ _ _ _ xs xs2 _ HO1.out HO2.out).mono ?_
  rintro e z5 ⟨qq, rfl, hqq, hb⟩
  have HQQ : Hid (B = Z → qq = true) := hide (fun h => hqq (HE.out h).1 (HE.out h).2.1 (HE.out h).2.2.1 (HE.out h).2.2.2)
  refine hK.out _ _ ⟨HS4.out.1.on hb, HS4.out.2.on hb⟩ (fun hHeld => ?_)
  have HF3 := hide (And.intro (HF.out.1.on hb) (HF.out.2.on hb))
  clear hK K hb hqq
  change wpAnyH _ _ _ _ _ _ _ ⟨#[.pointer (some ⟨P.g, 0, none⟩),.pointer (some ⟨A.g, 0, none⟩),_,_,_,.pointer (some ⟨w.heap.size, 0, none⟩),_,.pointer (some ⟨z1.heap.size, 0, none⟩),_,_,_,_,_,_,_,_,_,_,_,_,_,_,_,_,_,_,_,.agg #[.int .i64 C, .int .i64 v, .int .i64 tt, .slice ao xs.length cc],.pointer (some ⟨A.g, 0, none⟩),.pointer (some ⟨w.heap.size, 1, none⟩),.int .i64 x.p,.pointer (some ⟨w.heap.size, 5, none⟩),.agg (FC x.f (.slice x.a x.k x.c)),.pointer (some ⟨w.heap.size, 22, none⟩),.int .i64 x.t,.agg #[.int .i64 C2, .int .i64 v2, .int .i64 tt2, .slice ao2 xs2.length cc2],.bool qq,_,_,_,_,_,_,_,_,_,_,_,_,_,_,_,_,_,_,_,_,_,_,_,_,_,_,_,_,_,_,_,_,_,_,_,_,_,_,_,_,_,_,_,_,_,_,_,_,_,_,_,_,_,_,_,_,_,_,_,_,_,_,_,_,_,_,_,_,_,_,_,_,_,_,_,_,_,_,_,_,_,_,_,_,_,_,_,_,_,_,_,_,_,_,_,_,_,_,_,_,_,_,_,_,_,_,_,_,_,_,_,_,_,_,_,_,_,_,_,_,_,_,_,_,_,_,_,_,_,_,_,_,_,_,_,_,_,_,_,_,_,_,_,_,_,_,_,_], []⟩ _
  refine wpAnyH_take (i := 10) (v := .bool qq) rfl (by kernel_rfl) (by kernel_rfl) (by kernel_rfl) (fun _ _ _ h => h) (Or.inl ⟨by rfl, ?_⟩) hHeld ?_
  · intro W hW; (try dsimp only at hW); go_simp
  change wpAnyH _ _ _ _ _ _ _ ⟨#[.pointer (some ⟨P.g, 0, none⟩),.pointer (some ⟨A.g, 0, none⟩),_,_,_,.pointer (some ⟨w.heap.size, 0, none⟩),.bool qq,.pointer (some ⟨z1.heap.size, 0, none⟩),_,_,_,_,_,_,_,_,_,_,_,_,_,_,_,_,_,_,_,.agg #[.int .i64 C, .int .i64 v, .int .i64 tt, .slice ao xs.length cc],.pointer (some ⟨A.g, 0, none⟩),.pointer (some ⟨w.heap.size, 1, none⟩),.int .i64 x.p,.pointer (some ⟨w.heap.size, 5, none⟩),.agg (FC x.f (.slice x.a x.k x.c)),.pointer (some ⟨w.heap.size, 22, none⟩),.int .i64 x.t,.agg #[.int .i64 C2, .int .i64 v2, .int .i64 tt2, .slice ao2 xs2.length cc2],.bool qq,_,_,_,_,_,_,_,_,_,_,_,_,_,_,_,_,_,_,_,_,_,_,_,_,_,_,_,_,_,_,_,_,_,_,_,_,_,_,_,_,_,_,_,_,_,_,_,_,_,_,_,_,_,_,_,_,_,_,_,_,_,_,_,_,_,_,_,_,_,_,_,_,_,_,_,_,_,_,_,_,_,_,_,_,_,_,_,_,_,_,_,_,_,_,_,_,_,_,_,_,_,_,_,_,_,_,_,_,_,_,_,_,_,_,_,_,_,_,_,_,_,_,_,_,_,_,_,_,_,_,_,_,_,_,_,_,_,_,_,_,_,_,_,_,_,_,_,_], []⟩ _
  refine wpAnyH_done (by kernel_rfl) ?_ _
  go_wp2_with (go_ret; exact ⟨qq, rfl, HQQ.out, _, by rw [HNB.out, HNZ.out]; exact HF3.out.1, Ch.pre HB.out HF3.out.2, rfl⟩)
end Go.Proofs.YtgpdjfaklcmoiaaGreat
