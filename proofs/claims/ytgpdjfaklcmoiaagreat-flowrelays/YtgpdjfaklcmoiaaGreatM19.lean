/- A step at both bridges: kind 5. -/
import Derived.Test.YtgpdjfaklcmoiaaGreatM16
namespace Go.Proofs.YtgpdjfaklcmoiaaGreat
open Go.RowKit Go.PlainAid
set_option maxRecDepth 100000 in
set_option maxHeartbeats 8000000 in
theorem step5 (A : RAd) (P : PAd) (B Z : Br) (x : Stp) (w : World) (H : Bh w A P B Z) (hd : x.d = 5) (G : Gst A P B Z x w) :
    Calls Tryz.prog 14 #[.pointer (some ⟨P.g, 0, none⟩), .pointer (some ⟨A.g, 0, none⟩), .agg (SPC x)] w (StP A P B Z x w) := by
  obtain ⟨hY, hm, hs, hya, hob, hoz, hvx⟩ := G
  have b0 := below_alloc w (.cells (SPC x) 40)
  have X0 : Box (w.alloc (.cells (SPC x) 40)) w.heap.size (stc x) := Box.new w (stc x) 40
  have HN : Hid (∀ B : Br, nxt B x = { B with F := aT B.F x.t x.n }) := hide (fun B => by unfold nxt; rw [hd, if_neg (by decide), if_neg (by decide), if_neg (by decide), if_neg (by decide), if_neg (by decide), if_pos rfl])
  have c0 := X0.cell 0 _ rfl
  rw [hd] at c0
  have HH := hide (H.on b0)
  have HB := hide b0
  have HX := hide X0
  have HP : Hid (P.hi ≤ w.heap.size) := hide H.p.lt.2.2.2.2
  have HXW : Hid (∀ i, Dm A i → i < w.heap.size) := hide H.r.lt
  obtain ⟨ps, hps⟩ := (H.on b0).p.drew.pf
  have HPS := hide hps
  clear b0 X0 H hd hY hm hs hya hob hoz hvx hps
  go_enter Tryz.func14, Tryz.ntmps14
  go_wp2_with fail
  generalize (w.alloc (.cells (SPC x) 40)) = z0 at *
  replace HH := hide HH.out.drew
  replace HB := hide (belowOn HB.out (below_drew z0))
  replace HX := hide HX.out.drew
  clear c0
  refine wp_region_held_drew (S := fun w' => Box w' w.heap.size (stc x)) (by kernel_rfl) HX.out (fun hHeld => ?_)
  generalize z0.drew = y0 at *
  refine wpAnyH_take (i := 0) (v := .pointer (some ⟨P.g, 0, none⟩)) rfl (by kernel_rfl) (by kernel_rfl) (by kernel_rfl) (fun _ _ _ h => h) (Or.inl ⟨by rfl, ?_⟩) hHeld ?_
  · intro W hW; (try dsimp only at hW); go_simp
  change wpAnyH _ _ _ _ _ _ _ ⟨#[.pointer (some ⟨P.g, 0, none⟩),.pointer (some ⟨A.g, 0, none⟩),_,_,_,.pointer (some ⟨w.heap.size, 0, none⟩),_,_,_,_,_,_,_,_,_,_,.int .i64 5,_,_,_,_,_,_,_,_,_,_,_,_,_,_,_,_,_,_,_,_,_,_,_,_,_,_,_,_,_,_,_,_,_,_,_,_,_,_,_,_,_,_,_,_,_,_,_,_,_,_,_,_,_,_,_,_,_,_,_,_,_,_,_,_,_,_,_,_,_,_,_,_,_,_,_,_,_,_,_,_,_,_,_,_,_,_,_,_,_,_,_,_,_,_,_,_,_,_,_,_,_,_,.pointer (some ⟨P.g, 0, none⟩),_,_,_,_,_,_,_,_,_,_,_,_,_,_,_,_,_,_,_,_,_,_,_,_,_,_,_,_,_,_,_,_,_,_,_,_,_,_,_,_,_,_,_,_,_,_,_,_,_,_,_,_,_,_,_,_,_,_,_,_,_,_,_,_,_], []⟩ _
  refine wpAnyH_take (i := 2) (v := .pointer (some ⟨w.heap.size, 22, none⟩)) rfl (by kernel_rfl) (by kernel_rfl) (by kernel_rfl) (fun _ _ _ h => h) (Or.inl ⟨by rfl, ?_⟩) hHeld ?_
  · intro W hW; (try dsimp only at hW); go_simp
  change wpAnyH _ _ _ _ _ _ _ ⟨#[.pointer (some ⟨P.g, 0, none⟩),.pointer (some ⟨A.g, 0, none⟩),_,_,_,.pointer (some ⟨w.heap.size, 0, none⟩),_,_,_,_,_,_,_,_,_,_,.int .i64 5,_,_,_,_,_,_,_,_,_,_,_,_,_,_,_,_,_,_,_,_,_,_,_,_,_,_,_,_,_,_,_,_,_,_,_,_,_,_,_,_,_,_,_,_,_,_,_,_,_,_,_,_,_,_,_,_,_,_,_,_,_,_,_,_,_,_,_,_,_,_,_,_,_,_,_,_,_,_,_,_,_,_,_,_,_,_,_,_,_,_,_,_,_,_,_,_,_,_,_,_,_,_,.pointer (some ⟨P.g, 0, none⟩),_,.pointer (some ⟨w.heap.size, 22, none⟩),_,_,_,_,_,_,_,_,_,_,_,_,_,_,_,_,_,_,_,_,_,_,_,_,_,_,_,_,_,_,_,_,_,_,_,_,_,_,_,_,_,_,_,_,_,_,_,_,_,_,_,_,_,_,_,_,_,_,_,_,_,_,_], []⟩ _
  refine wpAnyH_take (i := 3) (v := .int .i64 x.t) rfl (by kernel_rfl) (by kernel_rfl) (by kernel_rfl) (fun _ _ _ h => h) (Or.inl ⟨by rfl, ?_⟩) hHeld ?_
  · intro W hW; (try dsimp only at hW); have hc := hW.cell 22 _ rfl; clear hW; go_simp
  change wpAnyH _ _ _ _ _ _ _ ⟨#[.pointer (some ⟨P.g, 0, none⟩),.pointer (some ⟨A.g, 0, none⟩),_,_,_,.pointer (some ⟨w.heap.size, 0, none⟩),_,_,_,_,_,_,_,_,_,_,.int .i64 5,_,_,_,_,_,_,_,_,_,_,_,_,_,_,_,_,_,_,_,_,_,_,_,_,_,_,_,_,_,_,_,_,_,_,_,_,_,_,_,_,_,_,_,_,_,_,_,_,_,_,_,_,_,_,_,_,_,_,_,_,_,_,_,_,_,_,_,_,_,_,_,_,_,_,_,_,_,_,_,_,_,_,_,_,_,_,_,_,_,_,_,_,_,_,_,_,_,_,_,_,_,_,.pointer (some ⟨P.g, 0, none⟩),_,.pointer (some ⟨w.heap.size, 22, none⟩),.int .i64 x.t,_,_,_,_,_,_,_,_,_,_,_,_,_,_,_,_,_,_,_,_,_,_,_,_,_,_,_,_,_,_,_,_,_,_,_,_,_,_,_,_,_,_,_,_,_,_,_,_,_,_,_,_,_,_,_,_,_,_,_,_,_,_], []⟩ _
  refine wpAnyH_take (i := 4) (v := .pointer (some ⟨w.heap.size, 2, none⟩)) rfl (by kernel_rfl) (by kernel_rfl) (by kernel_rfl) (fun _ _ _ h => h) (Or.inl ⟨by rfl, ?_⟩) hHeld ?_
  · intro W hW; (try dsimp only at hW); go_simp
  change wpAnyH _ _ _ _ _ _ _ ⟨#[.pointer (some ⟨P.g, 0, none⟩),.pointer (some ⟨A.g, 0, none⟩),_,_,_,.pointer (some ⟨w.heap.size, 0, none⟩),_,_,_,_,_,_,_,_,_,_,.int .i64 5,_,_,_,_,_,_,_,_,_,_,_,_,_,_,_,_,_,_,_,_,_,_,_,_,_,_,_,_,_,_,_,_,_,_,_,_,_,_,_,_,_,_,_,_,_,_,_,_,_,_,_,_,_,_,_,_,_,_,_,_,_,_,_,_,_,_,_,_,_,_,_,_,_,_,_,_,_,_,_,_,_,_,_,_,_,_,_,_,_,_,_,_,_,_,_,_,_,_,_,_,_,_,.pointer (some ⟨P.g, 0, none⟩),_,.pointer (some ⟨w.heap.size, 22, none⟩),.int .i64 x.t,.pointer (some ⟨w.heap.size, 2, none⟩),_,_,_,_,_,_,_,_,_,_,_,_,_,_,_,_,_,_,_,_,_,_,_,_,_,_,_,_,_,_,_,_,_,_,_,_,_,_,_,_,_,_,_,_,_,_,_,_,_,_,_,_,_,_,_,_,_,_,_,_,_], []⟩ _
  refine wpAnyH_take (i := 5) (v := .int .i64 x.n) rfl (by kernel_rfl) (by kernel_rfl) (by kernel_rfl) (fun _ _ _ h => h) (Or.inl ⟨by rfl, ?_⟩) hHeld ?_
  · intro W hW; (try dsimp only at hW); have hc := hW.cell 2 _ rfl; clear hW; go_simp
  change wpAnyH _ _ _ _ _ _ _ ⟨#[.pointer (some ⟨P.g, 0, none⟩),.pointer (some ⟨A.g, 0, none⟩),_,_,_,.pointer (some ⟨w.heap.size, 0, none⟩),_,_,_,_,_,_,_,_,_,_,.int .i64 5,_,_,_,_,_,_,_,_,_,_,_,_,_,_,_,_,_,_,_,_,_,_,_,_,_,_,_,_,_,_,_,_,_,_,_,_,_,_,_,_,_,_,_,_,_,_,_,_,_,_,_,_,_,_,_,_,_,_,_,_,_,_,_,_,_,_,_,_,_,_,_,_,_,_,_,_,_,_,_,_,_,_,_,_,_,_,_,_,_,_,_,_,_,_,_,_,_,_,_,_,_,_,.pointer (some ⟨P.g, 0, none⟩),_,.pointer (some ⟨w.heap.size, 22, none⟩),.int .i64 x.t,.pointer (some ⟨w.heap.size, 2, none⟩),.int .i64 x.n,_,_,_,_,_,_,_,_,_,_,_,_,_,_,_,_,_,_,_,_,_,_,_,_,_,_,_,_,_,_,_,_,_,_,_,_,_,_,_,_,_,_,_,_,_,_,_,_,_,_,_,_,_,_,_,_,_,_,_,_], []⟩ _
  refine wpAnyH_ready (rs := [1]) (by kernel_rfl) (by simp) ?_
  refine AllReadyH.cons rfl (fun K hK => ?_) AllReadyH.nil
  go_simp
  refine (stationsQ P B _ HH.out.p).mono ?_
  rintro e _ ⟨rfl, rfl⟩
  refine hK.out _ _ HX.out (fun hHeld => ?_)
  clear hK K
  change wpAnyH _ _ _ _ _ _ _ ⟨#[.pointer (some ⟨P.g, 0, none⟩),.pointer (some ⟨A.g, 0, none⟩),_,_,_,.pointer (some ⟨w.heap.size, 0, none⟩),_,_,_,_,_,_,_,_,_,_,.int .i64 5,_,_,_,_,_,_,_,_,_,_,_,_,_,_,_,_,_,_,_,_,_,_,_,_,_,_,_,_,_,_,_,_,_,_,_,_,_,_,_,_,_,_,_,_,_,_,_,_,_,_,_,_,_,_,_,_,_,_,_,_,_,_,_,_,_,_,_,_,_,_,_,_,_,_,_,_,_,_,_,_,_,_,_,_,_,_,_,_,_,_,_,_,_,_,_,_,_,_,_,_,_,_,.pointer (some ⟨P.g, 0, none⟩),.pointer (some ⟨P.hf + 1, 0, none⟩),.pointer (some ⟨w.heap.size, 22, none⟩),.int .i64 x.t,.pointer (some ⟨w.heap.size, 2, none⟩),.int .i64 x.n,_,_,_,_,_,_,_,_,_,_,_,_,_,_,_,_,_,_,_,_,_,_,_,_,_,_,_,_,_,_,_,_,_,_,_,_,_,_,_,_,_,_,_,_,_,_,_,_,_,_,_,_,_,_,_,_,_,_,_,_], []⟩ _
  refine wpAnyH_ready (rs := [6]) (by kernel_rfl) (by simp) ?_
  refine AllReadyH.cons rfl (fun K hK => ?_) AllReadyH.nil
  go_simp
  refine (age19 P.hf ps B.F x.t x.n _ HPS.out).mono ?_
  rintro e z1 ⟨ao, cc, rfl, hE, ⟨ps', hT⟩, hM⟩
  have hlt := HH.out.p.lt
  have HPB := hide (HH.out.p.fdb hT hM (aT_n _ _ _))
  have HM := hide (mid_wide (N := P.lo) (M := P.hi) hM (by omega) (by omega))
  have hx1 := HX.out.block (HM.out.block _ HX.out.lt (Or.inr HP.out))
  refine hK.out _ _ hx1 (fun hHeld => ?_)
  replace HX := hide hx1
  have HE := hide hE
  have HGF := hide HH.out.r.rf.lt
  clear hK K hT hM hlt hx1 HPS hE
  change wpAnyH _ _ _ _ _ _ _ ⟨#[.pointer (some ⟨P.g, 0, none⟩),.pointer (some ⟨A.g, 0, none⟩),_,_,_,.pointer (some ⟨w.heap.size, 0, none⟩),_,_,_,_,_,_,_,_,_,_,.int .i64 5,_,_,_,_,_,_,_,_,_,_,_,_,_,_,_,_,_,_,_,_,_,_,_,_,_,_,_,_,_,_,_,_,_,_,_,_,_,_,_,_,_,_,_,_,_,_,_,_,_,_,_,_,_,_,_,_,_,_,_,_,_,_,_,_,_,_,_,_,_,_,_,_,_,_,_,_,_,_,_,_,_,_,_,_,_,_,_,_,_,_,_,_,_,_,_,_,_,_,_,_,_,_,.pointer (some ⟨P.g, 0, none⟩),.pointer (some ⟨P.hf + 1, 0, none⟩),.pointer (some ⟨w.heap.size, 22, none⟩),.int .i64 x.t,.pointer (some ⟨w.heap.size, 2, none⟩),.int .i64 x.n,.slice ao (aG B.F x.t x.n).length cc,_,_,_,_,_,_,_,_,_,_,_,_,_,_,_,_,_,_,_,_,_,_,_,_,_,_,_,_,_,_,_,_,_,_,_,_,_,_,_,_,_,_,_,_,_,_,_,_,_,_,_,_,_,_,_,_,_,_,_], []⟩ _
  refine wpAnyH_take (i := 7) (v := .slice ao (aG B.F x.t x.n).length cc) rfl (by kernel_rfl) (by kernel_rfl) (by kernel_rfl) (fun _ _ _ h => h) (Or.inl ⟨by rfl, ?_⟩) hHeld ?_
  · intro W hW; (try dsimp only at hW); go_simp
  change wpAnyH _ _ _ _ _ _ _ ⟨#[.pointer (some ⟨P.g, 0, none⟩),.pointer (some ⟨A.g, 0, none⟩),_,_,_,.pointer (some ⟨w.heap.size, 0, none⟩),_,_,_,_,_,_,.slice ao (aG B.F x.t x.n).length cc,_,_,_,.int .i64 5,_,_,_,_,_,_,_,_,_,_,_,_,_,_,_,_,_,_,_,_,_,_,_,_,_,_,_,_,_,_,_,_,_,_,_,_,_,_,_,_,_,_,_,_,_,_,_,_,_,_,_,_,_,_,_,_,_,_,_,_,_,_,_,_,_,_,_,_,_,_,_,_,_,_,_,_,_,_,_,_,_,_,_,_,_,_,_,_,_,_,_,_,_,_,_,_,_,_,_,_,_,_,.pointer (some ⟨P.g, 0, none⟩),.pointer (some ⟨P.hf + 1, 0, none⟩),.pointer (some ⟨w.heap.size, 22, none⟩),.int .i64 x.t,.pointer (some ⟨w.heap.size, 2, none⟩),.int .i64 x.n,.slice ao (aG B.F x.t x.n).length cc,_,_,_,_,_,_,_,_,_,_,_,_,_,_,_,_,_,_,_,_,_,_,_,_,_,_,_,_,_,_,_,_,_,_,_,_,_,_,_,_,_,_,_,_,_,_,_,_,_,_,_,_,_,_,_,_,_,_,_], []⟩ _
  refine wpAnyH_done (by kernel_rfl) ?_ _
  have HRB := hide (HH.out.mid HM.out).drew
  have HB1 := hide (below_drew z1)
  replace HX := hide HX.out.drew
  replace HE := hide (HE.out.on HB1.out)
  clear hHeld
  go_wp2_with fail
  refine wp_region_held_drew (S := fun w' => w'.cell? ⟨A.g, 2, none⟩ = some (.pointer (some ⟨A.gf, 0, none⟩)) ∧ Box w' w.heap.size (stc x)) (by kernel_rfl) ⟨HRB.out.bx.cell 2 _ rfl, HX.out⟩ (fun hHeld => ?_)
  generalize z1.drew = y1 at *
  refine wpAnyH_take (i := 0) (v := .slice ao (aG B.F x.t x.n).length cc) rfl (by kernel_rfl) (by kernel_rfl) (by kernel_rfl) (fun _ _ _ h => h) (Or.inl ⟨by rfl, ?_⟩) hHeld ?_
  · intro W hW; (try dsimp only at hW); go_simp
  change wpAnyH _ _ _ _ _ _ _ ⟨#[.pointer (some ⟨P.g, 0, none⟩),.pointer (some ⟨A.g, 0, none⟩),_,_,_,.pointer (some ⟨w.heap.size, 0, none⟩),_,_,_,_,_,_,.slice ao (aG B.F x.t x.n).length cc,_,_,_,_,_,_,_,_,_,_,_,_,_,_,_,_,_,_,_,_,_,_,_,_,_,_,_,_,_,_,_,_,_,_,_,_,_,_,_,_,_,_,_,_,_,_,_,_,_,_,_,_,_,_,_,_,_,_,_,_,_,_,_,_,_,_,_,_,_,_,_,_,_,_,_,_,_,_,_,_,_,_,_,_,_,_,_,_,_,_,_,_,_,_,_,_,_,_,_,_,_,_,_,_,_,_,_,_,_,_,_,_,_,.slice ao (aG B.F x.t x.n).length cc,_,_,_,_,_,_,_,_,_,_,_,_,_,_,_,_,_,_,_,_,_,_,_,_,_,_,_,_,_,_,_,_,_,_,_,_,_,_,_,_,_,_,_,_,_,_,_,_,_,_,_,_,_,_,_,_,_,_], []⟩ _
  refine wpAnyH_take (i := 1) (v := .pointer (some ⟨A.g, 0, none⟩)) rfl (by kernel_rfl) (by kernel_rfl) (by kernel_rfl) (fun _ _ _ h => h) (Or.inl ⟨by rfl, ?_⟩) hHeld ?_
  · intro W hW; (try dsimp only at hW); go_simp
  change wpAnyH _ _ _ _ _ _ _ ⟨#[.pointer (some ⟨P.g, 0, none⟩),.pointer (some ⟨A.g, 0, none⟩),_,_,_,.pointer (some ⟨w.heap.size, 0, none⟩),_,_,_,_,_,_,.slice ao (aG B.F x.t x.n).length cc,_,_,_,_,_,_,_,_,_,_,_,_,_,_,_,_,_,_,_,_,_,_,_,_,_,_,_,_,_,_,_,_,_,_,_,_,_,_,_,_,_,_,_,_,_,_,_,_,_,_,_,_,_,_,_,_,_,_,_,_,_,_,_,_,_,_,_,_,_,_,_,_,_,_,_,_,_,_,_,_,_,_,_,_,_,_,_,_,_,_,_,_,_,_,_,_,_,_,_,_,_,_,_,_,_,_,_,_,_,_,_,_,_,.slice ao (aG B.F x.t x.n).length cc,.pointer (some ⟨A.g, 0, none⟩),_,_,_,_,_,_,_,_,_,_,_,_,_,_,_,_,_,_,_,_,_,_,_,_,_,_,_,_,_,_,_,_,_,_,_,_,_,_,_,_,_,_,_,_,_,_,_,_,_,_,_,_,_,_,_,_,_], []⟩ _
  refine wpAnyH_take (i := 2) (v := .pointer (some ⟨A.g, 0, none⟩)) rfl (by kernel_rfl) (by kernel_rfl) (by kernel_rfl) (fun _ _ _ h => h) (Or.inl ⟨by rfl, ?_⟩) hHeld ?_
  · intro W hW; (try dsimp only at hW); go_simp
  change wpAnyH _ _ _ _ _ _ _ ⟨#[.pointer (some ⟨P.g, 0, none⟩),.pointer (some ⟨A.g, 0, none⟩),_,_,_,.pointer (some ⟨w.heap.size, 0, none⟩),_,_,_,_,_,_,.slice ao (aG B.F x.t x.n).length cc,_,_,_,_,_,_,_,_,_,_,_,_,_,_,_,_,_,_,_,_,_,_,_,_,_,_,_,_,_,_,_,_,_,_,_,_,_,_,_,_,_,_,_,_,_,_,_,_,_,_,_,_,_,_,_,_,_,_,_,_,_,_,_,_,_,_,_,_,_,_,_,_,_,_,_,_,_,_,_,_,_,_,_,_,_,_,_,_,_,_,_,_,_,_,_,_,_,_,_,_,_,_,_,_,_,_,_,_,_,_,_,_,_,.slice ao (aG B.F x.t x.n).length cc,.pointer (some ⟨A.g, 0, none⟩),.pointer (some ⟨A.g, 0, none⟩),_,_,_,_,_,_,_,_,_,_,_,_,_,_,_,_,_,_,_,_,_,_,_,_,_,_,_,_,_,_,_,_,_,_,_,_,_,_,_,_,_,_,_,_,_,_,_,_,_,_,_,_,_,_,_,_], []⟩ _
  refine wpAnyH_take (i := 3) (v := .pointer (some ⟨A.g, 2, none⟩)) rfl (by kernel_rfl) (by kernel_rfl) (by kernel_rfl) (fun _ _ _ h => h) (Or.inl ⟨by rfl, ?_⟩) hHeld ?_
  · intro W hW; (try dsimp only at hW); go_simp
  change wpAnyH _ _ _ _ _ _ _ ⟨#[.pointer (some ⟨P.g, 0, none⟩),.pointer (some ⟨A.g, 0, none⟩),_,_,_,.pointer (some ⟨w.heap.size, 0, none⟩),_,_,_,_,_,_,.slice ao (aG B.F x.t x.n).length cc,_,_,_,_,_,_,_,_,_,_,_,_,_,_,_,_,_,_,_,_,_,_,_,_,_,_,_,_,_,_,_,_,_,_,_,_,_,_,_,_,_,_,_,_,_,_,_,_,_,_,_,_,_,_,_,_,_,_,_,_,_,_,_,_,_,_,_,_,_,_,_,_,_,_,_,_,_,_,_,_,_,_,_,_,_,_,_,_,_,_,_,_,_,_,_,_,_,_,_,_,_,_,_,_,_,_,_,_,_,_,_,_,_,.slice ao (aG B.F x.t x.n).length cc,.pointer (some ⟨A.g, 0, none⟩),.pointer (some ⟨A.g, 0, none⟩),.pointer (some ⟨A.g, 2, none⟩),_,_,_,_,_,_,_,_,_,_,_,_,_,_,_,_,_,_,_,_,_,_,_,_,_,_,_,_,_,_,_,_,_,_,_,_,_,_,_,_,_,_,_,_,_,_,_,_,_,_,_,_,_,_,_], []⟩ _
  refine wpAnyH_take (i := 4) (v := .pointer (some ⟨A.gf, 0, none⟩)) rfl (by kernel_rfl) (by kernel_rfl) (by kernel_rfl) (fun _ _ _ h => h) (Or.inl ⟨by rfl, ?_⟩) hHeld ?_
  · intro W hW; (try dsimp only at hW); have hc := hW.1; clear hW; go_simp
  change wpAnyH _ _ _ _ _ _ _ ⟨#[.pointer (some ⟨P.g, 0, none⟩),.pointer (some ⟨A.g, 0, none⟩),_,_,_,.pointer (some ⟨w.heap.size, 0, none⟩),_,_,_,_,_,_,.slice ao (aG B.F x.t x.n).length cc,_,_,_,_,_,_,_,_,_,_,_,_,_,_,_,_,_,_,_,_,_,_,_,_,_,_,_,_,_,_,_,_,_,_,_,_,_,_,_,_,_,_,_,_,_,_,_,_,_,_,_,_,_,_,_,_,_,_,_,_,_,_,_,_,_,_,_,_,_,_,_,_,_,_,_,_,_,_,_,_,_,_,_,_,_,_,_,_,_,_,_,_,_,_,_,_,_,_,_,_,_,_,_,_,_,_,_,_,_,_,_,_,_,.slice ao (aG B.F x.t x.n).length cc,.pointer (some ⟨A.g, 0, none⟩),.pointer (some ⟨A.g, 0, none⟩),.pointer (some ⟨A.g, 2, none⟩),.pointer (some ⟨A.gf, 0, none⟩),_,_,_,_,_,_,_,_,_,_,_,_,_,_,_,_,_,_,_,_,_,_,_,_,_,_,_,_,_,_,_,_,_,_,_,_,_,_,_,_,_,_,_,_,_,_,_,_,_,_,_,_,_,_], []⟩ _
  refine wpAnyH_take (i := 5) (v := .pointer (some ⟨w.heap.size, 22, none⟩)) rfl (by kernel_rfl) (by kernel_rfl) (by kernel_rfl) (fun _ _ _ h => h) (Or.inl ⟨by rfl, ?_⟩) hHeld ?_
  · intro W hW; (try dsimp only at hW); go_simp
  change wpAnyH _ _ _ _ _ _ _ ⟨#[.pointer (some ⟨P.g, 0, none⟩),.pointer (some ⟨A.g, 0, none⟩),_,_,_,.pointer (some ⟨w.heap.size, 0, none⟩),_,_,_,_,_,_,.slice ao (aG B.F x.t x.n).length cc,_,_,_,_,_,_,_,_,_,_,_,_,_,_,_,_,_,_,_,_,_,_,_,_,_,_,_,_,_,_,_,_,_,_,_,_,_,_,_,_,_,_,_,_,_,_,_,_,_,_,_,_,_,_,_,_,_,_,_,_,_,_,_,_,_,_,_,_,_,_,_,_,_,_,_,_,_,_,_,_,_,_,_,_,_,_,_,_,_,_,_,_,_,_,_,_,_,_,_,_,_,_,_,_,_,_,_,_,_,_,_,_,_,.slice ao (aG B.F x.t x.n).length cc,.pointer (some ⟨A.g, 0, none⟩),.pointer (some ⟨A.g, 0, none⟩),.pointer (some ⟨A.g, 2, none⟩),.pointer (some ⟨A.gf, 0, none⟩),.pointer (some ⟨w.heap.size, 22, none⟩),_,_,_,_,_,_,_,_,_,_,_,_,_,_,_,_,_,_,_,_,_,_,_,_,_,_,_,_,_,_,_,_,_,_,_,_,_,_,_,_,_,_,_,_,_,_,_,_,_,_,_,_,_], []⟩ _
  refine wpAnyH_take (i := 6) (v := .int .i64 x.t) rfl (by kernel_rfl) (by kernel_rfl) (by kernel_rfl) (fun _ _ _ h => h) (Or.inl ⟨by rfl, ?_⟩) hHeld ?_
  · intro W hW; (try dsimp only at hW); have hc := hW.2.cell 22 _ rfl; clear hW; go_simp
  change wpAnyH _ _ _ _ _ _ _ ⟨#[.pointer (some ⟨P.g, 0, none⟩),.pointer (some ⟨A.g, 0, none⟩),_,_,_,.pointer (some ⟨w.heap.size, 0, none⟩),_,_,_,_,_,_,.slice ao (aG B.F x.t x.n).length cc,_,_,_,_,_,_,_,_,_,_,_,_,_,_,_,_,_,_,_,_,_,_,_,_,_,_,_,_,_,_,_,_,_,_,_,_,_,_,_,_,_,_,_,_,_,_,_,_,_,_,_,_,_,_,_,_,_,_,_,_,_,_,_,_,_,_,_,_,_,_,_,_,_,_,_,_,_,_,_,_,_,_,_,_,_,_,_,_,_,_,_,_,_,_,_,_,_,_,_,_,_,_,_,_,_,_,_,_,_,_,_,_,_,.slice ao (aG B.F x.t x.n).length cc,.pointer (some ⟨A.g, 0, none⟩),.pointer (some ⟨A.g, 0, none⟩),.pointer (some ⟨A.g, 2, none⟩),.pointer (some ⟨A.gf, 0, none⟩),.pointer (some ⟨w.heap.size, 22, none⟩),.int .i64 x.t,_,_,_,_,_,_,_,_,_,_,_,_,_,_,_,_,_,_,_,_,_,_,_,_,_,_,_,_,_,_,_,_,_,_,_,_,_,_,_,_,_,_,_,_,_,_,_,_,_,_,_,_], []⟩ _
  refine wpAnyH_take (i := 7) (v := .pointer (some ⟨w.heap.size, 2, none⟩)) rfl (by kernel_rfl) (by kernel_rfl) (by kernel_rfl) (fun _ _ _ h => h) (Or.inl ⟨by rfl, ?_⟩) hHeld ?_
  · intro W hW; (try dsimp only at hW); go_simp
  change wpAnyH _ _ _ _ _ _ _ ⟨#[.pointer (some ⟨P.g, 0, none⟩),.pointer (some ⟨A.g, 0, none⟩),_,_,_,.pointer (some ⟨w.heap.size, 0, none⟩),_,_,_,_,_,_,.slice ao (aG B.F x.t x.n).length cc,_,_,_,_,_,_,_,_,_,_,_,_,_,_,_,_,_,_,_,_,_,_,_,_,_,_,_,_,_,_,_,_,_,_,_,_,_,_,_,_,_,_,_,_,_,_,_,_,_,_,_,_,_,_,_,_,_,_,_,_,_,_,_,_,_,_,_,_,_,_,_,_,_,_,_,_,_,_,_,_,_,_,_,_,_,_,_,_,_,_,_,_,_,_,_,_,_,_,_,_,_,_,_,_,_,_,_,_,_,_,_,_,_,.slice ao (aG B.F x.t x.n).length cc,.pointer (some ⟨A.g, 0, none⟩),.pointer (some ⟨A.g, 0, none⟩),.pointer (some ⟨A.g, 2, none⟩),.pointer (some ⟨A.gf, 0, none⟩),.pointer (some ⟨w.heap.size, 22, none⟩),.int .i64 x.t,.pointer (some ⟨w.heap.size, 2, none⟩),_,_,_,_,_,_,_,_,_,_,_,_,_,_,_,_,_,_,_,_,_,_,_,_,_,_,_,_,_,_,_,_,_,_,_,_,_,_,_,_,_,_,_,_,_,_,_,_,_,_,_], []⟩ _
  refine wpAnyH_take (i := 8) (v := .int .i64 x.n) rfl (by kernel_rfl) (by kernel_rfl) (by kernel_rfl) (fun _ _ _ h => h) (Or.inl ⟨by rfl, ?_⟩) hHeld ?_
  · intro W hW; (try dsimp only at hW); have hc := hW.2.cell 2 _ rfl; clear hW; go_simp
  change wpAnyH _ _ _ _ _ _ _ ⟨#[.pointer (some ⟨P.g, 0, none⟩),.pointer (some ⟨A.g, 0, none⟩),_,_,_,.pointer (some ⟨w.heap.size, 0, none⟩),_,_,_,_,_,_,.slice ao (aG B.F x.t x.n).length cc,_,_,_,_,_,_,_,_,_,_,_,_,_,_,_,_,_,_,_,_,_,_,_,_,_,_,_,_,_,_,_,_,_,_,_,_,_,_,_,_,_,_,_,_,_,_,_,_,_,_,_,_,_,_,_,_,_,_,_,_,_,_,_,_,_,_,_,_,_,_,_,_,_,_,_,_,_,_,_,_,_,_,_,_,_,_,_,_,_,_,_,_,_,_,_,_,_,_,_,_,_,_,_,_,_,_,_,_,_,_,_,_,_,.slice ao (aG B.F x.t x.n).length cc,.pointer (some ⟨A.g, 0, none⟩),.pointer (some ⟨A.g, 0, none⟩),.pointer (some ⟨A.g, 2, none⟩),.pointer (some ⟨A.gf, 0, none⟩),.pointer (some ⟨w.heap.size, 22, none⟩),.int .i64 x.t,.pointer (some ⟨w.heap.size, 2, none⟩),.int .i64 x.n,_,_,_,_,_,_,_,_,_,_,_,_,_,_,_,_,_,_,_,_,_,_,_,_,_,_,_,_,_,_,_,_,_,_,_,_,_,_,_,_,_,_,_,_,_,_,_,_,_,_], []⟩ _
  refine wpAnyH_ready (rs := [9]) (by kernel_rfl) (by simp) ?_
  refine AllReadyH.cons rfl (fun K hK => ?_) AllReadyH.nil
  go_simp
  refine (age43 A.gf A.lf Z.F x.t x.n _ HRB.out.rf).mono ?_
  rintro e z2 ⟨ao2, cc2, rfl, hE2, ⟨lv', hT, hF⟩, hM2⟩
  have hR := HRB.out.fdb hT hF
  have HF := hide (HH.out.both HPB.out HM.out HB1.out hR.1 hR.2)
  have c2 := hR.1.bx.cell 2 _ rfl
  have hx2 : Box z2 w.heap.size (stc x) := HX.out.block (hR.2.block _ HX.out.lt (fun h => by have := HXW.out _ h; omega))
  refine hK.out _ _ ⟨c2, hx2⟩ (fun hHeld => ?_)
  have HE1 := hide (HE.out.mid hM2 HGF.out)
  have HE2 := hide hE2
  have HS2 := hide (And.intro c2 hx2)
  clear hK K hT hF hR c2 hx2 hE2 hM2
  change wpAnyH _ _ _ _ _ _ _ ⟨#[.pointer (some ⟨P.g, 0, none⟩),.pointer (some ⟨A.g, 0, none⟩),_,_,_,.pointer (some ⟨w.heap.size, 0, none⟩),_,_,_,_,_,_,.slice ao (aG B.F x.t x.n).length cc,_,_,_,_,_,_,_,_,_,_,_,_,_,_,_,_,_,_,_,_,_,_,_,_,_,_,_,_,_,_,_,_,_,_,_,_,_,_,_,_,_,_,_,_,_,_,_,_,_,_,_,_,_,_,_,_,_,_,_,_,_,_,_,_,_,_,_,_,_,_,_,_,_,_,_,_,_,_,_,_,_,_,_,_,_,_,_,_,_,_,_,_,_,_,_,_,_,_,_,_,_,_,_,_,_,_,_,_,_,_,_,_,_,.slice ao (aG B.F x.t x.n).length cc,.pointer (some ⟨A.g, 0, none⟩),.pointer (some ⟨A.g, 0, none⟩),.pointer (some ⟨A.g, 2, none⟩),.pointer (some ⟨A.gf, 0, none⟩),.pointer (some ⟨w.heap.size, 22, none⟩),.int .i64 x.t,.pointer (some ⟨w.heap.size, 2, none⟩),.int .i64 x.n,.slice ao2 (aG Z.F x.t x.n).length cc2,_,_,_,_,_,_,_,_,_,_,_,_,_,_,_,_,_,_,_,_,_,_,_,_,_,_,_,_,_,_,_,_,_,_,_,_,_,_,_,_,_,_,_,_,_,_,_,_,_], []⟩ _
  refine wpAnyH_ready (rs := [10]) (by kernel_rfl) (by simp) ?_
  refine AllReadyH.cons rfl (fun K hK => ?_) AllReadyH.nil
  go_simp
  refine (same13g _ _ _ _ _ _ _ _ _ HE1.out HE2.out).mono ?_
  rintro e z3 ⟨qq, rfl, hqq, hb⟩
  have HQQ : Hid (B = Z → qq = true) := hide (fun h => hqq (by rw [h]))
  refine hK.out _ _ ⟨(hb.cell (p := ⟨A.g, 2, none⟩) (World.block_lt_of_cell? _ _ HS2.out.1)).trans HS2.out.1, HS2.out.2.on hb⟩ (fun hHeld => ?_)
  have HF3 := hide (And.intro (HF.out.1.on hb) (HF.out.2.on hb))
  clear hK K hb hqq
  change wpAnyH _ _ _ _ _ _ _ ⟨#[.pointer (some ⟨P.g, 0, none⟩),.pointer (some ⟨A.g, 0, none⟩),_,_,_,.pointer (some ⟨w.heap.size, 0, none⟩),_,_,_,_,_,_,.slice ao (aG B.F x.t x.n).length cc,_,_,_,_,_,_,_,_,_,_,_,_,_,_,_,_,_,_,_,_,_,_,_,_,_,_,_,_,_,_,_,_,_,_,_,_,_,_,_,_,_,_,_,_,_,_,_,_,_,_,_,_,_,_,_,_,_,_,_,_,_,_,_,_,_,_,_,_,_,_,_,_,_,_,_,_,_,_,_,_,_,_,_,_,_,_,_,_,_,_,_,_,_,_,_,_,_,_,_,_,_,_,_,_,_,_,_,_,_,_,_,_,_,.slice ao (aG B.F x.t x.n).length cc,.pointer (some ⟨A.g, 0, none⟩),.pointer (some ⟨A.g, 0, none⟩),.pointer (some ⟨A.g, 2, none⟩),.pointer (some ⟨A.gf, 0, none⟩),.pointer (some ⟨w.heap.size, 22, none⟩),.int .i64 x.t,.pointer (some ⟨w.heap.size, 2, none⟩),.int .i64 x.n,.slice ao2 (aG Z.F x.t x.n).length cc2,.bool qq,_,_,_,_,_,_,_,_,_,_,_,_,_,_,_,_,_,_,_,_,_,_,_,_,_,_,_,_,_,_,_,_,_,_,_,_,_,_,_,_,_,_,_,_,_,_,_,_], []⟩ _
  refine wpAnyH_take (i := 11) (v := .bool qq) rfl (by kernel_rfl) (by kernel_rfl) (by kernel_rfl) (fun _ _ _ h => h) (Or.inl ⟨by rfl, ?_⟩) hHeld ?_
  · intro W hW; (try dsimp only at hW); go_simp
  change wpAnyH _ _ _ _ _ _ _ ⟨#[.pointer (some ⟨P.g, 0, none⟩),.pointer (some ⟨A.g, 0, none⟩),_,_,_,.pointer (some ⟨w.heap.size, 0, none⟩),.bool qq,_,_,_,_,_,.slice ao (aG B.F x.t x.n).length cc,_,_,_,_,_,_,_,_,_,_,_,_,_,_,_,_,_,_,_,_,_,_,_,_,_,_,_,_,_,_,_,_,_,_,_,_,_,_,_,_,_,_,_,_,_,_,_,_,_,_,_,_,_,_,_,_,_,_,_,_,_,_,_,_,_,_,_,_,_,_,_,_,_,_,_,_,_,_,_,_,_,_,_,_,_,_,_,_,_,_,_,_,_,_,_,_,_,_,_,_,_,_,_,_,_,_,_,_,_,_,_,_,_,.slice ao (aG B.F x.t x.n).length cc,.pointer (some ⟨A.g, 0, none⟩),.pointer (some ⟨A.g, 0, none⟩),.pointer (some ⟨A.g, 2, none⟩),.pointer (some ⟨A.gf, 0, none⟩),.pointer (some ⟨w.heap.size, 22, none⟩),.int .i64 x.t,.pointer (some ⟨w.heap.size, 2, none⟩),.int .i64 x.n,.slice ao2 (aG Z.F x.t x.n).length cc2,.bool qq,_,_,_,_,_,_,_,_,_,_,_,_,_,_,_,_,_,_,_,_,_,_,_,_,_,_,_,_,_,_,_,_,_,_,_,_,_,_,_,_,_,_,_,_,_,_,_,_], []⟩ _
  refine wpAnyH_done (by kernel_rfl) ?_ _
  go_wp2_with (go_ret; exact ⟨qq, rfl, HQQ.out, _, by rw [HN.out, HN.out]; exact HF3.out.1, Ch.pre HB.out HF3.out.2, rfl⟩)
end Go.Proofs.YtgpdjfaklcmoiaaGreat
