/- A step at both bridges: kind 4. -/
import Derived.Test.YtgpdjfaklcmoiaaGreatM16
namespace Go.Proofs.YtgpdjfaklcmoiaaGreat
open Go.RowKit Go.PlainAid
set_option maxRecDepth 100000 in
set_option maxHeartbeats 8000000 in
theorem step4 (A : RAd) (P : PAd) (B Z : Br) (x : Stp) (w : World) (H : Bh w A P B Z) (hd : x.d = 4) (G : Gst A P B Z x w) :
    Calls Tryz.prog 14 #[.pointer (some ⟨P.g, 0, none⟩), .pointer (some ⟨A.g, 0, none⟩), .agg (SPC x)] w (StP A P B Z x w) := by
  obtain ⟨hY, hm, hs, hya, hob, hoz, hvx⟩ := G
  have b0 := below_alloc w (.cells (SPC x) 40)
  have X0 : Box (w.alloc (.cells (SPC x) 40)) w.heap.size (stc x) := Box.new w (stc x) 40
  have HN : Hid (∀ B : Br, nxt B x = { B with V := tRm B.V x.v x.p }) := hide (fun B => by unfold nxt; rw [hd, if_neg (by decide), if_neg (by decide), if_neg (by decide), if_neg (by decide), if_pos rfl])
  have c0 := X0.cell 0 _ rfl
  rw [hd] at c0
  have HH := hide (H.on b0)
  have HB := hide b0
  have HX := hide X0
  have HP : Hid (P.hi ≤ w.heap.size) := hide H.p.lt.2.2.2.2
  have HLL := hide hoz.2.2
  have HXW : Hid (∀ i, Dm A i → i < w.heap.size) := hide H.r.lt
  clear b0 X0 H hd hY hm hs hya hob hoz hvx
  go_enter Tryz.func14, Tryz.ntmps14
  go_wp2_with fail
  generalize (w.alloc (.cells (SPC x) 40)) = z0 at *
  replace HH := hide HH.out.drew
  replace HB := hide (belowOn HB.out (below_drew z0))
  replace HX := hide HX.out.drew
  clear c0
  refine wp_region_held_drew (S := fun w' => Box w' w.heap.size (stc x)) (by kernel_rfl) HX.out (fun hHeld => ?_)
  generalize z0.drew = y0 at *
  refine wpAnyH_take (i := 0) (v := .pointer (some ⟨P.g, 0, none⟩)) rfl (by kernel_rfl) (by kernel_rfl) (by kernel_rfl) (fun _ _ _ h => h) (Or.inl ⟨by rfl, ?_⟩) hHeld ?_
  · intro W hW; (try dsimp only at hW); go_simp
  change wpAnyH _ _ _ _ _ _ _ ⟨#[.pointer (some ⟨P.g, 0, none⟩),.pointer (some ⟨A.g, 0, none⟩),_,_,_,.pointer (some ⟨w.heap.size, 0, none⟩),_,_,_,_,_,_,_,_,_,_,.int .i64 4,_,_,_,_,_,_,_,_,_,_,_,_,_,_,_,_,_,_,_,_,_,_,_,_,_,_,_,_,_,_,_,_,_,_,_,_,_,_,_,_,_,_,_,_,_,_,_,_,_,_,_,_,_,_,_,_,_,_,_,_,_,_,_,_,_,_,_,_,_,_,_,_,_,_,_,_,_,_,_,_,_,_,.pointer (some ⟨P.g, 0, none⟩),_,_,_,_,_,_,_,_,_,_,_,_,_,_,_,_,_,_,_,_,_,_,_,_,_,_,_,_,_,_,_,_,_,_,_,_,_,_,_,_,_,_,_,_,_,_,_,_,_,_,_,_,_,_,_,_,_,_,_,_,_,_,_,_,_,_,_,_,_,_,_,_,_,_,_,_,_,_,_,_,_,_,_,_,_], []⟩ _
  refine wpAnyH_take (i := 2) (v := .pointer (some ⟨w.heap.size, 3, none⟩)) rfl (by kernel_rfl) (by kernel_rfl) (by kernel_rfl) (fun _ _ _ h => h) (Or.inl ⟨by rfl, ?_⟩) hHeld ?_
  · intro W hW; (try dsimp only at hW); go_simp
  change wpAnyH _ _ _ _ _ _ _ ⟨#[.pointer (some ⟨P.g, 0, none⟩),.pointer (some ⟨A.g, 0, none⟩),_,_,_,.pointer (some ⟨w.heap.size, 0, none⟩),_,_,_,_,_,_,_,_,_,_,.int .i64 4,_,_,_,_,_,_,_,_,_,_,_,_,_,_,_,_,_,_,_,_,_,_,_,_,_,_,_,_,_,_,_,_,_,_,_,_,_,_,_,_,_,_,_,_,_,_,_,_,_,_,_,_,_,_,_,_,_,_,_,_,_,_,_,_,_,_,_,_,_,_,_,_,_,_,_,_,_,_,_,_,_,_,.pointer (some ⟨P.g, 0, none⟩),_,.pointer (some ⟨w.heap.size, 3, none⟩),_,_,_,_,_,_,_,_,_,_,_,_,_,_,_,_,_,_,_,_,_,_,_,_,_,_,_,_,_,_,_,_,_,_,_,_,_,_,_,_,_,_,_,_,_,_,_,_,_,_,_,_,_,_,_,_,_,_,_,_,_,_,_,_,_,_,_,_,_,_,_,_,_,_,_,_,_,_,_,_,_,_,_], []⟩ _
  refine wpAnyH_take (i := 4) (v := .pointer (some ⟨w.heap.size, 1, none⟩)) rfl (by kernel_rfl) (by kernel_rfl) (by kernel_rfl) (fun _ _ _ h => h) (Or.inl ⟨by rfl, ?_⟩) hHeld ?_
  · intro W hW; (try dsimp only at hW); go_simp
  change wpAnyH _ _ _ _ _ _ _ ⟨#[.pointer (some ⟨P.g, 0, none⟩),.pointer (some ⟨A.g, 0, none⟩),_,_,_,.pointer (some ⟨w.heap.size, 0, none⟩),_,_,_,_,_,_,_,_,_,_,.int .i64 4,_,_,_,_,_,_,_,_,_,_,_,_,_,_,_,_,_,_,_,_,_,_,_,_,_,_,_,_,_,_,_,_,_,_,_,_,_,_,_,_,_,_,_,_,_,_,_,_,_,_,_,_,_,_,_,_,_,_,_,_,_,_,_,_,_,_,_,_,_,_,_,_,_,_,_,_,_,_,_,_,_,_,.pointer (some ⟨P.g, 0, none⟩),_,.pointer (some ⟨w.heap.size, 3, none⟩),_,.pointer (some ⟨w.heap.size, 1, none⟩),_,_,_,_,_,_,_,_,_,_,_,_,_,_,_,_,_,_,_,_,_,_,_,_,_,_,_,_,_,_,_,_,_,_,_,_,_,_,_,_,_,_,_,_,_,_,_,_,_,_,_,_,_,_,_,_,_,_,_,_,_,_,_,_,_,_,_,_,_,_,_,_,_,_,_,_,_,_,_,_,_], []⟩ _
  refine wpAnyH_take (i := 3) (v := .int .i64 x.v) rfl (by kernel_rfl) (by kernel_rfl) (by kernel_rfl) (fun _ _ _ h => h) (Or.inl ⟨by rfl, ?_⟩) hHeld ?_
  · intro W hW; (try dsimp only at hW); have hc := hW.cell 3 _ rfl; clear hW; go_simp
  change wpAnyH _ _ _ _ _ _ _ ⟨#[.pointer (some ⟨P.g, 0, none⟩),.pointer (some ⟨A.g, 0, none⟩),_,_,_,.pointer (some ⟨w.heap.size, 0, none⟩),_,_,_,_,_,_,_,_,_,_,.int .i64 4,_,_,_,_,_,_,_,_,_,_,_,_,_,_,_,_,_,_,_,_,_,_,_,_,_,_,_,_,_,_,_,_,_,_,_,_,_,_,_,_,_,_,_,_,_,_,_,_,_,_,_,_,_,_,_,_,_,_,_,_,_,_,_,_,_,_,_,_,_,_,_,_,_,_,_,_,_,_,_,_,_,_,.pointer (some ⟨P.g, 0, none⟩),_,.pointer (some ⟨w.heap.size, 3, none⟩),.int .i64 x.v,.pointer (some ⟨w.heap.size, 1, none⟩),_,_,_,_,_,_,_,_,_,_,_,_,_,_,_,_,_,_,_,_,_,_,_,_,_,_,_,_,_,_,_,_,_,_,_,_,_,_,_,_,_,_,_,_,_,_,_,_,_,_,_,_,_,_,_,_,_,_,_,_,_,_,_,_,_,_,_,_,_,_,_,_,_,_,_,_,_,_,_,_,_], []⟩ _
  refine wpAnyH_take (i := 5) (v := .int .i64 x.p) rfl (by kernel_rfl) (by kernel_rfl) (by kernel_rfl) (fun _ _ _ h => h) (Or.inl ⟨by rfl, ?_⟩) hHeld ?_
  · intro W hW; (try dsimp only at hW); have hc := hW.cell 1 _ rfl; clear hW; go_simp
  change wpAnyH _ _ _ _ _ _ _ ⟨#[.pointer (some ⟨P.g, 0, none⟩),.pointer (some ⟨A.g, 0, none⟩),_,_,_,.pointer (some ⟨w.heap.size, 0, none⟩),_,_,_,_,_,_,_,_,_,_,.int .i64 4,_,_,_,_,_,_,_,_,_,_,_,_,_,_,_,_,_,_,_,_,_,_,_,_,_,_,_,_,_,_,_,_,_,_,_,_,_,_,_,_,_,_,_,_,_,_,_,_,_,_,_,_,_,_,_,_,_,_,_,_,_,_,_,_,_,_,_,_,_,_,_,_,_,_,_,_,_,_,_,_,_,_,.pointer (some ⟨P.g, 0, none⟩),_,.pointer (some ⟨w.heap.size, 3, none⟩),.int .i64 x.v,.pointer (some ⟨w.heap.size, 1, none⟩),.int .i64 x.p,_,_,_,_,_,_,_,_,_,_,_,_,_,_,_,_,_,_,_,_,_,_,_,_,_,_,_,_,_,_,_,_,_,_,_,_,_,_,_,_,_,_,_,_,_,_,_,_,_,_,_,_,_,_,_,_,_,_,_,_,_,_,_,_,_,_,_,_,_,_,_,_,_,_,_,_,_,_,_,_], []⟩ _
  refine wpAnyH_ready (rs := [1]) (by kernel_rfl) (by simp) ?_
  refine AllReadyH.cons rfl (fun K hK => ?_) AllReadyH.nil
  go_simp
  refine (vlansQ P B _ HH.out.p).mono ?_
  rintro e _ ⟨rfl, rfl⟩
  refine hK.out _ _ HX.out (fun hHeld => ?_)
  clear hK K
  change wpAnyH _ _ _ _ _ _ _ ⟨#[.pointer (some ⟨P.g, 0, none⟩),.pointer (some ⟨A.g, 0, none⟩),_,_,_,.pointer (some ⟨w.heap.size, 0, none⟩),_,_,_,_,_,_,_,_,_,_,.int .i64 4,_,_,_,_,_,_,_,_,_,_,_,_,_,_,_,_,_,_,_,_,_,_,_,_,_,_,_,_,_,_,_,_,_,_,_,_,_,_,_,_,_,_,_,_,_,_,_,_,_,_,_,_,_,_,_,_,_,_,_,_,_,_,_,_,_,_,_,_,_,_,_,_,_,_,_,_,_,_,_,_,_,_,.pointer (some ⟨P.g, 0, none⟩),.pointer (some ⟨P.h + 2, 0, none⟩),.pointer (some ⟨w.heap.size, 3, none⟩),.int .i64 x.v,.pointer (some ⟨w.heap.size, 1, none⟩),.int .i64 x.p,_,_,_,_,_,_,_,_,_,_,_,_,_,_,_,_,_,_,_,_,_,_,_,_,_,_,_,_,_,_,_,_,_,_,_,_,_,_,_,_,_,_,_,_,_,_,_,_,_,_,_,_,_,_,_,_,_,_,_,_,_,_,_,_,_,_,_,_,_,_,_,_,_,_,_,_,_,_,_,_], []⟩ _
  refine wpAnyH_ready (rs := [6]) (by kernel_rfl) (by simp) ?_
  refine AllReadyH.cons rfl (fun K hK => ?_) AllReadyH.nil
  go_simp
  refine (remove24 P.h B.V x.v x.p _ HH.out.p.pv).mono ?_
  rintro e z1 ⟨rfl, hT, hM⟩
  have hlt := HH.out.p.lt
  have HPB := hide (HH.out.p.vlan hT hM (tRm_n _ _ _))
  have HM := hide (mid_wide (N := P.lo) (M := P.hi) hM (by omega) (by omega))
  have hx1 := HX.out.block (HM.out.block _ HX.out.lt (Or.inr HP.out))
  refine hK.out _ _ hx1 (fun hHeld => ?_)
  replace HX := hide hx1
  clear hK K hT hM hlt hx1
  change wpAnyH _ _ _ _ _ _ _ ⟨#[.pointer (some ⟨P.g, 0, none⟩),.pointer (some ⟨A.g, 0, none⟩),_,_,_,.pointer (some ⟨w.heap.size, 0, none⟩),_,_,_,_,_,_,_,_,_,_,.int .i64 4,_,_,_,_,_,_,_,_,_,_,_,_,_,_,_,_,_,_,_,_,_,_,_,_,_,_,_,_,_,_,_,_,_,_,_,_,_,_,_,_,_,_,_,_,_,_,_,_,_,_,_,_,_,_,_,_,_,_,_,_,_,_,_,_,_,_,_,_,_,_,_,_,_,_,_,_,_,_,_,_,_,_,.pointer (some ⟨P.g, 0, none⟩),.pointer (some ⟨P.h + 2, 0, none⟩),.pointer (some ⟨w.heap.size, 3, none⟩),.int .i64 x.v,.pointer (some ⟨w.heap.size, 1, none⟩),.int .i64 x.p,.int .i64 (eRm B.V x.v x.p),_,_,_,_,_,_,_,_,_,_,_,_,_,_,_,_,_,_,_,_,_,_,_,_,_,_,_,_,_,_,_,_,_,_,_,_,_,_,_,_,_,_,_,_,_,_,_,_,_,_,_,_,_,_,_,_,_,_,_,_,_,_,_,_,_,_,_,_,_,_,_,_,_,_,_,_,_,_,_], []⟩ _
  refine wpAnyH_take (i := 7) (v := .int .i64 (eRm B.V x.v x.p)) rfl (by kernel_rfl) (by kernel_rfl) (by kernel_rfl) (fun _ _ _ h => h) (Or.inl ⟨by rfl, ?_⟩) hHeld ?_
  · intro W hW; (try dsimp only at hW); go_simp
  change wpAnyH _ _ _ _ _ _ _ ⟨#[.pointer (some ⟨P.g, 0, none⟩),.pointer (some ⟨A.g, 0, none⟩),_,_,_,.pointer (some ⟨w.heap.size, 0, none⟩),_,_,_,_,_,.int .i64 (eRm B.V x.v x.p),_,_,_,_,.int .i64 4,_,_,_,_,_,_,_,_,_,_,_,_,_,_,_,_,_,_,_,_,_,_,_,_,_,_,_,_,_,_,_,_,_,_,_,_,_,_,_,_,_,_,_,_,_,_,_,_,_,_,_,_,_,_,_,_,_,_,_,_,_,_,_,_,_,_,_,_,_,_,_,_,_,_,_,_,_,_,_,_,_,_,.pointer (some ⟨P.g, 0, none⟩),.pointer (some ⟨P.h + 2, 0, none⟩),.pointer (some ⟨w.heap.size, 3, none⟩),.int .i64 x.v,.pointer (some ⟨w.heap.size, 1, none⟩),.int .i64 x.p,.int .i64 (eRm B.V x.v x.p),_,_,_,_,_,_,_,_,_,_,_,_,_,_,_,_,_,_,_,_,_,_,_,_,_,_,_,_,_,_,_,_,_,_,_,_,_,_,_,_,_,_,_,_,_,_,_,_,_,_,_,_,_,_,_,_,_,_,_,_,_,_,_,_,_,_,_,_,_,_,_,_,_,_,_,_,_,_,_], []⟩ _
  refine wpAnyH_done (by kernel_rfl) ?_ _
  have HRB := hide (HH.out.mid HM.out).drew
  have HB1 := hide (below_drew z1)
  replace HX := hide HX.out.drew
  clear hHeld
  go_wp2_with fail
  refine wp_region_held_drew (S := fun w' => w'.cell? ⟨A.g, 1, none⟩ = some (.pointer (some ⟨A.gv + 1, 0, none⟩)) ∧ Box w' w.heap.size (stc x)) (by kernel_rfl) ⟨HRB.out.bx.cell 1 _ rfl, HX.out⟩ (fun hHeld => ?_)
  generalize z1.drew = y1 at *
  refine wpAnyH_take (i := 0) (v := .int .i64 (eRm B.V x.v x.p)) rfl (by kernel_rfl) (by kernel_rfl) (by kernel_rfl) (fun _ _ _ h => h) (Or.inl ⟨by rfl, ?_⟩) hHeld ?_
  · intro W hW; (try dsimp only at hW); go_simp
  change wpAnyH _ _ _ _ _ _ _ ⟨#[.pointer (some ⟨P.g, 0, none⟩),.pointer (some ⟨A.g, 0, none⟩),_,_,_,.pointer (some ⟨w.heap.size, 0, none⟩),_,_,_,_,_,.int .i64 (eRm B.V x.v x.p),_,_,_,_,_,_,_,_,_,_,_,_,_,_,_,_,_,_,_,_,_,_,_,_,_,_,_,_,_,_,_,_,_,_,_,_,_,_,_,_,_,_,_,_,_,_,_,_,_,_,_,_,_,_,_,_,_,_,_,_,_,_,_,_,_,_,_,_,_,_,_,_,_,_,_,_,_,_,_,_,_,_,_,_,_,_,_,_,_,_,_,_,_,_,.int .i64 (eRm B.V x.v x.p),_,_,_,_,_,_,_,_,_,_,_,_,_,_,_,_,_,_,_,_,_,_,_,_,_,_,_,_,_,_,_,_,_,_,_,_,_,_,_,_,_,_,_,_,_,_,_,_,_,_,_,_,_,_,_,_,_,_,_,_,_,_,_,_,_,_,_,_,_,_,_,_,_,_,_,_,_,_], []⟩ _
  refine wpAnyH_take (i := 1) (v := .pointer (some ⟨A.g, 0, none⟩)) rfl (by kernel_rfl) (by kernel_rfl) (by kernel_rfl) (fun _ _ _ h => h) (Or.inl ⟨by rfl, ?_⟩) hHeld ?_
  · intro W hW; (try dsimp only at hW); go_simp
  change wpAnyH _ _ _ _ _ _ _ ⟨#[.pointer (some ⟨P.g, 0, none⟩),.pointer (some ⟨A.g, 0, none⟩),_,_,_,.pointer (some ⟨w.heap.size, 0, none⟩),_,_,_,_,_,.int .i64 (eRm B.V x.v x.p),_,_,_,_,_,_,_,_,_,_,_,_,_,_,_,_,_,_,_,_,_,_,_,_,_,_,_,_,_,_,_,_,_,_,_,_,_,_,_,_,_,_,_,_,_,_,_,_,_,_,_,_,_,_,_,_,_,_,_,_,_,_,_,_,_,_,_,_,_,_,_,_,_,_,_,_,_,_,_,_,_,_,_,_,_,_,_,_,_,_,_,_,_,_,.int .i64 (eRm B.V x.v x.p),.pointer (some ⟨A.g, 0, none⟩),_,_,_,_,_,_,_,_,_,_,_,_,_,_,_,_,_,_,_,_,_,_,_,_,_,_,_,_,_,_,_,_,_,_,_,_,_,_,_,_,_,_,_,_,_,_,_,_,_,_,_,_,_,_,_,_,_,_,_,_,_,_,_,_,_,_,_,_,_,_,_,_,_,_,_,_,_], []⟩ _
  refine wpAnyH_take (i := 2) (v := .pointer (some ⟨A.g, 0, none⟩)) rfl (by kernel_rfl) (by kernel_rfl) (by kernel_rfl) (fun _ _ _ h => h) (Or.inl ⟨by rfl, ?_⟩) hHeld ?_
  · intro W hW; (try dsimp only at hW); go_simp
  change wpAnyH _ _ _ _ _ _ _ ⟨#[.pointer (some ⟨P.g, 0, none⟩),.pointer (some ⟨A.g, 0, none⟩),_,_,_,.pointer (some ⟨w.heap.size, 0, none⟩),_,_,_,_,_,.int .i64 (eRm B.V x.v x.p),_,_,_,_,_,_,_,_,_,_,_,_,_,_,_,_,_,_,_,_,_,_,_,_,_,_,_,_,_,_,_,_,_,_,_,_,_,_,_,_,_,_,_,_,_,_,_,_,_,_,_,_,_,_,_,_,_,_,_,_,_,_,_,_,_,_,_,_,_,_,_,_,_,_,_,_,_,_,_,_,_,_,_,_,_,_,_,_,_,_,_,_,_,_,.int .i64 (eRm B.V x.v x.p),.pointer (some ⟨A.g, 0, none⟩),.pointer (some ⟨A.g, 0, none⟩),_,_,_,_,_,_,_,_,_,_,_,_,_,_,_,_,_,_,_,_,_,_,_,_,_,_,_,_,_,_,_,_,_,_,_,_,_,_,_,_,_,_,_,_,_,_,_,_,_,_,_,_,_,_,_,_,_,_,_,_,_,_,_,_,_,_,_,_,_,_,_,_,_,_,_,_], []⟩ _
  refine wpAnyH_take (i := 3) (v := .pointer (some ⟨A.g, 1, none⟩)) rfl (by kernel_rfl) (by kernel_rfl) (by kernel_rfl) (fun _ _ _ h => h) (Or.inl ⟨by rfl, ?_⟩) hHeld ?_
  · intro W hW; (try dsimp only at hW); go_simp
  change wpAnyH _ _ _ _ _ _ _ ⟨#[.pointer (some ⟨P.g, 0, none⟩),.pointer (some ⟨A.g, 0, none⟩),_,_,_,.pointer (some ⟨w.heap.size, 0, none⟩),_,_,_,_,_,.int .i64 (eRm B.V x.v x.p),_,_,_,_,_,_,_,_,_,_,_,_,_,_,_,_,_,_,_,_,_,_,_,_,_,_,_,_,_,_,_,_,_,_,_,_,_,_,_,_,_,_,_,_,_,_,_,_,_,_,_,_,_,_,_,_,_,_,_,_,_,_,_,_,_,_,_,_,_,_,_,_,_,_,_,_,_,_,_,_,_,_,_,_,_,_,_,_,_,_,_,_,_,_,.int .i64 (eRm B.V x.v x.p),.pointer (some ⟨A.g, 0, none⟩),.pointer (some ⟨A.g, 0, none⟩),.pointer (some ⟨A.g, 1, none⟩),_,_,_,_,_,_,_,_,_,_,_,_,_,_,_,_,_,_,_,_,_,_,_,_,_,_,_,_,_,_,_,_,_,_,_,_,_,_,_,_,_,_,_,_,_,_,_,_,_,_,_,_,_,_,_,_,_,_,_,_,_,_,_,_,_,_,_,_,_,_,_,_,_,_,_], []⟩ _
  refine wpAnyH_take (i := 4) (v := .pointer (some ⟨A.gv + 1, 0, none⟩)) rfl (by kernel_rfl) (by kernel_rfl) (by kernel_rfl) (fun _ _ _ h => h) (Or.inl ⟨by rfl, ?_⟩) hHeld ?_
  · intro W hW; (try dsimp only at hW); have hc := hW.1; clear hW; go_simp
  change wpAnyH _ _ _ _ _ _ _ ⟨#[.pointer (some ⟨P.g, 0, none⟩),.pointer (some ⟨A.g, 0, none⟩),_,_,_,.pointer (some ⟨w.heap.size, 0, none⟩),_,_,_,_,_,.int .i64 (eRm B.V x.v x.p),_,_,_,_,_,_,_,_,_,_,_,_,_,_,_,_,_,_,_,_,_,_,_,_,_,_,_,_,_,_,_,_,_,_,_,_,_,_,_,_,_,_,_,_,_,_,_,_,_,_,_,_,_,_,_,_,_,_,_,_,_,_,_,_,_,_,_,_,_,_,_,_,_,_,_,_,_,_,_,_,_,_,_,_,_,_,_,_,_,_,_,_,_,_,.int .i64 (eRm B.V x.v x.p),.pointer (some ⟨A.g, 0, none⟩),.pointer (some ⟨A.g, 0, none⟩),.pointer (some ⟨A.g, 1, none⟩),.pointer (some ⟨A.gv + 1, 0, none⟩),_,_,_,_,_,_,_,_,_,_,_,_,_,_,_,_,_,_,_,_,_,_,_,_,_,_,_,_,_,_,_,_,_,_,_,_,_,_,_,_,_,_,_,_,_,_,_,_,_,_,_,_,_,_,_,_,_,_,_,_,_,_,_,_,_,_,_,_,_,_,_,_,_,_], []⟩ _
  refine wpAnyH_take (i := 5) (v := .pointer (some ⟨w.heap.size, 3, none⟩)) rfl (by kernel_rfl) (by kernel_rfl) (by kernel_rfl) (fun _ _ _ h => h) (Or.inl ⟨by rfl, ?_⟩) hHeld ?_
  · intro W hW; (try dsimp only at hW); go_simp
  change wpAnyH _ _ _ _ _ _ _ ⟨#[.pointer (some ⟨P.g, 0, none⟩),.pointer (some ⟨A.g, 0, none⟩),_,_,_,.pointer (some ⟨w.heap.size, 0, none⟩),_,_,_,_,_,.int .i64 (eRm B.V x.v x.p),_,_,_,_,_,_,_,_,_,_,_,_,_,_,_,_,_,_,_,_,_,_,_,_,_,_,_,_,_,_,_,_,_,_,_,_,_,_,_,_,_,_,_,_,_,_,_,_,_,_,_,_,_,_,_,_,_,_,_,_,_,_,_,_,_,_,_,_,_,_,_,_,_,_,_,_,_,_,_,_,_,_,_,_,_,_,_,_,_,_,_,_,_,_,.int .i64 (eRm B.V x.v x.p),.pointer (some ⟨A.g, 0, none⟩),.pointer (some ⟨A.g, 0, none⟩),.pointer (some ⟨A.g, 1, none⟩),.pointer (some ⟨A.gv + 1, 0, none⟩),.pointer (some ⟨w.heap.size, 3, none⟩),_,_,_,_,_,_,_,_,_,_,_,_,_,_,_,_,_,_,_,_,_,_,_,_,_,_,_,_,_,_,_,_,_,_,_,_,_,_,_,_,_,_,_,_,_,_,_,_,_,_,_,_,_,_,_,_,_,_,_,_,_,_,_,_,_,_,_,_,_,_,_,_,_], []⟩ _
  refine wpAnyH_take (i := 7) (v := .pointer (some ⟨w.heap.size, 1, none⟩)) rfl (by kernel_rfl) (by kernel_rfl) (by kernel_rfl) (fun _ _ _ h => h) (Or.inl ⟨by rfl, ?_⟩) hHeld ?_
  · intro W hW; (try dsimp only at hW); go_simp
  change wpAnyH _ _ _ _ _ _ _ ⟨#[.pointer (some ⟨P.g, 0, none⟩),.pointer (some ⟨A.g, 0, none⟩),_,_,_,.pointer (some ⟨w.heap.size, 0, none⟩),_,_,_,_,_,.int .i64 (eRm B.V x.v x.p),_,_,_,_,_,_,_,_,_,_,_,_,_,_,_,_,_,_,_,_,_,_,_,_,_,_,_,_,_,_,_,_,_,_,_,_,_,_,_,_,_,_,_,_,_,_,_,_,_,_,_,_,_,_,_,_,_,_,_,_,_,_,_,_,_,_,_,_,_,_,_,_,_,_,_,_,_,_,_,_,_,_,_,_,_,_,_,_,_,_,_,_,_,_,.int .i64 (eRm B.V x.v x.p),.pointer (some ⟨A.g, 0, none⟩),.pointer (some ⟨A.g, 0, none⟩),.pointer (some ⟨A.g, 1, none⟩),.pointer (some ⟨A.gv + 1, 0, none⟩),.pointer (some ⟨w.heap.size, 3, none⟩),_,.pointer (some ⟨w.heap.size, 1, none⟩),_,_,_,_,_,_,_,_,_,_,_,_,_,_,_,_,_,_,_,_,_,_,_,_,_,_,_,_,_,_,_,_,_,_,_,_,_,_,_,_,_,_,_,_,_,_,_,_,_,_,_,_,_,_,_,_,_,_,_,_,_,_,_,_,_,_,_,_,_,_,_], []⟩ _
  refine wpAnyH_take (i := 6) (v := .int .i64 x.v) rfl (by kernel_rfl) (by kernel_rfl) (by kernel_rfl) (fun _ _ _ h => h) (Or.inl ⟨by rfl, ?_⟩) hHeld ?_
  · intro W hW; (try dsimp only at hW); have hc := hW.2.cell 3 _ rfl; clear hW; go_simp
  change wpAnyH _ _ _ _ _ _ _ ⟨#[.pointer (some ⟨P.g, 0, none⟩),.pointer (some ⟨A.g, 0, none⟩),_,_,_,.pointer (some ⟨w.heap.size, 0, none⟩),_,_,_,_,_,.int .i64 (eRm B.V x.v x.p),_,_,_,_,_,_,_,_,_,_,_,_,_,_,_,_,_,_,_,_,_,_,_,_,_,_,_,_,_,_,_,_,_,_,_,_,_,_,_,_,_,_,_,_,_,_,_,_,_,_,_,_,_,_,_,_,_,_,_,_,_,_,_,_,_,_,_,_,_,_,_,_,_,_,_,_,_,_,_,_,_,_,_,_,_,_,_,_,_,_,_,_,_,_,.int .i64 (eRm B.V x.v x.p),.pointer (some ⟨A.g, 0, none⟩),.pointer (some ⟨A.g, 0, none⟩),.pointer (some ⟨A.g, 1, none⟩),.pointer (some ⟨A.gv + 1, 0, none⟩),.pointer (some ⟨w.heap.size, 3, none⟩),.int .i64 x.v,.pointer (some ⟨w.heap.size, 1, none⟩),_,_,_,_,_,_,_,_,_,_,_,_,_,_,_,_,_,_,_,_,_,_,_,_,_,_,_,_,_,_,_,_,_,_,_,_,_,_,_,_,_,_,_,_,_,_,_,_,_,_,_,_,_,_,_,_,_,_,_,_,_,_,_,_,_,_,_,_,_,_,_], []⟩ _
  refine wpAnyH_take (i := 8) (v := .int .i64 x.p) rfl (by kernel_rfl) (by kernel_rfl) (by kernel_rfl) (fun _ _ _ h => h) (Or.inl ⟨by rfl, ?_⟩) hHeld ?_
  · intro W hW; (try dsimp only at hW); have hc := hW.2.cell 1 _ rfl; clear hW; go_simp
  change wpAnyH _ _ _ _ _ _ _ ⟨#[.pointer (some ⟨P.g, 0, none⟩),.pointer (some ⟨A.g, 0, none⟩),_,_,_,.pointer (some ⟨w.heap.size, 0, none⟩),_,_,_,_,_,.int .i64 (eRm B.V x.v x.p),_,_,_,_,_,_,_,_,_,_,_,_,_,_,_,_,_,_,_,_,_,_,_,_,_,_,_,_,_,_,_,_,_,_,_,_,_,_,_,_,_,_,_,_,_,_,_,_,_,_,_,_,_,_,_,_,_,_,_,_,_,_,_,_,_,_,_,_,_,_,_,_,_,_,_,_,_,_,_,_,_,_,_,_,_,_,_,_,_,_,_,_,_,_,.int .i64 (eRm B.V x.v x.p),.pointer (some ⟨A.g, 0, none⟩),.pointer (some ⟨A.g, 0, none⟩),.pointer (some ⟨A.g, 1, none⟩),.pointer (some ⟨A.gv + 1, 0, none⟩),.pointer (some ⟨w.heap.size, 3, none⟩),.int .i64 x.v,.pointer (some ⟨w.heap.size, 1, none⟩),.int .i64 x.p,_,_,_,_,_,_,_,_,_,_,_,_,_,_,_,_,_,_,_,_,_,_,_,_,_,_,_,_,_,_,_,_,_,_,_,_,_,_,_,_,_,_,_,_,_,_,_,_,_,_,_,_,_,_,_,_,_,_,_,_,_,_,_,_,_,_,_,_,_,_], []⟩ _
  refine wpAnyH_ready (rs := [9]) (by kernel_rfl) (by simp) ?_
  refine AllReadyH.cons rfl (fun K hK => ?_) AllReadyH.nil
  go_simp
  refine (remove43 A.gv A.lv Z.V x.v x.p _ HRB.out.rv HLL.out).mono ?_
  rintro e z2 ⟨rfl, ⟨lv', hT, hF⟩, _⟩
  have hR := HRB.out.vlan hT hF (tRm_n _ _ _)
  have HF := hide (HH.out.both HPB.out HM.out HB1.out hR.1 hR.2)
  have c2 := hR.1.bx.cell 1 _ rfl
  have hx2 : Box z2 w.heap.size (stc x) := HX.out.block (hR.2.block _ HX.out.lt (fun h => by have := HXW.out _ h; omega))
  refine hK.out _ _ ⟨c2, hx2⟩ (fun hHeld => ?_)
  clear hK K hT hF hR c2 hx2
  change wpAnyH _ _ _ _ _ _ _ ⟨#[.pointer (some ⟨P.g, 0, none⟩),.pointer (some ⟨A.g, 0, none⟩),_,_,_,.pointer (some ⟨w.heap.size, 0, none⟩),_,_,_,_,_,.int .i64 (eRm B.V x.v x.p),_,_,_,_,_,_,_,_,_,_,_,_,_,_,_,_,_,_,_,_,_,_,_,_,_,_,_,_,_,_,_,_,_,_,_,_,_,_,_,_,_,_,_,_,_,_,_,_,_,_,_,_,_,_,_,_,_,_,_,_,_,_,_,_,_,_,_,_,_,_,_,_,_,_,_,_,_,_,_,_,_,_,_,_,_,_,_,_,_,_,_,_,_,_,.int .i64 (eRm B.V x.v x.p),.pointer (some ⟨A.g, 0, none⟩),.pointer (some ⟨A.g, 0, none⟩),.pointer (some ⟨A.g, 1, none⟩),.pointer (some ⟨A.gv + 1, 0, none⟩),.pointer (some ⟨w.heap.size, 3, none⟩),.int .i64 x.v,.pointer (some ⟨w.heap.size, 1, none⟩),.int .i64 x.p,.int .i64 (eRm Z.V x.v x.p),_,_,_,_,_,_,_,_,_,_,_,_,_,_,_,_,_,_,_,_,_,_,_,_,_,_,_,_,_,_,_,_,_,_,_,_,_,_,_,_,_,_,_,_,_,_,_,_,_,_,_,_,_,_,_,_,_,_,_,_,_,_,_,_,_,_,_,_,_], []⟩ _
  refine wpAnyH_take (i := 10) (v := .bool ((eRm B.V x.v x.p) == (eRm Z.V x.v x.p))) rfl (by kernel_rfl) (by kernel_rfl) (by kernel_rfl) (fun _ _ _ h => h) (Or.inl ⟨by rfl, ?_⟩) hHeld ?_
  · intro W hW; (try dsimp only at hW); go_simp
  change wpAnyH _ _ _ _ _ _ _ ⟨#[.pointer (some ⟨P.g, 0, none⟩),.pointer (some ⟨A.g, 0, none⟩),_,_,_,.pointer (some ⟨w.heap.size, 0, none⟩),_,_,_,_,_,.int .i64 (eRm B.V x.v x.p),_,_,_,_,_,_,_,_,_,_,_,_,_,_,_,_,_,_,_,_,_,_,_,_,_,_,_,_,_,_,_,_,_,_,_,_,_,_,_,_,_,_,_,_,_,_,_,_,_,_,_,_,_,_,_,_,_,_,_,_,_,_,_,_,_,_,_,_,_,_,_,_,_,_,_,_,_,_,_,_,_,_,_,_,_,_,_,_,_,_,_,_,_,_,.int .i64 (eRm B.V x.v x.p),.pointer (some ⟨A.g, 0, none⟩),.pointer (some ⟨A.g, 0, none⟩),.pointer (some ⟨A.g, 1, none⟩),.pointer (some ⟨A.gv + 1, 0, none⟩),.pointer (some ⟨w.heap.size, 3, none⟩),.int .i64 x.v,.pointer (some ⟨w.heap.size, 1, none⟩),.int .i64 x.p,.int .i64 (eRm Z.V x.v x.p),.bool ((eRm B.V x.v x.p) == (eRm Z.V x.v x.p)),_,_,_,_,_,_,_,_,_,_,_,_,_,_,_,_,_,_,_,_,_,_,_,_,_,_,_,_,_,_,_,_,_,_,_,_,_,_,_,_,_,_,_,_,_,_,_,_,_,_,_,_,_,_,_,_,_,_,_,_,_,_,_,_,_,_,_,_], []⟩ _
  refine wpAnyH_take (i := 11) (v := .bool ((eRm B.V x.v x.p) == (eRm Z.V x.v x.p))) rfl (by kernel_rfl) (by kernel_rfl) (by kernel_rfl) (fun _ _ _ h => h) (Or.inl ⟨by rfl, ?_⟩) hHeld ?_
  · intro W hW; (try dsimp only at hW); go_simp
  change wpAnyH _ _ _ _ _ _ _ ⟨#[.pointer (some ⟨P.g, 0, none⟩),.pointer (some ⟨A.g, 0, none⟩),_,_,_,.pointer (some ⟨w.heap.size, 0, none⟩),.bool ((eRm B.V x.v x.p) == (eRm Z.V x.v x.p)),_,_,_,_,.int .i64 (eRm B.V x.v x.p),_,_,_,_,_,_,_,_,_,_,_,_,_,_,_,_,_,_,_,_,_,_,_,_,_,_,_,_,_,_,_,_,_,_,_,_,_,_,_,_,_,_,_,_,_,_,_,_,_,_,_,_,_,_,_,_,_,_,_,_,_,_,_,_,_,_,_,_,_,_,_,_,_,_,_,_,_,_,_,_,_,_,_,_,_,_,_,_,_,_,_,_,_,_,.int .i64 (eRm B.V x.v x.p),.pointer (some ⟨A.g, 0, none⟩),.pointer (some ⟨A.g, 0, none⟩),.pointer (some ⟨A.g, 1, none⟩),.pointer (some ⟨A.gv + 1, 0, none⟩),.pointer (some ⟨w.heap.size, 3, none⟩),.int .i64 x.v,.pointer (some ⟨w.heap.size, 1, none⟩),.int .i64 x.p,.int .i64 (eRm Z.V x.v x.p),.bool ((eRm B.V x.v x.p) == (eRm Z.V x.v x.p)),_,_,_,_,_,_,_,_,_,_,_,_,_,_,_,_,_,_,_,_,_,_,_,_,_,_,_,_,_,_,_,_,_,_,_,_,_,_,_,_,_,_,_,_,_,_,_,_,_,_,_,_,_,_,_,_,_,_,_,_,_,_,_,_,_,_,_,_], []⟩ _
  refine wpAnyH_done (by kernel_rfl) ?_ _
  go_wp2_with (go_ret; exact ⟨_, rfl, fun h => (by rw [h]; simp), _, by rw [HN.out, HN.out]; exact HF.out.1, Ch.pre HB.out HF.out.2, rfl⟩)
end Go.Proofs.YtgpdjfaklcmoiaaGreat
