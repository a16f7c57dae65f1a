/- A step at both bridges: kind 2. · A step at both bridges: any. · Runs of steps, plain; plain and made of the laws. · Contracts: made and awake of the laws. · Contract: awake of the laws. · Equality of arrays of ints; entries of the document's table; counts that may be. -/
import Derived.Test.YtgpdjfaklcmoiaaGreatM16
import Derived.Test.YtgpdjfaklcmoiaaGreatM17
import Derived.Test.YtgpdjfaklcmoiaaGreatM18
import Derived.Test.YtgpdjfaklcmoiaaGreatM19
import Derived.Test.YtgpdjfaklcmoiaaGreatM20
import Derived.Test.YtgpdjfaklcmoiaaGreatM21
import Derived.Test.YtgpdjfaklcmoiaaGreatM22
import Derived.Test.YtgpdjfaklcmoiaaGreatM23
import Derived.ChangeKeysEq
/- A step at both bridges: kind 2. -/
namespace Go.Proofs.YtgpdjfaklcmoiaaGreat
open Go.RowKit Go.PlainAid
set_option maxRecDepth 100000 in
set_option maxHeartbeats 8000000 in
theorem step2 (A : RAd) (P : PAd) (B Z : Br) (x : Stp) (w : World) (H : Bh w A P B Z) (hd : x.d = 2) (G : Gst A P B Z x w) :
    Calls Tryz.prog 14 #[.pointer (some ⟨P.g, 0, none⟩), .pointer (some ⟨A.g, 0, none⟩), .agg (SPC x)] w (StP A P B Z x w) := by
  obtain ⟨hY, hm, hs, hya, hob, hoz, hvx⟩ := G
  have b0 := below_alloc w (.cells (SPC x) 40)
  have X0 : Box (w.alloc (.cells (SPC x) 40)) w.heap.size (stc x) := Box.new w (stc x) 40
  have HN : Hid (∀ B : Br, nxt B x = { B with V := tAdd B.V x.v x.p x.g }) := hide (fun B => by unfold nxt; rw [hd, if_neg (by decide), if_neg (by decide), if_pos rfl])
  have c0 := X0.cell 0 _ rfl
  rw [hd] at c0
  have HH := hide (H.on b0)
  have HB := hide b0
  have HX := hide X0
  have HP : Hid (P.hi ≤ w.heap.size) := hide H.p.lt.2.2.2.2
  have HLL := hide hoz.2.2
  have HXW : Hid (∀ i, Dm A i → i < w.heap.size) := hide H.r.lt
  clear b0 X0 H hd hY hm hs hya hob hoz hvx
  go_enter Tryz.func14, Tryz.ntmps14
  go_wp2_with fail
  generalize (w.alloc (.cells (SPC x) 40)) = z0 at *
  replace HH := hide HH.out.drew
  replace HB := hide (belowOn HB.out (below_drew z0))
  replace HX := hide HX.out.drew
  clear c0
  refine wp_region_held_drew (S := fun w' => Box w' w.heap.size (stc x)) (by kernel_rfl) HX.out (fun hHeld => ?_)
  generalize z0.drew = y0 at *
  refine wpAnyH_take (i := 0) (v := .pointer (some ⟨P.g, 0, none⟩)) rfl (by kernel_rfl) (by kernel_rfl) (by kernel_rfl) (fun _ _ _ h => h) (Or.inl ⟨by rfl, ?_⟩) hHeld ?_
  · intro W hW; (try dsimp only at hW); go_simp
  change wpAnyH _ _ _ _ _ _ _ ⟨#[.pointer (some ⟨P.g, 0, none⟩),.pointer (some ⟨A.g, 0, none⟩),_,_,_,.pointer (some ⟨w.heap.size, 0, none⟩),_,_,_,_,_,_,_,_,_,_,.int .i64 2,_,_,_,_,_,_,_,_,_,_,_,_,_,_,_,_,_,_,_,_,_,_,_,_,_,_,_,_,_,_,_,_,_,_,_,_,_,_,.pointer (some ⟨P.g, 0, none⟩),_,_,_,_,_,_,_,_,_,_,_,_,_,_,_,_,_,_,_,_,_,_,_,_,_,_,_,_,_,_,_,_,_,_,_,_,_,_,_,_,_,_,_,_,_,_,_,_,_,_,_,_,_,_,_,_,_,_,_,_,_,_,_,_,_,_,_,_,_,_,_,_,_,_,_,_,_,_,_,_,_,_,_,_,_,_,_,_,_,_,_,_,_,_,_,_,_,_,_,_,_,_,_,_,_,_,_,_,_,_,_,_,_,_,_,_,_,_,_,_,_,_,_,_,_,_,_,_,_], []⟩ _
  refine wpAnyH_take (i := 2) (v := .pointer (some ⟨w.heap.size, 3, none⟩)) rfl (by kernel_rfl) (by kernel_rfl) (by kernel_rfl) (fun _ _ _ h => h) (Or.inl ⟨by rfl, ?_⟩) hHeld ?_
  · intro W hW; (try dsimp only at hW); go_simp
  change wpAnyH _ _ _ _ _ _ _ ⟨#[.pointer (some ⟨P.g, 0, none⟩),.pointer (some ⟨A.g, 0, none⟩),_,_,_,.pointer (some ⟨w.heap.size, 0, none⟩),_,_,_,_,_,_,_,_,_,_,.int .i64 2,_,_,_,_,_,_,_,_,_,_,_,_,_,_,_,_,_,_,_,_,_,_,_,_,_,_,_,_,_,_,_,_,_,_,_,_,_,_,.pointer (some ⟨P.g, 0, none⟩),_,.pointer (some ⟨w.heap.size, 3, none⟩),_,_,_,_,_,_,_,_,_,_,_,_,_,_,_,_,_,_,_,_,_,_,_,_,_,_,_,_,_,_,_,_,_,_,_,_,_,_,_,_,_,_,_,_,_,_,_,_,_,_,_,_,_,_,_,_,_,_,_,_,_,_,_,_,_,_,_,_,_,_,_,_,_,_,_,_,_,_,_,_,_,_,_,_,_,_,_,_,_,_,_,_,_,_,_,_,_,_,_,_,_,_,_,_,_,_,_,_,_,_,_,_,_,_,_,_,_,_,_,_,_,_,_,_,_,_,_], []⟩ _
  refine wpAnyH_take (i := 4) (v := .pointer (some ⟨w.heap.size, 1, none⟩)) rfl (by kernel_rfl) (by kernel_rfl) (by kernel_rfl) (fun _ _ _ h => h) (Or.inl ⟨by rfl, ?_⟩) hHeld ?_
  · intro W hW; (try dsimp only at hW); go_simp
  change wpAnyH _ _ _ _ _ _ _ ⟨#[.pointer (some ⟨P.g, 0, none⟩),.pointer (some ⟨A.g, 0, none⟩),_,_,_,.pointer (some ⟨w.heap.size, 0, none⟩),_,_,_,_,_,_,_,_,_,_,.int .i64 2,_,_,_,_,_,_,_,_,_,_,_,_,_,_,_,_,_,_,_,_,_,_,_,_,_,_,_,_,_,_,_,_,_,_,_,_,_,_,.pointer (some ⟨P.g, 0, none⟩),_,.pointer (some ⟨w.heap.size, 3, none⟩),_,.pointer (some ⟨w.heap.size, 1, none⟩),_,_,_,_,_,_,_,_,_,_,_,_,_,_,_,_,_,_,_,_,_,_,_,_,_,_,_,_,_,_,_,_,_,_,_,_,_,_,_,_,_,_,_,_,_,_,_,_,_,_,_,_,_,_,_,_,_,_,_,_,_,_,_,_,_,_,_,_,_,_,_,_,_,_,_,_,_,_,_,_,_,_,_,_,_,_,_,_,_,_,_,_,_,_,_,_,_,_,_,_,_,_,_,_,_,_,_,_,_,_,_,_,_,_,_,_,_,_,_,_,_,_,_,_,_], []⟩ _
  refine wpAnyH_take (i := 6) (v := .pointer (some ⟨w.heap.size, 4, none⟩)) rfl (by kernel_rfl) (by kernel_rfl) (by kernel_rfl) (fun _ _ _ h => h) (Or.inl ⟨by rfl, ?_⟩) hHeld ?_
  · intro W hW; (try dsimp only at hW); go_simp
  change wpAnyH _ _ _ _ _ _ _ ⟨#[.pointer (some ⟨P.g, 0, none⟩),.pointer (some ⟨A.g, 0, none⟩),_,_,_,.pointer (some ⟨w.heap.size, 0, none⟩),_,_,_,_,_,_,_,_,_,_,.int .i64 2,_,_,_,_,_,_,_,_,_,_,_,_,_,_,_,_,_,_,_,_,_,_,_,_,_,_,_,_,_,_,_,_,_,_,_,_,_,_,.pointer (some ⟨P.g, 0, none⟩),_,.pointer (some ⟨w.heap.size, 3, none⟩),_,.pointer (some ⟨w.heap.size, 1, none⟩),_,.pointer (some ⟨w.heap.size, 4, none⟩),_,_,_,_,_,_,_,_,_,_,_,_,_,_,_,_,_,_,_,_,_,_,_,_,_,_,_,_,_,_,_,_,_,_,_,_,_,_,_,_,_,_,_,_,_,_,_,_,_,_,_,_,_,_,_,_,_,_,_,_,_,_,_,_,_,_,_,_,_,_,_,_,_,_,_,_,_,_,_,_,_,_,_,_,_,_,_,_,_,_,_,_,_,_,_,_,_,_,_,_,_,_,_,_,_,_,_,_,_,_,_,_,_,_,_,_,_,_,_,_,_,_,_], []⟩ _
  refine wpAnyH_take (i := 3) (v := .int .i64 x.v) rfl (by kernel_rfl) (by kernel_rfl) (by kernel_rfl) (fun _ _ _ h => h) (Or.inl ⟨by rfl, ?_⟩) hHeld ?_
  · intro W hW; (try dsimp only at hW); have hc := hW.cell 3 _ rfl; clear hW; go_simp
  change wpAnyH _ _ _ _ _ _ _ ⟨#[.pointer (some ⟨P.g, 0, none⟩),.pointer (some ⟨A.g, 0, none⟩),_,_,_,.pointer (some ⟨w.heap.size, 0, none⟩),_,_,_,_,_,_,_,_,_,_,.int .i64 2,_,_,_,_,_,_,_,_,_,_,_,_,_,_,_,_,_,_,_,_,_,_,_,_,_,_,_,_,_,_,_,_,_,_,_,_,_,_,.pointer (some ⟨P.g, 0, none⟩),_,.pointer (some ⟨w.heap.size, 3, none⟩),.int .i64 x.v,.pointer (some ⟨w.heap.size, 1, none⟩),_,.pointer (some ⟨w.heap.size, 4, none⟩),_,_,_,_,_,_,_,_,_,_,_,_,_,_,_,_,_,_,_,_,_,_,_,_,_,_,_,_,_,_,_,_,_,_,_,_,_,_,_,_,_,_,_,_,_,_,_,_,_,_,_,_,_,_,_,_,_,_,_,_,_,_,_,_,_,_,_,_,_,_,_,_,_,_,_,_,_,_,_,_,_,_,_,_,_,_,_,_,_,_,_,_,_,_,_,_,_,_,_,_,_,_,_,_,_,_,_,_,_,_,_,_,_,_,_,_,_,_,_,_,_,_,_], []⟩ _
  refine wpAnyH_take (i := 5) (v := .int .i64 x.p) rfl (by kernel_rfl) (by kernel_rfl) (by kernel_rfl) (fun _ _ _ h => h) (Or.inl ⟨by rfl, ?_⟩) hHeld ?_
  · intro W hW; (try dsimp only at hW); have hc := hW.cell 1 _ rfl; clear hW; go_simp
  change wpAnyH _ _ _ _ _ _ _ ⟨#[.pointer (some ⟨P.g, 0, none⟩),.pointer (some ⟨A.g, 0, none⟩),_,_,_,.pointer (some ⟨w.heap.size, 0, none⟩),_,_,_,_,_,_,_,_,_,_,.int .i64 2,_,_,_,_,_,_,_,_,_,_,_,_,_,_,_,_,_,_,_,_,_,_,_,_,_,_,_,_,_,_,_,_,_,_,_,_,_,_,.pointer (some ⟨P.g, 0, none⟩),_,.pointer (some ⟨w.heap.size, 3, none⟩),.int .i64 x.v,.pointer (some ⟨w.heap.size, 1, none⟩),.int .i64 x.p,.pointer (some ⟨w.heap.size, 4, none⟩),_,_,_,_,_,_,_,_,_,_,_,_,_,_,_,_,_,_,_,_,_,_,_,_,_,_,_,_,_,_,_,_,_,_,_,_,_,_,_,_,_,_,_,_,_,_,_,_,_,_,_,_,_,_,_,_,_,_,_,_,_,_,_,_,_,_,_,_,_,_,_,_,_,_,_,_,_,_,_,_,_,_,_,_,_,_,_,_,_,_,_,_,_,_,_,_,_,_,_,_,_,_,_,_,_,_,_,_,_,_,_,_,_,_,_,_,_,_,_,_,_,_,_], []⟩ _
  refine wpAnyH_take (i := 7) (v := .bool x.g) rfl (by kernel_rfl) (by kernel_rfl) (by kernel_rfl) (fun _ _ _ h => h) (Or.inl ⟨by rfl, ?_⟩) hHeld ?_
  · intro W hW; (try dsimp only at hW); have hc := hW.cell 4 _ rfl; clear hW; go_simp
  change wpAnyH _ _ _ _ _ _ _ ⟨#[.pointer (some ⟨P.g, 0, none⟩),.pointer (some ⟨A.g, 0, none⟩),_,_,_,.pointer (some ⟨w.heap.size, 0, none⟩),_,_,_,_,_,_,_,_,_,_,.int .i64 2,_,_,_,_,_,_,_,_,_,_,_,_,_,_,_,_,_,_,_,_,_,_,_,_,_,_,_,_,_,_,_,_,_,_,_,_,_,_,.pointer (some ⟨P.g, 0, none⟩),_,.pointer (some ⟨w.heap.size, 3, none⟩),.int .i64 x.v,.pointer (some ⟨w.heap.size, 1, none⟩),.int .i64 x.p,.pointer (some ⟨w.heap.size, 4, none⟩),.bool x.g,_,_,_,_,_,_,_,_,_,_,_,_,_,_,_,_,_,_,_,_,_,_,_,_,_,_,_,_,_,_,_,_,_,_,_,_,_,_,_,_,_,_,_,_,_,_,_,_,_,_,_,_,_,_,_,_,_,_,_,_,_,_,_,_,_,_,_,_,_,_,_,_,_,_,_,_,_,_,_,_,_,_,_,_,_,_,_,_,_,_,_,_,_,_,_,_,_,_,_,_,_,_,_,_,_,_,_,_,_,_,_,_,_,_,_,_,_,_,_,_,_,_], []⟩ _
  refine wpAnyH_ready (rs := [1]) (by kernel_rfl) (by simp) ?_
  refine AllReadyH.cons rfl (fun K hK => ?_) AllReadyH.nil
  go_simp
  refine (vlansQ P B _ HH.out.p).mono ?_
  rintro e _ ⟨rfl, rfl⟩
  refine hK.out _ _ HX.out (fun hHeld => ?_)
  clear hK K
  change wpAnyH _ _ _ _ _ _ _ ⟨#[.pointer (some ⟨P.g, 0, none⟩),.pointer (some ⟨A.g, 0, none⟩),_,_,_,.pointer (some ⟨w.heap.size, 0, none⟩),_,_,_,_,_,_,_,_,_,_,.int .i64 2,_,_,_,_,_,_,_,_,_,_,_,_,_,_,_,_,_,_,_,_,_,_,_,_,_,_,_,_,_,_,_,_,_,_,_,_,_,_,.pointer (some ⟨P.g, 0, none⟩),.pointer (some ⟨P.h + 2, 0, none⟩),.pointer (some ⟨w.heap.size, 3, none⟩),.int .i64 x.v,.pointer (some ⟨w.heap.size, 1, none⟩),.int .i64 x.p,.pointer (some ⟨w.heap.size, 4, none⟩),.bool x.g,_,_,_,_,_,_,_,_,_,_,_,_,_,_,_,_,_,_,_,_,_,_,_,_,_,_,_,_,_,_,_,_,_,_,_,_,_,_,_,_,_,_,_,_,_,_,_,_,_,_,_,_,_,_,_,_,_,_,_,_,_,_,_,_,_,_,_,_,_,_,_,_,_,_,_,_,_,_,_,_,_,_,_,_,_,_,_,_,_,_,_,_,_,_,_,_,_,_,_,_,_,_,_,_,_,_,_,_,_,_,_,_,_,_,_,_,_,_,_,_,_,_], []⟩ _
  refine wpAnyH_ready (rs := [8]) (by kernel_rfl) (by simp) ?_
  refine AllReadyH.cons rfl (fun K hK => ?_) AllReadyH.nil
  go_simp
  refine (add23 P.h B.V x.v x.p x.g _ HH.out.p.pv).mono ?_
  rintro e z1 ⟨rfl, hT, hM⟩
  have hlt := HH.out.p.lt
  have HPB := hide (HH.out.p.vlan hT hM (tAdd_n _ _ _ _))
  have HM := hide (mid_wide (N := P.lo) (M := P.hi) hM (by omega) (by omega))
  have hx1 := HX.out.block (HM.out.block _ HX.out.lt (Or.inr HP.out))
  refine hK.out _ _ hx1 (fun hHeld => ?_)
  replace HX := hide hx1
  clear hK K hT hM hlt hx1
  change wpAnyH _ _ _ _ _ _ _ ⟨#[.pointer (some ⟨P.g, 0, none⟩),.pointer (some ⟨A.g, 0, none⟩),_,_,_,.pointer (some ⟨w.heap.size, 0, none⟩),_,_,_,_,_,_,_,_,_,_,.int .i64 2,_,_,_,_,_,_,_,_,_,_,_,_,_,_,_,_,_,_,_,_,_,_,_,_,_,_,_,_,_,_,_,_,_,_,_,_,_,_,.pointer (some ⟨P.g, 0, none⟩),.pointer (some ⟨P.h + 2, 0, none⟩),.pointer (some ⟨w.heap.size, 3, none⟩),.int .i64 x.v,.pointer (some ⟨w.heap.size, 1, none⟩),.int .i64 x.p,.pointer (some ⟨w.heap.size, 4, none⟩),.bool x.g,.int .i64 (eAdd B.V x.v x.p),_,_,_,_,_,_,_,_,_,_,_,_,_,_,_,_,_,_,_,_,_,_,_,_,_,_,_,_,_,_,_,_,_,_,_,_,_,_,_,_,_,_,_,_,_,_,_,_,_,_,_,_,_,_,_,_,_,_,_,_,_,_,_,_,_,_,_,_,_,_,_,_,_,_,_,_,_,_,_,_,_,_,_,_,_,_,_,_,_,_,_,_,_,_,_,_,_,_,_,_,_,_,_,_,_,_,_,_,_,_,_,_,_,_,_,_,_,_,_,_,_], []⟩ _
  refine wpAnyH_take (i := 9) (v := .int .i64 (eAdd B.V x.v x.p)) rfl (by kernel_rfl) (by kernel_rfl) (by kernel_rfl) (fun _ _ _ h => h) (Or.inl ⟨by rfl, ?_⟩) hHeld ?_
  · intro W hW; (try dsimp only at hW); go_simp
  change wpAnyH _ _ _ _ _ _ _ ⟨#[.pointer (some ⟨P.g, 0, none⟩),.pointer (some ⟨A.g, 0, none⟩),_,_,_,.pointer (some ⟨w.heap.size, 0, none⟩),_,_,_,.int .i64 (eAdd B.V x.v x.p),_,_,_,_,_,_,.int .i64 2,_,_,_,_,_,_,_,_,_,_,_,_,_,_,_,_,_,_,_,_,_,_,_,_,_,_,_,_,_,_,_,_,_,_,_,_,_,_,.pointer (some ⟨P.g, 0, none⟩),.pointer (some ⟨P.h + 2, 0, none⟩),.pointer (some ⟨w.heap.size, 3, none⟩),.int .i64 x.v,.pointer (some ⟨w.heap.size, 1, none⟩),.int .i64 x.p,.pointer (some ⟨w.heap.size, 4, none⟩),.bool x.g,.int .i64 (eAdd B.V x.v x.p),_,_,_,_,_,_,_,_,_,_,_,_,_,_,_,_,_,_,_,_,_,_,_,_,_,_,_,_,_,_,_,_,_,_,_,_,_,_,_,_,_,_,_,_,_,_,_,_,_,_,_,_,_,_,_,_,_,_,_,_,_,_,_,_,_,_,_,_,_,_,_,_,_,_,_,_,_,_,_,_,_,_,_,_,_,_,_,_,_,_,_,_,_,_,_,_,_,_,_,_,_,_,_,_,_,_,_,_,_,_,_,_,_,_,_,_,_,_,_,_,_], []⟩ _
  refine wpAnyH_done (by kernel_rfl) ?_ _
  have HRB := hide (HH.out.mid HM.out).drew
  have HB1 := hide (below_drew z1)
  replace HX := hide HX.out.drew
  clear hHeld
  go_wp2_with fail
  refine wp_region_held_drew (S := fun w' => w'.cell? ⟨A.g, 1, none⟩ = some (.pointer (some ⟨A.gv + 1, 0, none⟩)) ∧ Box w' w.heap.size (stc x)) (by kernel_rfl) ⟨HRB.out.bx.cell 1 _ rfl, HX.out⟩ (fun hHeld => ?_)
  generalize z1.drew = y1 at *
  refine wpAnyH_take (i := 0) (v := .int .i64 (eAdd B.V x.v x.p)) rfl (by kernel_rfl) (by kernel_rfl) (by kernel_rfl) (fun _ _ _ h => h) (Or.inl ⟨by rfl, ?_⟩) hHeld ?_
  · intro W hW; (try dsimp only at hW); go_simp
  change wpAnyH _ _ _ _ _ _ _ ⟨#[.pointer (some ⟨P.g, 0, none⟩),.pointer (some ⟨A.g, 0, none⟩),_,_,_,.pointer (some ⟨w.heap.size, 0, none⟩),_,_,_,.int .i64 (eAdd B.V x.v x.p),_,_,_,_,_,_,_,_,_,_,_,_,_,_,_,_,_,_,_,_,_,_,_,_,_,_,_,_,_,_,_,_,_,_,_,_,_,_,_,_,_,_,_,_,_,_,_,_,_,_,_,_,_,_,.int .i64 (eAdd B.V x.v x.p),_,_,_,_,_,_,_,_,_,_,_,_,_,_,_,_,_,_,_,_,_,_,_,_,_,_,_,_,_,_,_,_,_,_,_,_,_,_,_,_,_,_,_,_,_,_,_,_,_,_,_,_,_,_,_,_,_,_,_,_,_,_,_,_,_,_,_,_,_,_,_,_,_,_,_,_,_,_,_,_,_,_,_,_,_,_,_,_,_,_,_,_,_,_,_,_,_,_,_,_,_,_,_,_,_,_,_,_,_,_,_,_,_,_,_,_,_,_,_,_], []⟩ _
  refine wpAnyH_take (i := 1) (v := .pointer (some ⟨A.g, 0, none⟩)) rfl (by kernel_rfl) (by kernel_rfl) (by kernel_rfl) (fun _ _ _ h => h) (Or.inl ⟨by rfl, ?_⟩) hHeld ?_
  · intro W hW; (try dsimp only at hW); go_simp
  change wpAnyH _ _ _ _ _ _ _ ⟨#[.pointer (some ⟨P.g, 0, none⟩),.pointer (some ⟨A.g, 0, none⟩),_,_,_,.pointer (some ⟨w.heap.size, 0, none⟩),_,_,_,.int .i64 (eAdd B.V x.v x.p),_,_,_,_,_,_,_,_,_,_,_,_,_,_,_,_,_,_,_,_,_,_,_,_,_,_,_,_,_,_,_,_,_,_,_,_,_,_,_,_,_,_,_,_,_,_,_,_,_,_,_,_,_,_,.int .i64 (eAdd B.V x.v x.p),.pointer (some ⟨A.g, 0, none⟩),_,_,_,_,_,_,_,_,_,_,_,_,_,_,_,_,_,_,_,_,_,_,_,_,_,_,_,_,_,_,_,_,_,_,_,_,_,_,_,_,_,_,_,_,_,_,_,_,_,_,_,_,_,_,_,_,_,_,_,_,_,_,_,_,_,_,_,_,_,_,_,_,_,_,_,_,_,_,_,_,_,_,_,_,_,_,_,_,_,_,_,_,_,_,_,_,_,_,_,_,_,_,_,_,_,_,_,_,_,_,_,_,_,_,_,_,_,_,_], []⟩ _
  refine wpAnyH_take (i := 2) (v := .pointer (some ⟨A.g, 0, none⟩)) rfl (by kernel_rfl) (by kernel_rfl) (by kernel_rfl) (fun _ _ _ h => h) (Or.inl ⟨by rfl, ?_⟩) hHeld ?_
  · intro W hW; (try dsimp only at hW); go_simp
  change wpAnyH _ _ _ _ _ _ _ ⟨#[.pointer (some ⟨P.g, 0, none⟩),.pointer (some ⟨A.g, 0, none⟩),_,_,_,.pointer (some ⟨w.heap.size, 0, none⟩),_,_,_,.int .i64 (eAdd B.V x.v x.p),_,_,_,_,_,_,_,_,_,_,_,_,_,_,_,_,_,_,_,_,_,_,_,_,_,_,_,_,_,_,_,_,_,_,_,_,_,_,_,_,_,_,_,_,_,_,_,_,_,_,_,_,_,_,.int .i64 (eAdd B.V x.v x.p),.pointer (some ⟨A.g, 0, none⟩),.pointer (some ⟨A.g, 0, none⟩),_,_,_,_,_,_,_,_,_,_,_,_,_,_,_,_,_,_,_,_,_,_,_,_,_,_,_,_,_,_,_,_,_,_,_,_,_,_,_,_,_,_,_,_,_,_,_,_,_,_,_,_,_,_,_,_,_,_,_,_,_,_,_,_,_,_,_,_,_,_,_,_,_,_,_,_,_,_,_,_,_,_,_,_,_,_,_,_,_,_,_,_,_,_,_,_,_,_,_,_,_,_,_,_,_,_,_,_,_,_,_,_,_,_,_,_,_,_], []⟩ _
  refine wpAnyH_take (i := 3) (v := .pointer (some ⟨A.g, 1, none⟩)) rfl (by kernel_rfl) (by kernel_rfl) (by kernel_rfl) (fun _ _ _ h => h) (Or.inl ⟨by rfl, ?_⟩) hHeld ?_
  · intro W hW; (try dsimp only at hW); go_simp
  change wpAnyH _ _ _ _ _ _ _ ⟨#[.pointer (some ⟨P.g, 0, none⟩),.pointer (some ⟨A.g, 0, none⟩),_,_,_,.pointer (some ⟨w.heap.size, 0, none⟩),_,_,_,.int .i64 (eAdd B.V x.v x.p),_,_,_,_,_,_,_,_,_,_,_,_,_,_,_,_,_,_,_,_,_,_,_,_,_,_,_,_,_,_,_,_,_,_,_,_,_,_,_,_,_,_,_,_,_,_,_,_,_,_,_,_,_,_,.int .i64 (eAdd B.V x.v x.p),.pointer (some ⟨A.g, 0, none⟩),.pointer (some ⟨A.g, 0, none⟩),.pointer (some ⟨A.g, 1, none⟩),_,_,_,_,_,_,_,_,_,_,_,_,_,_,_,_,_,_,_,_,_,_,_,_,_,_,_,_,_,_,_,_,_,_,_,_,_,_,_,_,_,_,_,_,_,_,_,_,_,_,_,_,_,_,_,_,_,_,_,_,_,_,_,_,_,_,_,_,_,_,_,_,_,_,_,_,_,_,_,_,_,_,_,_,_,_,_,_,_,_,_,_,_,_,_,_,_,_,_,_,_,_,_,_,_,_,_,_,_,_,_,_,_,_,_,_,_], []⟩ _
  refine wpAnyH_take (i := 4) (v := .pointer (some ⟨A.gv + 1, 0, none⟩)) rfl (by kernel_rfl) (by kernel_rfl) (by kernel_rfl) (fun _ _ _ h => h) (Or.inl ⟨by rfl, ?_⟩) hHeld ?_
  · intro W hW; (try dsimp only at hW); have hc := hW.1; clear hW; go_simp
  change wpAnyH _ _ _ _ _ _ _ ⟨#[.pointer (some ⟨P.g, 0, none⟩),.pointer (some ⟨A.g, 0, none⟩),_,_,_,.pointer (some ⟨w.heap.size, 0, none⟩),_,_,_,.int .i64 (eAdd B.V x.v x.p),_,_,_,_,_,_,_,_,_,_,_,_,_,_,_,_,_,_,_,_,_,_,_,_,_,_,_,_,_,_,_,_,_,_,_,_,_,_,_,_,_,_,_,_,_,_,_,_,_,_,_,_,_,_,.int .i64 (eAdd B.V x.v x.p),.pointer (some ⟨A.g, 0, none⟩),.pointer (some ⟨A.g, 0, none⟩),.pointer (some ⟨A.g, 1, none⟩),.pointer (some ⟨A.gv + 1, 0, none⟩),_,_,_,_,_,_,_,_,_,_,_,_,_,_,_,_,_,_,_,_,_,_,_,_,_,_,_,_,_,_,_,_,_,_,_,_,_,_,_,_,_,_,_,_,_,_,_,_,_,_,_,_,_,_,_,_,_,_,_,_,_,_,_,_,_,_,_,_,_,_,_,_,_,_,_,_,_,_,_,_,_,_,_,_,_,_,_,_,_,_,_,_,_,_,_,_,_,_,_,_,_,_,_,_,_,_,_,_,_,_,_,_,_,_,_,_], []⟩ _
  refine wpAnyH_take (i := 5) (v := .pointer (some ⟨w.heap.size, 3, none⟩)) rfl (by kernel_rfl) (by kernel_rfl) (by kernel_rfl) (fun _ _ _ h => h) (Or.inl ⟨by rfl, ?_⟩) hHeld ?_
  · intro W hW; (try dsimp only at hW); go_simp
  change wpAnyH _ _ _ _ _ _ _ ⟨#[.pointer (some ⟨P.g, 0, none⟩),.pointer (some ⟨A.g, 0, none⟩),_,_,_,.pointer (some ⟨w.heap.size, 0, none⟩),_,_,_,.int .i64 (eAdd B.V x.v x.p),_,_,_,_,_,_,_,_,_,_,_,_,_,_,_,_,_,_,_,_,_,_,_,_,_,_,_,_,_,_,_,_,_,_,_,_,_,_,_,_,_,_,_,_,_,_,_,_,_,_,_,_,_,_,.int .i64 (eAdd B.V x.v x.p),.pointer (some ⟨A.g, 0, none⟩),.pointer (some ⟨A.g, 0, none⟩),.pointer (some ⟨A.g, 1, none⟩),.pointer (some ⟨A.gv + 1, 0, none⟩),.pointer (some ⟨w.heap.size, 3, none⟩),_,_,_,_,_,_,_,_,_,_,_,_,_,_,_,_,_,_,_,_,_,_,_,_,_,_,_,_,_,_,_,_,_,_,_,_,_,_,_,_,_,_,_,_,_,_,_,_,_,_,_,_,_,_,_,_,_,_,_,_,_,_,_,_,_,_,_,_,_,_,_,_,_,_,_,_,_,_,_,_,_,_,_,_,_,_,_,_,_,_,_,_,_,_,_,_,_,_,_,_,_,_,_,_,_,_,_,_,_,_,_,_,_,_,_], []⟩ _
  refine wpAnyH_take (i := 7) (v := .pointer (some ⟨w.heap.size, 1, none⟩)) rfl (by kernel_rfl) (by kernel_rfl) (by kernel_rfl) (fun _ _ _ h => h) (Or.inl ⟨by rfl, ?_⟩) hHeld ?_
  · intro W hW; (try dsimp only at hW); go_simp
  change wpAnyH _ _ _ _ _ _ _ ⟨#[.pointer (some ⟨P.g, 0, none⟩),.pointer (some ⟨A.g, 0, none⟩),_,_,_,.pointer (some ⟨w.heap.size, 0, none⟩),_,_,_,.int .i64 (eAdd B.V x.v x.p),_,_,_,_,_,_,_,_,_,_,_,_,_,_,_,_,_,_,_,_,_,_,_,_,_,_,_,_,_,_,_,_,_,_,_,_,_,_,_,_,_,_,_,_,_,_,_,_,_,_,_,_,_,_,.int .i64 (eAdd B.V x.v x.p),.pointer (some ⟨A.g, 0, none⟩),.pointer (some ⟨A.g, 0, none⟩),.pointer (some ⟨A.g, 1, none⟩),.pointer (some ⟨A.gv + 1, 0, none⟩),.pointer (some ⟨w.heap.size, 3, none⟩),_,.pointer (some ⟨w.heap.size, 1, none⟩),_,_,_,_,_,_,_,_,_,_,_,_,_,_,_,_,_,_,_,_,_,_,_,_,_,_,_,_,_,_,_,_,_,_,_,_,_,_,_,_,_,_,_,_,_,_,_,_,_,_,_,_,_,_,_,_,_,_,_,_,_,_,_,_,_,_,_,_,_,_,_,_,_,_,_,_,_,_,_,_,_,_,_,_,_,_,_,_,_,_,_,_,_,_,_,_,_,_,_,_,_,_,_,_,_,_,_,_,_,_,_,_,_], []⟩ _
  refine wpAnyH_take (i := 9) (v := .pointer (some ⟨w.heap.size, 4, none⟩)) rfl (by kernel_rfl) (by kernel_rfl) (by kernel_rfl) (fun _ _ _ h => h) (Or.inl ⟨by rfl, ?_⟩) hHeld ?_
  · intro W hW; (try dsimp only at hW); go_simp
  change wpAnyH _ _ _ _ _ _ _ ⟨#[.pointer (some ⟨P.g, 0, none⟩),.pointer (some ⟨A.g, 0, none⟩),_,_,_,.pointer (some ⟨w.heap.size, 0, none⟩),_,_,_,.int .i64 (eAdd B.V x.v x.p),_,_,_,_,_,_,_,_,_,_,_,_,_,_,_,_,_,_,_,_,_,_,_,_,_,_,_,_,_,_,_,_,_,_,_,_,_,_,_,_,_,_,_,_,_,_,_,_,_,_,_,_,_,_,.int .i64 (eAdd B.V x.v x.p),.pointer (some ⟨A.g, 0, none⟩),.pointer (some ⟨A.g, 0, none⟩),.pointer (some ⟨A.g, 1, none⟩),.pointer (some ⟨A.gv + 1, 0, none⟩),.pointer (some ⟨w.heap.size, 3, none⟩),_,.pointer (some ⟨w.heap.size, 1, none⟩),_,.pointer (some ⟨w.heap.size, 4, none⟩),_,_,_,_,_,_,_,_,_,_,_,_,_,_,_,_,_,_,_,_,_,_,_,_,_,_,_,_,_,_,_,_,_,_,_,_,_,_,_,_,_,_,_,_,_,_,_,_,_,_,_,_,_,_,_,_,_,_,_,_,_,_,_,_,_,_,_,_,_,_,_,_,_,_,_,_,_,_,_,_,_,_,_,_,_,_,_,_,_,_,_,_,_,_,_,_,_,_,_,_,_,_,_,_,_,_,_,_,_,_,_], []⟩ _
  refine wpAnyH_take (i := 6) (v := .int .i64 x.v) rfl (by kernel_rfl) (by kernel_rfl) (by kernel_rfl) (fun _ _ _ h => h) (Or.inl ⟨by rfl, ?_⟩) hHeld ?_
  · intro W hW; (try dsimp only at hW); have hc := hW.2.cell 3 _ rfl; clear hW; go_simp
  change wpAnyH _ _ _ _ _ _ _ ⟨#[.pointer (some ⟨P.g, 0, none⟩),.pointer (some ⟨A.g, 0, none⟩),_,_,_,.pointer (some ⟨w.heap.size, 0, none⟩),_,_,_,.int .i64 (eAdd B.V x.v x.p),_,_,_,_,_,_,_,_,_,_,_,_,_,_,_,_,_,_,_,_,_,_,_,_,_,_,_,_,_,_,_,_,_,_,_,_,_,_,_,_,_,_,_,_,_,_,_,_,_,_,_,_,_,_,.int .i64 (eAdd B.V x.v x.p),.pointer (some ⟨A.g, 0, none⟩),.pointer (some ⟨A.g, 0, none⟩),.pointer (some ⟨A.g, 1, none⟩),.pointer (some ⟨A.gv + 1, 0, none⟩),.pointer (some ⟨w.heap.size, 3, none⟩),.int .i64 x.v,.pointer (some ⟨w.heap.size, 1, none⟩),_,.pointer (some ⟨w.heap.size, 4, none⟩),_,_,_,_,_,_,_,_,_,_,_,_,_,_,_,_,_,_,_,_,_,_,_,_,_,_,_,_,_,_,_,_,_,_,_,_,_,_,_,_,_,_,_,_,_,_,_,_,_,_,_,_,_,_,_,_,_,_,_,_,_,_,_,_,_,_,_,_,_,_,_,_,_,_,_,_,_,_,_,_,_,_,_,_,_,_,_,_,_,_,_,_,_,_,_,_,_,_,_,_,_,_,_,_,_,_,_,_,_,_,_], []⟩ _
  refine wpAnyH_take (i := 8) (v := .int .i64 x.p) rfl (by kernel_rfl) (by kernel_rfl) (by kernel_rfl) (fun _ _ _ h => h) (Or.inl ⟨by rfl, ?_⟩) hHeld ?_
  · intro W hW; (try dsimp only at hW); have hc := hW.2.cell 1 _ rfl; clear hW; go_simp
  change wpAnyH _ _ _ _ _ _ _ ⟨#[.pointer (some ⟨P.g, 0, none⟩),.pointer (some ⟨A.g, 0, none⟩),_,_,_,.pointer (some ⟨w.heap.size, 0, none⟩),_,_,_,.int .i64 (eAdd B.V x.v x.p),_,_,_,_,_,_,_,_,_,_,_,_,_,_,_,_,_,_,_,_,_,_,_,_,_,_,_,_,_,_,_,_,_,_,_,_,_,_,_,_,_,_,_,_,_,_,_,_,_,_,_,_,_,_,.int .i64 (eAdd B.V x.v x.p),.pointer (some ⟨A.g, 0, none⟩),.pointer (some ⟨A.g, 0, none⟩),.pointer (some ⟨A.g, 1, none⟩),.pointer (some ⟨A.gv + 1, 0, none⟩),.pointer (some ⟨w.heap.size, 3, none⟩),.int .i64 x.v,.pointer (some ⟨w.heap.size, 1, none⟩),.int .i64 x.p,.pointer (some ⟨w.heap.size, 4, none⟩),_,_,_,_,_,_,_,_,_,_,_,_,_,_,_,_,_,_,_,_,_,_,_,_,_,_,_,_,_,_,_,_,_,_,_,_,_,_,_,_,_,_,_,_,_,_,_,_,_,_,_,_,_,_,_,_,_,_,_,_,_,_,_,_,_,_,_,_,_,_,_,_,_,_,_,_,_,_,_,_,_,_,_,_,_,_,_,_,_,_,_,_,_,_,_,_,_,_,_,_,_,_,_,_,_,_,_,_,_,_,_], []⟩ _
  refine wpAnyH_take (i := 10) (v := .bool x.g) rfl (by kernel_rfl) (by kernel_rfl) (by kernel_rfl) (fun _ _ _ h => h) (Or.inl ⟨by rfl, ?_⟩) hHeld ?_
  · intro W hW; (try dsimp only at hW); have hc := hW.2.cell 4 _ rfl; clear hW; go_simp
  change wpAnyH _ _ _ _ _ _ _ ⟨#[.pointer (some ⟨P.g, 0, none⟩),.pointer (some ⟨A.g, 0, none⟩),_,_,_,.pointer (some ⟨w.heap.size, 0, none⟩),_,_,_,.int .i64 (eAdd B.V x.v x.p),_,_,_,_,_,_,_,_,_,_,_,_,_,_,_,_,_,_,_,_,_,_,_,_,_,_,_,_,_,_,_,_,_,_,_,_,_,_,_,_,_,_,_,_,_,_,_,_,_,_,_,_,_,_,.int .i64 (eAdd B.V x.v x.p),.pointer (some ⟨A.g, 0, none⟩),.pointer (some ⟨A.g, 0, none⟩),.pointer (some ⟨A.g, 1, none⟩),.pointer (some ⟨A.gv + 1, 0, none⟩),.pointer (some ⟨w.heap.size, 3, none⟩),.int .i64 x.v,.pointer (some ⟨w.heap.size, 1, none⟩),.int .i64 x.p,.pointer (some ⟨w.heap.size, 4, none⟩),.bool x.g,_,_,_,_,_,_,_,_,_,_,_,_,_,_,_,_,_,_,_,_,_,_,_,_,_,_,_,_,_,_,_,_,_,_,_,_,_,_,_,_,_,_,_,_,_,_,_,_,_,_,_,_,_,_,_,_,_,_,_,_,_,_,_,_,_,_,_,_,_,_,_,_,_,_,_,_,_,_,_,_,_,_,_,_,_,_,_,_,_,_,_,_,_,_,_,_,_,_,_,_,_,_,_,_,_,_,_,_,_,_], []⟩ _
  refine wpAnyH_ready (rs := [11]) (by kernel_rfl) (by simp) ?_
  refine AllReadyH.cons rfl (fun K hK => ?_) AllReadyH.nil
  go_simp
  refine (add42 A.gv A.lv Z.V x.v x.p x.g _ HRB.out.rv HLL.out).mono ?_
  rintro e z2 ⟨rfl, ⟨lv', hT, hF⟩, _⟩
  have hR := HRB.out.vlan hT hF (tAdd_n _ _ _ _)
  have HF := hide (HH.out.both HPB.out HM.out HB1.out hR.1 hR.2)
  have c2 := hR.1.bx.cell 1 _ rfl
  have hx2 : Box z2 w.heap.size (stc x) := HX.out.block (hR.2.block _ HX.out.lt (fun h => by have := HXW.out _ h; omega))
  refine hK.out _ _ ⟨c2, hx2⟩ (fun hHeld => ?_)
  clear hK K hT hF hR c2 hx2
  change wpAnyH _ _ _ _ _ _ _ ⟨#[.pointer (some ⟨P.g, 0, none⟩),.pointer (some ⟨A.g, 0, none⟩),_,_,_,.pointer (some ⟨w.heap.size, 0, none⟩),_,_,_,.int .i64 (eAdd B.V x.v x.p),_,_,_,_,_,_,_,_,_,_,_,_,_,_,_,_,_,_,_,_,_,_,_,_,_,_,_,_,_,_,_,_,_,_,_,_,_,_,_,_,_,_,_,_,_,_,_,_,_,_,_,_,_,_,.int .i64 (eAdd B.V x.v x.p),.pointer (some ⟨A.g, 0, none⟩),.pointer (some ⟨A.g, 0, none⟩),.pointer (some ⟨A.g, 1, none⟩),.pointer (some ⟨A.gv + 1, 0, none⟩),.pointer (some ⟨w.heap.size, 3, none⟩),.int .i64 x.v,.pointer (some ⟨w.heap.size, 1, none⟩),.int .i64 x.p,.pointer (some ⟨w.heap.size, 4, none⟩),.bool x.g,.int .i64 (eAdd Z.V x.v x.p),_,_,_,_,_,_,_,_,_,_,_,_,_,_,_,_,_,_,_,_,_,_,_,_,_,_,_,_,_,_,_,_,_,_,_,_,_,_,_,_,_,_,_,_,_,_,_,_,_,_,_,_,_,_,_,_,_,_,_,_,_,_,_,_,_,_,_,_,_,_,_,_,_,_,_,_,_,_,_,_,_,_,_,_,_,_,_,_,_,_,_,_,_,_,_,_,_,_,_,_,_,_,_,_,_,_,_,_,_], []⟩ _
  refine wpAnyH_take (i := 12) (v := .bool ((eAdd B.V x.v x.p) == (eAdd Z.V x.v x.p))) rfl (by kernel_rfl) (by kernel_rfl) (by kernel_rfl) (fun _ _ _ h => h) (Or.inl ⟨by rfl, ?_⟩) hHeld ?_
  · intro W hW; (try dsimp only at hW); go_simp
  change wpAnyH _ _ _ _ _ _ _ ⟨#[.pointer (some ⟨P.g, 0, none⟩),.pointer (some ⟨A.g, 0, none⟩),_,_,_,.pointer (some ⟨w.heap.size, 0, none⟩),_,_,_,.int .i64 (eAdd B.V x.v x.p),_,_,_,_,_,_,_,_,_,_,_,_,_,_,_,_,_,_,_,_,_,_,_,_,_,_,_,_,_,_,_,_,_,_,_,_,_,_,_,_,_,_,_,_,_,_,_,_,_,_,_,_,_,_,.int .i64 (eAdd B.V x.v x.p),.pointer (some ⟨A.g, 0, none⟩),.pointer (some ⟨A.g, 0, none⟩),.pointer (some ⟨A.g, 1, none⟩),.pointer (some ⟨A.gv + 1, 0, none⟩),.pointer (some ⟨w.heap.size, 3, none⟩),.int .i64 x.v,.pointer (some ⟨w.heap.size, 1, none⟩),.int .i64 x.p,.pointer (some ⟨w.heap.size, 4, none⟩),.bool x.g,.int .i64 (eAdd Z.V x.v x.p),.bool ((eAdd B.V x.v x.p) == (eAdd Z.V x.v x.p)),_,_,_,_,_,_,_,_,_,_,_,_,_,_,_,_,_,_,_,_,_,_,_,_,_,_,_,_,_,_,_,_,_,_,_,_,_,_,_,_,_,_,_,_,_,_,_,_,_,_,_,_,_,_,_,_,_,_,_,_,_,_,_,_,_,_,_,_,_,_,_,_,_,_,_,_,_,_,_,_,_,_,_,_,_,_,_,_,_,_,_,_,_,_,_,_,_,_,_,_,_,_,_,_,_,_,_,_], []⟩ _
  refine wpAnyH_take (i := 13) (v := .bool ((eAdd B.V x.v x.p) == (eAdd Z.V x.v x.p))) rfl (by kernel_rfl) (by kernel_rfl) (by kernel_rfl) (fun _ _ _ h => h) (Or.inl ⟨by rfl, ?_⟩) hHeld ?_
  · intro W hW; (try dsimp only at hW); go_simp
  change wpAnyH _ _ _ _ _ _ _ ⟨#[.pointer (some ⟨P.g, 0, none⟩),.pointer (some ⟨A.g, 0, none⟩),_,_,_,.pointer (some ⟨w.heap.size, 0, none⟩),.bool ((eAdd B.V x.v x.p) == (eAdd Z.V x.v x.p)),_,_,.int .i64 (eAdd B.V x.v x.p),_,_,_,_,_,_,_,_,_,_,_,_,_,_,_,_,_,_,_,_,_,_,_,_,_,_,_,_,_,_,_,_,_,_,_,_,_,_,_,_,_,_,_,_,_,_,_,_,_,_,_,_,_,_,.int .i64 (eAdd B.V x.v x.p),.pointer (some ⟨A.g, 0, none⟩),.pointer (some ⟨A.g, 0, none⟩),.pointer (some ⟨A.g, 1, none⟩),.pointer (some ⟨A.gv + 1, 0, none⟩),.pointer (some ⟨w.heap.size, 3, none⟩),.int .i64 x.v,.pointer (some ⟨w.heap.size, 1, none⟩),.int .i64 x.p,.pointer (some ⟨w.heap.size, 4, none⟩),.bool x.g,.int .i64 (eAdd Z.V x.v x.p),.bool ((eAdd B.V x.v x.p) == (eAdd Z.V x.v x.p)),_,_,_,_,_,_,_,_,_,_,_,_,_,_,_,_,_,_,_,_,_,_,_,_,_,_,_,_,_,_,_,_,_,_,_,_,_,_,_,_,_,_,_,_,_,_,_,_,_,_,_,_,_,_,_,_,_,_,_,_,_,_,_,_,_,_,_,_,_,_,_,_,_,_,_,_,_,_,_,_,_,_,_,_,_,_,_,_,_,_,_,_,_,_,_,_,_,_,_,_,_,_,_,_,_,_,_,_], []⟩ _
  refine wpAnyH_done (by kernel_rfl) ?_ _
  go_wp2_with (go_ret; exact ⟨_, rfl, fun h => (by rw [h]; simp), _, by rw [HN.out, HN.out]; exact HF.out.1, Ch.pre HB.out HF.out.2, rfl⟩)
end Go.Proofs.YtgpdjfaklcmoiaaGreat
/- A step at both bridges: any. -/
namespace Go.Proofs.YtgpdjfaklcmoiaaGreat
open Go.RowKit Go.PlainAid

theorem stepB (A : RAd) (P : PAd) (B Z : Br) (x : Stp) (w : World) (H : Bh w A P B Z) (G : Gst A P B Z x w) :
    Calls Tryz.prog 14 #[.pointer (some ⟨P.g, 0, none⟩), .pointer (some ⟨A.g, 0, none⟩), .agg (SPC x)] w (StP A P B Z x w) := by
  by_cases h0 : x.d = 0
  · exact step0 A P B Z x w H h0 G
  by_cases h1 : x.d = 1
  · exact step1 A P B Z x w H h1 G
  by_cases h2 : x.d = 2
  · exact step2 A P B Z x w H h2 G
  by_cases h3 : x.d = 3
  · exact step3 A P B Z x w H h3 G
  by_cases h4 : x.d = 4
  · exact step4 A P B Z x w H h4 G
  by_cases h5 : x.d = 5
  · exact step5 A P B Z x w H h5 G
  by_cases h6 : x.d = 6
  · exact step6 A P B Z x w H h6 G
  · exact step7 A P B Z x w H (by omega) G
end Go.Proofs.YtgpdjfaklcmoiaaGreat
/- Runs of steps, plain; plain and made of the laws. -/
namespace Go.Proofs.YtgpdjfaklcmoiaaGreat
open Go.RowKit Go.PlainAid

/-- No count, nor the number of members, is above k. -/
def Cb (k : Nat) (B : Br) : Prop := (∀ y ∈ B.ln, y ≤ k) ∧ (∀ y ∈ B.ct, y ≤ k) ∧ B.V.l.length ≤ k
theorem cb_ok {k : Nat} {B : Br} (h : Cb k B) (hk : k ≤ 900) : Okb B := ⟨fun y hy => by have := h.1 y hy; omega, fun y hy => by have := h.2.1 y hy; omega, by have := h.2.2; omega⟩
theorem Cb.mono {k j : Nat} {B : Br} (h : Cb k B) (hk : k ≤ j) : Cb j B := ⟨fun y hy => by have := h.1 y hy; omega, fun y hy => by have := h.2.1 y hy; omega, by have := h.2.2; omega⟩
theorem inc_le {l : List Int} {k : Nat} (h : ∀ y ∈ l, y ≤ k) (j : Nat) : ∀ y ∈ inc l j, y ≤ (k + 1 : Nat) := fun y hy => by
  rcases List.mem_or_eq_of_mem_set hy with hy | rfl
  · have := h y hy; omega
  · by_cases hj : j < l.length
    · have hm : l.getD j 0 ∈ l := by
        rw [List.getD_eq_getElem?_getD, List.getElem?_eq_getElem hj]
        exact List.getElem_mem _
      have := h _ hm
      omega
    · rw [List.getD_eq_getElem?_getD, List.getElem?_eq_none (by omega)]
      simp
      omega
theorem lrL_le {B : Br} {k : Nat} (h : ∀ y ∈ B.ln, y ≤ k) (v : Int) (m : Mc) (p t : Int) : ∀ y ∈ lrL B v m p t, y ≤ (k + 1 : Nat) := by
  unfold lrL
  split
  · split
    · exact inc_le h _
    · exact fun y hy => by have := h y hy; omega
  · exact inc_le h _
theorem wayP_2 (B : Br) (p : Int) (f : Fd) (t : Int) : (wayP B p f t).2 = B ∨ (wayP B p f t).2 = lrn B (inV B.V p f) (mS f) p t := by
  unfold wayP
  split
  · split
    · exact Or.inr rfl
    · exact Or.inr rfl
  · exact Or.inl rfl
theorem tk_cb {k : Nat} {B : Br} (h : Cb k B) (p : Int) (f : Fd) (t : Int) : Cb (k + 1) (tk B p f t).2 := by
  have e : (tk B p f t).2 = { (wayP B p f t).2 with ct := inc (wayP B p f t).2.ct (wayP B p f t).1.c.toNat } := rfl
  rw [e, wayP_ct]
  rcases wayP_2 B p f t with h2 | h2
  · rw [h2]
    exact ⟨fun y hy => by have := h.1 y hy; omega, inc_le h.2.1 _, by have := h.2.2; dsimp only; omega⟩
  · rw [h2]
    exact ⟨lrL_le h.1 _ _ _ _, inc_le h.2.1 _, by have := h.2.2; show B.V.l.length ≤ k + 1; omega⟩
theorem nxt_cb {k : Nat} {B : Br} (h : Cb k B) (x : Stp) : Cb (k + 1) (nxt B x) := by
  unfold nxt
  split
  · exact tk_cb h _ _ _
  split
  · unfold tSet
    split
    · exact h.mono (by omega)
    · exact h.mono (by omega)
  split
  · refine ⟨fun y hy => by have := h.1 y hy; omega, fun y hy => by have := h.2.1 y hy; omega, ?_⟩
    have := h.2.2
    unfold tAdd
    split
    · have h2 := len_ad B.V.l x.v x.p x.g
      show (ad B.V.l x.v x.p x.g).length ≤ k + 1
      omega
    · show B.V.l.length ≤ k + 1
      omega
  split
  · refine ⟨fun y hy => by have := h.1 y hy; omega, fun y hy => by have := h.2.1 y hy; omega, ?_⟩
    have := h.2.2
    unfold tNat
    split <;> (dsimp only; omega)
  split
  · refine ⟨fun y hy => by have := h.1 y hy; omega, fun y hy => by have := h.2.1 y hy; omega, ?_⟩
    have := h.2.2
    unfold tRm
    split
    · have h2 := len_rm B.V.l x.v x.p
      show (rm B.V.l x.v x.p).length ≤ k + 1
      omega
    · show B.V.l.length ≤ k + 1
      omega
  split
  · exact ⟨fun y hy => by have := h.1 y hy; omega, fun y hy => by have := h.2.1 y hy; omega, by have := h.2.2; dsimp only; omega⟩
  split
  · exact ⟨fun y hy => by have := h.1 y hy; omega, fun y hy => by have := h.2.1 y hy; omega, by have := h.2.2; dsimp only; omega⟩
  · exact h.mono (by omega)
def runs (B : Br) : List Stp → Br
  | [] => B
  | x :: r => runs (nxt B x) r
theorem runs_append (B : Br) (a b : List Stp) : runs B (a ++ b) = runs (runs B a) b := by
  induction a generalizing B with
  | nil => rfl
  | cons x r ih => rw [List.cons_append, runs, runs, ih]
theorem runs_next {B : Br} {xs : List Stp} {q : Nat} {x : Stp} (h : xs[q]? = some x) : runs B (xs.take (q + 1)) = nxt (runs B (xs.take q)) x := by
  rw [List.take_add_one, h, runs_append]
  rfl
theorem runs_cb {k : Nat} {B : Br} (h : Cb k B) (l : List Stp) : Cb (k + l.length) (runs B l) := by
  induction l generalizing B k with
  | nil => exact h
  | cons x r ih =>
    have := ih (nxt_cb h x)
    rw [runs, List.length_cons]
    rwa [show k + (r.length + 1) = k + 1 + r.length by omega]
/-- A bridge whose ports are all of the VLAN 1, without a tag, and Forwarding. -/
def bPl (n : Nat) : Nat → Br
  | 0 => bNew n 20
  | k + 1 => tSet { bPl n k with V := tNat (tAdd (bPl n k).V 1 ((k + 1 : Nat) : Int) false) ((k + 1 : Nat) : Int) 1 } ((k + 1 : Nat) : Int) 2
theorem tSet_cb {k : Nat} {B : Br} (h : Cb k B) (p s : Int) : Cb k (tSet B p s) := by
  unfold tSet
  split
  · exact h
  · exact h
theorem bPl_cb (n : Nat) : ∀ k, Cb k (bPl n k)
  | 0 => by
    refine ⟨fun y hy => ?_, fun y hy => ?_, Nat.zero_le _⟩
    · have := (List.mem_replicate.1 hy).2; omega
    · have := (List.mem_replicate.1 hy).2; omega
  | k + 1 => by
    have h := bPl_cb n k
    refine tSet_cb ⟨fun y hy => by have := h.1 y hy; omega, fun y hy => by have := h.2.1 y hy; omega, ?_⟩ _ _
    have h2 := len_ad (bPl n k).V.l 1 ((k + 1 : Nat) : Int) false
    have h3 := h.2.2
    have e : ∀ T : Tb, ∀ p v : Int, (tNat T p v).l = T.l := fun T p v => by unfold tNat; split <;> rfl
    show (tNat (tAdd (bPl n k).V 1 ((k + 1 : Nat) : Int) false) ((k + 1 : Nat) : Int) 1).l.length ≤ k + 1
    rw [e]
    unfold tAdd
    split
    · show (ad (bPl n k).V.l 1 ((k + 1 : Nat) : Int) false).length ≤ k + 1
      omega
    · omega
set_option maxRecDepth 100000 in
set_option maxHeartbeats 4000000 in
theorem plainQ (n : Nat) (h1 : 1 ≤ n) (h2 : n ≤ 63) (w : World) :
    Calls Tryz.prog 33 #[.int .i64 n] w fun e w' => ∃ A, e = .returned (.tuple #[.pointer (some ⟨A.g, 0, none⟩), .int .i64 0]) ∧ PB w' A (bPl n n) ∧ w.heap.size ≤ A.lo ∧ Below w.heap.size w w' := by
  have N1 := hide h1
  have N2 := hide h2
  have HN := hide (newQ n 20 w h1 h2 (by omega) (by omega))
  clear h1 h2
  go_enter Tryz.func33, Tryz.ntmps33
  go_wp2_with fail
  refine HN.out.mono ?_
  rintro e w1 ⟨A, rfl, hP, hlo, hB⟩
  have HP := hide hP
  have HLO := hide hlo
  have HB := hide hB
  clear hP hlo hB HN
  go_wp2_with fail
  go_loopg [6] n (fun r i wr => ∃ k : Nat, k ≤ n ∧ r = n - k ∧ i = .int .i64 ((k + 1 : Nat) : Int) ∧ PB wr A (bPl n k) ∧ Below w.heap.size w wr)
  case atStart => exact ⟨0, Nat.zero_le _, rfl, rfl, HP.out, HB.out⟩
  case round =>
    obtain ⟨k, hk, hr, rfl, hP, hB⟩ := hrel
    have HRK := hide hr
    have HP1 := hide hP
    have HB1 := hide hB
    clear hr hP hB HP HB
    by_cases hc : k < n
    · obtain ⟨p, hp⟩ : ∃ p : Int, p = ((k + 1 : Nat) : Int) := ⟨_, rfl⟩
      have hle : p ≤ (n : Int) := by omega
      have e1 : IntKind.i64.wrap (p + 1) = p + 1 := IntWalk.i64_in _ (by have := N2.out; omega)
      have HPK := hide hp
      rw [← hp]
      clear hp
      go_wp2_with (go_at_call 20; refine (vlansQ A (bPl n k) _ HP1.out).mono ?_; rintro e w' ⟨rfl, hw⟩; obtain rfl : wr = w' := hw.symm)
      refine (add23 A.h (bPl n k).V 1 p false _ HP1.out.pv).mono ?_
      rintro e z1 ⟨rfl, hT, hM⟩
      have hlt := HP1.out.lt
      have HP2 := hide (HP1.out.vlan hT hM (tAdd_n _ _ _ _))
      have HB2 := hide (HB1.out.trans (hM.below (N := A.h) (by omega) |>.mono (show w.heap.size ≤ A.h by have := HLO.out; omega)))
      clear hT hM hlt
      go_wp2_with (go_at_call 20; refine (vlansQ A _ _ HP2.out).mono ?_; rintro e w' ⟨rfl, hw⟩; obtain rfl : z1 = w' := hw.symm)
      refine (native22 A.h (tAdd (bPl n k).V 1 p false) p 1 _ HP2.out.pv).mono ?_
      rintro e z2 ⟨rfl, hT, hM⟩
      have hlt := HP2.out.lt
      have HP3 := hide (HP2.out.vlan hT hM (tNat_n _ _ _))
      have HB3 := hide (HB2.out.trans (hM.below (N := A.h) (by omega) |>.mono (show w.heap.size ≤ A.h by have := HLO.out; omega)))
      clear hT hM hlt
      go_wp2_with fail
      refine (setQ A _ p 2 _ HP3.out).mono ?_
      rintro e z3 ⟨rfl, hP4, hM⟩
      have hlt := HP3.out.lt
      have HP4 := hide hP4
      have HB4 := hide (HB3.out.trans (hM.below (N := A.lo) (by omega) |>.mono HLO.out))
      clear hP4 hM hlt
      go_wp2
      go_roundg (n - (k + 1))
      case measure => rw [HRK.out]; omega
      case rel => exact ⟨k + 1, by omega, rfl, by rw [HPK.out]; first | rfl | go_num, by rw [HPK.out] at HP4; exact HP4.out, HB4.out⟩
    · obtain rfl : k = n := by omega
      have hle : ¬ ((k + 1 : Nat) : Int) ≤ (k : Int) := by omega
      have hle2 : ¬ (k : Int) + 1 ≤ (k : Int) := by omega
      go_wp2
      go_ret2
      exact ⟨A, rfl, HP1.out, HLO.out, HB1.out⟩
end Go.Proofs.YtgpdjfaklcmoiaaGreat
/- Contracts: made and awake of the laws. -/
namespace Go.Proofs.YtgpdjfaklcmoiaaGreat
open Go.RowKit Go.PlainAid

/-- The bridge that did those steps. -/
def mkB (xs : List Stp) : Br := runs (bPl 4 4) (xs.take 80)
theorem Tryz.size40 : (Tryz.prog.info? 40).map (·.size) = some 23 := by kernel_rfl
theorem wpl_stp {ops : Array Oper} {rest : List Oper} {op : Oper} {a : Act} {w : World} {Q : Exit → Act → World → Prop} {k o : Nat} {y : Stp} (x : Operand) (ho : op.op = .load 40 x) (hA : w.rangeAt k o (stc y)) (hw : Region.wanted op (yielded ops a.tmps) = true) (hx : a.eval x = .pointer (some ⟨k, o, none⟩))
    (h : wpList Tryz.prog ops Q rest (a.put op.dst (.agg (SPC y))) w) : wpList Tryz.prog ops Q (op :: rest) a w :=
  wpl_load 40 x ho k o _ _ hA Tryz.underlying40 rfl Tryz.size40 hw hx h
theorem d2_below {A A' : RAd} {P : PAd} {w w' : World} {N : Nat} (c : Ch (D2 A P) (D2 A' P) w w') (hN : N ≤ w.heap.size) (ho : ∀ i, D2 A P i → N ≤ i) : Below N w w' ∧ ∀ i, D2 A' P i → N ≤ i :=
  ⟨c.below hN ho, fun i hi => by
    rcases c.dom i hi with h | h
    · exact ho i h
    · omega⟩
/-- How far made is. -/
structure Mkd (w wr : World) (A : RAd) (P : PAd) (B Z : Br) (k : Nat) : Prop where
  b : Bh wr A P B Z
  d : ∀ i, D2 A P i → w.heap.size ≤ i
  bel : Below w.heap.size w wr
  cb : Cb (4 + k) B
  cz : Cb k Z
set_option maxRecDepth 100000 in
set_option maxHeartbeats 4000000 in
theorem madeQ (ao : Option Addr) (n c : Nat) (xs : List Stp) (w : World) (H : StsI w ao n c xs) :
    Calls Tryz.prog 16 #[.slice ao n c] w fun e w' => ∃ P, e = .returned (.tuple #[.pointer (some ⟨P.g, 0, none⟩), .bool true]) ∧ PB w' P (mkB xs) ∧ w.heap.size ≤ P.lo ∧ Below w.heap.size w w' := by
  have HS := hide H
  have hmx : n ≤ maxLen := Nat.le_trans H.s.le H.s.mx
  have HN : Hid (n ≤ 9223372036854775807) := hide (Nat.le_trans hmx (by decide))
  clear H hmx
  go_enter Tryz.func16, Tryz.ntmps16
  go_wp2_with fail
  refine (plainQ 4 (by omega) (by omega) w).mono ?_
  rintro e w1 ⟨P, rfl, hP, hlo, hB⟩
  have HP := hide hP
  have HLO := hide hlo
  have HB := hide hB
  clear hP hlo hB
  go_wp2_with fail
  refine (newR 4 20 w1 (by omega) (by omega) (by omega) (by omega)).mono ?_
  rintro e w2 ⟨A, rfl, hR, hd, hB2⟩
  have hlt := HP.out.lt
  have hs1 := HB.out.size
  have HM : Hid (Mkd w w2 A P (bPl 4 4) (bNew 4 20) 0) := hide ⟨⟨hR, HP.out.on hB2, fun i hi => Or.inr (by have := hd i hi; omega)⟩, fun i hi => by
    rcases hi with hi | hi
    · have := hd i hi; omega
    · have := HLO.out; omega, belowOn HB.out hB2, bPl_cb 4 4, ⟨fun y hy => by have := (List.mem_replicate.1 hy).2; omega, fun y hy => by have := (List.mem_replicate.1 hy).2; omega, Nat.le_refl _⟩⟩
  clear hR hd hB2 hlt hs1 HP HB
  go_wp2_with fail
  go_loopg [8] 81 (fun r i wr => ∃ (k : Nat) (A' : RAd), k ≤ 80 ∧ r = 81 - k ∧ i = .int .i64 k ∧ A'.g = A.g ∧ Mkd w wr A' P (runs (bPl 4 4) (xs.take k)) (runs (bNew 4 20) (xs.take k)) k)
  case atStart => exact ⟨0, A, by omega, rfl, rfl, rfl, HM.out⟩
  case round =>
    obtain ⟨k, A', hk, hr, rfl, hg, hM⟩ := hrel
    have HGA := hide hg
    have HRK := hide hr
    have HM1 := hide hM
    have HSR := hide (HS.out.on hM.bel)
    clear hr hM HM hg
    by_cases h1 : k < n
    · have p1 : (k : Int) < n := by omega
      by_cases h2 : k < 80
      · have p2 : (k : Int) < 80 := by omega
        have p3 : (0 : Int) ≤ (k : Int) := by omega
        have p4 : IntKind.i64.wrap ((k : Int) + 1) = (k : Int) + 1 := IntWalk.i64_in _ (by omega)
        obtain ⟨x, hx⟩ : ∃ x, xs[k]? = some x := ⟨_, List.getElem?_eq_getElem (by rw [HS.out.s.len]; exact h1)⟩
        obtain ⟨b, o, rfl, ra⟩ := HSR.out.s.at_ k x hx
        have hmem := List.mem_of_getElem? hx
        have HG : Hid (Gst A' P (runs (bPl 4 4) (xs.take k)) (runs (bNew 4 20) (xs.take k)) x wr) := hide ⟨HSR.out.s.byt x hmem, HSR.out.s.md x hmem, HSR.out.s.ms x hmem, fun b o e hn hd => by
          have h1 := (HS.out.s.byt x hmem).lt b o e hn
          have h2 := HM1.out.d b hd
          omega, cb_ok HM1.out.cb (by omega), cb_ok HM1.out.cz (by omega), HS.out.vi x hmem⟩
        have HXX := hide hx
        have HRA := hide ra
        clear hx ra hmem
        have tk1 : True := trivial
        go_wp2_with (first | (have _t := tk1; refine wpl_stp (.tmp 37) rfl HRA.out ?_ ?_ ?_; rfl; rfl; clear tk1))
        have hst := stepB A' P _ _ x wr HM1.out.b HG.out
        rw [HGA.out] at hst
        refine hst.mono ?_
        rintro e w3 ⟨q, rfl, -, A'', hB3, hC, hg3⟩
        have HG3 := hide (hg3.trans HGA.out)
        obtain ⟨hb3, hd3⟩ := d2_below hC HM1.out.bel.size HM1.out.d
        have HM2 : Hid (Mkd w w3 A'' P (runs (bPl 4 4) (xs.take (k + 1))) (runs (bNew 4 20) (xs.take (k + 1))) (k + 1)) := hide (by
          rw [runs_next HXX.out, runs_next HXX.out]
          exact ⟨hB3, hd3, HM1.out.bel.trans hb3, nxt_cb HM1.out.cb x, nxt_cb HM1.out.cz x⟩)
        clear hB3 hC hb3 hd3 HM1 HSR HG HRA hst hg3
        go_wp2
        go_roundg (81 - (k + 1))
        case measure => rw [HRK.out]; omega
        case rel => exact ⟨k + 1, A'', by omega, rfl, by go_num, HG3.out, HM2.out⟩
      · have p2 : ¬ (k : Int) < 80 := by omega
        obtain rfl : k = 80 := by omega
        go_wp2
        go_ret2
        exact ⟨P, rfl, HM1.out.b.p, HLO.out, HM1.out.bel⟩
    · have p1 : ¬ (k : Int) < n := by omega
      have e1 : xs.take k = xs.take 80 := by rw [List.take_of_length_le (by have := HS.out.s.len; omega), List.take_of_length_le (by have := HS.out.s.len; omega)]
      rw [e1] at HM1
      clear e1
      go_wp2
      go_ret2
      exact ⟨P, rfl, HM1.out.b.p, HLO.out, HM1.out.bel⟩
def fAw (a b : Int) : Fd := ⟨a, 0, 0, 0, 0, 0, b, 0, 0, 0, 0, 0, false, 0, 0, 2048, []⟩
set_option maxRecDepth 100000 in
theorem aw1 : (tk (bPl 3 3) 1 (fAw 4 2) 0).1.c = 0 ∧ (tk (bPl 3 3) 1 (fAw 4 2) 0).1.o.length = 2 ∧ (tk (tk (bPl 3 3) 1 (fAw 4 2) 0).2 2 (fAw 2 4) 0).1.t = 1 ∧ (tk (tk (bPl 3 3) 1 (fAw 4 2) 0).2 2 (fAw 2 4) 0).1.o.length = 1 := by
  refine ⟨by kernel_rfl, by kernel_rfl, by kernel_rfl, by kernel_rfl⟩
end Go.Proofs.YtgpdjfaklcmoiaaGreat
/- Contract: awake of the laws. -/
namespace Go.Proofs.YtgpdjfaklcmoiaaGreat
open Go.RowKit Go.PlainAid

theorem byt_none (w : World) (f : Fd) (h : f.bs = []) : Byt w none 0 0 f.bs := by rw [h]; exact Byt.nothing w
theorem mok_one {a : Int} (h0 : 0 ≤ a) (h1 : a < 256) : Mok ⟨a, 0, 0, 0, 0, 0⟩ := by constructor <;> (dsimp only; omega)
set_option maxRecDepth 100000 in
set_option maxHeartbeats 4000000 in
theorem awakeQ (w : World) : Calls Tryz.prog 10 #[] w fun e w' => e = .returned (.bool true) ∧ Below w.heap.size w w' := by
  have HA := hide aw1
  have HCB := hide (bPl_cb 3 3)
  go_enter Tryz.func10, Tryz.ntmps10
  go_wp2_with fail
  refine (plainQ 3 (by omega) (by omega) w).mono ?_
  rintro e w1 ⟨P, rfl, hP, hlo, hB⟩
  have HP := hide hP
  have HLO := hide hlo
  have HB := hide hB
  clear hP hlo hB
  generalize bPl 3 3 = B0 at *
  go_wp2_with (first | (go_at_call 20; refine (vlansQ P B0 _ HP.out).mono ?_; rintro e w' ⟨rfl, hw⟩; obtain rfl : w1 = w' := hw.symm) | (go_at_call 23; refine (stationsQ P B0 _ HP.out).mono ?_; rintro e w' ⟨rfl, hw⟩; obtain rfl : w1 = w' := hw.symm))
  have hq := takeQ P B0 1 (fAw 4 2) none 0 0 0 w1 HP.out (byt_none w1 (fAw 4 2) rfl) (mok_one (by decide) (by decide)) (mok_one (by decide) (by decide)) (cb_ok HCB.out (by omega)).1 (cb_ok HCB.out (by omega)).2.1 (fun b o e => (by cases e))
  have hc1 : Cb 4 (tk B0 1 (fAw 4 2) 0).2 := tk_cb HCB.out _ _ _
  have hw1 := hq
  unfold WyQ at hq
  generalize tk B0 1 (fAw 4 2) 0 = T at *
  obtain ⟨⟨C, V, TT, oo⟩, B1⟩ := T
  dsimp only at *
  clear hw1
  have HCB1 := hide hc1
  clear hc1
  refine hq.mono ?_
  rintro e z1 ⟨ao, xs, cc, rfl, hO, hm, hP1, hM, hown⟩
  have hlt := HP.out.lt
  have HB1 := hide (HB.out.trans (hM.below (N := P.lo) (by omega) |>.mono HLO.out))
  have HP1 := hide hP1
  have HKN : Hid (P.hi ≤ z1.heap.size) := hide hP1.lt.2.2.2.2
  have hC : C = 0 := HA.out.1
  have hX : xs.length = 2 := by have := HA.out.2.1; rw [← hm] at this; simpa using this
  subst hC
  have HXL := hide hX
  have bz := below_alloc z1 (.cells (wcl 0 0 0 (.slice none 0 0)).toArray 50)
  have K0 := Box.new z1 (wcl 0 0 0 (.slice none 0 0)) 50
  have HBZ := hide bz
  have HK0 := hide K0
  clear hq hO hm hP1 hM hown hlt HP HB bz K0 hX
  have tk1 : True := trivial
  go_wp2_with (first | (have _t := tk1; refine wpl_putW 0 V TT ao xs.length cc _ (.tmp 3) (.tmp 29) rfl HK0.out rfl ?_ ?_ ?_ ?_; rfl; rfl; rfl; clear tk1; intro z9 K9 G9; have HK9 := hide K9; have HB9 := hide (below_grown HBZ.out G9 (Nat.le_refl _) HBZ.out.size); clear K9 G9))
  replace HP1 := hide (HP1.out.on HB9.out)
  replace HB1 := hide (belowOn HB1.out HB9.out)
  generalize z1.heap.size = k3 at *
  have hq := takeQ P B1 2 (fAw 2 4) none 0 0 0 z9 HP1.out (byt_none z9 (fAw 2 4) rfl) (mok_one (by decide) (by decide)) (mok_one (by decide) (by decide)) (cb_ok HCB1.out (by omega)).1 (cb_ok HCB1.out (by omega)).2.1 (fun b o e => (by cases e))
  unfold WyQ at hq
  generalize tk B1 2 (fAw 2 4) 0 = T at *
  obtain ⟨⟨C2, V2, TT2, oo2⟩, B2⟩ := T
  dsimp only at *
  refine hq.mono ?_
  rintro e z2 ⟨ao2, xs2, cc2, rfl, hO, hm, hP2, hM, hown⟩
  have hlt := HP1.out.lt
  have HB2 := hide (HB1.out.trans (hM.below (N := P.lo) (by omega) |>.mono HLO.out))
  have hT : TT2 = 1 := HA.out.2.2.1
  have hX : xs2.length = 1 := by have := HA.out.2.2.2; rw [← hm] at this; simpa using this
  subst hT
  have HXL2 := hide hX
  have HK2 : Hid (Box z2 k3 (wcl 0 V TT (.slice ao xs.length cc))) := hide (HK9.out.block (hM.block _ HK9.out.lt (Or.inr HKN.out)))
  have bz := below_alloc z2 (.cells (wcl 0 0 0 (.slice none 0 0)).toArray 50)
  have K0 := Box.new z2 (wcl 0 0 0 (.slice none 0 0)) 50
  have HBZ2 := hide bz
  have HK02 := hide K0
  clear hq hO hm hP2 hM hown hlt HP1 HB1 bz K0 hX HK9 HB9
  have tk2 : True := trivial
  go_wp2_with (first | (have _t := tk2; refine wpl_putW C2 V2 1 ao2 xs2.length cc2 _ (.tmp 4) (.tmp 34) rfl HK02.out rfl ?_ ?_ ?_ ?_; rfl; rfl; rfl; clear tk2; intro z8 K8 G8; have HK8 := hide K8; have HB8 := hide (below_grown HBZ2.out G8 (Nat.le_refl _) HBZ2.out.size); have HK3 := hide (HK2.out.on HB8.out); have d0 := HK3.out.cell 0 _ rfl; have d3 := HK3.out.cell 3 _ rfl; have e3 := HK8.out.cell 3 _ rfl; have e2 := HK8.out.cell 2 _ rfl; have l2 : ((xs.length : Int) == 2) = true := (by rw [HXL.out]; rfl); have l1 : ((xs2.length : Int) == 1) = true := (by rw [HXL2.out]; rfl); clear K8 G8))
  go_ret
  exact ⟨rfl, belowOn HB2.out HB8.out⟩
end Go.Proofs.YtgpdjfaklcmoiaaGreat
/- Equality of arrays of ints; entries of the document's table; counts that may be. -/
namespace Go.Proofs.YtgpdjfaklcmoiaaGreat
open Go.RowKit Go.PlainAid

theorem list9 {α : Type} (l : List α) (h : l.length = 9) : ∃ a b c d e f g i j, l = [a, b, c, d, e, f, g, i, j] := by
  match l, h with
  | [a, b, c, d, e, f, g, i, j], _ => exact ⟨a, b, c, d, e, f, g, i, j, rfl⟩
theorem list3 {α : Type} (l : List α) (h : l.length = 3) : ∃ a b c, l = [a, b, c] := by
  match l, h with
  | [a, b, c], _ => exact ⟨a, b, c, rfl⟩
theorem Tryz.info3v : ∃ i, Tryz.prog.info? 3 = some i := ⟨_, (info_parts Tryz.info3).choose_spec.1⟩
theorem Tryz.cells3v : Tryz.prog.cellsOf 3 = 1 := by kernel_rfl
set_option maxRecDepth 100000 in
theorem eq9 (l : List Int) (hl : l.length = 9) (w : World) : (Op.equalIn 10000 46 (.agg (nsl l).toArray) (.agg (nsl l).toArray)).run Tryz.prog w = .ok true w := by
  obtain ⟨a, b, c, d, e, f, g, i, j, rfl⟩ := list9 l hl
  obtain ⟨i0, hi⟩ := Tryz.info3v
  show (Op.equalIn 10000 46 (.agg #[.int .i64 a, .int .i64 b, .int .i64 c, .int .i64 d, .int .i64 e, .int .i64 f, .int .i64 g, .int .i64 i, .int .i64 j]) (.agg #[.int .i64 a, .int .i64 b, .int .i64 c, .int .i64 d, .int .i64 e, .int .i64 f, .int .i64 g, .int .i64 i, .int .i64 j])).run Tryz.prog w = .ok true w
  rw [show (10000 : Nat) = 9999 + 1 from rfl, run_equalIn_array w 9999 _ _ Tryz.underlying46 hi, Tryz.cells3v]
  have p0 : ∀ w : World, (part 3 #[.int .i64 a, .int .i64 b, .int .i64 c, .int .i64 d, .int .i64 e, .int .i64 f, .int .i64 g, .int .i64 i, .int .i64 j] 0).run Tryz.prog w = .ok (.int .i64 a) w := fun w => run_part_plain w (by kernel_rfl) rfl
  have p1 : ∀ w : World, (part 3 #[.int .i64 a, .int .i64 b, .int .i64 c, .int .i64 d, .int .i64 e, .int .i64 f, .int .i64 g, .int .i64 i, .int .i64 j] 1).run Tryz.prog w = .ok (.int .i64 b) w := fun w => run_part_plain w (by kernel_rfl) rfl
  have p2 : ∀ w : World, (part 3 #[.int .i64 a, .int .i64 b, .int .i64 c, .int .i64 d, .int .i64 e, .int .i64 f, .int .i64 g, .int .i64 i, .int .i64 j] 2).run Tryz.prog w = .ok (.int .i64 c) w := fun w => run_part_plain w (by kernel_rfl) rfl
  have p3 : ∀ w : World, (part 3 #[.int .i64 a, .int .i64 b, .int .i64 c, .int .i64 d, .int .i64 e, .int .i64 f, .int .i64 g, .int .i64 i, .int .i64 j] 3).run Tryz.prog w = .ok (.int .i64 d) w := fun w => run_part_plain w (by kernel_rfl) rfl
  have p4 : ∀ w : World, (part 3 #[.int .i64 a, .int .i64 b, .int .i64 c, .int .i64 d, .int .i64 e, .int .i64 f, .int .i64 g, .int .i64 i, .int .i64 j] 4).run Tryz.prog w = .ok (.int .i64 e) w := fun w => run_part_plain w (by kernel_rfl) rfl
  have p5 : ∀ w : World, (part 3 #[.int .i64 a, .int .i64 b, .int .i64 c, .int .i64 d, .int .i64 e, .int .i64 f, .int .i64 g, .int .i64 i, .int .i64 j] 5).run Tryz.prog w = .ok (.int .i64 f) w := fun w => run_part_plain w (by kernel_rfl) rfl
  have p6 : ∀ w : World, (part 3 #[.int .i64 a, .int .i64 b, .int .i64 c, .int .i64 d, .int .i64 e, .int .i64 f, .int .i64 g, .int .i64 i, .int .i64 j] 6).run Tryz.prog w = .ok (.int .i64 g) w := fun w => run_part_plain w (by kernel_rfl) rfl
  have p7 : ∀ w : World, (part 3 #[.int .i64 a, .int .i64 b, .int .i64 c, .int .i64 d, .int .i64 e, .int .i64 f, .int .i64 g, .int .i64 i, .int .i64 j] 7).run Tryz.prog w = .ok (.int .i64 i) w := fun w => run_part_plain w (by kernel_rfl) rfl
  have p8 : ∀ w : World, (part 3 #[.int .i64 a, .int .i64 b, .int .i64 c, .int .i64 d, .int .i64 e, .int .i64 f, .int .i64 g, .int .i64 i, .int .i64 j] 8).run Tryz.prog w = .ok (.int .i64 j) w := fun w => run_part_plain w (by kernel_rfl) rfl
  have pe : ∀ (x y : Int) (w : World), (Op.equalIn 9999 3 (.int .i64 x) (.int .i64 y)).run Tryz.prog w = .ok (x == y) w := fun x y w => run_equalIn_int w 9998 3 _ _ x y Tryz.underlying3
  simp [Op.eqItems, show List.range 9 = [0, 1, 2, 3, 4, 5, 6, 7, 8] from rfl, p0, p1, p2, p3, p4, p5, p6, p7, p8, pe]
set_option maxRecDepth 100000 in
theorem eq3 (l : List Int) (hl : l.length = 3) (w : World) : (Op.equalIn 10000 81 (.agg (nsl l).toArray) (.agg (nsl l).toArray)).run Tryz.prog w = .ok true w := by
  obtain ⟨a, b, c, rfl⟩ := list3 l hl
  obtain ⟨i0, hi⟩ := Tryz.info3v
  show (Op.equalIn 10000 81 (.agg #[.int .i64 a, .int .i64 b, .int .i64 c]) (.agg #[.int .i64 a, .int .i64 b, .int .i64 c])).run Tryz.prog w = .ok true w
  rw [show (10000 : Nat) = 9999 + 1 from rfl, run_equalIn_array w 9999 _ _ Tryz.underlying81 hi, Tryz.cells3v]
  have p0 : ∀ w : World, (part 3 #[.int .i64 a, .int .i64 b, .int .i64 c] 0).run Tryz.prog w = .ok (.int .i64 a) w := fun w => run_part_plain w (by kernel_rfl) rfl
  have p1 : ∀ w : World, (part 3 #[.int .i64 a, .int .i64 b, .int .i64 c] 1).run Tryz.prog w = .ok (.int .i64 b) w := fun w => run_part_plain w (by kernel_rfl) rfl
  have p2 : ∀ w : World, (part 3 #[.int .i64 a, .int .i64 b, .int .i64 c] 2).run Tryz.prog w = .ok (.int .i64 c) w := fun w => run_part_plain w (by kernel_rfl) rfl
  have pe : ∀ (x y : Int) (w : World), (Op.equalIn 9999 3 (.int .i64 x) (.int .i64 y)).run Tryz.prog w = .ok (x == y) w := fun x y w => run_equalIn_int w 9998 3 _ _ x y Tryz.underlying3
  simp [Op.eqItems, show List.range 3 = [0, 1, 2] from rfl, p0, p1, p2, pe]
theorem rf_ets {w : World} {g : Nat} {lv : Value} {T : FT} (H : RF w g lv T) : ∃ ao c, lv = .slice ao T.l.length c ∧ Ets w 0 ao T.l.length c T.l := by
  rcases H.row.2 with ⟨h1, h2⟩ | ⟨b, cap, cur, e, hb, hc, hn, hm, hs, ht⟩
  · subst h1
    rw [h2]
    have h3 : T.l = [] := List.eq_nil_of_length_eq_zero h2
    rw [h3]
    exact ⟨none, 0, rfl, ⟨rfl, fun _ => rfl, fun a e => (by cases e), Nat.le_refl _, Nat.zero_le _⟩⟩
  · subst e
    refine ⟨_, cap, rfl, rfl, fun e => (by cases e), fun a e => ?_, hn, hm⟩
    obtain rfl := Option.some.inj e
    refine ⟨b, rfl, Nat.zero_le _, (Array.getElem?_eq_some_iff.1 hc).1, fun j u hj => ?_, fun j hj => ⟨?_, World.ownsRow.frozenAt H.row _⟩⟩
    · rw [Nat.zero_add]
      have := World.ownsRow.cellAt H.row j (by rw [← H.row.1]; exact (List.getElem?_eq_some_iff.1 hj).1)
      rw [this]; exact hj
    · rw [Nat.zero_add]
      have := World.ownsRow.cellAt H.row j (by rw [← H.row.1]; exact hj)
      rw [this]; simp; exact hj
theorem mkB_cb (xs : List Stp) : Cb 84 (mkB xs) := by
  have h := runs_cb (bPl_cb 4 4) (xs.take 80)
  exact h.mono (by rw [List.length_take]; omega)
end Go.Proofs.YtgpdjfaklcmoiaaGreat
