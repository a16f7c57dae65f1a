/- Contract: alike of the laws, of two bridges of one plain state. -/
import Derived.Test.YtgpdjfaklcmoiaaGreatM24
namespace Go.Proofs.YtgpdjfaklcmoiaaGreat
open Go.RowKit Go.PlainAid

theorem rcl_counts {w : World} {A : RAd} {B : Br} (H : RB w A B) : w.rangeAt A.g 4 (nsl B.ct) :=
  rangeAt_left (B := nsl B.ln) (rangeAt_right (A := [.int .i64 B.n, .pointer (some ⟨A.gv + 1, 0, none⟩), .pointer (some ⟨A.gf, 0, none⟩), .slice (some ⟨A.gs, 0, none⟩) (B.n + 1) (B.n + 1)]) (q := 4) H.bx.at_ rfl)
theorem rcl_learned {w : World} {A : RAd} {B : Br} (H : RB w A B) : w.rangeAt A.g 13 (nsl B.ln) := by
  have h := rangeAt_right (A := [.int .i64 B.n, .pointer (some ⟨A.gv + 1, 0, none⟩), .pointer (some ⟨A.gf, 0, none⟩), .slice (some ⟨A.gs, 0, none⟩) (B.n + 1) (B.n + 1)]) (q := 4) H.bx.at_ rfl
  exact rangeAt_right (A := nsl B.ct) (q := 13) h (by simp [nsl, H.wf.cl])
set_option maxRecDepth 100000 in
set_option maxHeartbeats 8000000 in
theorem alikeB (A : RAd) (P : PAd) (B : Br) (p : Int) (w : World) (H : Bh w A P B B) :
    Calls Tryz.prog 15 #[.pointer (some ⟨P.g, 0, none⟩), .pointer (some ⟨A.g, 0, none⟩), .int .i64 p] w fun e w' => e = .returned (.bool true) ∧ Below w.heap.size w w' := by
  have HH := hide H.drew
  have HB := hide (below_drew w)
  have HCL := hide H.r.wf.cl
  have HLL := hide H.r.wf.ll
  have SS : Hid (∀ z : World, Below w.heap.size w z → (z.cell? ⟨A.g, 2, none⟩ = some (.pointer (some ⟨A.gf, 0, none⟩)) ∧ ∃ lf, lf = A.lf ∧ z.cell? ⟨A.gf, 1, none⟩ = some lf) ∧ Bh z A P B B) := hide (fun z b => ⟨⟨(H.on b).r.bx.cell 2 _ rfl, A.lf, rfl, (H.on b).r.rf.bx.cell 1 _ rfl⟩, H.on b⟩)
  obtain ⟨al, cl, hlf, hEl⟩ := rf_ets H.r.rf
  have HEL := hide hEl
  have HLF := hide hlf
  clear H hEl hlf
  go_enter Tryz.func15, Tryz.ntmps15
  go_wp2_with fail
  refine wp_region_held_drew (S := fun w' => w'.cell? ⟨A.g, 2, none⟩ = some (.pointer (some ⟨A.gf, 0, none⟩)) ∧ ∃ lf, lf = A.lf ∧ w'.cell? ⟨A.gf, 1, none⟩ = some lf) (by kernel_rfl) (SS.out _ HB.out).1 (fun hHeld => ?_)
  generalize w.drew = u0 at *
  refine wpAnyH_take (i := 0) (v := .pointer (some ⟨P.g, 0, none⟩)) rfl (by kernel_rfl) (by kernel_rfl) (by kernel_rfl) (fun _ _ _ h => h) (Or.inl ⟨by rfl, ?_⟩) hHeld ?_
  · intro W hW; (try dsimp only at hW); go_simp
  change wpAnyH _ _ _ _ _ _ _ ⟨#[.pointer (some ⟨P.g, 0, none⟩),.pointer (some ⟨A.g, 0, none⟩),.int .i64 p,_,_,_,_,_,.pointer (some ⟨P.g, 0, none⟩),_,_,_,_,_,_,_,_,_,_,_,_,_,_,_,_,_,_,_,_,_,_,_,_,_,_,_,_,_,_,_,_,_,_,_,_,_,_], []⟩ _
  refine wpAnyH_take (i := 3) (v := .pointer (some ⟨A.g, 0, none⟩)) rfl (by kernel_rfl) (by kernel_rfl) (by kernel_rfl) (fun _ _ _ h => h) (Or.inl ⟨by rfl, ?_⟩) hHeld ?_
  · intro W hW; (try dsimp only at hW); go_simp
  change wpAnyH _ _ _ _ _ _ _ ⟨#[.pointer (some ⟨P.g, 0, none⟩),.pointer (some ⟨A.g, 0, none⟩),.int .i64 p,_,_,_,_,_,.pointer (some ⟨P.g, 0, none⟩),_,_,.pointer (some ⟨A.g, 0, none⟩),_,_,_,_,_,_,_,_,_,_,_,_,_,_,_,_,_,_,_,_,_,_,_,_,_,_,_,_,_,_,_,_,_,_,_], []⟩ _
  refine wpAnyH_take (i := 4) (v := .pointer (some ⟨A.g, 0, none⟩)) rfl (by kernel_rfl) (by kernel_rfl) (by kernel_rfl) (fun _ _ _ h => h) (Or.inl ⟨by rfl, ?_⟩) hHeld ?_
  · intro W hW; (try dsimp only at hW); go_simp
  change wpAnyH _ _ _ _ _ _ _ ⟨#[.pointer (some ⟨P.g, 0, none⟩),.pointer (some ⟨A.g, 0, none⟩),.int .i64 p,_,_,_,_,_,.pointer (some ⟨P.g, 0, none⟩),_,_,.pointer (some ⟨A.g, 0, none⟩),.pointer (some ⟨A.g, 0, none⟩),_,_,_,_,_,_,_,_,_,_,_,_,_,_,_,_,_,_,_,_,_,_,_,_,_,_,_,_,_,_,_,_,_,_], []⟩ _
  refine wpAnyH_take (i := 5) (v := .pointer (some ⟨A.g, 2, none⟩)) rfl (by kernel_rfl) (by kernel_rfl) (by kernel_rfl) (fun _ _ _ h => h) (Or.inl ⟨by rfl, ?_⟩) hHeld ?_
  · intro W hW; (try dsimp only at hW); go_simp
  change wpAnyH _ _ _ _ _ _ _ ⟨#[.pointer (some ⟨P.g, 0, none⟩),.pointer (some ⟨A.g, 0, none⟩),.int .i64 p,_,_,_,_,_,.pointer (some ⟨P.g, 0, none⟩),_,_,.pointer (some ⟨A.g, 0, none⟩),.pointer (some ⟨A.g, 0, none⟩),.pointer (some ⟨A.g, 2, none⟩),_,_,_,_,_,_,_,_,_,_,_,_,_,_,_,_,_,_,_,_,_,_,_,_,_,_,_,_,_,_,_,_,_], []⟩ _
  refine wpAnyH_take (i := 6) (v := .pointer (some ⟨A.gf, 0, none⟩)) rfl (by kernel_rfl) (by kernel_rfl) (by kernel_rfl) (fun _ _ _ h => h) (Or.inl ⟨by rfl, ?_⟩) hHeld ?_
  · intro W hW; (try dsimp only at hW); have hc := hW.1; clear hW; go_simp
  change wpAnyH _ _ _ _ _ _ _ ⟨#[.pointer (some ⟨P.g, 0, none⟩),.pointer (some ⟨A.g, 0, none⟩),.int .i64 p,_,_,_,_,_,.pointer (some ⟨P.g, 0, none⟩),_,_,.pointer (some ⟨A.g, 0, none⟩),.pointer (some ⟨A.g, 0, none⟩),.pointer (some ⟨A.g, 2, none⟩),.pointer (some ⟨A.gf, 0, none⟩),_,_,_,_,_,_,_,_,_,_,_,_,_,_,_,_,_,_,_,_,_,_,_,_,_,_,_,_,_,_,_,_], []⟩ _
  refine wpAnyH_take (i := 7) (v := .pointer (some ⟨A.gf, 0, none⟩)) rfl (by kernel_rfl) (by kernel_rfl) (by kernel_rfl) (fun _ _ _ h => h) (Or.inl ⟨by rfl, ?_⟩) hHeld ?_
  · intro W hW; (try dsimp only at hW); go_simp
  change wpAnyH _ _ _ _ _ _ _ ⟨#[.pointer (some ⟨P.g, 0, none⟩),.pointer (some ⟨A.g, 0, none⟩),.int .i64 p,_,_,_,_,_,.pointer (some ⟨P.g, 0, none⟩),_,_,.pointer (some ⟨A.g, 0, none⟩),.pointer (some ⟨A.g, 0, none⟩),.pointer (some ⟨A.g, 2, none⟩),.pointer (some ⟨A.gf, 0, none⟩),.pointer (some ⟨A.gf, 0, none⟩),_,_,_,_,_,_,_,_,_,_,_,_,_,_,_,_,_,_,_,_,_,_,_,_,_,_,_,_,_,_,_], []⟩ _
  refine wpAnyH_take (i := 8) (v := .pointer (some ⟨A.gf, 1, none⟩)) rfl (by kernel_rfl) (by kernel_rfl) (by kernel_rfl) (fun _ _ _ h => h) (Or.inl ⟨by rfl, ?_⟩) hHeld ?_
  · intro W hW; (try dsimp only at hW); go_simp
  change wpAnyH _ _ _ _ _ _ _ ⟨#[.pointer (some ⟨P.g, 0, none⟩),.pointer (some ⟨A.g, 0, none⟩),.int .i64 p,_,_,_,_,_,.pointer (some ⟨P.g, 0, none⟩),_,_,.pointer (some ⟨A.g, 0, none⟩),.pointer (some ⟨A.g, 0, none⟩),.pointer (some ⟨A.g, 2, none⟩),.pointer (some ⟨A.gf, 0, none⟩),.pointer (some ⟨A.gf, 0, none⟩),.pointer (some ⟨A.gf, 1, none⟩),_,_,_,_,_,_,_,_,_,_,_,_,_,_,_,_,_,_,_,_,_,_,_,_,_,_,_,_,_,_], []⟩ _
  refine wpAnyH_take (i := 9) (v := .slice al B.F.l.length cl) rfl (by kernel_rfl) (by kernel_rfl) (by kernel_rfl) (fun _ _ _ h => h) (Or.inl ⟨by rfl, ?_⟩) hHeld ?_
  · intro W hW; (try dsimp only at hW); obtain ⟨-, lf, hl, hc⟩ := hW; rw [hl, HLF.out] at hc; go_simp
  change wpAnyH _ _ _ _ _ _ _ ⟨#[.pointer (some ⟨P.g, 0, none⟩),.pointer (some ⟨A.g, 0, none⟩),.int .i64 p,_,_,_,_,_,.pointer (some ⟨P.g, 0, none⟩),_,_,.pointer (some ⟨A.g, 0, none⟩),.pointer (some ⟨A.g, 0, none⟩),.pointer (some ⟨A.g, 2, none⟩),.pointer (some ⟨A.gf, 0, none⟩),.pointer (some ⟨A.gf, 0, none⟩),.pointer (some ⟨A.gf, 1, none⟩),.slice al B.F.l.length cl,_,_,_,_,_,_,_,_,_,_,_,_,_,_,_,_,_,_,_,_,_,_,_,_,_,_,_,_,_], []⟩ _
  refine wpAnyH_ready (rs := [1]) (by kernel_rfl) (by simp) ?_
  refine AllReadyH.cons rfl (fun K hK => ?_) AllReadyH.nil
  go_simp
  refine (stationsQ P B _ HH.out.p).mono ?_
  rintro e _ ⟨rfl, rfl⟩
  refine hK.out _ _ (SS.out _ HB.out).1 (fun hHeld => ?_)
  clear hK K
  change wpAnyH _ _ _ _ _ _ _ ⟨#[.pointer (some ⟨P.g, 0, none⟩),.pointer (some ⟨A.g, 0, none⟩),.int .i64 p,_,_,_,_,_,.pointer (some ⟨P.g, 0, none⟩),.pointer (some ⟨P.hf + 1, 0, none⟩),_,.pointer (some ⟨A.g, 0, none⟩),.pointer (some ⟨A.g, 0, none⟩),.pointer (some ⟨A.g, 2, none⟩),.pointer (some ⟨A.gf, 0, none⟩),.pointer (some ⟨A.gf, 0, none⟩),.pointer (some ⟨A.gf, 1, none⟩),.slice al B.F.l.length cl,_,_,_,_,_,_,_,_,_,_,_,_,_,_,_,_,_,_,_,_,_,_,_,_,_,_,_,_,_], []⟩ _
  refine wpAnyH_ready (rs := [2]) (by kernel_rfl) (by simp) ?_
  refine AllReadyH.cons rfl (fun K hK => ?_) AllReadyH.nil
  go_simp
  obtain ⟨ps, hpf⟩ := HH.out.p.pf
  refine (all14 P.hf ps B.F _ hpf).mono ?_
  rintro e u1 ⟨ae, ce, rfl, hE, bb⟩
  have HE := hide hE
  replace HB := hide (belowOn HB.out bb)
  refine hK.out _ _ (SS.out _ HB.out).1 (fun hHeld => ?_)
  clear hK K hE bb hpf
  change wpAnyH _ _ _ _ _ _ _ ⟨#[.pointer (some ⟨P.g, 0, none⟩),.pointer (some ⟨A.g, 0, none⟩),.int .i64 p,_,_,_,_,_,.pointer (some ⟨P.g, 0, none⟩),.pointer (some ⟨P.hf + 1, 0, none⟩),.slice ae B.F.l.length ce,.pointer (some ⟨A.g, 0, none⟩),.pointer (some ⟨A.g, 0, none⟩),.pointer (some ⟨A.g, 2, none⟩),.pointer (some ⟨A.gf, 0, none⟩),.pointer (some ⟨A.gf, 0, none⟩),.pointer (some ⟨A.gf, 1, none⟩),.slice al B.F.l.length cl,_,_,_,_,_,_,_,_,_,_,_,_,_,_,_,_,_,_,_,_,_,_,_,_,_,_,_,_,_], []⟩ _
  refine wpAnyH_ready (rs := [10]) (by kernel_rfl) (by simp) ?_
  refine AllReadyH.cons rfl (fun K hK => ?_) AllReadyH.nil
  go_simp
  refine (same13 _ _ _ _ _ _ _ _ HE.out (HEL.out.on HB.out)).mono ?_
  rintro e u2 ⟨rfl, bb⟩
  replace HB := hide (belowOn HB.out bb)
  refine hK.out _ _ (SS.out _ HB.out).1 (fun hHeld => ?_)
  clear hK K bb
  change wpAnyH _ _ _ _ _ _ _ ⟨#[.pointer (some ⟨P.g, 0, none⟩),.pointer (some ⟨A.g, 0, none⟩),.int .i64 p,_,_,_,_,_,.pointer (some ⟨P.g, 0, none⟩),.pointer (some ⟨P.hf + 1, 0, none⟩),.slice ae B.F.l.length ce,.pointer (some ⟨A.g, 0, none⟩),.pointer (some ⟨A.g, 0, none⟩),.pointer (some ⟨A.g, 2, none⟩),.pointer (some ⟨A.gf, 0, none⟩),.pointer (some ⟨A.gf, 0, none⟩),.pointer (some ⟨A.gf, 1, none⟩),.slice al B.F.l.length cl,.bool true,_,_,_,_,_,_,_,_,_,_,_,_,_,_,_,_,_,_,_,_,_,_,_,_,_,_,_,_], []⟩ _
  refine wpAnyH_take (i := 11) (v := .bool true) rfl (by kernel_rfl) (by kernel_rfl) (by kernel_rfl) (fun _ _ _ h => h) (Or.inl ⟨by rfl, ?_⟩) hHeld ?_
  · intro W hW; (try dsimp only at hW); go_simp
  change wpAnyH _ _ _ _ _ _ _ ⟨#[.pointer (some ⟨P.g, 0, none⟩),.pointer (some ⟨A.g, 0, none⟩),.int .i64 p,_,_,_,_,.bool true,.pointer (some ⟨P.g, 0, none⟩),.pointer (some ⟨P.hf + 1, 0, none⟩),.slice ae B.F.l.length ce,.pointer (some ⟨A.g, 0, none⟩),.pointer (some ⟨A.g, 0, none⟩),.pointer (some ⟨A.g, 2, none⟩),.pointer (some ⟨A.gf, 0, none⟩),.pointer (some ⟨A.gf, 0, none⟩),.pointer (some ⟨A.gf, 1, none⟩),.slice al B.F.l.length cl,.bool true,_,_,_,_,_,_,_,_,_,_,_,_,_,_,_,_,_,_,_,_,_,_,_,_,_,_,_,_], []⟩ _
  refine wpAnyH_done (by kernel_rfl) ?_ _
  replace HH := hide (SS.out _ HB.out).2
  clear hHeld HE
  go_wp2_with fail
  replace HB := hide (belowOn HB.out (below_drew u2))
  have TT : Hid (∀ z : World, Below w.heap.size w z → z.rangeAt A.g 4 (nsl B.ct) ∧ z.rangeAt A.g 13 (nsl B.ln)) := hide (fun z b => ⟨rcl_counts (SS.out z b).2.r, rcl_learned (SS.out z b).2.r⟩)
  refine wp_region_held_drew (S := fun w' => w'.rangeAt A.g 4 (nsl B.ct) ∧ w'.rangeAt A.g 13 (nsl B.ln)) (by kernel_rfl) (TT.out _ HB.out) (fun hHeld => ?_)
  generalize u2.drew = v0 at *
  refine wpAnyH_take (i := 0) (v := .bool true) rfl (by kernel_rfl) (by kernel_rfl) (by kernel_rfl) (fun _ _ _ h => h) (Or.inl ⟨by rfl, ?_⟩) hHeld ?_
  · intro W hW; (try dsimp only at hW); go_simp
  change wpAnyH _ _ _ _ _ _ _ ⟨#[.pointer (some ⟨P.g, 0, none⟩),.pointer (some ⟨A.g, 0, none⟩),.int .i64 p,_,_,_,_,.bool true,_,_,_,_,_,_,_,_,_,_,_,.bool true,_,_,_,_,_,_,_,_,_,_,_,_,_,_,_,_,_,_,_,_,_,_,_,_,_,_,_], []⟩ _
  refine wpAnyH_take (i := 1) (v := .bool true) rfl (by kernel_rfl) (by kernel_rfl) (by kernel_rfl) (fun _ _ _ h => h) (Or.inl ⟨by rfl, ?_⟩) hHeld ?_
  · intro W hW; (try dsimp only at hW); go_simp
  change wpAnyH _ _ _ _ _ _ _ ⟨#[.pointer (some ⟨P.g, 0, none⟩),.pointer (some ⟨A.g, 0, none⟩),.int .i64 p,_,_,_,_,.bool true,_,_,_,_,_,_,_,_,_,_,_,.bool true,.bool true,_,_,_,_,_,_,_,_,_,_,_,_,_,_,_,_,_,_,_,_,_,_,_,_,_,_], []⟩ _
  refine wpAnyH_take (i := 2) (v := .pointer (some ⟨P.g, 0, none⟩)) rfl (by kernel_rfl) (by kernel_rfl) (by kernel_rfl) (fun _ _ _ h => h) (Or.inl ⟨by rfl, ?_⟩) hHeld ?_
  · intro W hW; (try dsimp only at hW); go_simp
  change wpAnyH _ _ _ _ _ _ _ ⟨#[.pointer (some ⟨P.g, 0, none⟩),.pointer (some ⟨A.g, 0, none⟩),.int .i64 p,_,_,_,_,.bool true,_,_,_,_,_,_,_,_,_,_,_,.bool true,.bool true,.pointer (some ⟨P.g, 0, none⟩),_,_,_,_,_,_,_,_,_,_,_,_,_,_,_,_,_,_,_,_,_,_,_,_,_], []⟩ _
  refine wpAnyH_take (i := 3) (v := .int .i64 p) rfl (by kernel_rfl) (by kernel_rfl) (by kernel_rfl) (fun _ _ _ h => h) (Or.inl ⟨by rfl, ?_⟩) hHeld ?_
  · intro W hW; (try dsimp only at hW); go_simp
  change wpAnyH _ _ _ _ _ _ _ ⟨#[.pointer (some ⟨P.g, 0, none⟩),.pointer (some ⟨A.g, 0, none⟩),.int .i64 p,_,_,_,_,.bool true,_,_,_,_,_,_,_,_,_,_,_,.bool true,.bool true,.pointer (some ⟨P.g, 0, none⟩),.int .i64 p,_,_,_,_,_,_,_,_,_,_,_,_,_,_,_,_,_,_,_,_,_,_,_,_], []⟩ _
  refine wpAnyH_take (i := 5) (v := .pointer (some ⟨A.g, 0, none⟩)) rfl (by kernel_rfl) (by kernel_rfl) (by kernel_rfl) (fun _ _ _ h => h) (Or.inl ⟨by rfl, ?_⟩) hHeld ?_
  · intro W hW; (try dsimp only at hW); go_simp
  change wpAnyH _ _ _ _ _ _ _ ⟨#[.pointer (some ⟨P.g, 0, none⟩),.pointer (some ⟨A.g, 0, none⟩),.int .i64 p,_,_,_,_,.bool true,_,_,_,_,_,_,_,_,_,_,_,.bool true,.bool true,.pointer (some ⟨P.g, 0, none⟩),.int .i64 p,_,.pointer (some ⟨A.g, 0, none⟩),_,_,_,_,_,_,_,_,_,_,_,_,_,_,_,_,_,_,_,_,_,_], []⟩ _
  refine wpAnyH_take (i := 6) (v := .int .i64 p) rfl (by kernel_rfl) (by kernel_rfl) (by kernel_rfl) (fun _ _ _ h => h) (Or.inl ⟨by rfl, ?_⟩) hHeld ?_
  · intro W hW; (try dsimp only at hW); go_simp
  change wpAnyH _ _ _ _ _ _ _ ⟨#[.pointer (some ⟨P.g, 0, none⟩),.pointer (some ⟨A.g, 0, none⟩),.int .i64 p,_,_,_,_,.bool true,_,_,_,_,_,_,_,_,_,_,_,.bool true,.bool true,.pointer (some ⟨P.g, 0, none⟩),.int .i64 p,_,.pointer (some ⟨A.g, 0, none⟩),.int .i64 p,_,_,_,_,_,_,_,_,_,_,_,_,_,_,_,_,_,_,_,_,_], []⟩ _
  refine wpAnyH_ready (rs := [4]) (by kernel_rfl) (by simp) ?_
  refine AllReadyH.cons rfl (fun K hK => ?_) AllReadyH.nil
  go_simp
  refine (stateQ P B p _ (SS.out _ HB.out).2.p).mono ?_
  rintro e u3 ⟨rfl, hw⟩
  obtain rfl := hw
  refine hK.out _ _ (TT.out _ HB.out) (fun hHeld => ?_)
  clear hK K
  change wpAnyH _ _ _ _ _ _ _ ⟨#[.pointer (some ⟨P.g, 0, none⟩),.pointer (some ⟨A.g, 0, none⟩),.int .i64 p,_,_,_,_,.bool true,_,_,_,_,_,_,_,_,_,_,_,.bool true,.bool true,.pointer (some ⟨P.g, 0, none⟩),.int .i64 p,.int .i64 (sta B p),.pointer (some ⟨A.g, 0, none⟩),.int .i64 p,_,_,_,_,_,_,_,_,_,_,_,_,_,_,_,_,_,_,_,_,_], []⟩ _
  refine wpAnyH_ready (rs := [7]) (by kernel_rfl) (by simp) ?_
  refine AllReadyH.cons rfl (fun K hK => ?_) AllReadyH.nil
  go_simp
  refine (stateR A B p _ (SS.out _ HB.out).2.r).mono ?_
  rintro e u3 ⟨rfl, hw⟩
  obtain rfl := hw
  refine hK.out _ _ (TT.out _ HB.out) (fun hHeld => ?_)
  clear hK K
  change wpAnyH _ _ _ _ _ _ _ ⟨#[.pointer (some ⟨P.g, 0, none⟩),.pointer (some ⟨A.g, 0, none⟩),.int .i64 p,_,_,_,_,.bool true,_,_,_,_,_,_,_,_,_,_,_,.bool true,.bool true,.pointer (some ⟨P.g, 0, none⟩),.int .i64 p,.int .i64 (sta B p),.pointer (some ⟨A.g, 0, none⟩),.int .i64 p,.int .i64 (sta B p),_,_,_,_,_,_,_,_,_,_,_,_,_,_,_,_,_,_,_,_], []⟩ _
  refine wpAnyH_take (i := 8) (v := .bool true) rfl (by kernel_rfl) (by kernel_rfl) (by kernel_rfl) (fun _ _ _ h => h) (Or.inl ⟨by rfl, ?_⟩) hHeld ?_
  · intro W hW; (try dsimp only at hW); go_simp
  change wpAnyH _ _ _ _ _ _ _ ⟨#[.pointer (some ⟨P.g, 0, none⟩),.pointer (some ⟨A.g, 0, none⟩),.int .i64 p,_,_,_,_,.bool true,_,_,_,_,_,_,_,_,_,_,_,.bool true,.bool true,.pointer (some ⟨P.g, 0, none⟩),.int .i64 p,.int .i64 (sta B p),.pointer (some ⟨A.g, 0, none⟩),.int .i64 p,.int .i64 (sta B p),.bool true,_,_,_,_,_,_,_,_,_,_,_,_,_,_,_,_,_,_,_], []⟩ _
  refine wpAnyH_take (i := 9) (v := .bool true) rfl (by kernel_rfl) (by kernel_rfl) (by kernel_rfl) (fun _ _ _ h => h) (Or.inl ⟨by rfl, ?_⟩) hHeld ?_
  · intro W hW; (try dsimp only at hW); go_simp
  change wpAnyH _ _ _ _ _ _ _ ⟨#[.pointer (some ⟨P.g, 0, none⟩),.pointer (some ⟨A.g, 0, none⟩),.int .i64 p,_,_,_,_,.bool true,_,_,_,_,_,_,_,_,_,_,_,.bool true,.bool true,.pointer (some ⟨P.g, 0, none⟩),.int .i64 p,.int .i64 (sta B p),.pointer (some ⟨A.g, 0, none⟩),.int .i64 p,.int .i64 (sta B p),.bool true,.bool true,_,_,_,_,_,_,_,_,_,_,_,_,_,_,_,_,_,_], []⟩ _
  refine wpAnyH_take (i := 10) (v := .bool true) rfl (by kernel_rfl) (by kernel_rfl) (by kernel_rfl) (fun _ _ _ h => h) (Or.inl ⟨by rfl, ?_⟩) hHeld ?_
  · intro W hW; (try dsimp only at hW); go_simp
  change wpAnyH _ _ _ _ _ _ _ ⟨#[.pointer (some ⟨P.g, 0, none⟩),.pointer (some ⟨A.g, 0, none⟩),.int .i64 p,_,_,_,_,.bool true,_,_,_,_,_,_,_,_,_,_,_,.bool true,.bool true,.pointer (some ⟨P.g, 0, none⟩),.int .i64 p,.int .i64 (sta B p),.pointer (some ⟨A.g, 0, none⟩),.int .i64 p,.int .i64 (sta B p),.bool true,.bool true,.bool true,_,_,_,_,_,_,_,_,_,_,_,_,_,_,_,_,_], []⟩ _
  refine wpAnyH_take (i := 11) (v := .pointer (some ⟨P.g, 0, none⟩)) rfl (by kernel_rfl) (by kernel_rfl) (by kernel_rfl) (fun _ _ _ h => h) (Or.inl ⟨by rfl, ?_⟩) hHeld ?_
  · intro W hW; (try dsimp only at hW); go_simp
  change wpAnyH _ _ _ _ _ _ _ ⟨#[.pointer (some ⟨P.g, 0, none⟩),.pointer (some ⟨A.g, 0, none⟩),.int .i64 p,_,_,_,_,.bool true,_,_,_,_,_,_,_,_,_,_,_,.bool true,.bool true,.pointer (some ⟨P.g, 0, none⟩),.int .i64 p,.int .i64 (sta B p),.pointer (some ⟨A.g, 0, none⟩),.int .i64 p,.int .i64 (sta B p),.bool true,.bool true,.bool true,.pointer (some ⟨P.g, 0, none⟩),_,_,_,_,_,_,_,_,_,_,_,_,_,_,_,_], []⟩ _
  refine wpAnyH_take (i := 13) (v := .pointer (some ⟨A.g, 0, none⟩)) rfl (by kernel_rfl) (by kernel_rfl) (by kernel_rfl) (fun _ _ _ h => h) (Or.inl ⟨by rfl, ?_⟩) hHeld ?_
  · intro W hW; (try dsimp only at hW); go_simp
  change wpAnyH _ _ _ _ _ _ _ ⟨#[.pointer (some ⟨P.g, 0, none⟩),.pointer (some ⟨A.g, 0, none⟩),.int .i64 p,_,_,_,_,.bool true,_,_,_,_,_,_,_,_,_,_,_,.bool true,.bool true,.pointer (some ⟨P.g, 0, none⟩),.int .i64 p,.int .i64 (sta B p),.pointer (some ⟨A.g, 0, none⟩),.int .i64 p,.int .i64 (sta B p),.bool true,.bool true,.bool true,.pointer (some ⟨P.g, 0, none⟩),_,.pointer (some ⟨A.g, 0, none⟩),_,_,_,_,_,_,_,_,_,_,_,_,_,_], []⟩ _
  refine wpAnyH_take (i := 14) (v := .pointer (some ⟨A.g, 0, none⟩)) rfl (by kernel_rfl) (by kernel_rfl) (by kernel_rfl) (fun _ _ _ h => h) (Or.inl ⟨by rfl, ?_⟩) hHeld ?_
  · intro W hW; (try dsimp only at hW); go_simp
  change wpAnyH _ _ _ _ _ _ _ ⟨#[.pointer (some ⟨P.g, 0, none⟩),.pointer (some ⟨A.g, 0, none⟩),.int .i64 p,_,_,_,_,.bool true,_,_,_,_,_,_,_,_,_,_,_,.bool true,.bool true,.pointer (some ⟨P.g, 0, none⟩),.int .i64 p,.int .i64 (sta B p),.pointer (some ⟨A.g, 0, none⟩),.int .i64 p,.int .i64 (sta B p),.bool true,.bool true,.bool true,.pointer (some ⟨P.g, 0, none⟩),_,.pointer (some ⟨A.g, 0, none⟩),.pointer (some ⟨A.g, 0, none⟩),_,_,_,_,_,_,_,_,_,_,_,_,_], []⟩ _
  refine wpAnyH_take (i := 15) (v := .pointer (some ⟨A.g, 4, none⟩)) rfl (by kernel_rfl) (by kernel_rfl) (by kernel_rfl) (fun _ _ _ h => h) (Or.inl ⟨by rfl, ?_⟩) hHeld ?_
  · intro W hW; (try dsimp only at hW); go_simp
  change wpAnyH _ _ _ _ _ _ _ ⟨#[.pointer (some ⟨P.g, 0, none⟩),.pointer (some ⟨A.g, 0, none⟩),.int .i64 p,_,_,_,_,.bool true,_,_,_,_,_,_,_,_,_,_,_,.bool true,.bool true,.pointer (some ⟨P.g, 0, none⟩),.int .i64 p,.int .i64 (sta B p),.pointer (some ⟨A.g, 0, none⟩),.int .i64 p,.int .i64 (sta B p),.bool true,.bool true,.bool true,.pointer (some ⟨P.g, 0, none⟩),_,.pointer (some ⟨A.g, 0, none⟩),.pointer (some ⟨A.g, 0, none⟩),.pointer (some ⟨A.g, 4, none⟩),_,_,_,_,_,_,_,_,_,_,_,_], []⟩ _
  refine wpAnyH_take (i := 16) (v := .agg (nsl B.ct).toArray) rfl (by kernel_rfl) (by kernel_rfl) (by kernel_rfl) (fun _ _ _ h => h) (yieldsIf_load_mid (by rfl) 46 (.tmp 34) rfl A.g 4 rfl (nsl B.ct) _ (fun W hW => hW.1) Tryz.underlying46 rfl (by rw [show (nsl B.ct).length = B.ct.length by simp [nsl], HCL.out]; exact Tryz.size46)) hHeld ?_
  change wpAnyH _ _ _ _ _ _ _ ⟨#[.pointer (some ⟨P.g, 0, none⟩),.pointer (some ⟨A.g, 0, none⟩),.int .i64 p,_,_,_,_,.bool true,_,_,_,_,_,_,_,_,_,_,_,.bool true,.bool true,.pointer (some ⟨P.g, 0, none⟩),.int .i64 p,.int .i64 (sta B p),.pointer (some ⟨A.g, 0, none⟩),.int .i64 p,.int .i64 (sta B p),.bool true,.bool true,.bool true,.pointer (some ⟨P.g, 0, none⟩),_,.pointer (some ⟨A.g, 0, none⟩),.pointer (some ⟨A.g, 0, none⟩),.pointer (some ⟨A.g, 4, none⟩),.agg (nsl B.ct).toArray,_,_,_,_,_,_,_,_,_,_,_], []⟩ _
  refine wpAnyH_ready (rs := [12]) (by kernel_rfl) (by simp) ?_
  refine AllReadyH.cons rfl (fun K hK => ?_) AllReadyH.nil
  go_simp
  refine (countsQ P B _ (SS.out _ HB.out).2.p).mono ?_
  rintro e u4 ⟨rfl, bb⟩
  replace HB := hide (belowOn HB.out bb)
  refine hK.out _ _ (TT.out _ HB.out) (fun hHeld => ?_)
  clear hK K bb
  change wpAnyH _ _ _ _ _ _ _ ⟨#[.pointer (some ⟨P.g, 0, none⟩),.pointer (some ⟨A.g, 0, none⟩),.int .i64 p,_,_,_,_,.bool true,_,_,_,_,_,_,_,_,_,_,_,.bool true,.bool true,.pointer (some ⟨P.g, 0, none⟩),.int .i64 p,.int .i64 (sta B p),.pointer (some ⟨A.g, 0, none⟩),.int .i64 p,.int .i64 (sta B p),.bool true,.bool true,.bool true,.pointer (some ⟨P.g, 0, none⟩),.agg (nsl B.ct).toArray,.pointer (some ⟨A.g, 0, none⟩),.pointer (some ⟨A.g, 0, none⟩),.pointer (some ⟨A.g, 4, none⟩),.agg (nsl B.ct).toArray,_,_,_,_,_,_,_,_,_,_,_], []⟩ _
  refine wpAnyH_take (i := 17) (v := .bool true) rfl (by kernel_rfl) (by kernel_rfl) (by kernel_rfl) (fun _ _ _ h => h) (Or.inl ⟨by rfl, ?_⟩) hHeld ?_
  · intro W hW; (try dsimp only at hW); have he := eq9 B.ct HCL.out; go_simp
  change wpAnyH _ _ _ _ _ _ _ ⟨#[.pointer (some ⟨P.g, 0, none⟩),.pointer (some ⟨A.g, 0, none⟩),.int .i64 p,_,_,_,_,.bool true,_,_,_,_,_,_,_,_,_,_,_,.bool true,.bool true,.pointer (some ⟨P.g, 0, none⟩),.int .i64 p,.int .i64 (sta B p),.pointer (some ⟨A.g, 0, none⟩),.int .i64 p,.int .i64 (sta B p),.bool true,.bool true,.bool true,.pointer (some ⟨P.g, 0, none⟩),.agg (nsl B.ct).toArray,.pointer (some ⟨A.g, 0, none⟩),.pointer (some ⟨A.g, 0, none⟩),.pointer (some ⟨A.g, 4, none⟩),.agg (nsl B.ct).toArray,.bool true,_,_,_,_,_,_,_,_,_,_], []⟩ _
  refine wpAnyH_take (i := 18) (v := .bool true) rfl (by kernel_rfl) (by kernel_rfl) (by kernel_rfl) (fun _ _ _ h => h) (Or.inl ⟨by rfl, ?_⟩) hHeld ?_
  · intro W hW; (try dsimp only at hW); go_simp
  change wpAnyH _ _ _ _ _ _ _ ⟨#[.pointer (some ⟨P.g, 0, none⟩),.pointer (some ⟨A.g, 0, none⟩),.int .i64 p,_,_,_,_,.bool true,_,_,_,_,_,_,_,_,_,_,_,.bool true,.bool true,.pointer (some ⟨P.g, 0, none⟩),.int .i64 p,.int .i64 (sta B p),.pointer (some ⟨A.g, 0, none⟩),.int .i64 p,.int .i64 (sta B p),.bool true,.bool true,.bool true,.pointer (some ⟨P.g, 0, none⟩),.agg (nsl B.ct).toArray,.pointer (some ⟨A.g, 0, none⟩),.pointer (some ⟨A.g, 0, none⟩),.pointer (some ⟨A.g, 4, none⟩),.agg (nsl B.ct).toArray,.bool true,.bool true,_,_,_,_,_,_,_,_,_], []⟩ _
  refine wpAnyH_take (i := 19) (v := .bool true) rfl (by kernel_rfl) (by kernel_rfl) (by kernel_rfl) (fun _ _ _ h => h) (Or.inl ⟨by rfl, ?_⟩) hHeld ?_
  · intro W hW; (try dsimp only at hW); go_simp
  change wpAnyH _ _ _ _ _ _ _ ⟨#[.pointer (some ⟨P.g, 0, none⟩),.pointer (some ⟨A.g, 0, none⟩),.int .i64 p,_,_,_,_,.bool true,_,_,_,_,_,_,_,_,_,_,_,.bool true,.bool true,.pointer (some ⟨P.g, 0, none⟩),.int .i64 p,.int .i64 (sta B p),.pointer (some ⟨A.g, 0, none⟩),.int .i64 p,.int .i64 (sta B p),.bool true,.bool true,.bool true,.pointer (some ⟨P.g, 0, none⟩),.agg (nsl B.ct).toArray,.pointer (some ⟨A.g, 0, none⟩),.pointer (some ⟨A.g, 0, none⟩),.pointer (some ⟨A.g, 4, none⟩),.agg (nsl B.ct).toArray,.bool true,.bool true,.bool true,_,_,_,_,_,_,_,_], []⟩ _
  refine wpAnyH_take (i := 20) (v := .pointer (some ⟨P.g, 0, none⟩)) rfl (by kernel_rfl) (by kernel_rfl) (by kernel_rfl) (fun _ _ _ h => h) (Or.inl ⟨by rfl, ?_⟩) hHeld ?_
  · intro W hW; (try dsimp only at hW); go_simp
  change wpAnyH _ _ _ _ _ _ _ ⟨#[.pointer (some ⟨P.g, 0, none⟩),.pointer (some ⟨A.g, 0, none⟩),.int .i64 p,_,_,_,_,.bool true,_,_,_,_,_,_,_,_,_,_,_,.bool true,.bool true,.pointer (some ⟨P.g, 0, none⟩),.int .i64 p,.int .i64 (sta B p),.pointer (some ⟨A.g, 0, none⟩),.int .i64 p,.int .i64 (sta B p),.bool true,.bool true,.bool true,.pointer (some ⟨P.g, 0, none⟩),.agg (nsl B.ct).toArray,.pointer (some ⟨A.g, 0, none⟩),.pointer (some ⟨A.g, 0, none⟩),.pointer (some ⟨A.g, 4, none⟩),.agg (nsl B.ct).toArray,.bool true,.bool true,.bool true,.pointer (some ⟨P.g, 0, none⟩),_,_,_,_,_,_,_], []⟩ _
  refine wpAnyH_take (i := 22) (v := .pointer (some ⟨A.g, 0, none⟩)) rfl (by kernel_rfl) (by kernel_rfl) (by kernel_rfl) (fun _ _ _ h => h) (Or.inl ⟨by rfl, ?_⟩) hHeld ?_
  · intro W hW; (try dsimp only at hW); go_simp
  change wpAnyH _ _ _ _ _ _ _ ⟨#[.pointer (some ⟨P.g, 0, none⟩),.pointer (some ⟨A.g, 0, none⟩),.int .i64 p,_,_,_,_,.bool true,_,_,_,_,_,_,_,_,_,_,_,.bool true,.bool true,.pointer (some ⟨P.g, 0, none⟩),.int .i64 p,.int .i64 (sta B p),.pointer (some ⟨A.g, 0, none⟩),.int .i64 p,.int .i64 (sta B p),.bool true,.bool true,.bool true,.pointer (some ⟨P.g, 0, none⟩),.agg (nsl B.ct).toArray,.pointer (some ⟨A.g, 0, none⟩),.pointer (some ⟨A.g, 0, none⟩),.pointer (some ⟨A.g, 4, none⟩),.agg (nsl B.ct).toArray,.bool true,.bool true,.bool true,.pointer (some ⟨P.g, 0, none⟩),_,.pointer (some ⟨A.g, 0, none⟩),_,_,_,_,_], []⟩ _
  refine wpAnyH_take (i := 23) (v := .pointer (some ⟨A.g, 0, none⟩)) rfl (by kernel_rfl) (by kernel_rfl) (by kernel_rfl) (fun _ _ _ h => h) (Or.inl ⟨by rfl, ?_⟩) hHeld ?_
  · intro W hW; (try dsimp only at hW); go_simp
  change wpAnyH _ _ _ _ _ _ _ ⟨#[.pointer (some ⟨P.g, 0, none⟩),.pointer (some ⟨A.g, 0, none⟩),.int .i64 p,_,_,_,_,.bool true,_,_,_,_,_,_,_,_,_,_,_,.bool true,.bool true,.pointer (some ⟨P.g, 0, none⟩),.int .i64 p,.int .i64 (sta B p),.pointer (some ⟨A.g, 0, none⟩),.int .i64 p,.int .i64 (sta B p),.bool true,.bool true,.bool true,.pointer (some ⟨P.g, 0, none⟩),.agg (nsl B.ct).toArray,.pointer (some ⟨A.g, 0, none⟩),.pointer (some ⟨A.g, 0, none⟩),.pointer (some ⟨A.g, 4, none⟩),.agg (nsl B.ct).toArray,.bool true,.bool true,.bool true,.pointer (some ⟨P.g, 0, none⟩),_,.pointer (some ⟨A.g, 0, none⟩),.pointer (some ⟨A.g, 0, none⟩),_,_,_,_], []⟩ _
  refine wpAnyH_take (i := 24) (v := .pointer (some ⟨A.g, 13, none⟩)) rfl (by kernel_rfl) (by kernel_rfl) (by kernel_rfl) (fun _ _ _ h => h) (Or.inl ⟨by rfl, ?_⟩) hHeld ?_
  · intro W hW; (try dsimp only at hW); go_simp
  change wpAnyH _ _ _ _ _ _ _ ⟨#[.pointer (some ⟨P.g, 0, none⟩),.pointer (some ⟨A.g, 0, none⟩),.int .i64 p,_,_,_,_,.bool true,_,_,_,_,_,_,_,_,_,_,_,.bool true,.bool true,.pointer (some ⟨P.g, 0, none⟩),.int .i64 p,.int .i64 (sta B p),.pointer (some ⟨A.g, 0, none⟩),.int .i64 p,.int .i64 (sta B p),.bool true,.bool true,.bool true,.pointer (some ⟨P.g, 0, none⟩),.agg (nsl B.ct).toArray,.pointer (some ⟨A.g, 0, none⟩),.pointer (some ⟨A.g, 0, none⟩),.pointer (some ⟨A.g, 4, none⟩),.agg (nsl B.ct).toArray,.bool true,.bool true,.bool true,.pointer (some ⟨P.g, 0, none⟩),_,.pointer (some ⟨A.g, 0, none⟩),.pointer (some ⟨A.g, 0, none⟩),.pointer (some ⟨A.g, 13, none⟩),_,_,_], []⟩ _
  refine wpAnyH_take (i := 25) (v := .agg (nsl B.ln).toArray) rfl (by kernel_rfl) (by kernel_rfl) (by kernel_rfl) (fun _ _ _ h => h) (yieldsIf_load_mid (by rfl) 81 (.tmp 43) rfl A.g 13 rfl (nsl B.ln) _ (fun W hW => hW.2) Tryz.underlying81 rfl (by rw [show (nsl B.ln).length = B.ln.length by simp [nsl], HLL.out]; exact Tryz.size81)) hHeld ?_
  change wpAnyH _ _ _ _ _ _ _ ⟨#[.pointer (some ⟨P.g, 0, none⟩),.pointer (some ⟨A.g, 0, none⟩),.int .i64 p,_,_,_,_,.bool true,_,_,_,_,_,_,_,_,_,_,_,.bool true,.bool true,.pointer (some ⟨P.g, 0, none⟩),.int .i64 p,.int .i64 (sta B p),.pointer (some ⟨A.g, 0, none⟩),.int .i64 p,.int .i64 (sta B p),.bool true,.bool true,.bool true,.pointer (some ⟨P.g, 0, none⟩),.agg (nsl B.ct).toArray,.pointer (some ⟨A.g, 0, none⟩),.pointer (some ⟨A.g, 0, none⟩),.pointer (some ⟨A.g, 4, none⟩),.agg (nsl B.ct).toArray,.bool true,.bool true,.bool true,.pointer (some ⟨P.g, 0, none⟩),_,.pointer (some ⟨A.g, 0, none⟩),.pointer (some ⟨A.g, 0, none⟩),.pointer (some ⟨A.g, 13, none⟩),.agg (nsl B.ln).toArray,_,_], []⟩ _
  refine wpAnyH_ready (rs := [21]) (by kernel_rfl) (by simp) ?_
  refine AllReadyH.cons rfl (fun K hK => ?_) AllReadyH.nil
  go_simp
  refine (learnedQ P B _ (SS.out _ HB.out).2.p).mono ?_
  rintro e u5 ⟨rfl, bb⟩
  replace HB := hide (belowOn HB.out bb)
  refine hK.out _ _ (TT.out _ HB.out) (fun hHeld => ?_)
  clear hK K bb
  change wpAnyH _ _ _ _ _ _ _ ⟨#[.pointer (some ⟨P.g, 0, none⟩),.pointer (some ⟨A.g, 0, none⟩),.int .i64 p,_,_,_,_,.bool true,_,_,_,_,_,_,_,_,_,_,_,.bool true,.bool true,.pointer (some ⟨P.g, 0, none⟩),.int .i64 p,.int .i64 (sta B p),.pointer (some ⟨A.g, 0, none⟩),.int .i64 p,.int .i64 (sta B p),.bool true,.bool true,.bool true,.pointer (some ⟨P.g, 0, none⟩),.agg (nsl B.ct).toArray,.pointer (some ⟨A.g, 0, none⟩),.pointer (some ⟨A.g, 0, none⟩),.pointer (some ⟨A.g, 4, none⟩),.agg (nsl B.ct).toArray,.bool true,.bool true,.bool true,.pointer (some ⟨P.g, 0, none⟩),.agg (nsl B.ln).toArray,.pointer (some ⟨A.g, 0, none⟩),.pointer (some ⟨A.g, 0, none⟩),.pointer (some ⟨A.g, 13, none⟩),.agg (nsl B.ln).toArray,_,_], []⟩ _
  refine wpAnyH_take (i := 26) (v := .bool true) rfl (by kernel_rfl) (by kernel_rfl) (by kernel_rfl) (fun _ _ _ h => h) (Or.inl ⟨by rfl, ?_⟩) hHeld ?_
  · intro W hW; (try dsimp only at hW); have he := eq3 B.ln HLL.out; go_simp
  change wpAnyH _ _ _ _ _ _ _ ⟨#[.pointer (some ⟨P.g, 0, none⟩),.pointer (some ⟨A.g, 0, none⟩),.int .i64 p,_,_,_,_,.bool true,_,_,_,_,_,_,_,_,_,_,_,.bool true,.bool true,.pointer (some ⟨P.g, 0, none⟩),.int .i64 p,.int .i64 (sta B p),.pointer (some ⟨A.g, 0, none⟩),.int .i64 p,.int .i64 (sta B p),.bool true,.bool true,.bool true,.pointer (some ⟨P.g, 0, none⟩),.agg (nsl B.ct).toArray,.pointer (some ⟨A.g, 0, none⟩),.pointer (some ⟨A.g, 0, none⟩),.pointer (some ⟨A.g, 4, none⟩),.agg (nsl B.ct).toArray,.bool true,.bool true,.bool true,.pointer (some ⟨P.g, 0, none⟩),.agg (nsl B.ln).toArray,.pointer (some ⟨A.g, 0, none⟩),.pointer (some ⟨A.g, 0, none⟩),.pointer (some ⟨A.g, 13, none⟩),.agg (nsl B.ln).toArray,.bool true,_], []⟩ _
  refine wpAnyH_take (i := 27) (v := .bool true) rfl (by kernel_rfl) (by kernel_rfl) (by kernel_rfl) (fun _ _ _ h => h) (Or.inl ⟨by rfl, ?_⟩) hHeld ?_
  · intro W hW; (try dsimp only at hW); go_simp
  change wpAnyH _ _ _ _ _ _ _ ⟨#[.pointer (some ⟨P.g, 0, none⟩),.pointer (some ⟨A.g, 0, none⟩),.int .i64 p,_,_,_,_,.bool true,_,_,_,_,_,_,_,_,_,_,_,.bool true,.bool true,.pointer (some ⟨P.g, 0, none⟩),.int .i64 p,.int .i64 (sta B p),.pointer (some ⟨A.g, 0, none⟩),.int .i64 p,.int .i64 (sta B p),.bool true,.bool true,.bool true,.pointer (some ⟨P.g, 0, none⟩),.agg (nsl B.ct).toArray,.pointer (some ⟨A.g, 0, none⟩),.pointer (some ⟨A.g, 0, none⟩),.pointer (some ⟨A.g, 4, none⟩),.agg (nsl B.ct).toArray,.bool true,.bool true,.bool true,.pointer (some ⟨P.g, 0, none⟩),.agg (nsl B.ln).toArray,.pointer (some ⟨A.g, 0, none⟩),.pointer (some ⟨A.g, 0, none⟩),.pointer (some ⟨A.g, 13, none⟩),.agg (nsl B.ln).toArray,.bool true,.bool true], []⟩ _
  refine wpAnyH_take (i := 28) (v := .bool true) rfl (by kernel_rfl) (by kernel_rfl) (by kernel_rfl) (fun _ _ _ h => h) (Or.inl ⟨by rfl, ?_⟩) hHeld ?_
  · intro W hW; (try dsimp only at hW); go_simp
  change wpAnyH _ _ _ _ _ _ _ ⟨#[.pointer (some ⟨P.g, 0, none⟩),.pointer (some ⟨A.g, 0, none⟩),.int .i64 p,_,_,_,.bool true,.bool true,_,_,_,_,_,_,_,_,_,_,_,.bool true,.bool true,.pointer (some ⟨P.g, 0, none⟩),.int .i64 p,.int .i64 (sta B p),.pointer (some ⟨A.g, 0, none⟩),.int .i64 p,.int .i64 (sta B p),.bool true,.bool true,.bool true,.pointer (some ⟨P.g, 0, none⟩),.agg (nsl B.ct).toArray,.pointer (some ⟨A.g, 0, none⟩),.pointer (some ⟨A.g, 0, none⟩),.pointer (some ⟨A.g, 4, none⟩),.agg (nsl B.ct).toArray,.bool true,.bool true,.bool true,.pointer (some ⟨P.g, 0, none⟩),.agg (nsl B.ln).toArray,.pointer (some ⟨A.g, 0, none⟩),.pointer (some ⟨A.g, 0, none⟩),.pointer (some ⟨A.g, 13, none⟩),.agg (nsl B.ln).toArray,.bool true,.bool true], []⟩ _
  refine wpAnyH_done (by kernel_rfl) ?_ _
  go_wp2
  go_ret
  exact ⟨rfl, HB.out⟩
end Go.Proofs.YtgpdjfaklcmoiaaGreat
