/- LacpduOnce: for every two LACPDUs the law answers true, and both read behind the call as they read before. No condition. -/
import Derived.Test.YtaehhhknpbbmkaaA6
import Derived.Test.YtaehhhknpbbmkaaA8
import Derived.Test.YtaehhhknpbbmkaaOp
namespace Go.Proofs.Ytaehhhknpbbmkaa
open Go.ChangeShapes Go.WideShapes Go.ChangeAt Go.RowKit

theorem leq_enc {l m : Lac} (hl : LacB l) (hm : LacB m) (kl : lrt l = true) (km : lrt m = true) : ((bs (enc l)).toList == (bs (enc m)).toList) = leq l m := by
  rw [bs_beq (enc_rng hl kl) (enc_rng hm km), Bool.eq_iff_iff, decide_eq_true_eq, leq_iff]
  exact ⟨enc_inj kl km, fun h => by rw [h]⟩
set_option maxRecDepth 100000 in
set_option maxHeartbeats 4000000 in
theorem once1 (l m : Lac) (w : World) (hm : LacB m) (kl : lrt l = false) :
    Calls Try.prog 8 #[.agg (LC l), .agg (LC m)] w fun e w' => e = .returned (.bool true) ∧ Below w.heap.size w w' := by
  have A0 : Box ((w.alloc (.cells (LC l) 27)).alloc (.cells (LC m) 27)) w.heap.size (lcl l) := (Box.new w (lcl l) 27).alloc _
  have B0 : Box ((w.alloc (.cells (LC l) 27)).alloc (.cells (LC m) 27)) (w.heap.size + 1) (lcl m) := by
    have h := Box.new (w.alloc (.cells (LC l) 27)) (lcl m) 27
    rw [World.size_alloc] at h
    exact h
  have W0 := (below_alloc w (.cells (LC l) 27)).alloc (by simp) (.cells (LC m) 27)
  go_enter Try.func8, Try.ntmps8
  go_wp2_with fail
  refine (awake9 _).mono ?_
  rintro e w1 ⟨rfl, hb1⟩
  replace A0 := A0.on hb1; replace B0 := B0.on hb1; replace W0 := belowOn W0 hb1
  clear hb1
  go_wp2_with (refine wpl_lacp (.tmp 2) rfl A0 ?_ ?_ ?_; rfl; rfl)
  refine (encode10_no l _ kl).mono ?_
  rintro e w2 ⟨rfl, hb1⟩
  replace A0 := A0.on hb1; replace B0 := B0.on hb1; replace W0 := belowOn W0 hb1
  clear hb1
  go_wp2_with (refine wpl_lacp (.tmp 3) rfl B0 ?_ ?_ ?_; rfl; rfl)
  refine (encode10 m _ hm).mono ?_
  rintro e w3 ⟨a2, n2, c2, rfl, Y2, hb1⟩
  replace W0 := belowOn W0 hb1
  clear hb1 A0 B0 Y2
  go_wp2
  go_ret
  exact ⟨rfl, W0⟩
set_option maxRecDepth 100000 in
set_option maxHeartbeats 4000000 in
theorem once2 (l m : Lac) (w : World) (hl : LacB l) (kl : lrt l = true) (km : lrt m = false) :
    Calls Try.prog 8 #[.agg (LC l), .agg (LC m)] w fun e w' => e = .returned (.bool true) ∧ Below w.heap.size w w' := by
  have A0 : Box ((w.alloc (.cells (LC l) 27)).alloc (.cells (LC m) 27)) w.heap.size (lcl l) := (Box.new w (lcl l) 27).alloc _
  have B0 : Box ((w.alloc (.cells (LC l) 27)).alloc (.cells (LC m) 27)) (w.heap.size + 1) (lcl m) := by
    have h := Box.new (w.alloc (.cells (LC l) 27)) (lcl m) 27
    rw [World.size_alloc] at h
    exact h
  have W0 := (below_alloc w (.cells (LC l) 27)).alloc (by simp) (.cells (LC m) 27)
  go_enter Try.func8, Try.ntmps8
  go_wp2_with fail
  refine (awake9 _).mono ?_
  rintro e w1 ⟨rfl, hb1⟩
  replace A0 := A0.on hb1; replace B0 := B0.on hb1; replace W0 := belowOn W0 hb1
  clear hb1
  go_wp2_with (refine wpl_lacp (.tmp 2) rfl A0 ?_ ?_ ?_; rfl; rfl)
  refine (encode10_yes l _ hl kl).mono ?_
  rintro e w2 ⟨g1, c1, rfl, Y1, hb1⟩
  replace A0 := A0.on hb1; replace B0 := B0.on hb1; replace W0 := belowOn W0 hb1
  clear hb1
  go_wp2_with (refine wpl_lacp (.tmp 3) rfl B0 ?_ ?_ ?_; rfl; rfl)
  refine (encode10_no m _ km).mono ?_
  rintro e w3 ⟨rfl, hb1⟩
  replace A0 := A0.on hb1; replace B0 := B0.on hb1; replace W0 := belowOn W0 hb1
  clear hb1
  clear A0 B0 Y1
  go_wp2
  go_ret
  exact ⟨rfl, W0⟩
set_option maxRecDepth 100000 in
set_option maxHeartbeats 4000000 in
theorem once3 (l m : Lac) (w : World) (hl : LacB l) (hm : LacB m) (kl : lrt l = true) (km : lrt m = true) :
    Calls Try.prog 8 #[.agg (LC l), .agg (LC m)] w fun e w' => e = .returned (.bool true) ∧ Below w.heap.size w w' := by
  have HQ := hide (leq_enc hl hm kl km)
  have A0 : Box ((w.alloc (.cells (LC l) 27)).alloc (.cells (LC m) 27)) w.heap.size (lcl l) := (Box.new w (lcl l) 27).alloc _
  have B0 : Box ((w.alloc (.cells (LC l) 27)).alloc (.cells (LC m) 27)) (w.heap.size + 1) (lcl m) := by
    have h := Box.new (w.alloc (.cells (LC l) 27)) (lcl m) 27
    rw [World.size_alloc] at h
    exact h
  have W0 := (below_alloc w (.cells (LC l) 27)).alloc (by simp) (.cells (LC m) 27)
  go_enter Try.func8, Try.ntmps8
  go_wp2_with fail
  refine (awake9 _).mono ?_
  rintro e w1 ⟨rfl, hb1⟩
  replace A0 := A0.on hb1; replace B0 := B0.on hb1; replace W0 := belowOn W0 hb1
  clear hb1
  go_wp2_with (refine wpl_lacp (.tmp 2) rfl A0 ?_ ?_ ?_; rfl; rfl)
  refine (encode10_yes l _ hl kl).mono ?_
  rintro e w2 ⟨g1, c1, rfl, Y1, hb1⟩
  replace A0 := A0.on hb1; replace B0 := B0.on hb1; replace W0 := belowOn W0 hb1
  clear hb1
  go_wp2_with (refine wpl_lacp (.tmp 3) rfl B0 ?_ ?_ ?_; rfl; rfl)
  refine (encode10_yes m _ hm km).mono ?_
  rintro e w3 ⟨g2, c2, rfl, Y2, hb1⟩
  replace A0 := A0.on hb1; replace B0 := B0.on hb1; replace W0 := belowOn W0 hb1
  replace Y1 := Y1.on hb1
  clear hb1
  replace A0 := A0.drew; replace B0 := B0.drew; replace Y1 := Y1.drew; replace Y2 := Y2.drew; replace W0 := W0.drew
  have he := eqL l m
  have hc1 : ∀ W, Byt W (some ⟨g1, 0, none⟩) 110 c1 (enc l) → (convert 29 9 (.slice (some ⟨g1, 0, none⟩) 110 c1)).run Try.prog W = .ok (.string (bs (enc l))) W := fun W h => bytStr h
  have hc2 : ∀ W, Byt W (some ⟨g2, 0, none⟩) 110 c2 (enc m) → (convert 29 9 (.slice (some ⟨g2, 0, none⟩) 110 c2)).run Try.prog W = .ok (.string (bs (enc m))) W := fun W h => bytStr h
  have hq := HQ.out
  generalize enc l = el at *
  generalize enc m = em at *
  go_wp2_with fail
  refine wp_region_held_drew (S := fun w' => (Box w' w.heap.size (lcl l) ∧ Box w' (w.heap.size + 1) (lcl m)) ∧ Byt w' (some ⟨g1, 0, none⟩) 110 c1 el ∧ Byt w' (some ⟨g2, 0, none⟩) 110 c2 em) (by kernel_rfl) ⟨⟨A0, B0⟩, Y1, Y2⟩ (fun hHeld => ?_)
  refine wpAnyH_take (i := 0) (v := .slice (some ⟨g1, 0, none⟩) 110 c1) rfl (by kernel_rfl) (by kernel_rfl) (by kernel_rfl) (fun _ _ _ h => h) (Or.inl ⟨by rfl, ?_⟩) hHeld ?_
  · intro W hW; clear hW; go_simp
  change wpAnyH _ _ _ _ _ _ _ ⟨#[.agg (LC l), .agg (LC m), .pointer (some ⟨w.heap.size, 0, none⟩), .pointer (some ⟨w.heap.size + 1, 0, none⟩), .bool false, .bool true, .slice (some ⟨g1, 0, none⟩) 110 c1, .int .i64 0, .slice (some ⟨g2, 0, none⟩) 110 c2, .int .i64 0, .bool true, .tuple #[.slice (some ⟨g1, 0, none⟩) 110 c1, .int .i64 0], .agg (LC l), .tuple #[.slice (some ⟨g1, 0, none⟩) 110 c1, .int .i64 0], .slice (some ⟨g1, 0, none⟩) 110 c1, .int .i64 0, .tuple #[.slice (some ⟨g2, 0, none⟩) 110 c2, .int .i64 0], .agg (LC m), .tuple #[.slice (some ⟨g2, 0, none⟩) 110 c2, .int .i64 0], .slice (some ⟨g2, 0, none⟩) 110 c2, .int .i64 0, .bool true, .bool false, .bool false, .int .i64 0, .bool false, .bool false, .bool false, .int .i64 0, .bool false, .bool false, undef, .slice (some ⟨g1, 0, none⟩) 110 c1, undef, undef, undef, undef, undef, undef, undef, undef, undef, undef, undef, undef, undef], []⟩ _
  refine wpAnyH_take (i := 1) (v := .int .i64 110) rfl (by kernel_rfl) (by kernel_rfl) (by kernel_rfl) (fun _ _ _ h => h) (Or.inl ⟨by rfl, ?_⟩) hHeld ?_
  · intro W hW; clear hW; go_simp
  change wpAnyH _ _ _ _ _ _ _ ⟨#[.agg (LC l), .agg (LC m), .pointer (some ⟨w.heap.size, 0, none⟩), .pointer (some ⟨w.heap.size + 1, 0, none⟩), .bool false, .bool true, .slice (some ⟨g1, 0, none⟩) 110 c1, .int .i64 0, .slice (some ⟨g2, 0, none⟩) 110 c2, .int .i64 0, .bool true, .tuple #[.slice (some ⟨g1, 0, none⟩) 110 c1, .int .i64 0], .agg (LC l), .tuple #[.slice (some ⟨g1, 0, none⟩) 110 c1, .int .i64 0], .slice (some ⟨g1, 0, none⟩) 110 c1, .int .i64 0, .tuple #[.slice (some ⟨g2, 0, none⟩) 110 c2, .int .i64 0], .agg (LC m), .tuple #[.slice (some ⟨g2, 0, none⟩) 110 c2, .int .i64 0], .slice (some ⟨g2, 0, none⟩) 110 c2, .int .i64 0, .bool true, .bool false, .bool false, .int .i64 0, .bool false, .bool false, .bool false, .int .i64 0, .bool false, .bool false, undef, .slice (some ⟨g1, 0, none⟩) 110 c1, .int .i64 110, undef, undef, undef, undef, undef, undef, undef, undef, undef, undef, undef, undef], []⟩ _
  refine wpAnyH_take (i := 2) (v := .bool true) rfl (by kernel_rfl) (by kernel_rfl) (by kernel_rfl) (fun _ _ _ h => h) (Or.inl ⟨by rfl, ?_⟩) hHeld ?_
  · intro W hW; clear hW; go_simp
  change wpAnyH _ _ _ _ _ _ _ ⟨#[.agg (LC l), .agg (LC m), .pointer (some ⟨w.heap.size, 0, none⟩), .pointer (some ⟨w.heap.size + 1, 0, none⟩), .bool false, .bool true, .slice (some ⟨g1, 0, none⟩) 110 c1, .int .i64 0, .slice (some ⟨g2, 0, none⟩) 110 c2, .int .i64 0, .bool true, .tuple #[.slice (some ⟨g1, 0, none⟩) 110 c1, .int .i64 0], .agg (LC l), .tuple #[.slice (some ⟨g1, 0, none⟩) 110 c1, .int .i64 0], .slice (some ⟨g1, 0, none⟩) 110 c1, .int .i64 0, .tuple #[.slice (some ⟨g2, 0, none⟩) 110 c2, .int .i64 0], .agg (LC m), .tuple #[.slice (some ⟨g2, 0, none⟩) 110 c2, .int .i64 0], .slice (some ⟨g2, 0, none⟩) 110 c2, .int .i64 0, .bool true, .bool false, .bool false, .int .i64 0, .bool false, .bool false, .bool false, .int .i64 0, .bool false, .bool false, undef, .slice (some ⟨g1, 0, none⟩) 110 c1, .int .i64 110, .bool true, undef, undef, undef, undef, undef, undef, undef, undef, undef, undef, undef], []⟩ _
  refine wpAnyH_take (i := 3) (v := .bool true) rfl (by kernel_rfl) (by kernel_rfl) (by kernel_rfl) (fun _ _ _ h => h) (Or.inl ⟨by rfl, ?_⟩) hHeld ?_
  · intro W hW; clear hW; go_simp
  change wpAnyH _ _ _ _ _ _ _ ⟨#[.agg (LC l), .agg (LC m), .pointer (some ⟨w.heap.size, 0, none⟩), .pointer (some ⟨w.heap.size + 1, 0, none⟩), .bool false, .bool true, .slice (some ⟨g1, 0, none⟩) 110 c1, .int .i64 0, .slice (some ⟨g2, 0, none⟩) 110 c2, .int .i64 0, .bool true, .tuple #[.slice (some ⟨g1, 0, none⟩) 110 c1, .int .i64 0], .agg (LC l), .tuple #[.slice (some ⟨g1, 0, none⟩) 110 c1, .int .i64 0], .slice (some ⟨g1, 0, none⟩) 110 c1, .int .i64 0, .tuple #[.slice (some ⟨g2, 0, none⟩) 110 c2, .int .i64 0], .agg (LC m), .tuple #[.slice (some ⟨g2, 0, none⟩) 110 c2, .int .i64 0], .slice (some ⟨g2, 0, none⟩) 110 c2, .int .i64 0, .bool true, .bool false, .bool false, .int .i64 0, .bool false, .bool false, .bool false, .int .i64 0, .bool false, .bool false, undef, .slice (some ⟨g1, 0, none⟩) 110 c1, .int .i64 110, .bool true, .bool true, undef, undef, undef, undef, undef, undef, undef, undef, undef, undef], []⟩ _
  refine wpAnyH_take (i := 4) (v := .slice (some ⟨g1, 0, none⟩) 110 c1) rfl (by kernel_rfl) (by kernel_rfl) (by kernel_rfl) (fun _ _ _ h => h) (Or.inl ⟨by rfl, ?_⟩) hHeld ?_
  · intro W hW; clear hW; go_simp
  change wpAnyH _ _ _ _ _ _ _ ⟨#[.agg (LC l), .agg (LC m), .pointer (some ⟨w.heap.size, 0, none⟩), .pointer (some ⟨w.heap.size + 1, 0, none⟩), .bool false, .bool true, .slice (some ⟨g1, 0, none⟩) 110 c1, .int .i64 0, .slice (some ⟨g2, 0, none⟩) 110 c2, .int .i64 0, .bool true, .tuple #[.slice (some ⟨g1, 0, none⟩) 110 c1, .int .i64 0], .agg (LC l), .tuple #[.slice (some ⟨g1, 0, none⟩) 110 c1, .int .i64 0], .slice (some ⟨g1, 0, none⟩) 110 c1, .int .i64 0, .tuple #[.slice (some ⟨g2, 0, none⟩) 110 c2, .int .i64 0], .agg (LC m), .tuple #[.slice (some ⟨g2, 0, none⟩) 110 c2, .int .i64 0], .slice (some ⟨g2, 0, none⟩) 110 c2, .int .i64 0, .bool true, .bool false, .bool false, .int .i64 0, .bool false, .bool false, .bool false, .int .i64 0, .bool false, .bool false, undef, .slice (some ⟨g1, 0, none⟩) 110 c1, .int .i64 110, .bool true, .bool true, .slice (some ⟨g1, 0, none⟩) 110 c1, undef, undef, undef, undef, undef, undef, undef, undef, undef], []⟩ _
  refine wpAnyH_take (i := 5) (v := .string (bs el)) rfl (by kernel_rfl) (by kernel_rfl) (by kernel_rfl) (fun _ _ _ h => h) (Or.inl ⟨by rfl, ?_⟩) hHeld ?_
  · intro W hW; obtain ⟨hW0, hW1, hW2⟩ := hW; clear hW0; go_simp
  change wpAnyH _ _ _ _ _ _ _ ⟨#[.agg (LC l), .agg (LC m), .pointer (some ⟨w.heap.size, 0, none⟩), .pointer (some ⟨w.heap.size + 1, 0, none⟩), .bool false, .bool true, .slice (some ⟨g1, 0, none⟩) 110 c1, .int .i64 0, .slice (some ⟨g2, 0, none⟩) 110 c2, .int .i64 0, .bool true, .tuple #[.slice (some ⟨g1, 0, none⟩) 110 c1, .int .i64 0], .agg (LC l), .tuple #[.slice (some ⟨g1, 0, none⟩) 110 c1, .int .i64 0], .slice (some ⟨g1, 0, none⟩) 110 c1, .int .i64 0, .tuple #[.slice (some ⟨g2, 0, none⟩) 110 c2, .int .i64 0], .agg (LC m), .tuple #[.slice (some ⟨g2, 0, none⟩) 110 c2, .int .i64 0], .slice (some ⟨g2, 0, none⟩) 110 c2, .int .i64 0, .bool true, .bool false, .bool false, .int .i64 0, .bool false, .bool false, .bool false, .int .i64 0, .bool false, .bool false, undef, .slice (some ⟨g1, 0, none⟩) 110 c1, .int .i64 110, .bool true, .bool true, .slice (some ⟨g1, 0, none⟩) 110 c1, .string (bs el), undef, undef, undef, undef, undef, undef, undef, undef], []⟩ _
  refine wpAnyH_take (i := 6) (v := .slice (some ⟨g2, 0, none⟩) 110 c2) rfl (by kernel_rfl) (by kernel_rfl) (by kernel_rfl) (fun _ _ _ h => h) (Or.inl ⟨by rfl, ?_⟩) hHeld ?_
  · intro W hW; clear hW; go_simp
  change wpAnyH _ _ _ _ _ _ _ ⟨#[.agg (LC l), .agg (LC m), .pointer (some ⟨w.heap.size, 0, none⟩), .pointer (some ⟨w.heap.size + 1, 0, none⟩), .bool false, .bool true, .slice (some ⟨g1, 0, none⟩) 110 c1, .int .i64 0, .slice (some ⟨g2, 0, none⟩) 110 c2, .int .i64 0, .bool true, .tuple #[.slice (some ⟨g1, 0, none⟩) 110 c1, .int .i64 0], .agg (LC l), .tuple #[.slice (some ⟨g1, 0, none⟩) 110 c1, .int .i64 0], .slice (some ⟨g1, 0, none⟩) 110 c1, .int .i64 0, .tuple #[.slice (some ⟨g2, 0, none⟩) 110 c2, .int .i64 0], .agg (LC m), .tuple #[.slice (some ⟨g2, 0, none⟩) 110 c2, .int .i64 0], .slice (some ⟨g2, 0, none⟩) 110 c2, .int .i64 0, .bool true, .bool false, .bool false, .int .i64 0, .bool false, .bool false, .bool false, .int .i64 0, .bool false, .bool false, undef, .slice (some ⟨g1, 0, none⟩) 110 c1, .int .i64 110, .bool true, .bool true, .slice (some ⟨g1, 0, none⟩) 110 c1, .string (bs el), .slice (some ⟨g2, 0, none⟩) 110 c2, undef, undef, undef, undef, undef, undef, undef], []⟩ _
  refine wpAnyH_take (i := 7) (v := .string (bs em)) rfl (by kernel_rfl) (by kernel_rfl) (by kernel_rfl) (fun _ _ _ h => h) (Or.inl ⟨by rfl, ?_⟩) hHeld ?_
  · intro W hW; obtain ⟨hW0, hW1, hW2⟩ := hW; clear hW0; go_simp
  change wpAnyH _ _ _ _ _ _ _ ⟨#[.agg (LC l), .agg (LC m), .pointer (some ⟨w.heap.size, 0, none⟩), .pointer (some ⟨w.heap.size + 1, 0, none⟩), .bool false, .bool true, .slice (some ⟨g1, 0, none⟩) 110 c1, .int .i64 0, .slice (some ⟨g2, 0, none⟩) 110 c2, .int .i64 0, .bool true, .tuple #[.slice (some ⟨g1, 0, none⟩) 110 c1, .int .i64 0], .agg (LC l), .tuple #[.slice (some ⟨g1, 0, none⟩) 110 c1, .int .i64 0], .slice (some ⟨g1, 0, none⟩) 110 c1, .int .i64 0, .tuple #[.slice (some ⟨g2, 0, none⟩) 110 c2, .int .i64 0], .agg (LC m), .tuple #[.slice (some ⟨g2, 0, none⟩) 110 c2, .int .i64 0], .slice (some ⟨g2, 0, none⟩) 110 c2, .int .i64 0, .bool true, .bool false, .bool false, .int .i64 0, .bool false, .bool false, .bool false, .int .i64 0, .bool false, .bool false, undef, .slice (some ⟨g1, 0, none⟩) 110 c1, .int .i64 110, .bool true, .bool true, .slice (some ⟨g1, 0, none⟩) 110 c1, .string (bs el), .slice (some ⟨g2, 0, none⟩) 110 c2, .string (bs em), undef, undef, undef, undef, undef, undef], []⟩ _
  refine wpAnyH_take (i := 8) (v := .bool (leq l m)) rfl (by kernel_rfl) (by kernel_rfl) (by kernel_rfl) (fun _ _ _ h => h) (Or.inl ⟨by rfl, ?_⟩) hHeld ?_
  · intro W hW; clear hW; go_simp
  change wpAnyH _ _ _ _ _ _ _ ⟨#[.agg (LC l), .agg (LC m), .pointer (some ⟨w.heap.size, 0, none⟩), .pointer (some ⟨w.heap.size + 1, 0, none⟩), .bool false, .bool true, .slice (some ⟨g1, 0, none⟩) 110 c1, .int .i64 0, .slice (some ⟨g2, 0, none⟩) 110 c2, .int .i64 0, .bool true, .tuple #[.slice (some ⟨g1, 0, none⟩) 110 c1, .int .i64 0], .agg (LC l), .tuple #[.slice (some ⟨g1, 0, none⟩) 110 c1, .int .i64 0], .slice (some ⟨g1, 0, none⟩) 110 c1, .int .i64 0, .tuple #[.slice (some ⟨g2, 0, none⟩) 110 c2, .int .i64 0], .agg (LC m), .tuple #[.slice (some ⟨g2, 0, none⟩) 110 c2, .int .i64 0], .slice (some ⟨g2, 0, none⟩) 110 c2, .int .i64 0, .bool true, .bool false, .bool false, .int .i64 0, .bool false, .bool false, .bool false, .int .i64 0, .bool false, .bool false, undef, .slice (some ⟨g1, 0, none⟩) 110 c1, .int .i64 110, .bool true, .bool true, .slice (some ⟨g1, 0, none⟩) 110 c1, .string (bs el), .slice (some ⟨g2, 0, none⟩) 110 c2, .string (bs em), .bool (leq l m), undef, undef, undef, undef, undef], []⟩ _
  refine wpAnyH_take (i := 9) (v := .agg (LC l)) rfl (by kernel_rfl) (by kernel_rfl) (by kernel_rfl) (fun _ _ _ h => h) (yieldsIf_load_mid (by rfl) 27 (.tmp 2) rfl w.heap.size 0 rfl (lcl l) _ (fun W hW => hW.1.1.at_) Try.underlying27 rfl Try.size27) hHeld ?_
  change wpAnyH _ _ _ _ _ _ _ ⟨#[.agg (LC l), .agg (LC m), .pointer (some ⟨w.heap.size, 0, none⟩), .pointer (some ⟨w.heap.size + 1, 0, none⟩), .bool false, .bool true, .slice (some ⟨g1, 0, none⟩) 110 c1, .int .i64 0, .slice (some ⟨g2, 0, none⟩) 110 c2, .int .i64 0, .bool true, .tuple #[.slice (some ⟨g1, 0, none⟩) 110 c1, .int .i64 0], .agg (LC l), .tuple #[.slice (some ⟨g1, 0, none⟩) 110 c1, .int .i64 0], .slice (some ⟨g1, 0, none⟩) 110 c1, .int .i64 0, .tuple #[.slice (some ⟨g2, 0, none⟩) 110 c2, .int .i64 0], .agg (LC m), .tuple #[.slice (some ⟨g2, 0, none⟩) 110 c2, .int .i64 0], .slice (some ⟨g2, 0, none⟩) 110 c2, .int .i64 0, .bool true, .bool false, .bool false, .int .i64 0, .bool false, .bool false, .bool false, .int .i64 0, .bool false, .bool false, undef, .slice (some ⟨g1, 0, none⟩) 110 c1, .int .i64 110, .bool true, .bool true, .slice (some ⟨g1, 0, none⟩) 110 c1, .string (bs el), .slice (some ⟨g2, 0, none⟩) 110 c2, .string (bs em), .bool (leq l m), .agg (LC l), undef, undef, undef, undef], []⟩ _
  refine wpAnyH_take (i := 10) (v := .agg (LC m)) rfl (by kernel_rfl) (by kernel_rfl) (by kernel_rfl) (fun _ _ _ h => h) (yieldsIf_load_mid (by rfl) 27 (.tmp 3) rfl (w.heap.size + 1) 0 rfl (lcl m) _ (fun W hW => hW.1.2.at_) Try.underlying27 rfl Try.size27) hHeld ?_
  change wpAnyH _ _ _ _ _ _ _ ⟨#[.agg (LC l), .agg (LC m), .pointer (some ⟨w.heap.size, 0, none⟩), .pointer (some ⟨w.heap.size + 1, 0, none⟩), .bool false, .bool true, .slice (some ⟨g1, 0, none⟩) 110 c1, .int .i64 0, .slice (some ⟨g2, 0, none⟩) 110 c2, .int .i64 0, .bool true, .tuple #[.slice (some ⟨g1, 0, none⟩) 110 c1, .int .i64 0], .agg (LC l), .tuple #[.slice (some ⟨g1, 0, none⟩) 110 c1, .int .i64 0], .slice (some ⟨g1, 0, none⟩) 110 c1, .int .i64 0, .tuple #[.slice (some ⟨g2, 0, none⟩) 110 c2, .int .i64 0], .agg (LC m), .tuple #[.slice (some ⟨g2, 0, none⟩) 110 c2, .int .i64 0], .slice (some ⟨g2, 0, none⟩) 110 c2, .int .i64 0, .bool true, .bool false, .bool false, .int .i64 0, .bool false, .bool false, .bool false, .int .i64 0, .bool false, .bool false, undef, .slice (some ⟨g1, 0, none⟩) 110 c1, .int .i64 110, .bool true, .bool true, .slice (some ⟨g1, 0, none⟩) 110 c1, .string (bs el), .slice (some ⟨g2, 0, none⟩) 110 c2, .string (bs em), .bool (leq l m), .agg (LC l), .agg (LC m), undef, undef, undef], []⟩ _
  refine wpAnyH_take (i := 11) (v := .bool (leq l m)) rfl (by kernel_rfl) (by kernel_rfl) (by kernel_rfl) (fun _ _ _ h => h) (Or.inl ⟨by rfl, ?_⟩) hHeld ?_
  · intro W hW; clear hW; go_simp
  change wpAnyH _ _ _ _ _ _ _ ⟨#[.agg (LC l), .agg (LC m), .pointer (some ⟨w.heap.size, 0, none⟩), .pointer (some ⟨w.heap.size + 1, 0, none⟩), .bool false, .bool true, .slice (some ⟨g1, 0, none⟩) 110 c1, .int .i64 0, .slice (some ⟨g2, 0, none⟩) 110 c2, .int .i64 0, .bool true, .tuple #[.slice (some ⟨g1, 0, none⟩) 110 c1, .int .i64 0], .agg (LC l), .tuple #[.slice (some ⟨g1, 0, none⟩) 110 c1, .int .i64 0], .slice (some ⟨g1, 0, none⟩) 110 c1, .int .i64 0, .tuple #[.slice (some ⟨g2, 0, none⟩) 110 c2, .int .i64 0], .agg (LC m), .tuple #[.slice (some ⟨g2, 0, none⟩) 110 c2, .int .i64 0], .slice (some ⟨g2, 0, none⟩) 110 c2, .int .i64 0, .bool true, .bool false, .bool false, .int .i64 0, .bool false, .bool false, .bool false, .int .i64 0, .bool false, .bool false, undef, .slice (some ⟨g1, 0, none⟩) 110 c1, .int .i64 110, .bool true, .bool true, .slice (some ⟨g1, 0, none⟩) 110 c1, .string (bs el), .slice (some ⟨g2, 0, none⟩) 110 c2, .string (bs em), .bool (leq l m), .agg (LC l), .agg (LC m), .bool (leq l m), undef, undef], []⟩ _
  refine wpAnyH_take (i := 12) (v := .bool true) rfl (by kernel_rfl) (by kernel_rfl) (by kernel_rfl) (fun _ _ _ h => h) (Or.inl ⟨by rfl, ?_⟩) hHeld ?_
  · intro W hW; clear hW; go_simp
  change wpAnyH _ _ _ _ _ _ _ ⟨#[.agg (LC l), .agg (LC m), .pointer (some ⟨w.heap.size, 0, none⟩), .pointer (some ⟨w.heap.size + 1, 0, none⟩), .bool false, .bool true, .slice (some ⟨g1, 0, none⟩) 110 c1, .int .i64 0, .slice (some ⟨g2, 0, none⟩) 110 c2, .int .i64 0, .bool true, .tuple #[.slice (some ⟨g1, 0, none⟩) 110 c1, .int .i64 0], .agg (LC l), .tuple #[.slice (some ⟨g1, 0, none⟩) 110 c1, .int .i64 0], .slice (some ⟨g1, 0, none⟩) 110 c1, .int .i64 0, .tuple #[.slice (some ⟨g2, 0, none⟩) 110 c2, .int .i64 0], .agg (LC m), .tuple #[.slice (some ⟨g2, 0, none⟩) 110 c2, .int .i64 0], .slice (some ⟨g2, 0, none⟩) 110 c2, .int .i64 0, .bool true, .bool false, .bool false, .int .i64 0, .bool false, .bool false, .bool false, .int .i64 0, .bool false, .bool false, undef, .slice (some ⟨g1, 0, none⟩) 110 c1, .int .i64 110, .bool true, .bool true, .slice (some ⟨g1, 0, none⟩) 110 c1, .string (bs el), .slice (some ⟨g2, 0, none⟩) 110 c2, .string (bs em), .bool (leq l m), .agg (LC l), .agg (LC m), .bool (leq l m), .bool true, undef], []⟩ _
  refine wpAnyH_take (i := 13) (v := .bool true) rfl (by kernel_rfl) (by kernel_rfl) (by kernel_rfl) (fun _ _ _ h => h) (Or.inl ⟨by rfl, ?_⟩) hHeld ?_
  · intro W hW; clear hW; go_simp
  change wpAnyH _ _ _ _ _ _ _ ⟨#[.agg (LC l), .agg (LC m), .pointer (some ⟨w.heap.size, 0, none⟩), .pointer (some ⟨w.heap.size + 1, 0, none⟩), .bool false, .bool true, .slice (some ⟨g1, 0, none⟩) 110 c1, .int .i64 0, .slice (some ⟨g2, 0, none⟩) 110 c2, .int .i64 0, .bool true, .tuple #[.slice (some ⟨g1, 0, none⟩) 110 c1, .int .i64 0], .agg (LC l), .tuple #[.slice (some ⟨g1, 0, none⟩) 110 c1, .int .i64 0], .slice (some ⟨g1, 0, none⟩) 110 c1, .int .i64 0, .tuple #[.slice (some ⟨g2, 0, none⟩) 110 c2, .int .i64 0], .agg (LC m), .tuple #[.slice (some ⟨g2, 0, none⟩) 110 c2, .int .i64 0], .slice (some ⟨g2, 0, none⟩) 110 c2, .int .i64 0, .bool true, .bool false, .bool false, .int .i64 0, .bool false, .bool false, .bool false, .int .i64 0, .bool false, .bool false, undef, .slice (some ⟨g1, 0, none⟩) 110 c1, .int .i64 110, .bool true, .bool true, .slice (some ⟨g1, 0, none⟩) 110 c1, .string (bs el), .slice (some ⟨g2, 0, none⟩) 110 c2, .string (bs em), .bool (leq l m), .agg (LC l), .agg (LC m), .bool (leq l m), .bool true, .bool true], []⟩ _
  refine wpAnyH_take (i := 14) (v := .bool true) rfl (by kernel_rfl) (by kernel_rfl) (by kernel_rfl) (fun _ _ _ h => h) (Or.inl ⟨by rfl, ?_⟩) hHeld ?_
  · intro W hW; clear hW; go_simp
  change wpAnyH _ _ _ _ _ _ _ ⟨#[.agg (LC l), .agg (LC m), .pointer (some ⟨w.heap.size, 0, none⟩), .pointer (some ⟨w.heap.size + 1, 0, none⟩), .bool true, .bool true, .slice (some ⟨g1, 0, none⟩) 110 c1, .int .i64 0, .slice (some ⟨g2, 0, none⟩) 110 c2, .int .i64 0, .bool true, .tuple #[.slice (some ⟨g1, 0, none⟩) 110 c1, .int .i64 0], .agg (LC l), .tuple #[.slice (some ⟨g1, 0, none⟩) 110 c1, .int .i64 0], .slice (some ⟨g1, 0, none⟩) 110 c1, .int .i64 0, .tuple #[.slice (some ⟨g2, 0, none⟩) 110 c2, .int .i64 0], .agg (LC m), .tuple #[.slice (some ⟨g2, 0, none⟩) 110 c2, .int .i64 0], .slice (some ⟨g2, 0, none⟩) 110 c2, .int .i64 0, .bool true, .bool false, .bool false, .int .i64 0, .bool false, .bool false, .bool false, .int .i64 0, .bool false, .bool false, undef, .slice (some ⟨g1, 0, none⟩) 110 c1, .int .i64 110, .bool true, .bool true, .slice (some ⟨g1, 0, none⟩) 110 c1, .string (bs el), .slice (some ⟨g2, 0, none⟩) 110 c2, .string (bs em), .bool (leq l m), .agg (LC l), .agg (LC m), .bool (leq l m), .bool true, .bool true], []⟩ _
  refine wpAnyH_done (by kernel_rfl) ?_ _
  go_wp2
  go_ret
  exact ⟨rfl, W0⟩
theorem onceWalk (l m : Lac) (w : World) (hl : LacB l) (hm : LacB m) :
    Calls Try.prog 8 #[.agg (LC l), .agg (LC m)] w fun e w' => e = .returned (.bool true) ∧ Below w.heap.size w w' := by
  cases kl : lrt l
  · exact once1 l m w hm kl
  · cases km : lrt m
    · exact once2 l m w hl kl km
    · exact once3 l m w hl hm kl km
set_option maxRecDepth 100000 in
set_option maxHeartbeats 2000000 in
theorem lacpduOncelifted (os : Os) (started : os.Started) (H : Type) (enc : TypeId × Value → H) :
    ReturnsInHanded {} Try.checked os 8 .any (Rows.lacpduOnceSpec.pre6 enc Try.prog Try.f8 Rows.lacpduOnceRow.domain false) (Rows.lacpduOnceSpec.post enc Try.prog Try.f8 false true false false) := by
  refine returnsInHanded_of_change (C := Try.checked) own started (by kernel_rfl) Try.func8
    (ChangeSpec.witness6 (enc := enc) (C := Try.checked) false ⟨#[], #[.agg #[.int .i64 0, .int .u8 0, .int .u8 0, .int .u8 0, .int .u8 0, .int .u8 0, .int .u8 0, .int .i64 0, .int .i64 0, .int .i64 0, .int .i64 0, .int .i64 0, .int .u8 0, .int .u8 0, .int .u8 0, .int .u8 0, .int .u8 0, .int .u8 0, .int .i64 0, .int .i64 0, .int .i64 0, .int .i64 0, .int .i64 0], .agg #[.int .i64 0, .int .u8 0, .int .u8 0, .int .u8 0, .int .u8 0, .int .u8 0, .int .u8 0, .int .i64 0, .int .i64 0, .int .i64 0, .int .i64 0, .int .i64 0, .int .u8 0, .int .u8 0, .int .u8 0, .int .u8 0, .int .u8 0, .int .u8 0, .int .i64 0, .int .i64 0, .int .i64 0, .int .i64 0, .int .i64 0]], []⟩ 8 (by kernel_rfl) (by kernel_rfl) (by kernel_rfl) (by kernel_rfl)) ?_
  intro W base args ds gs before hval0 hW _ _
  have hval : ∀ (j : Nat) t v, Try.f8.params[j]? = some t → args[j]? = some v → Value.okWide Try.prog W .any base t v := hval0
  have hW' := hW
  obtain ⟨p, q, hA0, hV, rfl, _, _⟩ := hW
  have hA : DataW.TrodAll enc Try.prog W 0 (fun _ => true) true Try.f8.params.toList args.toList ds p := hA0
  rw [Try.params8] at hA hval
  obtain ⟨v0, vs0, d0, ds0, p0, q0, hargs, rfl, rfl, h0, r0⟩ := trodAll_cons hA
  obtain ⟨v1, vs1, d1, ds1, p1, q1, rfl, rfl, rfl, h1, r1⟩ := trodAll_cons r0
  obtain ⟨rfl, rfl, rfl⟩ := trodAll_nil r1
  obtain rfl : args = #[v0, v1] := by cases args; simp_all
  obtain ⟨rfl, rfl⟩ := trodVars_none hV
  have h0k := h0
  obtain ⟨l0, rfl, hl0⟩ := open_lacp (hval 0 27 v0 rfl rfl) h0
  have h1k := h1
  obtain ⟨l1, rfl, hl1⟩ := open_lacp (hval 1 27 v1 rfl rfl) h1
  clear hA0 hval0
  simp only [List.append_nil] at hW'
  have hlt : ∀ x ∈ p0 ++ p1, x.block < W.heap.size := fun x hx => by simpa using hW'.lt x (by simpa using hx)
  refine (onceWalk l0 l1 W hl0 hl1).mono fun e W' ⟨he, hbl⟩ => ?_
  subst he
  exact ⟨_, rfl, _, _, _, [], _, [], hW', (trodAll_cons_mk (shut_bool Try.underlying4 _) trodAll_mk0), (trodAll_cons_mk (Below.trod Try.laidOut (by kernel_rfl) (of_decide_eq_true (by kernel_rfl)) h0k hbl (fun x hx => hlt x (by simp [hx]))) (trodAll_cons_mk (Below.trod Try.laidOut (by kernel_rfl) (of_decide_eq_true (by kernel_rfl)) h1k hbl (fun x hx => hlt x (by simp [hx]))) trodAll_mk0)), rfl, hbl.frame _, fun h => by cases h⟩

theorem lacpduOnce_holds : Rows.LacpduOnceSaid :=
  OpenClaim.holds_of_wide 8 Try.f8 rfl rfl rfl rfl rfl rfl rfl ⟨rfl, rfl, rfl, rfl, rfl⟩ rfl rfl rfl rfl rfl (by kernel_rfl) Try.func8 (by kernel_rfl)
    (of_decide_eq_true (by kernel_rfl)) (by unfold Func.isWrapper; first | (rw [if_pos (by decide +kernel)]; kernel_rfl) | (rw [if_neg (by decide +kernel)]; exact ⟨rfl, rfl⟩))
    (fun os started H enc _ => lacpduOncelifted os started H enc)

#print axioms lacpduOnce_holds
end Go.Proofs.Ytaehhhknpbbmkaa
