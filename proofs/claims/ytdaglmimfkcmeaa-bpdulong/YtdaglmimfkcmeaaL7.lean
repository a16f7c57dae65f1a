/- BpduLong: for every two BPDUs the law answers true, and both read behind the call as they read before. No condition. -/
import Derived.Test.YtdaglmimfkcmeaaAw
import Derived.Test.YtdaglmimfkcmeaaOp
namespace Go.Proofs.Ytdaglmimfkcmeaa
open Go.ChangeShapes Go.WideShapes Go.ChangeAt Go.RowKit

theorem bpeq_enc {l m : Bpd} (hl : BpdB l) (hm : BpdB m) (kl : brt l = true) (km : brt m = true) : ((bs (enc l)).toList == (bs (enc m)).toList) = bpeq l m := by
  rw [bs_beq (enc_rng hl kl) (enc_rng hm km), Bool.eq_iff_iff, decide_eq_true_eq, bpeq_iff]
  exact ⟨enc_inj hl kl hm km, fun h => by rw [h]⟩
theorem encode10_len (p : Bpd) (n : Nat) (w : World) (hp : BpdB p) (hr : brt p = true) (hn : (enc p).length = n) :
    Calls Try.prog 10 #[.agg (BC p)] w fun e w' => ∃ g cap, e = .returned (.tuple #[.slice (some ⟨g, 0, none⟩) n cap, .int .i64 0]) ∧ Byt w' (some ⟨g, 0, none⟩) n cap (enc p) ∧ Below w.heap.size w w' := by
  subst hn
  exact encode10_yes p w hp hr
set_option maxRecDepth 100000 in
set_option maxHeartbeats 4000000 in
theorem long1 (l m : Bpd) (w : World) (hl : BpdB l) (hm : BpdB m) (kl : brt l = false) :
    Calls Try.prog 7 #[.agg (BC l), .agg (BC m)] w fun e w' => e = .returned (.bool true) ∧ Below w.heap.size w w' := by
  have A0 : Box ((w.alloc (.cells (BC l) 27)).alloc (.cells (BC m) 27)) w.heap.size (bcl l) := (Box.new w (bcl l) 27).alloc _
  have B0 : Box ((w.alloc (.cells (BC l) 27)).alloc (.cells (BC m) 27)) (w.heap.size + 1) (bcl m) := by
    have h := Box.new (w.alloc (.cells (BC l) 27)) (bcl m) 27
    rw [World.size_alloc] at h
    exact h
  have W0 := (below_alloc w (.cells (BC l) 27)).alloc (by simp) (.cells (BC m) 27)
  go_enter Try.func7, Try.ntmps7
  go_wp2_with fail
  refine (awake9 _).mono ?_
  rintro e w1 ⟨rfl, hb1⟩
  replace A0 := A0.on hb1; replace B0 := B0.on hb1; replace W0 := belowOn W0 hb1
  clear hb1
  have tk1 : True := trivial
  go_wp2_with (have _t := tk1; refine wpl_bpdu (.tmp 2) rfl A0 ?_ ?_ ?_; rfl; rfl; clear tk1)
  refine (encode10_no l _ hl kl).mono ?_
  rintro e w2 ⟨rfl, hb1⟩
  replace A0 := A0.on hb1; replace B0 := B0.on hb1; replace W0 := belowOn W0 hb1
  clear hb1
  have tk1 : True := trivial
  go_wp2_with (have _t := tk1; refine wpl_bpdu (.tmp 3) rfl B0 ?_ ?_ ?_; rfl; rfl; clear tk1)
  refine (encode10 m _ hm).mono ?_
  rintro e w3 ⟨a2, n2, c2, rfl, Y2, hb1⟩
  replace W0 := belowOn W0 hb1
  clear hb1 A0 B0 Y2
  go_wp2
  go_ret
  exact ⟨rfl, W0⟩
set_option maxRecDepth 100000 in
set_option maxHeartbeats 4000000 in
theorem long2 (l m : Bpd) (w : World) (hl : BpdB l) (hm : BpdB m) (kl : brt l = true) (km : brt m = false) :
    Calls Try.prog 7 #[.agg (BC l), .agg (BC m)] w fun e w' => e = .returned (.bool true) ∧ Below w.heap.size w w' := by
  have A0 : Box ((w.alloc (.cells (BC l) 27)).alloc (.cells (BC m) 27)) w.heap.size (bcl l) := (Box.new w (bcl l) 27).alloc _
  have B0 : Box ((w.alloc (.cells (BC l) 27)).alloc (.cells (BC m) 27)) (w.heap.size + 1) (bcl m) := by
    have h := Box.new (w.alloc (.cells (BC l) 27)) (bcl m) 27
    rw [World.size_alloc] at h
    exact h
  have W0 := (below_alloc w (.cells (BC l) 27)).alloc (by simp) (.cells (BC m) 27)
  go_enter Try.func7, Try.ntmps7
  go_wp2_with fail
  refine (awake9 _).mono ?_
  rintro e w1 ⟨rfl, hb1⟩
  replace A0 := A0.on hb1; replace B0 := B0.on hb1; replace W0 := belowOn W0 hb1
  clear hb1
  have tk1 : True := trivial
  go_wp2_with (have _t := tk1; refine wpl_bpdu (.tmp 2) rfl A0 ?_ ?_ ?_; rfl; rfl; clear tk1)
  refine (encode10_len l _ _ hl kl rfl).mono ?_
  rintro e w2 ⟨g1, c1, rfl, Y1, hb1⟩
  replace A0 := A0.on hb1; replace B0 := B0.on hb1; replace W0 := belowOn W0 hb1
  clear hb1
  have tk1 : True := trivial
  go_wp2_with (have _t := tk1; refine wpl_bpdu (.tmp 3) rfl B0 ?_ ?_ ?_; rfl; rfl; clear tk1)
  refine (encode10_no m _ hm km).mono ?_
  rintro e w3 ⟨rfl, hb1⟩
  replace A0 := A0.on hb1; replace B0 := B0.on hb1; replace W0 := belowOn W0 hb1
  clear hb1
  clear A0 B0 Y1
  go_wp2
  go_ret
  exact ⟨rfl, W0⟩
set_option maxRecDepth 100000 in
set_option maxHeartbeats 4000000 in
theorem long_128 (l m : Bpd) (w : World) (hl : BpdB l) (hm : BpdB m) (kl : brt l = true) (km : brt m = true) (hk : l.kd = 128) :
    Calls Try.prog 7 #[.agg (BC l), .agg (BC m)] w fun e w' => e = .returned (.bool true) ∧ Below w.heap.size w w' := by
  have HQ := hide (bpeq_enc hl hm kl km)
  have hN : (enc l).length = 4 := by rw [enc_length, hk]; rfl
  have e1 : (l.kd == 128) = true := by simp [hk]
  clear hk
  have A0 : Box ((w.alloc (.cells (BC l) 27)).alloc (.cells (BC m) 27)) w.heap.size (bcl l) := (Box.new w (bcl l) 27).alloc _
  have B0 : Box ((w.alloc (.cells (BC l) 27)).alloc (.cells (BC m) 27)) (w.heap.size + 1) (bcl m) := by
    have h := Box.new (w.alloc (.cells (BC l) 27)) (bcl m) 27
    rw [World.size_alloc] at h
    exact h
  have W0 := (below_alloc w (.cells (BC l) 27)).alloc (by simp) (.cells (BC m) 27)
  go_enter Try.func7, Try.ntmps7
  go_wp2_with fail
  refine (awake9 _).mono ?_
  rintro e w1 ⟨rfl, hb1⟩
  replace A0 := A0.on hb1; replace B0 := B0.on hb1; replace W0 := belowOn W0 hb1
  clear hb1
  have tk1 : True := trivial
  go_wp2_with (have _t := tk1; refine wpl_bpdu (.tmp 2) rfl A0 ?_ ?_ ?_; rfl; rfl; clear tk1)
  refine (encode10_len l 4 _ hl kl hN).mono ?_
  rintro e w2 ⟨g1, c1, rfl, Y1, hb1⟩
  replace A0 := A0.on hb1; replace B0 := B0.on hb1; replace W0 := belowOn W0 hb1
  clear hb1
  have tk1 : True := trivial
  go_wp2_with (have _t := tk1; refine wpl_bpdu (.tmp 3) rfl B0 ?_ ?_ ?_; rfl; rfl; clear tk1)
  refine (encode10_len m _ _ hm km rfl).mono ?_
  rintro e w3 ⟨g2, c2, rfl, Y2, hb1⟩
  replace A0 := A0.on hb1; replace B0 := B0.on hb1; replace W0 := belowOn W0 hb1
  replace Y1 := Y1.on hb1
  clear hb1
  have c0 := A0.cell 0 (.int .i64 l.kd) rfl
  have A1 := A0.drew; have B1 := B0.drew; replace Y1 := Y1.drew; replace Y2 := Y2.drew; replace W0 := W0.drew
  have he := eqB l m
  have hc1 : ∀ W, Byt W (some ⟨g1, 0, none⟩) 4 c1 (enc l) → (convert 29 9 (.slice (some ⟨g1, 0, none⟩) 4 c1)).run Try.prog W = .ok (.string (bs (enc l))) W := fun W h => bytStr h
  have hc2 : ∀ W, Byt W (some ⟨g2, 0, none⟩) (enc m).length c2 (enc m) → (convert 29 9 (.slice (some ⟨g2, 0, none⟩) (enc m).length c2)).run Try.prog W = .ok (.string (bs (enc m))) W := fun W h => bytStr h
  have hq := HQ.out
  generalize (enc m).length = n2 at *
  clear hN A0 B0
  generalize enc l = el at *
  generalize enc m = em at *
  go_wp2_with fail
  refine wp_region_held_drew (S := fun w' => (Box w' w.heap.size (bcl l) ∧ Box w' (w.heap.size + 1) (bcl m)) ∧ Byt w' (some ⟨g1, 0, none⟩) 4 c1 el ∧ Byt w' (some ⟨g2, 0, none⟩) n2 c2 em) (by kernel_rfl) ⟨⟨A1, B1⟩, Y1, Y2⟩ (fun hHeld => ?_)
  refine wpAnyH_take (i := 0) (v := .slice (some ⟨g1, 0, none⟩) 4 c1) rfl (by kernel_rfl) (by kernel_rfl) (by kernel_rfl) (fun _ _ _ h => h) (Or.inl ⟨by rfl, ?_⟩) hHeld ?_
  · intro W hW; clear hW; go_simp
  change wpAnyH _ _ _ _ _ _ _ ⟨#[.agg (BC l), .agg (BC m), .pointer (some ⟨w.heap.size, 0, none⟩), .pointer (some ⟨w.heap.size + 1, 0, none⟩), .bool false, .bool true, .slice (some ⟨g1, 0, none⟩) 4 c1, .int .i64 0, .slice (some ⟨g2, 0, none⟩) n2 c2, .int .i64 0, .int .i64 4, .bool true, .tuple #[.slice (some ⟨g1, 0, none⟩) 4 c1, .int .i64 0], .agg (BC l), .tuple #[.slice (some ⟨g1, 0, none⟩) 4 c1, .int .i64 0], .slice (some ⟨g1, 0, none⟩) 4 c1, .int .i64 0, .tuple #[.slice (some ⟨g2, 0, none⟩) n2 c2, .int .i64 0], .agg (BC m), .tuple #[.slice (some ⟨g2, 0, none⟩) n2 c2, .int .i64 0], .slice (some ⟨g2, 0, none⟩) n2 c2, .int .i64 0, .bool true, .bool false, .bool false, .int .i64 0, .bool false, .bool false, .bool false, .int .i64 0, .bool false, .bool false, undef, .pointer (some ⟨w.heap.size, 0, none⟩), .int .i64 l.kd, .bool true, .bool true, undef, undef, .slice (some ⟨g1, 0, none⟩) 4 c1, undef, undef, undef, undef, undef, undef, undef, undef, undef, undef, undef, undef, undef, undef], []⟩ _
  refine wpAnyH_take (i := 1) (v := .int .i64 4) rfl (by kernel_rfl) (by kernel_rfl) (by kernel_rfl) (fun _ _ _ h => h) (Or.inl ⟨by rfl, ?_⟩) hHeld ?_
  · intro W hW; clear hW; go_simp
  change wpAnyH _ _ _ _ _ _ _ ⟨#[.agg (BC l), .agg (BC m), .pointer (some ⟨w.heap.size, 0, none⟩), .pointer (some ⟨w.heap.size + 1, 0, none⟩), .bool false, .bool true, .slice (some ⟨g1, 0, none⟩) 4 c1, .int .i64 0, .slice (some ⟨g2, 0, none⟩) n2 c2, .int .i64 0, .int .i64 4, .bool true, .tuple #[.slice (some ⟨g1, 0, none⟩) 4 c1, .int .i64 0], .agg (BC l), .tuple #[.slice (some ⟨g1, 0, none⟩) 4 c1, .int .i64 0], .slice (some ⟨g1, 0, none⟩) 4 c1, .int .i64 0, .tuple #[.slice (some ⟨g2, 0, none⟩) n2 c2, .int .i64 0], .agg (BC m), .tuple #[.slice (some ⟨g2, 0, none⟩) n2 c2, .int .i64 0], .slice (some ⟨g2, 0, none⟩) n2 c2, .int .i64 0, .bool true, .bool false, .bool false, .int .i64 0, .bool false, .bool false, .bool false, .int .i64 0, .bool false, .bool false, undef, .pointer (some ⟨w.heap.size, 0, none⟩), .int .i64 l.kd, .bool true, .bool true, undef, undef, .slice (some ⟨g1, 0, none⟩) 4 c1, .int .i64 4, undef, undef, undef, undef, undef, undef, undef, undef, undef, undef, undef, undef, undef], []⟩ _
  refine wpAnyH_take (i := 2) (v := .int .i64 4) rfl (by kernel_rfl) (by kernel_rfl) (by kernel_rfl) (fun _ _ _ h => h) (Or.inl ⟨by rfl, ?_⟩) hHeld ?_
  · intro W hW; clear hW; go_simp
  change wpAnyH _ _ _ _ _ _ _ ⟨#[.agg (BC l), .agg (BC m), .pointer (some ⟨w.heap.size, 0, none⟩), .pointer (some ⟨w.heap.size + 1, 0, none⟩), .bool false, .bool true, .slice (some ⟨g1, 0, none⟩) 4 c1, .int .i64 0, .slice (some ⟨g2, 0, none⟩) n2 c2, .int .i64 0, .int .i64 4, .bool true, .tuple #[.slice (some ⟨g1, 0, none⟩) 4 c1, .int .i64 0], .agg (BC l), .tuple #[.slice (some ⟨g1, 0, none⟩) 4 c1, .int .i64 0], .slice (some ⟨g1, 0, none⟩) 4 c1, .int .i64 0, .tuple #[.slice (some ⟨g2, 0, none⟩) n2 c2, .int .i64 0], .agg (BC m), .tuple #[.slice (some ⟨g2, 0, none⟩) n2 c2, .int .i64 0], .slice (some ⟨g2, 0, none⟩) n2 c2, .int .i64 0, .bool true, .bool false, .bool false, .int .i64 0, .bool false, .bool false, .bool false, .int .i64 0, .bool false, .bool false, undef, .pointer (some ⟨w.heap.size, 0, none⟩), .int .i64 l.kd, .bool true, .bool true, undef, undef, .slice (some ⟨g1, 0, none⟩) 4 c1, .int .i64 4, .int .i64 4, undef, undef, undef, undef, undef, undef, undef, undef, undef, undef, undef, undef], []⟩ _
  refine wpAnyH_take (i := 3) (v := .bool true) rfl (by kernel_rfl) (by kernel_rfl) (by kernel_rfl) (fun _ _ _ h => h) (Or.inl ⟨by rfl, ?_⟩) hHeld ?_
  · intro W hW; clear hW; go_simp
  change wpAnyH _ _ _ _ _ _ _ ⟨#[.agg (BC l), .agg (BC m), .pointer (some ⟨w.heap.size, 0, none⟩), .pointer (some ⟨w.heap.size + 1, 0, none⟩), .bool false, .bool true, .slice (some ⟨g1, 0, none⟩) 4 c1, .int .i64 0, .slice (some ⟨g2, 0, none⟩) n2 c2, .int .i64 0, .int .i64 4, .bool true, .tuple #[.slice (some ⟨g1, 0, none⟩) 4 c1, .int .i64 0], .agg (BC l), .tuple #[.slice (some ⟨g1, 0, none⟩) 4 c1, .int .i64 0], .slice (some ⟨g1, 0, none⟩) 4 c1, .int .i64 0, .tuple #[.slice (some ⟨g2, 0, none⟩) n2 c2, .int .i64 0], .agg (BC m), .tuple #[.slice (some ⟨g2, 0, none⟩) n2 c2, .int .i64 0], .slice (some ⟨g2, 0, none⟩) n2 c2, .int .i64 0, .bool true, .bool false, .bool false, .int .i64 0, .bool false, .bool false, .bool false, .int .i64 0, .bool false, .bool false, undef, .pointer (some ⟨w.heap.size, 0, none⟩), .int .i64 l.kd, .bool true, .bool true, undef, undef, .slice (some ⟨g1, 0, none⟩) 4 c1, .int .i64 4, .int .i64 4, .bool true, undef, undef, undef, undef, undef, undef, undef, undef, undef, undef, undef], []⟩ _
  refine wpAnyH_take (i := 4) (v := .bool true) rfl (by kernel_rfl) (by kernel_rfl) (by kernel_rfl) (fun _ _ _ h => h) (Or.inl ⟨by rfl, ?_⟩) hHeld ?_
  · intro W hW; clear hW; go_simp
  change wpAnyH _ _ _ _ _ _ _ ⟨#[.agg (BC l), .agg (BC m), .pointer (some ⟨w.heap.size, 0, none⟩), .pointer (some ⟨w.heap.size + 1, 0, none⟩), .bool false, .bool true, .slice (some ⟨g1, 0, none⟩) 4 c1, .int .i64 0, .slice (some ⟨g2, 0, none⟩) n2 c2, .int .i64 0, .int .i64 4, .bool true, .tuple #[.slice (some ⟨g1, 0, none⟩) 4 c1, .int .i64 0], .agg (BC l), .tuple #[.slice (some ⟨g1, 0, none⟩) 4 c1, .int .i64 0], .slice (some ⟨g1, 0, none⟩) 4 c1, .int .i64 0, .tuple #[.slice (some ⟨g2, 0, none⟩) n2 c2, .int .i64 0], .agg (BC m), .tuple #[.slice (some ⟨g2, 0, none⟩) n2 c2, .int .i64 0], .slice (some ⟨g2, 0, none⟩) n2 c2, .int .i64 0, .bool true, .bool false, .bool false, .int .i64 0, .bool false, .bool false, .bool false, .int .i64 0, .bool false, .bool false, undef, .pointer (some ⟨w.heap.size, 0, none⟩), .int .i64 l.kd, .bool true, .bool true, undef, undef, .slice (some ⟨g1, 0, none⟩) 4 c1, .int .i64 4, .int .i64 4, .bool true, .bool true, undef, undef, undef, undef, undef, undef, undef, undef, undef, undef], []⟩ _
  refine wpAnyH_take (i := 5) (v := .slice (some ⟨g1, 0, none⟩) 4 c1) rfl (by kernel_rfl) (by kernel_rfl) (by kernel_rfl) (fun _ _ _ h => h) (Or.inl ⟨by rfl, ?_⟩) hHeld ?_
  · intro W hW; clear hW; go_simp
  change wpAnyH _ _ _ _ _ _ _ ⟨#[.agg (BC l), .agg (BC m), .pointer (some ⟨w.heap.size, 0, none⟩), .pointer (some ⟨w.heap.size + 1, 0, none⟩), .bool false, .bool true, .slice (some ⟨g1, 0, none⟩) 4 c1, .int .i64 0, .slice (some ⟨g2, 0, none⟩) n2 c2, .int .i64 0, .int .i64 4, .bool true, .tuple #[.slice (some ⟨g1, 0, none⟩) 4 c1, .int .i64 0], .agg (BC l), .tuple #[.slice (some ⟨g1, 0, none⟩) 4 c1, .int .i64 0], .slice (some ⟨g1, 0, none⟩) 4 c1, .int .i64 0, .tuple #[.slice (some ⟨g2, 0, none⟩) n2 c2, .int .i64 0], .agg (BC m), .tuple #[.slice (some ⟨g2, 0, none⟩) n2 c2, .int .i64 0], .slice (some ⟨g2, 0, none⟩) n2 c2, .int .i64 0, .bool true, .bool false, .bool false, .int .i64 0, .bool false, .bool false, .bool false, .int .i64 0, .bool false, .bool false, undef, .pointer (some ⟨w.heap.size, 0, none⟩), .int .i64 l.kd, .bool true, .bool true, undef, undef, .slice (some ⟨g1, 0, none⟩) 4 c1, .int .i64 4, .int .i64 4, .bool true, .bool true, .slice (some ⟨g1, 0, none⟩) 4 c1, undef, undef, undef, undef, undef, undef, undef, undef, undef], []⟩ _
  refine wpAnyH_take (i := 6) (v := .string (bs el)) rfl (by kernel_rfl) (by kernel_rfl) (by kernel_rfl) (fun _ _ _ h => h) (Or.inl ⟨by rfl, ?_⟩) hHeld ?_
  · intro W hW; obtain ⟨hW0, hW1, hW2⟩ := hW; clear hW0; go_simp
  change wpAnyH _ _ _ _ _ _ _ ⟨#[.agg (BC l), .agg (BC m), .pointer (some ⟨w.heap.size, 0, none⟩), .pointer (some ⟨w.heap.size + 1, 0, none⟩), .bool false, .bool true, .slice (some ⟨g1, 0, none⟩) 4 c1, .int .i64 0, .slice (some ⟨g2, 0, none⟩) n2 c2, .int .i64 0, .int .i64 4, .bool true, .tuple #[.slice (some ⟨g1, 0, none⟩) 4 c1, .int .i64 0], .agg (BC l), .tuple #[.slice (some ⟨g1, 0, none⟩) 4 c1, .int .i64 0], .slice (some ⟨g1, 0, none⟩) 4 c1, .int .i64 0, .tuple #[.slice (some ⟨g2, 0, none⟩) n2 c2, .int .i64 0], .agg (BC m), .tuple #[.slice (some ⟨g2, 0, none⟩) n2 c2, .int .i64 0], .slice (some ⟨g2, 0, none⟩) n2 c2, .int .i64 0, .bool true, .bool false, .bool false, .int .i64 0, .bool false, .bool false, .bool false, .int .i64 0, .bool false, .bool false, undef, .pointer (some ⟨w.heap.size, 0, none⟩), .int .i64 l.kd, .bool true, .bool true, undef, undef, .slice (some ⟨g1, 0, none⟩) 4 c1, .int .i64 4, .int .i64 4, .bool true, .bool true, .slice (some ⟨g1, 0, none⟩) 4 c1, .string (bs el), undef, undef, undef, undef, undef, undef, undef, undef], []⟩ _
  refine wpAnyH_take (i := 7) (v := .slice (some ⟨g2, 0, none⟩) n2 c2) rfl (by kernel_rfl) (by kernel_rfl) (by kernel_rfl) (fun _ _ _ h => h) (Or.inl ⟨by rfl, ?_⟩) hHeld ?_
  · intro W hW; clear hW; go_simp
  change wpAnyH _ _ _ _ _ _ _ ⟨#[.agg (BC l), .agg (BC m), .pointer (some ⟨w.heap.size, 0, none⟩), .pointer (some ⟨w.heap.size + 1, 0, none⟩), .bool false, .bool true, .slice (some ⟨g1, 0, none⟩) 4 c1, .int .i64 0, .slice (some ⟨g2, 0, none⟩) n2 c2, .int .i64 0, .int .i64 4, .bool true, .tuple #[.slice (some ⟨g1, 0, none⟩) 4 c1, .int .i64 0], .agg (BC l), .tuple #[.slice (some ⟨g1, 0, none⟩) 4 c1, .int .i64 0], .slice (some ⟨g1, 0, none⟩) 4 c1, .int .i64 0, .tuple #[.slice (some ⟨g2, 0, none⟩) n2 c2, .int .i64 0], .agg (BC m), .tuple #[.slice (some ⟨g2, 0, none⟩) n2 c2, .int .i64 0], .slice (some ⟨g2, 0, none⟩) n2 c2, .int .i64 0, .bool true, .bool false, .bool false, .int .i64 0, .bool false, .bool false, .bool false, .int .i64 0, .bool false, .bool false, undef, .pointer (some ⟨w.heap.size, 0, none⟩), .int .i64 l.kd, .bool true, .bool true, undef, undef, .slice (some ⟨g1, 0, none⟩) 4 c1, .int .i64 4, .int .i64 4, .bool true, .bool true, .slice (some ⟨g1, 0, none⟩) 4 c1, .string (bs el), .slice (some ⟨g2, 0, none⟩) n2 c2, undef, undef, undef, undef, undef, undef, undef], []⟩ _
  refine wpAnyH_take (i := 8) (v := .string (bs em)) rfl (by kernel_rfl) (by kernel_rfl) (by kernel_rfl) (fun _ _ _ h => h) (Or.inl ⟨by rfl, ?_⟩) hHeld ?_
  · intro W hW; obtain ⟨hW0, hW1, hW2⟩ := hW; clear hW0; go_simp
  change wpAnyH _ _ _ _ _ _ _ ⟨#[.agg (BC l), .agg (BC m), .pointer (some ⟨w.heap.size, 0, none⟩), .pointer (some ⟨w.heap.size + 1, 0, none⟩), .bool false, .bool true, .slice (some ⟨g1, 0, none⟩) 4 c1, .int .i64 0, .slice (some ⟨g2, 0, none⟩) n2 c2, .int .i64 0, .int .i64 4, .bool true, .tuple #[.slice (some ⟨g1, 0, none⟩) 4 c1, .int .i64 0], .agg (BC l), .tuple #[.slice (some ⟨g1, 0, none⟩) 4 c1, .int .i64 0], .slice (some ⟨g1, 0, none⟩) 4 c1, .int .i64 0, .tuple #[.slice (some ⟨g2, 0, none⟩) n2 c2, .int .i64 0], .agg (BC m), .tuple #[.slice (some ⟨g2, 0, none⟩) n2 c2, .int .i64 0], .slice (some ⟨g2, 0, none⟩) n2 c2, .int .i64 0, .bool true, .bool false, .bool false, .int .i64 0, .bool false, .bool false, .bool false, .int .i64 0, .bool false, .bool false, undef, .pointer (some ⟨w.heap.size, 0, none⟩), .int .i64 l.kd, .bool true, .bool true, undef, undef, .slice (some ⟨g1, 0, none⟩) 4 c1, .int .i64 4, .int .i64 4, .bool true, .bool true, .slice (some ⟨g1, 0, none⟩) 4 c1, .string (bs el), .slice (some ⟨g2, 0, none⟩) n2 c2, .string (bs em), undef, undef, undef, undef, undef, undef], []⟩ _
  refine wpAnyH_take (i := 9) (v := .bool (bpeq l m)) rfl (by kernel_rfl) (by kernel_rfl) (by kernel_rfl) (fun _ _ _ h => h) (Or.inl ⟨by rfl, ?_⟩) hHeld ?_
  · intro W hW; clear hW; go_simp
  change wpAnyH _ _ _ _ _ _ _ ⟨#[.agg (BC l), .agg (BC m), .pointer (some ⟨w.heap.size, 0, none⟩), .pointer (some ⟨w.heap.size + 1, 0, none⟩), .bool false, .bool true, .slice (some ⟨g1, 0, none⟩) 4 c1, .int .i64 0, .slice (some ⟨g2, 0, none⟩) n2 c2, .int .i64 0, .int .i64 4, .bool true, .tuple #[.slice (some ⟨g1, 0, none⟩) 4 c1, .int .i64 0], .agg (BC l), .tuple #[.slice (some ⟨g1, 0, none⟩) 4 c1, .int .i64 0], .slice (some ⟨g1, 0, none⟩) 4 c1, .int .i64 0, .tuple #[.slice (some ⟨g2, 0, none⟩) n2 c2, .int .i64 0], .agg (BC m), .tuple #[.slice (some ⟨g2, 0, none⟩) n2 c2, .int .i64 0], .slice (some ⟨g2, 0, none⟩) n2 c2, .int .i64 0, .bool true, .bool false, .bool false, .int .i64 0, .bool false, .bool false, .bool false, .int .i64 0, .bool false, .bool false, undef, .pointer (some ⟨w.heap.size, 0, none⟩), .int .i64 l.kd, .bool true, .bool true, undef, undef, .slice (some ⟨g1, 0, none⟩) 4 c1, .int .i64 4, .int .i64 4, .bool true, .bool true, .slice (some ⟨g1, 0, none⟩) 4 c1, .string (bs el), .slice (some ⟨g2, 0, none⟩) n2 c2, .string (bs em), .bool (bpeq l m), undef, undef, undef, undef, undef], []⟩ _
  refine wpAnyH_take (i := 10) (v := .agg (BC l)) rfl (by kernel_rfl) (by kernel_rfl) (by kernel_rfl) (fun _ _ _ h => h) (yieldsIf_load_mid (by rfl) 27 (.tmp 2) rfl w.heap.size 0 rfl (bcl l) _ (fun W hW => hW.1.1.at_) Try.underlying27 rfl Try.size27) hHeld ?_
  change wpAnyH _ _ _ _ _ _ _ ⟨#[.agg (BC l), .agg (BC m), .pointer (some ⟨w.heap.size, 0, none⟩), .pointer (some ⟨w.heap.size + 1, 0, none⟩), .bool false, .bool true, .slice (some ⟨g1, 0, none⟩) 4 c1, .int .i64 0, .slice (some ⟨g2, 0, none⟩) n2 c2, .int .i64 0, .int .i64 4, .bool true, .tuple #[.slice (some ⟨g1, 0, none⟩) 4 c1, .int .i64 0], .agg (BC l), .tuple #[.slice (some ⟨g1, 0, none⟩) 4 c1, .int .i64 0], .slice (some ⟨g1, 0, none⟩) 4 c1, .int .i64 0, .tuple #[.slice (some ⟨g2, 0, none⟩) n2 c2, .int .i64 0], .agg (BC m), .tuple #[.slice (some ⟨g2, 0, none⟩) n2 c2, .int .i64 0], .slice (some ⟨g2, 0, none⟩) n2 c2, .int .i64 0, .bool true, .bool false, .bool false, .int .i64 0, .bool false, .bool false, .bool false, .int .i64 0, .bool false, .bool false, undef, .pointer (some ⟨w.heap.size, 0, none⟩), .int .i64 l.kd, .bool true, .bool true, undef, undef, .slice (some ⟨g1, 0, none⟩) 4 c1, .int .i64 4, .int .i64 4, .bool true, .bool true, .slice (some ⟨g1, 0, none⟩) 4 c1, .string (bs el), .slice (some ⟨g2, 0, none⟩) n2 c2, .string (bs em), .bool (bpeq l m), .agg (BC l), undef, undef, undef, undef], []⟩ _
  refine wpAnyH_take (i := 11) (v := .agg (BC m)) rfl (by kernel_rfl) (by kernel_rfl) (by kernel_rfl) (fun _ _ _ h => h) (yieldsIf_load_mid (by rfl) 27 (.tmp 3) rfl (w.heap.size + 1) 0 rfl (bcl m) _ (fun W hW => hW.1.2.at_) Try.underlying27 rfl Try.size27) hHeld ?_
  change wpAnyH _ _ _ _ _ _ _ ⟨#[.agg (BC l), .agg (BC m), .pointer (some ⟨w.heap.size, 0, none⟩), .pointer (some ⟨w.heap.size + 1, 0, none⟩), .bool false, .bool true, .slice (some ⟨g1, 0, none⟩) 4 c1, .int .i64 0, .slice (some ⟨g2, 0, none⟩) n2 c2, .int .i64 0, .int .i64 4, .bool true, .tuple #[.slice (some ⟨g1, 0, none⟩) 4 c1, .int .i64 0], .agg (BC l), .tuple #[.slice (some ⟨g1, 0, none⟩) 4 c1, .int .i64 0], .slice (some ⟨g1, 0, none⟩) 4 c1, .int .i64 0, .tuple #[.slice (some ⟨g2, 0, none⟩) n2 c2, .int .i64 0], .agg (BC m), .tuple #[.slice (some ⟨g2, 0, none⟩) n2 c2, .int .i64 0], .slice (some ⟨g2, 0, none⟩) n2 c2, .int .i64 0, .bool true, .bool false, .bool false, .int .i64 0, .bool false, .bool false, .bool false, .int .i64 0, .bool false, .bool false, undef, .pointer (some ⟨w.heap.size, 0, none⟩), .int .i64 l.kd, .bool true, .bool true, undef, undef, .slice (some ⟨g1, 0, none⟩) 4 c1, .int .i64 4, .int .i64 4, .bool true, .bool true, .slice (some ⟨g1, 0, none⟩) 4 c1, .string (bs el), .slice (some ⟨g2, 0, none⟩) n2 c2, .string (bs em), .bool (bpeq l m), .agg (BC l), .agg (BC m), undef, undef, undef], []⟩ _
  refine wpAnyH_take (i := 12) (v := .bool (bpeq l m)) rfl (by kernel_rfl) (by kernel_rfl) (by kernel_rfl) (fun _ _ _ h => h) (Or.inl ⟨by rfl, ?_⟩) hHeld ?_
  · intro W hW; clear hW; go_simp
  change wpAnyH _ _ _ _ _ _ _ ⟨#[.agg (BC l), .agg (BC m), .pointer (some ⟨w.heap.size, 0, none⟩), .pointer (some ⟨w.heap.size + 1, 0, none⟩), .bool false, .bool true, .slice (some ⟨g1, 0, none⟩) 4 c1, .int .i64 0, .slice (some ⟨g2, 0, none⟩) n2 c2, .int .i64 0, .int .i64 4, .bool true, .tuple #[.slice (some ⟨g1, 0, none⟩) 4 c1, .int .i64 0], .agg (BC l), .tuple #[.slice (some ⟨g1, 0, none⟩) 4 c1, .int .i64 0], .slice (some ⟨g1, 0, none⟩) 4 c1, .int .i64 0, .tuple #[.slice (some ⟨g2, 0, none⟩) n2 c2, .int .i64 0], .agg (BC m), .tuple #[.slice (some ⟨g2, 0, none⟩) n2 c2, .int .i64 0], .slice (some ⟨g2, 0, none⟩) n2 c2, .int .i64 0, .bool true, .bool false, .bool false, .int .i64 0, .bool false, .bool false, .bool false, .int .i64 0, .bool false, .bool false, undef, .pointer (some ⟨w.heap.size, 0, none⟩), .int .i64 l.kd, .bool true, .bool true, undef, undef, .slice (some ⟨g1, 0, none⟩) 4 c1, .int .i64 4, .int .i64 4, .bool true, .bool true, .slice (some ⟨g1, 0, none⟩) 4 c1, .string (bs el), .slice (some ⟨g2, 0, none⟩) n2 c2, .string (bs em), .bool (bpeq l m), .agg (BC l), .agg (BC m), .bool (bpeq l m), undef, undef], []⟩ _
  refine wpAnyH_take (i := 13) (v := .bool true) rfl (by kernel_rfl) (by kernel_rfl) (by kernel_rfl) (fun _ _ _ h => h) (Or.inl ⟨by rfl, ?_⟩) hHeld ?_
  · intro W hW; clear hW; go_simp
  change wpAnyH _ _ _ _ _ _ _ ⟨#[.agg (BC l), .agg (BC m), .pointer (some ⟨w.heap.size, 0, none⟩), .pointer (some ⟨w.heap.size + 1, 0, none⟩), .bool false, .bool true, .slice (some ⟨g1, 0, none⟩) 4 c1, .int .i64 0, .slice (some ⟨g2, 0, none⟩) n2 c2, .int .i64 0, .int .i64 4, .bool true, .tuple #[.slice (some ⟨g1, 0, none⟩) 4 c1, .int .i64 0], .agg (BC l), .tuple #[.slice (some ⟨g1, 0, none⟩) 4 c1, .int .i64 0], .slice (some ⟨g1, 0, none⟩) 4 c1, .int .i64 0, .tuple #[.slice (some ⟨g2, 0, none⟩) n2 c2, .int .i64 0], .agg (BC m), .tuple #[.slice (some ⟨g2, 0, none⟩) n2 c2, .int .i64 0], .slice (some ⟨g2, 0, none⟩) n2 c2, .int .i64 0, .bool true, .bool false, .bool false, .int .i64 0, .bool false, .bool false, .bool false, .int .i64 0, .bool false, .bool false, undef, .pointer (some ⟨w.heap.size, 0, none⟩), .int .i64 l.kd, .bool true, .bool true, undef, undef, .slice (some ⟨g1, 0, none⟩) 4 c1, .int .i64 4, .int .i64 4, .bool true, .bool true, .slice (some ⟨g1, 0, none⟩) 4 c1, .string (bs el), .slice (some ⟨g2, 0, none⟩) n2 c2, .string (bs em), .bool (bpeq l m), .agg (BC l), .agg (BC m), .bool (bpeq l m), .bool true, undef], []⟩ _
  refine wpAnyH_take (i := 14) (v := .bool true) rfl (by kernel_rfl) (by kernel_rfl) (by kernel_rfl) (fun _ _ _ h => h) (Or.inl ⟨by rfl, ?_⟩) hHeld ?_
  · intro W hW; clear hW; go_simp
  change wpAnyH _ _ _ _ _ _ _ ⟨#[.agg (BC l), .agg (BC m), .pointer (some ⟨w.heap.size, 0, none⟩), .pointer (some ⟨w.heap.size + 1, 0, none⟩), .bool false, .bool true, .slice (some ⟨g1, 0, none⟩) 4 c1, .int .i64 0, .slice (some ⟨g2, 0, none⟩) n2 c2, .int .i64 0, .int .i64 4, .bool true, .tuple #[.slice (some ⟨g1, 0, none⟩) 4 c1, .int .i64 0], .agg (BC l), .tuple #[.slice (some ⟨g1, 0, none⟩) 4 c1, .int .i64 0], .slice (some ⟨g1, 0, none⟩) 4 c1, .int .i64 0, .tuple #[.slice (some ⟨g2, 0, none⟩) n2 c2, .int .i64 0], .agg (BC m), .tuple #[.slice (some ⟨g2, 0, none⟩) n2 c2, .int .i64 0], .slice (some ⟨g2, 0, none⟩) n2 c2, .int .i64 0, .bool true, .bool false, .bool false, .int .i64 0, .bool false, .bool false, .bool false, .int .i64 0, .bool false, .bool false, undef, .pointer (some ⟨w.heap.size, 0, none⟩), .int .i64 l.kd, .bool true, .bool true, undef, undef, .slice (some ⟨g1, 0, none⟩) 4 c1, .int .i64 4, .int .i64 4, .bool true, .bool true, .slice (some ⟨g1, 0, none⟩) 4 c1, .string (bs el), .slice (some ⟨g2, 0, none⟩) n2 c2, .string (bs em), .bool (bpeq l m), .agg (BC l), .agg (BC m), .bool (bpeq l m), .bool true, .bool true], []⟩ _
  refine wpAnyH_take (i := 15) (v := .bool true) rfl (by kernel_rfl) (by kernel_rfl) (by kernel_rfl) (fun _ _ _ h => h) (Or.inl ⟨by rfl, ?_⟩) hHeld ?_
  · intro W hW; clear hW; go_simp
  change wpAnyH _ _ _ _ _ _ _ ⟨#[.agg (BC l), .agg (BC m), .pointer (some ⟨w.heap.size, 0, none⟩), .pointer (some ⟨w.heap.size + 1, 0, none⟩), .bool true, .bool true, .slice (some ⟨g1, 0, none⟩) 4 c1, .int .i64 0, .slice (some ⟨g2, 0, none⟩) n2 c2, .int .i64 0, .int .i64 4, .bool true, .tuple #[.slice (some ⟨g1, 0, none⟩) 4 c1, .int .i64 0], .agg (BC l), .tuple #[.slice (some ⟨g1, 0, none⟩) 4 c1, .int .i64 0], .slice (some ⟨g1, 0, none⟩) 4 c1, .int .i64 0, .tuple #[.slice (some ⟨g2, 0, none⟩) n2 c2, .int .i64 0], .agg (BC m), .tuple #[.slice (some ⟨g2, 0, none⟩) n2 c2, .int .i64 0], .slice (some ⟨g2, 0, none⟩) n2 c2, .int .i64 0, .bool true, .bool false, .bool false, .int .i64 0, .bool false, .bool false, .bool false, .int .i64 0, .bool false, .bool false, undef, .pointer (some ⟨w.heap.size, 0, none⟩), .int .i64 l.kd, .bool true, .bool true, undef, undef, .slice (some ⟨g1, 0, none⟩) 4 c1, .int .i64 4, .int .i64 4, .bool true, .bool true, .slice (some ⟨g1, 0, none⟩) 4 c1, .string (bs el), .slice (some ⟨g2, 0, none⟩) n2 c2, .string (bs em), .bool (bpeq l m), .agg (BC l), .agg (BC m), .bool (bpeq l m), .bool true, .bool true], []⟩ _
  refine wpAnyH_done (by kernel_rfl) ?_ _
  go_wp2
  go_ret
  exact ⟨rfl, W0⟩
set_option maxRecDepth 100000 in
set_option maxHeartbeats 4000000 in
theorem long_2 (l m : Bpd) (w : World) (hl : BpdB l) (hm : BpdB m) (kl : brt l = true) (km : brt m = true) (hk : l.kd = 2) :
    Calls Try.prog 7 #[.agg (BC l), .agg (BC m)] w fun e w' => e = .returned (.bool true) ∧ Below w.heap.size w w' := by
  have HQ := hide (bpeq_enc hl hm kl km)
  have hN : (enc l).length = 36 := by rw [enc_length, hk]; rfl
  have e1 : (l.kd == 128) = false := by simp [hk]
  have e2 : (l.kd == 2) = true := by simp [hk]
  clear hk
  have A0 : Box ((w.alloc (.cells (BC l) 27)).alloc (.cells (BC m) 27)) w.heap.size (bcl l) := (Box.new w (bcl l) 27).alloc _
  have B0 : Box ((w.alloc (.cells (BC l) 27)).alloc (.cells (BC m) 27)) (w.heap.size + 1) (bcl m) := by
    have h := Box.new (w.alloc (.cells (BC l) 27)) (bcl m) 27
    rw [World.size_alloc] at h
    exact h
  have W0 := (below_alloc w (.cells (BC l) 27)).alloc (by simp) (.cells (BC m) 27)
  go_enter Try.func7, Try.ntmps7
  go_wp2_with fail
  refine (awake9 _).mono ?_
  rintro e w1 ⟨rfl, hb1⟩
  replace A0 := A0.on hb1; replace B0 := B0.on hb1; replace W0 := belowOn W0 hb1
  clear hb1
  have tk1 : True := trivial
  go_wp2_with (have _t := tk1; refine wpl_bpdu (.tmp 2) rfl A0 ?_ ?_ ?_; rfl; rfl; clear tk1)
  refine (encode10_len l 36 _ hl kl hN).mono ?_
  rintro e w2 ⟨g1, c1, rfl, Y1, hb1⟩
  replace A0 := A0.on hb1; replace B0 := B0.on hb1; replace W0 := belowOn W0 hb1
  clear hb1
  have tk1 : True := trivial
  go_wp2_with (have _t := tk1; refine wpl_bpdu (.tmp 3) rfl B0 ?_ ?_ ?_; rfl; rfl; clear tk1)
  refine (encode10_len m _ _ hm km rfl).mono ?_
  rintro e w3 ⟨g2, c2, rfl, Y2, hb1⟩
  replace A0 := A0.on hb1; replace B0 := B0.on hb1; replace W0 := belowOn W0 hb1
  replace Y1 := Y1.on hb1
  clear hb1
  have c0 := A0.cell 0 (.int .i64 l.kd) rfl
  have A1 := A0.drew; have B1 := B0.drew; replace Y1 := Y1.drew; replace Y2 := Y2.drew; replace W0 := W0.drew
  have he := eqB l m
  have hc1 : ∀ W, Byt W (some ⟨g1, 0, none⟩) 36 c1 (enc l) → (convert 29 9 (.slice (some ⟨g1, 0, none⟩) 36 c1)).run Try.prog W = .ok (.string (bs (enc l))) W := fun W h => bytStr h
  have hc2 : ∀ W, Byt W (some ⟨g2, 0, none⟩) (enc m).length c2 (enc m) → (convert 29 9 (.slice (some ⟨g2, 0, none⟩) (enc m).length c2)).run Try.prog W = .ok (.string (bs (enc m))) W := fun W h => bytStr h
  have hq := HQ.out
  generalize (enc m).length = n2 at *
  clear hN A0 B0
  generalize enc l = el at *
  generalize enc m = em at *
  go_wp2_with fail
  refine wp_region_held_drew (S := fun w' => (Box w' w.heap.size (bcl l) ∧ Box w' (w.heap.size + 1) (bcl m)) ∧ Byt w' (some ⟨g1, 0, none⟩) 36 c1 el ∧ Byt w' (some ⟨g2, 0, none⟩) n2 c2 em) (by kernel_rfl) ⟨⟨A1, B1⟩, Y1, Y2⟩ (fun hHeld => ?_)
  refine wpAnyH_take (i := 0) (v := .slice (some ⟨g1, 0, none⟩) 36 c1) rfl (by kernel_rfl) (by kernel_rfl) (by kernel_rfl) (fun _ _ _ h => h) (Or.inl ⟨by rfl, ?_⟩) hHeld ?_
  · intro W hW; clear hW; go_simp
  change wpAnyH _ _ _ _ _ _ _ ⟨#[.agg (BC l), .agg (BC m), .pointer (some ⟨w.heap.size, 0, none⟩), .pointer (some ⟨w.heap.size + 1, 0, none⟩), .bool false, .bool true, .slice (some ⟨g1, 0, none⟩) 36 c1, .int .i64 0, .slice (some ⟨g2, 0, none⟩) n2 c2, .int .i64 0, .int .i64 36, .bool true, .tuple #[.slice (some ⟨g1, 0, none⟩) 36 c1, .int .i64 0], .agg (BC l), .tuple #[.slice (some ⟨g1, 0, none⟩) 36 c1, .int .i64 0], .slice (some ⟨g1, 0, none⟩) 36 c1, .int .i64 0, .tuple #[.slice (some ⟨g2, 0, none⟩) n2 c2, .int .i64 0], .agg (BC m), .tuple #[.slice (some ⟨g2, 0, none⟩) n2 c2, .int .i64 0], .slice (some ⟨g2, 0, none⟩) n2 c2, .int .i64 0, .bool true, .bool false, .bool false, .int .i64 0, .bool false, .bool false, .bool false, .int .i64 0, .bool false, .bool false, undef, .pointer (some ⟨w.heap.size, 0, none⟩), .int .i64 l.kd, .bool false, .bool false, .bool true, .bool true, .slice (some ⟨g1, 0, none⟩) 36 c1, undef, undef, undef, undef, undef, undef, undef, undef, undef, undef, undef, undef, undef, undef], []⟩ _
  refine wpAnyH_take (i := 1) (v := .int .i64 36) rfl (by kernel_rfl) (by kernel_rfl) (by kernel_rfl) (fun _ _ _ h => h) (Or.inl ⟨by rfl, ?_⟩) hHeld ?_
  · intro W hW; clear hW; go_simp
  change wpAnyH _ _ _ _ _ _ _ ⟨#[.agg (BC l), .agg (BC m), .pointer (some ⟨w.heap.size, 0, none⟩), .pointer (some ⟨w.heap.size + 1, 0, none⟩), .bool false, .bool true, .slice (some ⟨g1, 0, none⟩) 36 c1, .int .i64 0, .slice (some ⟨g2, 0, none⟩) n2 c2, .int .i64 0, .int .i64 36, .bool true, .tuple #[.slice (some ⟨g1, 0, none⟩) 36 c1, .int .i64 0], .agg (BC l), .tuple #[.slice (some ⟨g1, 0, none⟩) 36 c1, .int .i64 0], .slice (some ⟨g1, 0, none⟩) 36 c1, .int .i64 0, .tuple #[.slice (some ⟨g2, 0, none⟩) n2 c2, .int .i64 0], .agg (BC m), .tuple #[.slice (some ⟨g2, 0, none⟩) n2 c2, .int .i64 0], .slice (some ⟨g2, 0, none⟩) n2 c2, .int .i64 0, .bool true, .bool false, .bool false, .int .i64 0, .bool false, .bool false, .bool false, .int .i64 0, .bool false, .bool false, undef, .pointer (some ⟨w.heap.size, 0, none⟩), .int .i64 l.kd, .bool false, .bool false, .bool true, .bool true, .slice (some ⟨g1, 0, none⟩) 36 c1, .int .i64 36, undef, undef, undef, undef, undef, undef, undef, undef, undef, undef, undef, undef, undef], []⟩ _
  refine wpAnyH_take (i := 2) (v := .int .i64 36) rfl (by kernel_rfl) (by kernel_rfl) (by kernel_rfl) (fun _ _ _ h => h) (Or.inl ⟨by rfl, ?_⟩) hHeld ?_
  · intro W hW; clear hW; go_simp
  change wpAnyH _ _ _ _ _ _ _ ⟨#[.agg (BC l), .agg (BC m), .pointer (some ⟨w.heap.size, 0, none⟩), .pointer (some ⟨w.heap.size + 1, 0, none⟩), .bool false, .bool true, .slice (some ⟨g1, 0, none⟩) 36 c1, .int .i64 0, .slice (some ⟨g2, 0, none⟩) n2 c2, .int .i64 0, .int .i64 36, .bool true, .tuple #[.slice (some ⟨g1, 0, none⟩) 36 c1, .int .i64 0], .agg (BC l), .tuple #[.slice (some ⟨g1, 0, none⟩) 36 c1, .int .i64 0], .slice (some ⟨g1, 0, none⟩) 36 c1, .int .i64 0, .tuple #[.slice (some ⟨g2, 0, none⟩) n2 c2, .int .i64 0], .agg (BC m), .tuple #[.slice (some ⟨g2, 0, none⟩) n2 c2, .int .i64 0], .slice (some ⟨g2, 0, none⟩) n2 c2, .int .i64 0, .bool true, .bool false, .bool false, .int .i64 0, .bool false, .bool false, .bool false, .int .i64 0, .bool false, .bool false, undef, .pointer (some ⟨w.heap.size, 0, none⟩), .int .i64 l.kd, .bool false, .bool false, .bool true, .bool true, .slice (some ⟨g1, 0, none⟩) 36 c1, .int .i64 36, .int .i64 36, undef, undef, undef, undef, undef, undef, undef, undef, undef, undef, undef, undef], []⟩ _
  refine wpAnyH_take (i := 3) (v := .bool true) rfl (by kernel_rfl) (by kernel_rfl) (by kernel_rfl) (fun _ _ _ h => h) (Or.inl ⟨by rfl, ?_⟩) hHeld ?_
  · intro W hW; clear hW; go_simp
  change wpAnyH _ _ _ _ _ _ _ ⟨#[.agg (BC l), .agg (BC m), .pointer (some ⟨w.heap.size, 0, none⟩), .pointer (some ⟨w.heap.size + 1, 0, none⟩), .bool false, .bool true, .slice (some ⟨g1, 0, none⟩) 36 c1, .int .i64 0, .slice (some ⟨g2, 0, none⟩) n2 c2, .int .i64 0, .int .i64 36, .bool true, .tuple #[.slice (some ⟨g1, 0, none⟩) 36 c1, .int .i64 0], .agg (BC l), .tuple #[.slice (some ⟨g1, 0, none⟩) 36 c1, .int .i64 0], .slice (some ⟨g1, 0, none⟩) 36 c1, .int .i64 0, .tuple #[.slice (some ⟨g2, 0, none⟩) n2 c2, .int .i64 0], .agg (BC m), .tuple #[.slice (some ⟨g2, 0, none⟩) n2 c2, .int .i64 0], .slice (some ⟨g2, 0, none⟩) n2 c2, .int .i64 0, .bool true, .bool false, .bool false, .int .i64 0, .bool false, .bool false, .bool false, .int .i64 0, .bool false, .bool false, undef, .pointer (some ⟨w.heap.size, 0, none⟩), .int .i64 l.kd, .bool false, .bool false, .bool true, .bool true, .slice (some ⟨g1, 0, none⟩) 36 c1, .int .i64 36, .int .i64 36, .bool true, undef, undef, undef, undef, undef, undef, undef, undef, undef, undef, undef], []⟩ _
  refine wpAnyH_take (i := 4) (v := .bool true) rfl (by kernel_rfl) (by kernel_rfl) (by kernel_rfl) (fun _ _ _ h => h) (Or.inl ⟨by rfl, ?_⟩) hHeld ?_
  · intro W hW; clear hW; go_simp
  change wpAnyH _ _ _ _ _ _ _ ⟨#[.agg (BC l), .agg (BC m), .pointer (some ⟨w.heap.size, 0, none⟩), .pointer (some ⟨w.heap.size + 1, 0, none⟩), .bool false, .bool true, .slice (some ⟨g1, 0, none⟩) 36 c1, .int .i64 0, .slice (some ⟨g2, 0, none⟩) n2 c2, .int .i64 0, .int .i64 36, .bool true, .tuple #[.slice (some ⟨g1, 0, none⟩) 36 c1, .int .i64 0], .agg (BC l), .tuple #[.slice (some ⟨g1, 0, none⟩) 36 c1, .int .i64 0], .slice (some ⟨g1, 0, none⟩) 36 c1, .int .i64 0, .tuple #[.slice (some ⟨g2, 0, none⟩) n2 c2, .int .i64 0], .agg (BC m), .tuple #[.slice (some ⟨g2, 0, none⟩) n2 c2, .int .i64 0], .slice (some ⟨g2, 0, none⟩) n2 c2, .int .i64 0, .bool true, .bool false, .bool false, .int .i64 0, .bool false, .bool false, .bool false, .int .i64 0, .bool false, .bool false, undef, .pointer (some ⟨w.heap.size, 0, none⟩), .int .i64 l.kd, .bool false, .bool false, .bool true, .bool true, .slice (some ⟨g1, 0, none⟩) 36 c1, .int .i64 36, .int .i64 36, .bool true, .bool true, undef, undef, undef, undef, undef, undef, undef, undef, undef, undef], []⟩ _
  refine wpAnyH_take (i := 5) (v := .slice (some ⟨g1, 0, none⟩) 36 c1) rfl (by kernel_rfl) (by kernel_rfl) (by kernel_rfl) (fun _ _ _ h => h) (Or.inl ⟨by rfl, ?_⟩) hHeld ?_
  · intro W hW; clear hW; go_simp
  change wpAnyH _ _ _ _ _ _ _ ⟨#[.agg (BC l), .agg (BC m), .pointer (some ⟨w.heap.size, 0, none⟩), .pointer (some ⟨w.heap.size + 1, 0, none⟩), .bool false, .bool true, .slice (some ⟨g1, 0, none⟩) 36 c1, .int .i64 0, .slice (some ⟨g2, 0, none⟩) n2 c2, .int .i64 0, .int .i64 36, .bool true, .tuple #[.slice (some ⟨g1, 0, none⟩) 36 c1, .int .i64 0], .agg (BC l), .tuple #[.slice (some ⟨g1, 0, none⟩) 36 c1, .int .i64 0], .slice (some ⟨g1, 0, none⟩) 36 c1, .int .i64 0, .tuple #[.slice (some ⟨g2, 0, none⟩) n2 c2, .int .i64 0], .agg (BC m), .tuple #[.slice (some ⟨g2, 0, none⟩) n2 c2, .int .i64 0], .slice (some ⟨g2, 0, none⟩) n2 c2, .int .i64 0, .bool true, .bool false, .bool false, .int .i64 0, .bool false, .bool false, .bool false, .int .i64 0, .bool false, .bool false, undef, .pointer (some ⟨w.heap.size, 0, none⟩), .int .i64 l.kd, .bool false, .bool false, .bool true, .bool true, .slice (some ⟨g1, 0, none⟩) 36 c1, .int .i64 36, .int .i64 36, .bool true, .bool true, .slice (some ⟨g1, 0, none⟩) 36 c1, undef, undef, undef, undef, undef, undef, undef, undef, undef], []⟩ _
  refine wpAnyH_take (i := 6) (v := .string (bs el)) rfl (by kernel_rfl) (by kernel_rfl) (by kernel_rfl) (fun _ _ _ h => h) (Or.inl ⟨by rfl, ?_⟩) hHeld ?_
  · intro W hW; obtain ⟨hW0, hW1, hW2⟩ := hW; clear hW0; go_simp
  change wpAnyH _ _ _ _ _ _ _ ⟨#[.agg (BC l), .agg (BC m), .pointer (some ⟨w.heap.size, 0, none⟩), .pointer (some ⟨w.heap.size + 1, 0, none⟩), .bool false, .bool true, .slice (some ⟨g1, 0, none⟩) 36 c1, .int .i64 0, .slice (some ⟨g2, 0, none⟩) n2 c2, .int .i64 0, .int .i64 36, .bool true, .tuple #[.slice (some ⟨g1, 0, none⟩) 36 c1, .int .i64 0], .agg (BC l), .tuple #[.slice (some ⟨g1, 0, none⟩) 36 c1, .int .i64 0], .slice (some ⟨g1, 0, none⟩) 36 c1, .int .i64 0, .tuple #[.slice (some ⟨g2, 0, none⟩) n2 c2, .int .i64 0], .agg (BC m), .tuple #[.slice (some ⟨g2, 0, none⟩) n2 c2, .int .i64 0], .slice (some ⟨g2, 0, none⟩) n2 c2, .int .i64 0, .bool true, .bool false, .bool false, .int .i64 0, .bool false, .bool false, .bool false, .int .i64 0, .bool false, .bool false, undef, .pointer (some ⟨w.heap.size, 0, none⟩), .int .i64 l.kd, .bool false, .bool false, .bool true, .bool true, .slice (some ⟨g1, 0, none⟩) 36 c1, .int .i64 36, .int .i64 36, .bool true, .bool true, .slice (some ⟨g1, 0, none⟩) 36 c1, .string (bs el), undef, undef, undef, undef, undef, undef, undef, undef], []⟩ _
  refine wpAnyH_take (i := 7) (v := .slice (some ⟨g2, 0, none⟩) n2 c2) rfl (by kernel_rfl) (by kernel_rfl) (by kernel_rfl) (fun _ _ _ h => h) (Or.inl ⟨by rfl, ?_⟩) hHeld ?_
  · intro W hW; clear hW; go_simp
  change wpAnyH _ _ _ _ _ _ _ ⟨#[.agg (BC l), .agg (BC m), .pointer (some ⟨w.heap.size, 0, none⟩), .pointer (some ⟨w.heap.size + 1, 0, none⟩), .bool false, .bool true, .slice (some ⟨g1, 0, none⟩) 36 c1, .int .i64 0, .slice (some ⟨g2, 0, none⟩) n2 c2, .int .i64 0, .int .i64 36, .bool true, .tuple #[.slice (some ⟨g1, 0, none⟩) 36 c1, .int .i64 0], .agg (BC l), .tuple #[.slice (some ⟨g1, 0, none⟩) 36 c1, .int .i64 0], .slice (some ⟨g1, 0, none⟩) 36 c1, .int .i64 0, .tuple #[.slice (some ⟨g2, 0, none⟩) n2 c2, .int .i64 0], .agg (BC m), .tuple #[.slice (some ⟨g2, 0, none⟩) n2 c2, .int .i64 0], .slice (some ⟨g2, 0, none⟩) n2 c2, .int .i64 0, .bool true, .bool false, .bool false, .int .i64 0, .bool false, .bool false, .bool false, .int .i64 0, .bool false, .bool false, undef, .pointer (some ⟨w.heap.size, 0, none⟩), .int .i64 l.kd, .bool false, .bool false, .bool true, .bool true, .slice (some ⟨g1, 0, none⟩) 36 c1, .int .i64 36, .int .i64 36, .bool true, .bool true, .slice (some ⟨g1, 0, none⟩) 36 c1, .string (bs el), .slice (some ⟨g2, 0, none⟩) n2 c2, undef, undef, undef, undef, undef, undef, undef], []⟩ _
  refine wpAnyH_take (i := 8) (v := .string (bs em)) rfl (by kernel_rfl) (by kernel_rfl) (by kernel_rfl) (fun _ _ _ h => h) (Or.inl ⟨by rfl, ?_⟩) hHeld ?_
  · intro W hW; obtain ⟨hW0, hW1, hW2⟩ := hW; clear hW0; go_simp
  change wpAnyH _ _ _ _ _ _ _ ⟨#[.agg (BC l), .agg (BC m), .pointer (some ⟨w.heap.size, 0, none⟩), .pointer (some ⟨w.heap.size + 1, 0, none⟩), .bool false, .bool true, .slice (some ⟨g1, 0, none⟩) 36 c1, .int .i64 0, .slice (some ⟨g2, 0, none⟩) n2 c2, .int .i64 0, .int .i64 36, .bool true, .tuple #[.slice (some ⟨g1, 0, none⟩) 36 c1, .int .i64 0], .agg (BC l), .tuple #[.slice (some ⟨g1, 0, none⟩) 36 c1, .int .i64 0], .slice (some ⟨g1, 0, none⟩) 36 c1, .int .i64 0, .tuple #[.slice (some ⟨g2, 0, none⟩) n2 c2, .int .i64 0], .agg (BC m), .tuple #[.slice (some ⟨g2, 0, none⟩) n2 c2, .int .i64 0], .slice (some ⟨g2, 0, none⟩) n2 c2, .int .i64 0, .bool true, .bool false, .bool false, .int .i64 0, .bool false, .bool false, .bool false, .int .i64 0, .bool false, .bool false, undef, .pointer (some ⟨w.heap.size, 0, none⟩), .int .i64 l.kd, .bool false, .bool false, .bool true, .bool true, .slice (some ⟨g1, 0, none⟩) 36 c1, .int .i64 36, .int .i64 36, .bool true, .bool true, .slice (some ⟨g1, 0, none⟩) 36 c1, .string (bs el), .slice (some ⟨g2, 0, none⟩) n2 c2, .string (bs em), undef, undef, undef, undef, undef, undef], []⟩ _
  refine wpAnyH_take (i := 9) (v := .bool (bpeq l m)) rfl (by kernel_rfl) (by kernel_rfl) (by kernel_rfl) (fun _ _ _ h => h) (Or.inl ⟨by rfl, ?_⟩) hHeld ?_
  · intro W hW; clear hW; go_simp
  change wpAnyH _ _ _ _ _ _ _ ⟨#[.agg (BC l), .agg (BC m), .pointer (some ⟨w.heap.size, 0, none⟩), .pointer (some ⟨w.heap.size + 1, 0, none⟩), .bool false, .bool true, .slice (some ⟨g1, 0, none⟩) 36 c1, .int .i64 0, .slice (some ⟨g2, 0, none⟩) n2 c2, .int .i64 0, .int .i64 36, .bool true, .tuple #[.slice (some ⟨g1, 0, none⟩) 36 c1, .int .i64 0], .agg (BC l), .tuple #[.slice (some ⟨g1, 0, none⟩) 36 c1, .int .i64 0], .slice (some ⟨g1, 0, none⟩) 36 c1, .int .i64 0, .tuple #[.slice (some ⟨g2, 0, none⟩) n2 c2, .int .i64 0], .agg (BC m), .tuple #[.slice (some ⟨g2, 0, none⟩) n2 c2, .int .i64 0], .slice (some ⟨g2, 0, none⟩) n2 c2, .int .i64 0, .bool true, .bool false, .bool false, .int .i64 0, .bool false, .bool false, .bool false, .int .i64 0, .bool false, .bool false, undef, .pointer (some ⟨w.heap.size, 0, none⟩), .int .i64 l.kd, .bool false, .bool false, .bool true, .bool true, .slice (some ⟨g1, 0, none⟩) 36 c1, .int .i64 36, .int .i64 36, .bool true, .bool true, .slice (some ⟨g1, 0, none⟩) 36 c1, .string (bs el), .slice (some ⟨g2, 0, none⟩) n2 c2, .string (bs em), .bool (bpeq l m), undef, undef, undef, undef, undef], []⟩ _
  refine wpAnyH_take (i := 10) (v := .agg (BC l)) rfl (by kernel_rfl) (by kernel_rfl) (by kernel_rfl) (fun _ _ _ h => h) (yieldsIf_load_mid (by rfl) 27 (.tmp 2) rfl w.heap.size 0 rfl (bcl l) _ (fun W hW => hW.1.1.at_) Try.underlying27 rfl Try.size27) hHeld ?_
  change wpAnyH _ _ _ _ _ _ _ ⟨#[.agg (BC l), .agg (BC m), .pointer (some ⟨w.heap.size, 0, none⟩), .pointer (some ⟨w.heap.size + 1, 0, none⟩), .bool false, .bool true, .slice (some ⟨g1, 0, none⟩) 36 c1, .int .i64 0, .slice (some ⟨g2, 0, none⟩) n2 c2, .int .i64 0, .int .i64 36, .bool true, .tuple #[.slice (some ⟨g1, 0, none⟩) 36 c1, .int .i64 0], .agg (BC l), .tuple #[.slice (some ⟨g1, 0, none⟩) 36 c1, .int .i64 0], .slice (some ⟨g1, 0, none⟩) 36 c1, .int .i64 0, .tuple #[.slice (some ⟨g2, 0, none⟩) n2 c2, .int .i64 0], .agg (BC m), .tuple #[.slice (some ⟨g2, 0, none⟩) n2 c2, .int .i64 0], .slice (some ⟨g2, 0, none⟩) n2 c2, .int .i64 0, .bool true, .bool false, .bool false, .int .i64 0, .bool false, .bool false, .bool false, .int .i64 0, .bool false, .bool false, undef, .pointer (some ⟨w.heap.size, 0, none⟩), .int .i64 l.kd, .bool false, .bool false, .bool true, .bool true, .slice (some ⟨g1, 0, none⟩) 36 c1, .int .i64 36, .int .i64 36, .bool true, .bool true, .slice (some ⟨g1, 0, none⟩) 36 c1, .string (bs el), .slice (some ⟨g2, 0, none⟩) n2 c2, .string (bs em), .bool (bpeq l m), .agg (BC l), undef, undef, undef, undef], []⟩ _
  refine wpAnyH_take (i := 11) (v := .agg (BC m)) rfl (by kernel_rfl) (by kernel_rfl) (by kernel_rfl) (fun _ _ _ h => h) (yieldsIf_load_mid (by rfl) 27 (.tmp 3) rfl (w.heap.size + 1) 0 rfl (bcl m) _ (fun W hW => hW.1.2.at_) Try.underlying27 rfl Try.size27) hHeld ?_
  change wpAnyH _ _ _ _ _ _ _ ⟨#[.agg (BC l), .agg (BC m), .pointer (some ⟨w.heap.size, 0, none⟩), .pointer (some ⟨w.heap.size + 1, 0, none⟩), .bool false, .bool true, .slice (some ⟨g1, 0, none⟩) 36 c1, .int .i64 0, .slice (some ⟨g2, 0, none⟩) n2 c2, .int .i64 0, .int .i64 36, .bool true, .tuple #[.slice (some ⟨g1, 0, none⟩) 36 c1, .int .i64 0], .agg (BC l), .tuple #[.slice (some ⟨g1, 0, none⟩) 36 c1, .int .i64 0], .slice (some ⟨g1, 0, none⟩) 36 c1, .int .i64 0, .tuple #[.slice (some ⟨g2, 0, none⟩) n2 c2, .int .i64 0], .agg (BC m), .tuple #[.slice (some ⟨g2, 0, none⟩) n2 c2, .int .i64 0], .slice (some ⟨g2, 0, none⟩) n2 c2, .int .i64 0, .bool true, .bool false, .bool false, .int .i64 0, .bool false, .bool false, .bool false, .int .i64 0, .bool false, .bool false, undef, .pointer (some ⟨w.heap.size, 0, none⟩), .int .i64 l.kd, .bool false, .bool false, .bool true, .bool true, .slice (some ⟨g1, 0, none⟩) 36 c1, .int .i64 36, .int .i64 36, .bool true, .bool true, .slice (some ⟨g1, 0, none⟩) 36 c1, .string (bs el), .slice (some ⟨g2, 0, none⟩) n2 c2, .string (bs em), .bool (bpeq l m), .agg (BC l), .agg (BC m), undef, undef, undef], []⟩ _
  refine wpAnyH_take (i := 12) (v := .bool (bpeq l m)) rfl (by kernel_rfl) (by kernel_rfl) (by kernel_rfl) (fun _ _ _ h => h) (Or.inl ⟨by rfl, ?_⟩) hHeld ?_
  · intro W hW; clear hW; go_simp
  change wpAnyH _ _ _ _ _ _ _ ⟨#[.agg (BC l), .agg (BC m), .pointer (some ⟨w.heap.size, 0, none⟩), .pointer (some ⟨w.heap.size + 1, 0, none⟩), .bool false, .bool true, .slice (some ⟨g1, 0, none⟩) 36 c1, .int .i64 0, .slice (some ⟨g2, 0, none⟩) n2 c2, .int .i64 0, .int .i64 36, .bool true, .tuple #[.slice (some ⟨g1, 0, none⟩) 36 c1, .int .i64 0], .agg (BC l), .tuple #[.slice (some ⟨g1, 0, none⟩) 36 c1, .int .i64 0], .slice (some ⟨g1, 0, none⟩) 36 c1, .int .i64 0, .tuple #[.slice (some ⟨g2, 0, none⟩) n2 c2, .int .i64 0], .agg (BC m), .tuple #[.slice (some ⟨g2, 0, none⟩) n2 c2, .int .i64 0], .slice (some ⟨g2, 0, none⟩) n2 c2, .int .i64 0, .bool true, .bool false, .bool false, .int .i64 0, .bool false, .bool false, .bool false, .int .i64 0, .bool false, .bool false, undef, .pointer (some ⟨w.heap.size, 0, none⟩), .int .i64 l.kd, .bool false, .bool false, .bool true, .bool true, .slice (some ⟨g1, 0, none⟩) 36 c1, .int .i64 36, .int .i64 36, .bool true, .bool true, .slice (some ⟨g1, 0, none⟩) 36 c1, .string (bs el), .slice (some ⟨g2, 0, none⟩) n2 c2, .string (bs em), .bool (bpeq l m), .agg (BC l), .agg (BC m), .bool (bpeq l m), undef, undef], []⟩ _
  refine wpAnyH_take (i := 13) (v := .bool true) rfl (by kernel_rfl) (by kernel_rfl) (by kernel_rfl) (fun _ _ _ h => h) (Or.inl ⟨by rfl, ?_⟩) hHeld ?_
  · intro W hW; clear hW; go_simp
  change wpAnyH _ _ _ _ _ _ _ ⟨#[.agg (BC l), .agg (BC m), .pointer (some ⟨w.heap.size, 0, none⟩), .pointer (some ⟨w.heap.size + 1, 0, none⟩), .bool false, .bool true, .slice (some ⟨g1, 0, none⟩) 36 c1, .int .i64 0, .slice (some ⟨g2, 0, none⟩) n2 c2, .int .i64 0, .int .i64 36, .bool true, .tuple #[.slice (some ⟨g1, 0, none⟩) 36 c1, .int .i64 0], .agg (BC l), .tuple #[.slice (some ⟨g1, 0, none⟩) 36 c1, .int .i64 0], .slice (some ⟨g1, 0, none⟩) 36 c1, .int .i64 0, .tuple #[.slice (some ⟨g2, 0, none⟩) n2 c2, .int .i64 0], .agg (BC m), .tuple #[.slice (some ⟨g2, 0, none⟩) n2 c2, .int .i64 0], .slice (some ⟨g2, 0, none⟩) n2 c2, .int .i64 0, .bool true, .bool false, .bool false, .int .i64 0, .bool false, .bool false, .bool false, .int .i64 0, .bool false, .bool false, undef, .pointer (some ⟨w.heap.size, 0, none⟩), .int .i64 l.kd, .bool false, .bool false, .bool true, .bool true, .slice (some ⟨g1, 0, none⟩) 36 c1, .int .i64 36, .int .i64 36, .bool true, .bool true, .slice (some ⟨g1, 0, none⟩) 36 c1, .string (bs el), .slice (some ⟨g2, 0, none⟩) n2 c2, .string (bs em), .bool (bpeq l m), .agg (BC l), .agg (BC m), .bool (bpeq l m), .bool true, undef], []⟩ _
  refine wpAnyH_take (i := 14) (v := .bool true) rfl (by kernel_rfl) (by kernel_rfl) (by kernel_rfl) (fun _ _ _ h => h) (Or.inl ⟨by rfl, ?_⟩) hHeld ?_
  · intro W hW; clear hW; go_simp
  change wpAnyH _ _ _ _ _ _ _ ⟨#[.agg (BC l), .agg (BC m), .pointer (some ⟨w.heap.size, 0, none⟩), .pointer (some ⟨w.heap.size + 1, 0, none⟩), .bool false, .bool true, .slice (some ⟨g1, 0, none⟩) 36 c1, .int .i64 0, .slice (some ⟨g2, 0, none⟩) n2 c2, .int .i64 0, .int .i64 36, .bool true, .tuple #[.slice (some ⟨g1, 0, none⟩) 36 c1, .int .i64 0], .agg (BC l), .tuple #[.slice (some ⟨g1, 0, none⟩) 36 c1, .int .i64 0], .slice (some ⟨g1, 0, none⟩) 36 c1, .int .i64 0, .tuple #[.slice (some ⟨g2, 0, none⟩) n2 c2, .int .i64 0], .agg (BC m), .tuple #[.slice (some ⟨g2, 0, none⟩) n2 c2, .int .i64 0], .slice (some ⟨g2, 0, none⟩) n2 c2, .int .i64 0, .bool true, .bool false, .bool false, .int .i64 0, .bool false, .bool false, .bool false, .int .i64 0, .bool false, .bool false, undef, .pointer (some ⟨w.heap.size, 0, none⟩), .int .i64 l.kd, .bool false, .bool false, .bool true, .bool true, .slice (some ⟨g1, 0, none⟩) 36 c1, .int .i64 36, .int .i64 36, .bool true, .bool true, .slice (some ⟨g1, 0, none⟩) 36 c1, .string (bs el), .slice (some ⟨g2, 0, none⟩) n2 c2, .string (bs em), .bool (bpeq l m), .agg (BC l), .agg (BC m), .bool (bpeq l m), .bool true, .bool true], []⟩ _
  refine wpAnyH_take (i := 15) (v := .bool true) rfl (by kernel_rfl) (by kernel_rfl) (by kernel_rfl) (fun _ _ _ h => h) (Or.inl ⟨by rfl, ?_⟩) hHeld ?_
  · intro W hW; clear hW; go_simp
  change wpAnyH _ _ _ _ _ _ _ ⟨#[.agg (BC l), .agg (BC m), .pointer (some ⟨w.heap.size, 0, none⟩), .pointer (some ⟨w.heap.size + 1, 0, none⟩), .bool true, .bool true, .slice (some ⟨g1, 0, none⟩) 36 c1, .int .i64 0, .slice (some ⟨g2, 0, none⟩) n2 c2, .int .i64 0, .int .i64 36, .bool true, .tuple #[.slice (some ⟨g1, 0, none⟩) 36 c1, .int .i64 0], .agg (BC l), .tuple #[.slice (some ⟨g1, 0, none⟩) 36 c1, .int .i64 0], .slice (some ⟨g1, 0, none⟩) 36 c1, .int .i64 0, .tuple #[.slice (some ⟨g2, 0, none⟩) n2 c2, .int .i64 0], .agg (BC m), .tuple #[.slice (some ⟨g2, 0, none⟩) n2 c2, .int .i64 0], .slice (some ⟨g2, 0, none⟩) n2 c2, .int .i64 0, .bool true, .bool false, .bool false, .int .i64 0, .bool false, .bool false, .bool false, .int .i64 0, .bool false, .bool false, undef, .pointer (some ⟨w.heap.size, 0, none⟩), .int .i64 l.kd, .bool false, .bool false, .bool true, .bool true, .slice (some ⟨g1, 0, none⟩) 36 c1, .int .i64 36, .int .i64 36, .bool true, .bool true, .slice (some ⟨g1, 0, none⟩) 36 c1, .string (bs el), .slice (some ⟨g2, 0, none⟩) n2 c2, .string (bs em), .bool (bpeq l m), .agg (BC l), .agg (BC m), .bool (bpeq l m), .bool true, .bool true], []⟩ _
  refine wpAnyH_done (by kernel_rfl) ?_ _
  go_wp2
  go_ret
  exact ⟨rfl, W0⟩
set_option maxRecDepth 100000 in
set_option maxHeartbeats 4000000 in
theorem long_0 (l m : Bpd) (w : World) (hl : BpdB l) (hm : BpdB m) (kl : brt l = true) (km : brt m = true) (hk : l.kd = 0) :
    Calls Try.prog 7 #[.agg (BC l), .agg (BC m)] w fun e w' => e = .returned (.bool true) ∧ Below w.heap.size w w' := by
  have HQ := hide (bpeq_enc hl hm kl km)
  have hN : (enc l).length = 35 := by rw [enc_length, hk]; rfl
  have e1 : (l.kd == 128) = false := by simp [hk]
  have e2 : (l.kd == 2) = false := by simp [hk]
  clear hk
  have A0 : Box ((w.alloc (.cells (BC l) 27)).alloc (.cells (BC m) 27)) w.heap.size (bcl l) := (Box.new w (bcl l) 27).alloc _
  have B0 : Box ((w.alloc (.cells (BC l) 27)).alloc (.cells (BC m) 27)) (w.heap.size + 1) (bcl m) := by
    have h := Box.new (w.alloc (.cells (BC l) 27)) (bcl m) 27
    rw [World.size_alloc] at h
    exact h
  have W0 := (below_alloc w (.cells (BC l) 27)).alloc (by simp) (.cells (BC m) 27)
  go_enter Try.func7, Try.ntmps7
  go_wp2_with fail
  refine (awake9 _).mono ?_
  rintro e w1 ⟨rfl, hb1⟩
  replace A0 := A0.on hb1; replace B0 := B0.on hb1; replace W0 := belowOn W0 hb1
  clear hb1
  have tk1 : True := trivial
  go_wp2_with (have _t := tk1; refine wpl_bpdu (.tmp 2) rfl A0 ?_ ?_ ?_; rfl; rfl; clear tk1)
  refine (encode10_len l 35 _ hl kl hN).mono ?_
  rintro e w2 ⟨g1, c1, rfl, Y1, hb1⟩
  replace A0 := A0.on hb1; replace B0 := B0.on hb1; replace W0 := belowOn W0 hb1
  clear hb1
  have tk1 : True := trivial
  go_wp2_with (have _t := tk1; refine wpl_bpdu (.tmp 3) rfl B0 ?_ ?_ ?_; rfl; rfl; clear tk1)
  refine (encode10_len m _ _ hm km rfl).mono ?_
  rintro e w3 ⟨g2, c2, rfl, Y2, hb1⟩
  replace A0 := A0.on hb1; replace B0 := B0.on hb1; replace W0 := belowOn W0 hb1
  replace Y1 := Y1.on hb1
  clear hb1
  have c0 := A0.cell 0 (.int .i64 l.kd) rfl
  have A1 := A0.drew; have B1 := B0.drew; replace Y1 := Y1.drew; replace Y2 := Y2.drew; replace W0 := W0.drew
  have he := eqB l m
  have hc1 : ∀ W, Byt W (some ⟨g1, 0, none⟩) 35 c1 (enc l) → (convert 29 9 (.slice (some ⟨g1, 0, none⟩) 35 c1)).run Try.prog W = .ok (.string (bs (enc l))) W := fun W h => bytStr h
  have hc2 : ∀ W, Byt W (some ⟨g2, 0, none⟩) (enc m).length c2 (enc m) → (convert 29 9 (.slice (some ⟨g2, 0, none⟩) (enc m).length c2)).run Try.prog W = .ok (.string (bs (enc m))) W := fun W h => bytStr h
  have hq := HQ.out
  generalize (enc m).length = n2 at *
  clear hN A0 B0
  generalize enc l = el at *
  generalize enc m = em at *
  go_wp2_with fail
  refine wp_region_held_drew (S := fun w' => (Box w' w.heap.size (bcl l) ∧ Box w' (w.heap.size + 1) (bcl m)) ∧ Byt w' (some ⟨g1, 0, none⟩) 35 c1 el ∧ Byt w' (some ⟨g2, 0, none⟩) n2 c2 em) (by kernel_rfl) ⟨⟨A1, B1⟩, Y1, Y2⟩ (fun hHeld => ?_)
  refine wpAnyH_take (i := 0) (v := .slice (some ⟨g1, 0, none⟩) 35 c1) rfl (by kernel_rfl) (by kernel_rfl) (by kernel_rfl) (fun _ _ _ h => h) (Or.inl ⟨by rfl, ?_⟩) hHeld ?_
  · intro W hW; clear hW; go_simp
  change wpAnyH _ _ _ _ _ _ _ ⟨#[.agg (BC l), .agg (BC m), .pointer (some ⟨w.heap.size, 0, none⟩), .pointer (some ⟨w.heap.size + 1, 0, none⟩), .bool false, .bool true, .slice (some ⟨g1, 0, none⟩) 35 c1, .int .i64 0, .slice (some ⟨g2, 0, none⟩) n2 c2, .int .i64 0, .int .i64 35, .bool true, .tuple #[.slice (some ⟨g1, 0, none⟩) 35 c1, .int .i64 0], .agg (BC l), .tuple #[.slice (some ⟨g1, 0, none⟩) 35 c1, .int .i64 0], .slice (some ⟨g1, 0, none⟩) 35 c1, .int .i64 0, .tuple #[.slice (some ⟨g2, 0, none⟩) n2 c2, .int .i64 0], .agg (BC m), .tuple #[.slice (some ⟨g2, 0, none⟩) n2 c2, .int .i64 0], .slice (some ⟨g2, 0, none⟩) n2 c2, .int .i64 0, .bool true, .bool false, .bool false, .int .i64 0, .bool false, .bool false, .bool false, .int .i64 0, .bool false, .bool false, undef, .pointer (some ⟨w.heap.size, 0, none⟩), .int .i64 l.kd, .bool false, .bool false, .bool false, .bool false, .slice (some ⟨g1, 0, none⟩) 35 c1, undef, undef, undef, undef, undef, undef, undef, undef, undef, undef, undef, undef, undef, undef], []⟩ _
  refine wpAnyH_take (i := 1) (v := .int .i64 35) rfl (by kernel_rfl) (by kernel_rfl) (by kernel_rfl) (fun _ _ _ h => h) (Or.inl ⟨by rfl, ?_⟩) hHeld ?_
  · intro W hW; clear hW; go_simp
  change wpAnyH _ _ _ _ _ _ _ ⟨#[.agg (BC l), .agg (BC m), .pointer (some ⟨w.heap.size, 0, none⟩), .pointer (some ⟨w.heap.size + 1, 0, none⟩), .bool false, .bool true, .slice (some ⟨g1, 0, none⟩) 35 c1, .int .i64 0, .slice (some ⟨g2, 0, none⟩) n2 c2, .int .i64 0, .int .i64 35, .bool true, .tuple #[.slice (some ⟨g1, 0, none⟩) 35 c1, .int .i64 0], .agg (BC l), .tuple #[.slice (some ⟨g1, 0, none⟩) 35 c1, .int .i64 0], .slice (some ⟨g1, 0, none⟩) 35 c1, .int .i64 0, .tuple #[.slice (some ⟨g2, 0, none⟩) n2 c2, .int .i64 0], .agg (BC m), .tuple #[.slice (some ⟨g2, 0, none⟩) n2 c2, .int .i64 0], .slice (some ⟨g2, 0, none⟩) n2 c2, .int .i64 0, .bool true, .bool false, .bool false, .int .i64 0, .bool false, .bool false, .bool false, .int .i64 0, .bool false, .bool false, undef, .pointer (some ⟨w.heap.size, 0, none⟩), .int .i64 l.kd, .bool false, .bool false, .bool false, .bool false, .slice (some ⟨g1, 0, none⟩) 35 c1, .int .i64 35, undef, undef, undef, undef, undef, undef, undef, undef, undef, undef, undef, undef, undef], []⟩ _
  refine wpAnyH_take (i := 2) (v := .int .i64 35) rfl (by kernel_rfl) (by kernel_rfl) (by kernel_rfl) (fun _ _ _ h => h) (Or.inl ⟨by rfl, ?_⟩) hHeld ?_
  · intro W hW; clear hW; go_simp
  change wpAnyH _ _ _ _ _ _ _ ⟨#[.agg (BC l), .agg (BC m), .pointer (some ⟨w.heap.size, 0, none⟩), .pointer (some ⟨w.heap.size + 1, 0, none⟩), .bool false, .bool true, .slice (some ⟨g1, 0, none⟩) 35 c1, .int .i64 0, .slice (some ⟨g2, 0, none⟩) n2 c2, .int .i64 0, .int .i64 35, .bool true, .tuple #[.slice (some ⟨g1, 0, none⟩) 35 c1, .int .i64 0], .agg (BC l), .tuple #[.slice (some ⟨g1, 0, none⟩) 35 c1, .int .i64 0], .slice (some ⟨g1, 0, none⟩) 35 c1, .int .i64 0, .tuple #[.slice (some ⟨g2, 0, none⟩) n2 c2, .int .i64 0], .agg (BC m), .tuple #[.slice (some ⟨g2, 0, none⟩) n2 c2, .int .i64 0], .slice (some ⟨g2, 0, none⟩) n2 c2, .int .i64 0, .bool true, .bool false, .bool false, .int .i64 0, .bool false, .bool false, .bool false, .int .i64 0, .bool false, .bool false, undef, .pointer (some ⟨w.heap.size, 0, none⟩), .int .i64 l.kd, .bool false, .bool false, .bool false, .bool false, .slice (some ⟨g1, 0, none⟩) 35 c1, .int .i64 35, .int .i64 35, undef, undef, undef, undef, undef, undef, undef, undef, undef, undef, undef, undef], []⟩ _
  refine wpAnyH_take (i := 3) (v := .bool true) rfl (by kernel_rfl) (by kernel_rfl) (by kernel_rfl) (fun _ _ _ h => h) (Or.inl ⟨by rfl, ?_⟩) hHeld ?_
  · intro W hW; clear hW; go_simp
  change wpAnyH _ _ _ _ _ _ _ ⟨#[.agg (BC l), .agg (BC m), .pointer (some ⟨w.heap.size, 0, none⟩), .pointer (some ⟨w.heap.size + 1, 0, none⟩), .bool false, .bool true, .slice (some ⟨g1, 0, none⟩) 35 c1, .int .i64 0, .slice (some ⟨g2, 0, none⟩) n2 c2, .int .i64 0, .int .i64 35, .bool true, .tuple #[.slice (some ⟨g1, 0, none⟩) 35 c1, .int .i64 0], .agg (BC l), .tuple #[.slice (some ⟨g1, 0, none⟩) 35 c1, .int .i64 0], .slice (some ⟨g1, 0, none⟩) 35 c1, .int .i64 0, .tuple #[.slice (some ⟨g2, 0, none⟩) n2 c2, .int .i64 0], .agg (BC m), .tuple #[.slice (some ⟨g2, 0, none⟩) n2 c2, .int .i64 0], .slice (some ⟨g2, 0, none⟩) n2 c2, .int .i64 0, .bool true, .bool false, .bool false, .int .i64 0, .bool false, .bool false, .bool false, .int .i64 0, .bool false, .bool false, undef, .pointer (some ⟨w.heap.size, 0, none⟩), .int .i64 l.kd, .bool false, .bool false, .bool false, .bool false, .slice (some ⟨g1, 0, none⟩) 35 c1, .int .i64 35, .int .i64 35, .bool true, undef, undef, undef, undef, undef, undef, undef, undef, undef, undef, undef], []⟩ _
  refine wpAnyH_take (i := 4) (v := .bool true) rfl (by kernel_rfl) (by kernel_rfl) (by kernel_rfl) (fun _ _ _ h => h) (Or.inl ⟨by rfl, ?_⟩) hHeld ?_
  · intro W hW; clear hW; go_simp
  change wpAnyH _ _ _ _ _ _ _ ⟨#[.agg (BC l), .agg (BC m), .pointer (some ⟨w.heap.size, 0, none⟩), .pointer (some ⟨w.heap.size + 1, 0, none⟩), .bool false, .bool true, .slice (some ⟨g1, 0, none⟩) 35 c1, .int .i64 0, .slice (some ⟨g2, 0, none⟩) n2 c2, .int .i64 0, .int .i64 35, .bool true, .tuple #[.slice (some ⟨g1, 0, none⟩) 35 c1, .int .i64 0], .agg (BC l), .tuple #[.slice (some ⟨g1, 0, none⟩) 35 c1, .int .i64 0], .slice (some ⟨g1, 0, none⟩) 35 c1, .int .i64 0, .tuple #[.slice (some ⟨g2, 0, none⟩) n2 c2, .int .i64 0], .agg (BC m), .tuple #[.slice (some ⟨g2, 0, none⟩) n2 c2, .int .i64 0], .slice (some ⟨g2, 0, none⟩) n2 c2, .int .i64 0, .bool true, .bool false, .bool false, .int .i64 0, .bool false, .bool false, .bool false, .int .i64 0, .bool false, .bool false, undef, .pointer (some ⟨w.heap.size, 0, none⟩), .int .i64 l.kd, .bool false, .bool false, .bool false, .bool false, .slice (some ⟨g1, 0, none⟩) 35 c1, .int .i64 35, .int .i64 35, .bool true, .bool true, undef, undef, undef, undef, undef, undef, undef, undef, undef, undef], []⟩ _
  refine wpAnyH_take (i := 5) (v := .slice (some ⟨g1, 0, none⟩) 35 c1) rfl (by kernel_rfl) (by kernel_rfl) (by kernel_rfl) (fun _ _ _ h => h) (Or.inl ⟨by rfl, ?_⟩) hHeld ?_
  · intro W hW; clear hW; go_simp
  change wpAnyH _ _ _ _ _ _ _ ⟨#[.agg (BC l), .agg (BC m), .pointer (some ⟨w.heap.size, 0, none⟩), .pointer (some ⟨w.heap.size + 1, 0, none⟩), .bool false, .bool true, .slice (some ⟨g1, 0, none⟩) 35 c1, .int .i64 0, .slice (some ⟨g2, 0, none⟩) n2 c2, .int .i64 0, .int .i64 35, .bool true, .tuple #[.slice (some ⟨g1, 0, none⟩) 35 c1, .int .i64 0], .agg (BC l), .tuple #[.slice (some ⟨g1, 0, none⟩) 35 c1, .int .i64 0], .slice (some ⟨g1, 0, none⟩) 35 c1, .int .i64 0, .tuple #[.slice (some ⟨g2, 0, none⟩) n2 c2, .int .i64 0], .agg (BC m), .tuple #[.slice (some ⟨g2, 0, none⟩) n2 c2, .int .i64 0], .slice (some ⟨g2, 0, none⟩) n2 c2, .int .i64 0, .bool true, .bool false, .bool false, .int .i64 0, .bool false, .bool false, .bool false, .int .i64 0, .bool false, .bool false, undef, .pointer (some ⟨w.heap.size, 0, none⟩), .int .i64 l.kd, .bool false, .bool false, .bool false, .bool false, .slice (some ⟨g1, 0, none⟩) 35 c1, .int .i64 35, .int .i64 35, .bool true, .bool true, .slice (some ⟨g1, 0, none⟩) 35 c1, undef, undef, undef, undef, undef, undef, undef, undef, undef], []⟩ _
  refine wpAnyH_take (i := 6) (v := .string (bs el)) rfl (by kernel_rfl) (by kernel_rfl) (by kernel_rfl) (fun _ _ _ h => h) (Or.inl ⟨by rfl, ?_⟩) hHeld ?_
  · intro W hW; obtain ⟨hW0, hW1, hW2⟩ := hW; clear hW0; go_simp
  change wpAnyH _ _ _ _ _ _ _ ⟨#[.agg (BC l), .agg (BC m), .pointer (some ⟨w.heap.size, 0, none⟩), .pointer (some ⟨w.heap.size + 1, 0, none⟩), .bool false, .bool true, .slice (some ⟨g1, 0, none⟩) 35 c1, .int .i64 0, .slice (some ⟨g2, 0, none⟩) n2 c2, .int .i64 0, .int .i64 35, .bool true, .tuple #[.slice (some ⟨g1, 0, none⟩) 35 c1, .int .i64 0], .agg (BC l), .tuple #[.slice (some ⟨g1, 0, none⟩) 35 c1, .int .i64 0], .slice (some ⟨g1, 0, none⟩) 35 c1, .int .i64 0, .tuple #[.slice (some ⟨g2, 0, none⟩) n2 c2, .int .i64 0], .agg (BC m), .tuple #[.slice (some ⟨g2, 0, none⟩) n2 c2, .int .i64 0], .slice (some ⟨g2, 0, none⟩) n2 c2, .int .i64 0, .bool true, .bool false, .bool false, .int .i64 0, .bool false, .bool false, .bool false, .int .i64 0, .bool false, .bool false, undef, .pointer (some ⟨w.heap.size, 0, none⟩), .int .i64 l.kd, .bool false, .bool false, .bool false, .bool false, .slice (some ⟨g1, 0, none⟩) 35 c1, .int .i64 35, .int .i64 35, .bool true, .bool true, .slice (some ⟨g1, 0, none⟩) 35 c1, .string (bs el), undef, undef, undef, undef, undef, undef, undef, undef], []⟩ _
  refine wpAnyH_take (i := 7) (v := .slice (some ⟨g2, 0, none⟩) n2 c2) rfl (by kernel_rfl) (by kernel_rfl) (by kernel_rfl) (fun _ _ _ h => h) (Or.inl ⟨by rfl, ?_⟩) hHeld ?_
  · intro W hW; clear hW; go_simp
  change wpAnyH _ _ _ _ _ _ _ ⟨#[.agg (BC l), .agg (BC m), .pointer (some ⟨w.heap.size, 0, none⟩), .pointer (some ⟨w.heap.size + 1, 0, none⟩), .bool false, .bool true, .slice (some ⟨g1, 0, none⟩) 35 c1, .int .i64 0, .slice (some ⟨g2, 0, none⟩) n2 c2, .int .i64 0, .int .i64 35, .bool true, .tuple #[.slice (some ⟨g1, 0, none⟩) 35 c1, .int .i64 0], .agg (BC l), .tuple #[.slice (some ⟨g1, 0, none⟩) 35 c1, .int .i64 0], .slice (some ⟨g1, 0, none⟩) 35 c1, .int .i64 0, .tuple #[.slice (some ⟨g2, 0, none⟩) n2 c2, .int .i64 0], .agg (BC m), .tuple #[.slice (some ⟨g2, 0, none⟩) n2 c2, .int .i64 0], .slice (some ⟨g2, 0, none⟩) n2 c2, .int .i64 0, .bool true, .bool false, .bool false, .int .i64 0, .bool false, .bool false, .bool false, .int .i64 0, .bool false, .bool false, undef, .pointer (some ⟨w.heap.size, 0, none⟩), .int .i64 l.kd, .bool false, .bool false, .bool false, .bool false, .slice (some ⟨g1, 0, none⟩) 35 c1, .int .i64 35, .int .i64 35, .bool true, .bool true, .slice (some ⟨g1, 0, none⟩) 35 c1, .string (bs el), .slice (some ⟨g2, 0, none⟩) n2 c2, undef, undef, undef, undef, undef, undef, undef], []⟩ _
  refine wpAnyH_take (i := 8) (v := .string (bs em)) rfl (by kernel_rfl) (by kernel_rfl) (by kernel_rfl) (fun _ _ _ h => h) (Or.inl ⟨by rfl, ?_⟩) hHeld ?_
  · intro W hW; obtain ⟨hW0, hW1, hW2⟩ := hW; clear hW0; go_simp
  change wpAnyH _ _ _ _ _ _ _ ⟨#[.agg (BC l), .agg (BC m), .pointer (some ⟨w.heap.size, 0, none⟩), .pointer (some ⟨w.heap.size + 1, 0, none⟩), .bool false, .bool true, .slice (some ⟨g1, 0, none⟩) 35 c1, .int .i64 0, .slice (some ⟨g2, 0, none⟩) n2 c2, .int .i64 0, .int .i64 35, .bool true, .tuple #[.slice (some ⟨g1, 0, none⟩) 35 c1, .int .i64 0], .agg (BC l), .tuple #[.slice (some ⟨g1, 0, none⟩) 35 c1, .int .i64 0], .slice (some ⟨g1, 0, none⟩) 35 c1, .int .i64 0, .tuple #[.slice (some ⟨g2, 0, none⟩) n2 c2, .int .i64 0], .agg (BC m), .tuple #[.slice (some ⟨g2, 0, none⟩) n2 c2, .int .i64 0], .slice (some ⟨g2, 0, none⟩) n2 c2, .int .i64 0, .bool true, .bool false, .bool false, .int .i64 0, .bool false, .bool false, .bool false, .int .i64 0, .bool false, .bool false, undef, .pointer (some ⟨w.heap.size, 0, none⟩), .int .i64 l.kd, .bool false, .bool false, .bool false, .bool false, .slice (some ⟨g1, 0, none⟩) 35 c1, .int .i64 35, .int .i64 35, .bool true, .bool true, .slice (some ⟨g1, 0, none⟩) 35 c1, .string (bs el), .slice (some ⟨g2, 0, none⟩) n2 c2, .string (bs em), undef, undef, undef, undef, undef, undef], []⟩ _
  refine wpAnyH_take (i := 9) (v := .bool (bpeq l m)) rfl (by kernel_rfl) (by kernel_rfl) (by kernel_rfl) (fun _ _ _ h => h) (Or.inl ⟨by rfl, ?_⟩) hHeld ?_
  · intro W hW; clear hW; go_simp
  change wpAnyH _ _ _ _ _ _ _ ⟨#[.agg (BC l), .agg (BC m), .pointer (some ⟨w.heap.size, 0, none⟩), .pointer (some ⟨w.heap.size + 1, 0, none⟩), .bool false, .bool true, .slice (some ⟨g1, 0, none⟩) 35 c1, .int .i64 0, .slice (some ⟨g2, 0, none⟩) n2 c2, .int .i64 0, .int .i64 35, .bool true, .tuple #[.slice (some ⟨g1, 0, none⟩) 35 c1, .int .i64 0], .agg (BC l), .tuple #[.slice (some ⟨g1, 0, none⟩) 35 c1, .int .i64 0], .slice (some ⟨g1, 0, none⟩) 35 c1, .int .i64 0, .tuple #[.slice (some ⟨g2, 0, none⟩) n2 c2, .int .i64 0], .agg (BC m), .tuple #[.slice (some ⟨g2, 0, none⟩) n2 c2, .int .i64 0], .slice (some ⟨g2, 0, none⟩) n2 c2, .int .i64 0, .bool true, .bool false, .bool false, .int .i64 0, .bool false, .bool false, .bool false, .int .i64 0, .bool false, .bool false, undef, .pointer (some ⟨w.heap.size, 0, none⟩), .int .i64 l.kd, .bool false, .bool false, .bool false, .bool false, .slice (some ⟨g1, 0, none⟩) 35 c1, .int .i64 35, .int .i64 35, .bool true, .bool true, .slice (some ⟨g1, 0, none⟩) 35 c1, .string (bs el), .slice (some ⟨g2, 0, none⟩) n2 c2, .string (bs em), .bool (bpeq l m), undef, undef, undef, undef, undef], []⟩ _
  refine wpAnyH_take (i := 10) (v := .agg (BC l)) rfl (by kernel_rfl) (by kernel_rfl) (by kernel_rfl) (fun _ _ _ h => h) (yieldsIf_load_mid (by rfl) 27 (.tmp 2) rfl w.heap.size 0 rfl (bcl l) _ (fun W hW => hW.1.1.at_) Try.underlying27 rfl Try.size27) hHeld ?_
  change wpAnyH _ _ _ _ _ _ _ ⟨#[.agg (BC l), .agg (BC m), .pointer (some ⟨w.heap.size, 0, none⟩), .pointer (some ⟨w.heap.size + 1, 0, none⟩), .bool false, .bool true, .slice (some ⟨g1, 0, none⟩) 35 c1, .int .i64 0, .slice (some ⟨g2, 0, none⟩) n2 c2, .int .i64 0, .int .i64 35, .bool true, .tuple #[.slice (some ⟨g1, 0, none⟩) 35 c1, .int .i64 0], .agg (BC l), .tuple #[.slice (some ⟨g1, 0, none⟩) 35 c1, .int .i64 0], .slice (some ⟨g1, 0, none⟩) 35 c1, .int .i64 0, .tuple #[.slice (some ⟨g2, 0, none⟩) n2 c2, .int .i64 0], .agg (BC m), .tuple #[.slice (some ⟨g2, 0, none⟩) n2 c2, .int .i64 0], .slice (some ⟨g2, 0, none⟩) n2 c2, .int .i64 0, .bool true, .bool false, .bool false, .int .i64 0, .bool false, .bool false, .bool false, .int .i64 0, .bool false, .bool false, undef, .pointer (some ⟨w.heap.size, 0, none⟩), .int .i64 l.kd, .bool false, .bool false, .bool false, .bool false, .slice (some ⟨g1, 0, none⟩) 35 c1, .int .i64 35, .int .i64 35, .bool true, .bool true, .slice (some ⟨g1, 0, none⟩) 35 c1, .string (bs el), .slice (some ⟨g2, 0, none⟩) n2 c2, .string (bs em), .bool (bpeq l m), .agg (BC l), undef, undef, undef, undef], []⟩ _
  refine wpAnyH_take (i := 11) (v := .agg (BC m)) rfl (by kernel_rfl) (by kernel_rfl) (by kernel_rfl) (fun _ _ _ h => h) (yieldsIf_load_mid (by rfl) 27 (.tmp 3) rfl (w.heap.size + 1) 0 rfl (bcl m) _ (fun W hW => hW.1.2.at_) Try.underlying27 rfl Try.size27) hHeld ?_
  change wpAnyH _ _ _ _ _ _ _ ⟨#[.agg (BC l), .agg (BC m), .pointer (some ⟨w.heap.size, 0, none⟩), .pointer (some ⟨w.heap.size + 1, 0, none⟩), .bool false, .bool true, .slice (some ⟨g1, 0, none⟩) 35 c1, .int .i64 0, .slice (some ⟨g2, 0, none⟩) n2 c2, .int .i64 0, .int .i64 35, .bool true, .tuple #[.slice (some ⟨g1, 0, none⟩) 35 c1, .int .i64 0], .agg (BC l), .tuple #[.slice (some ⟨g1, 0, none⟩) 35 c1, .int .i64 0], .slice (some ⟨g1, 0, none⟩) 35 c1, .int .i64 0, .tuple #[.slice (some ⟨g2, 0, none⟩) n2 c2, .int .i64 0], .agg (BC m), .tuple #[.slice (some ⟨g2, 0, none⟩) n2 c2, .int .i64 0], .slice (some ⟨g2, 0, none⟩) n2 c2, .int .i64 0, .bool true, .bool false, .bool false, .int .i64 0, .bool false, .bool false, .bool false, .int .i64 0, .bool false, .bool false, undef, .pointer (some ⟨w.heap.size, 0, none⟩), .int .i64 l.kd, .bool false, .bool false, .bool false, .bool false, .slice (some ⟨g1, 0, none⟩) 35 c1, .int .i64 35, .int .i64 35, .bool true, .bool true, .slice (some ⟨g1, 0, none⟩) 35 c1, .string (bs el), .slice (some ⟨g2, 0, none⟩) n2 c2, .string (bs em), .bool (bpeq l m), .agg (BC l), .agg (BC m), undef, undef, undef], []⟩ _
  refine wpAnyH_take (i := 12) (v := .bool (bpeq l m)) rfl (by kernel_rfl) (by kernel_rfl) (by kernel_rfl) (fun _ _ _ h => h) (Or.inl ⟨by rfl, ?_⟩) hHeld ?_
  · intro W hW; clear hW; go_simp
  change wpAnyH _ _ _ _ _ _ _ ⟨#[.agg (BC l), .agg (BC m), .pointer (some ⟨w.heap.size, 0, none⟩), .pointer (some ⟨w.heap.size + 1, 0, none⟩), .bool false, .bool true, .slice (some ⟨g1, 0, none⟩) 35 c1, .int .i64 0, .slice (some ⟨g2, 0, none⟩) n2 c2, .int .i64 0, .int .i64 35, .bool true, .tuple #[.slice (some ⟨g1, 0, none⟩) 35 c1, .int .i64 0], .agg (BC l), .tuple #[.slice (some ⟨g1, 0, none⟩) 35 c1, .int .i64 0], .slice (some ⟨g1, 0, none⟩) 35 c1, .int .i64 0, .tuple #[.slice (some ⟨g2, 0, none⟩) n2 c2, .int .i64 0], .agg (BC m), .tuple #[.slice (some ⟨g2, 0, none⟩) n2 c2, .int .i64 0], .slice (some ⟨g2, 0, none⟩) n2 c2, .int .i64 0, .bool true, .bool false, .bool false, .int .i64 0, .bool false, .bool false, .bool false, .int .i64 0, .bool false, .bool false, undef, .pointer (some ⟨w.heap.size, 0, none⟩), .int .i64 l.kd, .bool false, .bool false, .bool false, .bool false, .slice (some ⟨g1, 0, none⟩) 35 c1, .int .i64 35, .int .i64 35, .bool true, .bool true, .slice (some ⟨g1, 0, none⟩) 35 c1, .string (bs el), .slice (some ⟨g2, 0, none⟩) n2 c2, .string (bs em), .bool (bpeq l m), .agg (BC l), .agg (BC m), .bool (bpeq l m), undef, undef], []⟩ _
  refine wpAnyH_take (i := 13) (v := .bool true) rfl (by kernel_rfl) (by kernel_rfl) (by kernel_rfl) (fun _ _ _ h => h) (Or.inl ⟨by rfl, ?_⟩) hHeld ?_
  · intro W hW; clear hW; go_simp
  change wpAnyH _ _ _ _ _ _ _ ⟨#[.agg (BC l), .agg (BC m), .pointer (some ⟨w.heap.size, 0, none⟩), .pointer (some ⟨w.heap.size + 1, 0, none⟩), .bool false, .bool true, .slice (some ⟨g1, 0, none⟩) 35 c1, .int .i64 0, .slice (some ⟨g2, 0, none⟩) n2 c2, .int .i64 0, .int .i64 35, .bool true, .tuple #[.slice (some ⟨g1, 0, none⟩) 35 c1, .int .i64 0], .agg (BC l), .tuple #[.slice (some ⟨g1, 0, none⟩) 35 c1, .int .i64 0], .slice (some ⟨g1, 0, none⟩) 35 c1, .int .i64 0, .tuple #[.slice (some ⟨g2, 0, none⟩) n2 c2, .int .i64 0], .agg (BC m), .tuple #[.slice (some ⟨g2, 0, none⟩) n2 c2, .int .i64 0], .slice (some ⟨g2, 0, none⟩) n2 c2, .int .i64 0, .bool true, .bool false, .bool false, .int .i64 0, .bool false, .bool false, .bool false, .int .i64 0, .bool false, .bool false, undef, .pointer (some ⟨w.heap.size, 0, none⟩), .int .i64 l.kd, .bool false, .bool false, .bool false, .bool false, .slice (some ⟨g1, 0, none⟩) 35 c1, .int .i64 35, .int .i64 35, .bool true, .bool true, .slice (some ⟨g1, 0, none⟩) 35 c1, .string (bs el), .slice (some ⟨g2, 0, none⟩) n2 c2, .string (bs em), .bool (bpeq l m), .agg (BC l), .agg (BC m), .bool (bpeq l m), .bool true, undef], []⟩ _
  refine wpAnyH_take (i := 14) (v := .bool true) rfl (by kernel_rfl) (by kernel_rfl) (by kernel_rfl) (fun _ _ _ h => h) (Or.inl ⟨by rfl, ?_⟩) hHeld ?_
  · intro W hW; clear hW; go_simp
  change wpAnyH _ _ _ _ _ _ _ ⟨#[.agg (BC l), .agg (BC m), .pointer (some ⟨w.heap.size, 0, none⟩), .pointer (some ⟨w.heap.size + 1, 0, none⟩), .bool false, .bool true, .slice (some ⟨g1, 0, none⟩) 35 c1, .int .i64 0, .slice (some ⟨g2, 0, none⟩) n2 c2, .int .i64 0, .int .i64 35, .bool true, .tuple #[.slice (some ⟨g1, 0, none⟩) 35 c1, .int .i64 0], .agg (BC l), .tuple #[.slice (some ⟨g1, 0, none⟩) 35 c1, .int .i64 0], .slice (some ⟨g1, 0, none⟩) 35 c1, .int .i64 0, .tuple #[.slice (some ⟨g2, 0, none⟩) n2 c2, .int .i64 0], .agg (BC m), .tuple #[.slice (some ⟨g2, 0, none⟩) n2 c2, .int .i64 0], .slice (some ⟨g2, 0, none⟩) n2 c2, .int .i64 0, .bool true, .bool false, .bool false, .int .i64 0, .bool false, .bool false, .bool false, .int .i64 0, .bool false, .bool false, undef, .pointer (some ⟨w.heap.size, 0, none⟩), .int .i64 l.kd, .bool false, .bool false, .bool false, .bool false, .slice (some ⟨g1, 0, none⟩) 35 c1, .int .i64 35, .int .i64 35, .bool true, .bool true, .slice (some ⟨g1, 0, none⟩) 35 c1, .string (bs el), .slice (some ⟨g2, 0, none⟩) n2 c2, .string (bs em), .bool (bpeq l m), .agg (BC l), .agg (BC m), .bool (bpeq l m), .bool true, .bool true], []⟩ _
  refine wpAnyH_take (i := 15) (v := .bool true) rfl (by kernel_rfl) (by kernel_rfl) (by kernel_rfl) (fun _ _ _ h => h) (Or.inl ⟨by rfl, ?_⟩) hHeld ?_
  · intro W hW; clear hW; go_simp
  change wpAnyH _ _ _ _ _ _ _ ⟨#[.agg (BC l), .agg (BC m), .pointer (some ⟨w.heap.size, 0, none⟩), .pointer (some ⟨w.heap.size + 1, 0, none⟩), .bool true, .bool true, .slice (some ⟨g1, 0, none⟩) 35 c1, .int .i64 0, .slice (some ⟨g2, 0, none⟩) n2 c2, .int .i64 0, .int .i64 35, .bool true, .tuple #[.slice (some ⟨g1, 0, none⟩) 35 c1, .int .i64 0], .agg (BC l), .tuple #[.slice (some ⟨g1, 0, none⟩) 35 c1, .int .i64 0], .slice (some ⟨g1, 0, none⟩) 35 c1, .int .i64 0, .tuple #[.slice (some ⟨g2, 0, none⟩) n2 c2, .int .i64 0], .agg (BC m), .tuple #[.slice (some ⟨g2, 0, none⟩) n2 c2, .int .i64 0], .slice (some ⟨g2, 0, none⟩) n2 c2, .int .i64 0, .bool true, .bool false, .bool false, .int .i64 0, .bool false, .bool false, .bool false, .int .i64 0, .bool false, .bool false, undef, .pointer (some ⟨w.heap.size, 0, none⟩), .int .i64 l.kd, .bool false, .bool false, .bool false, .bool false, .slice (some ⟨g1, 0, none⟩) 35 c1, .int .i64 35, .int .i64 35, .bool true, .bool true, .slice (some ⟨g1, 0, none⟩) 35 c1, .string (bs el), .slice (some ⟨g2, 0, none⟩) n2 c2, .string (bs em), .bool (bpeq l m), .agg (BC l), .agg (BC m), .bool (bpeq l m), .bool true, .bool true], []⟩ _
  refine wpAnyH_done (by kernel_rfl) ?_ _
  go_wp2
  go_ret
  exact ⟨rfl, W0⟩
theorem longWalk (l m : Bpd) (w : World) (hl : BpdB l) (hm : BpdB m) :
    Calls Try.prog 7 #[.agg (BC l), .agg (BC m)] w fun e w' => e = .returned (.bool true) ∧ Below w.heap.size w w' := by
  cases kl : brt l
  · exact long1 l m w hl hm kl
  · cases km : brt m
    · exact long2 l m w hl hm kl km
    · rcases knw_or (brt_knw kl) with hk | hk | hk
      · exact long_0 l m w hl hm kl km hk
      · exact long_2 l m w hl hm kl km hk
      · exact long_128 l m w hl hm kl km hk
set_option maxRecDepth 100000 in
set_option maxHeartbeats 2000000 in
theorem bpduLonglifted (os : Os) (started : os.Started) (H : Type) (enc : TypeId × Value → H) :
    ReturnsInHanded {} Try.checked os 7 .any (Rows.bpduLongSpec.pre6 enc Try.prog Try.f7 Rows.bpduLongRow.domain false) (Rows.bpduLongSpec.post enc Try.prog Try.f7 false true false false) := by
  refine returnsInHanded_of_change (C := Try.checked) own started (by kernel_rfl) Try.func7
    (ChangeSpec.witness6 (enc := enc) (C := Try.checked) false ⟨#[], #[.agg #[.int .i64 0, .int .i64 0, .int .i64 0, .int .u8 0, .int .u8 0, .int .u8 0, .int .u8 0, .int .u8 0, .int .u8 0, .int .i64 0, .int .i64 0, .int .u8 0, .int .u8 0, .int .u8 0, .int .u8 0, .int .u8 0, .int .u8 0, .int .i64 0, .int .i64 0, .int .i64 0, .int .i64 0, .int .i64 0], .agg #[.int .i64 0, .int .i64 0, .int .i64 0, .int .u8 0, .int .u8 0, .int .u8 0, .int .u8 0, .int .u8 0, .int .u8 0, .int .i64 0, .int .i64 0, .int .u8 0, .int .u8 0, .int .u8 0, .int .u8 0, .int .u8 0, .int .u8 0, .int .i64 0, .int .i64 0, .int .i64 0, .int .i64 0, .int .i64 0]], []⟩ 8 (by kernel_rfl) (by kernel_rfl) (by kernel_rfl) (by kernel_rfl)) ?_
  intro W base args ds gs before hval0 hW _ _
  have hval : ∀ (j : Nat) t v, Try.f7.params[j]? = some t → args[j]? = some v → Value.okWide Try.prog W .any base t v := hval0
  have hW' := hW
  obtain ⟨p, q, hA0, hV, rfl, _, _⟩ := hW
  have hA : DataW.TrodAll enc Try.prog W 0 (fun _ => true) true Try.f7.params.toList args.toList ds p := hA0
  rw [Try.params7] at hA hval
  obtain ⟨v0, vs0, d0, ds0, p0, q0, hargs, rfl, rfl, h0, r0⟩ := trodAll_cons hA
  obtain ⟨v1, vs1, d1, ds1, p1, q1, rfl, rfl, rfl, h1, r1⟩ := trodAll_cons r0
  obtain ⟨rfl, rfl, rfl⟩ := trodAll_nil r1
  obtain rfl : args = #[v0, v1] := by cases args; simp_all
  obtain ⟨rfl, rfl⟩ := trodVars_none hV
  have h0k := h0
  obtain ⟨l0, rfl, hl0⟩ := open_bpdu (hval 0 27 v0 rfl rfl) h0
  have h1k := h1
  obtain ⟨l1, rfl, hl1⟩ := open_bpdu (hval 1 27 v1 rfl rfl) h1
  clear hA0 hval0
  simp only [List.append_nil] at hW'
  have hlt : ∀ x ∈ p0 ++ p1, x.block < W.heap.size := fun x hx => by simpa using hW'.lt x (by simpa using hx)
  refine (longWalk l0 l1 W hl0 hl1).mono fun e W' ⟨he, hbl⟩ => ?_
  subst he
  exact ⟨_, rfl, _, _, _, [], _, [], hW', (trodAll_cons_mk (shut_bool Try.underlying4 _) trodAll_mk0), (trodAll_cons_mk (Below.trod Try.laidOut (by kernel_rfl) (of_decide_eq_true (by kernel_rfl)) h0k hbl (fun x hx => hlt x (by simp [hx]))) (trodAll_cons_mk (Below.trod Try.laidOut (by kernel_rfl) (of_decide_eq_true (by kernel_rfl)) h1k hbl (fun x hx => hlt x (by simp [hx]))) trodAll_mk0)), rfl, hbl.frame _, fun h => by cases h⟩

theorem bpduLong_holds : Rows.BpduLongSaid :=
  OpenClaim.holds_of_wide 7 Try.f7 rfl rfl rfl rfl rfl rfl rfl ⟨rfl, rfl, rfl, rfl, rfl⟩ rfl rfl rfl rfl rfl (by kernel_rfl) Try.func7 (by kernel_rfl)
    (of_decide_eq_true (by kernel_rfl)) (by unfold Func.isWrapper; first | (rw [if_pos (by decide +kernel)]; kernel_rfl) | (rw [if_neg (by decide +kernel)]; exact ⟨rfl, rfl⟩))
    (fun os started H enc _ => bpduLonglifted os started H enc)

#print axioms bpduLong_holds
end Go.Proofs.Ytdaglmimfkcmeaa
