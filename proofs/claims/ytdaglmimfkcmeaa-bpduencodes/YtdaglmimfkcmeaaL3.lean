/- BpduEncodes: for every BPDU the law answers true, and it reads behind the call as it read before. No condition. -/
import Derived.Test.YtdaglmimfkcmeaaAw
import Derived.Test.YtdaglmimfkcmeaaRb
import Derived.Test.YtdaglmimfkcmeaaOp
namespace Go.Proofs.Ytdaglmimfkcmeaa
open Go.ChangeShapes Go.WideShapes Go.ChangeAt Go.RowKit

set_option maxRecDepth 100000 in
set_option maxHeartbeats 4000000 in
theorem encodesWalk (l : Bpd) (w : World) (hl : BpdB l) :
    Calls Try.prog 3 #[.agg (BC l)] w fun e w' => e = .returned (.bool true) ∧ Below w.heap.size w w' := by
  have A0 : Box (w.alloc (.cells (BC l) 27)) w.heap.size (bcl l) := Box.new w (bcl l) 27
  have W0 := below_alloc w (.cells (BC l) 27)
  go_enter Try.func3, Try.ntmps3
  go_wp2_with fail
  refine (awake9 _).mono ?_
  rintro e w1 ⟨rfl, hb1⟩
  replace A0 := A0.on hb1; replace W0 := belowOn W0 hb1
  clear hb1
  go_wp2_with (refine wpl_bpdu (.tmp 1) rfl A0 ?_ ?_ ?_; rfl; rfl)
  refine (encode10 l _ hl).mono ?_
  rintro e w2 ⟨a1, n1, c1, rfl, Y1, hb1⟩
  replace A0 := A0.on hb1; replace W0 := belowOn W0 hb1
  clear hb1
  have Y1' := Y1
  go_wp2_with (refine wpl_bpdu (.tmp 1) rfl A0 ?_ ?_ ?_; rfl; rfl)
  refine (encode11 l _ hl).mono ?_
  rintro e w3 ⟨a2, n2, c2, rfl, Y2, hb1⟩
  replace A0 := (A0.on hb1).drew; replace Y1 := (Y1.on hb1).drew; replace Y2 := Y2.drew; replace W0 := (belowOn W0 hb1).drew
  clear hb1 Y1'
  have hq := bs_beq_self (eb l)
  have hc1 : ∀ W, Byt W a1 n1 c1 (eb l) → (convert 29 9 (.slice a1 n1 c1)).run Try.prog W = .ok (.string (bs (eb l))) W := fun W h => bytStr h
  have hc2 : ∀ W, Byt W a2 n2 c2 (eb l) → (convert 29 9 (.slice a2 n2 c2)).run Try.prog W = .ok (.string (bs (eb l))) W := fun W h => bytStr h
  generalize ec l = cc
  generalize eb l = bb at *
  go_wp2_with fail
  refine wp_region_held_drew (S := fun w' => Box w' w.heap.size (bcl l) ∧ Byt w' a1 n1 c1 bb ∧ Byt w' a2 n2 c2 bb) (by kernel_rfl) ⟨A0, Y1, Y2⟩ (fun hHeld => ?_)
  refine wpAnyH_take (i := 0) (v := .bool true) rfl (by kernel_rfl) (by kernel_rfl) (by kernel_rfl) (fun _ _ _ h => h) (Or.inl ⟨by rfl, ?_⟩) hHeld ?_
  · intro W hW; clear hW; go_simp
  change wpAnyH _ _ _ _ _ _ _ ⟨#[.agg (BC l), .pointer (some ⟨w.heap.size, 0, none⟩), .bool false, .bool true, .slice a1 n1 c1, .int .i64 cc, .slice a2 n2 c2, .int .i64 cc, .bool true, .tuple #[.slice a1 n1 c1, .int .i64 cc], .agg (BC l), .tuple #[.slice a1 n1 c1, .int .i64 cc], .slice a1 n1 c1, .int .i64 cc, .tuple #[.slice a2 n2 c2, .int .i64 cc], .agg (BC l), .tuple #[.slice a2 n2 c2, .int .i64 cc], .slice a2 n2 c2, .int .i64 cc, .bool true, undef, undef, undef, undef, undef, undef, undef, undef, undef, undef, undef, undef, undef, undef, undef, undef, undef, undef, undef], []⟩ _
  refine wpAnyH_take (i := 1) (v := .bool true) rfl (by kernel_rfl) (by kernel_rfl) (by kernel_rfl) (fun _ _ _ h => h) (Or.inl ⟨by rfl, ?_⟩) hHeld ?_
  · intro W hW; clear hW; go_simp
  change wpAnyH _ _ _ _ _ _ _ ⟨#[.agg (BC l), .pointer (some ⟨w.heap.size, 0, none⟩), .bool false, .bool true, .slice a1 n1 c1, .int .i64 cc, .slice a2 n2 c2, .int .i64 cc, .bool true, .tuple #[.slice a1 n1 c1, .int .i64 cc], .agg (BC l), .tuple #[.slice a1 n1 c1, .int .i64 cc], .slice a1 n1 c1, .int .i64 cc, .tuple #[.slice a2 n2 c2, .int .i64 cc], .agg (BC l), .tuple #[.slice a2 n2 c2, .int .i64 cc], .slice a2 n2 c2, .int .i64 cc, .bool true, .bool true, undef, undef, undef, undef, undef, undef, undef, undef, undef, undef, undef, undef, undef, undef, undef, undef, undef, undef], []⟩ _
  refine wpAnyH_take (i := 2) (v := .slice a1 n1 c1) rfl (by kernel_rfl) (by kernel_rfl) (by kernel_rfl) (fun _ _ _ h => h) (Or.inl ⟨by rfl, ?_⟩) hHeld ?_
  · intro W hW; clear hW; go_simp
  change wpAnyH _ _ _ _ _ _ _ ⟨#[.agg (BC l), .pointer (some ⟨w.heap.size, 0, none⟩), .bool false, .bool true, .slice a1 n1 c1, .int .i64 cc, .slice a2 n2 c2, .int .i64 cc, .bool true, .tuple #[.slice a1 n1 c1, .int .i64 cc], .agg (BC l), .tuple #[.slice a1 n1 c1, .int .i64 cc], .slice a1 n1 c1, .int .i64 cc, .tuple #[.slice a2 n2 c2, .int .i64 cc], .agg (BC l), .tuple #[.slice a2 n2 c2, .int .i64 cc], .slice a2 n2 c2, .int .i64 cc, .bool true, .bool true, .slice a1 n1 c1, undef, undef, undef, undef, undef, undef, undef, undef, undef, undef, undef, undef, undef, undef, undef, undef, undef], []⟩ _
  refine wpAnyH_take (i := 3) (v := .string (bs bb)) rfl (by kernel_rfl) (by kernel_rfl) (by kernel_rfl) (fun _ _ _ h => h) (Or.inl ⟨by rfl, ?_⟩) hHeld ?_
  · intro W hW; obtain ⟨hW1, hW2, hW3⟩ := hW; go_simp
  change wpAnyH _ _ _ _ _ _ _ ⟨#[.agg (BC l), .pointer (some ⟨w.heap.size, 0, none⟩), .bool false, .bool true, .slice a1 n1 c1, .int .i64 cc, .slice a2 n2 c2, .int .i64 cc, .bool true, .tuple #[.slice a1 n1 c1, .int .i64 cc], .agg (BC l), .tuple #[.slice a1 n1 c1, .int .i64 cc], .slice a1 n1 c1, .int .i64 cc, .tuple #[.slice a2 n2 c2, .int .i64 cc], .agg (BC l), .tuple #[.slice a2 n2 c2, .int .i64 cc], .slice a2 n2 c2, .int .i64 cc, .bool true, .bool true, .slice a1 n1 c1, .string (bs bb), undef, undef, undef, undef, undef, undef, undef, undef, undef, undef, undef, undef, undef, undef, undef, undef], []⟩ _
  refine wpAnyH_take (i := 4) (v := .slice a2 n2 c2) rfl (by kernel_rfl) (by kernel_rfl) (by kernel_rfl) (fun _ _ _ h => h) (Or.inl ⟨by rfl, ?_⟩) hHeld ?_
  · intro W hW; clear hW; go_simp
  change wpAnyH _ _ _ _ _ _ _ ⟨#[.agg (BC l), .pointer (some ⟨w.heap.size, 0, none⟩), .bool false, .bool true, .slice a1 n1 c1, .int .i64 cc, .slice a2 n2 c2, .int .i64 cc, .bool true, .tuple #[.slice a1 n1 c1, .int .i64 cc], .agg (BC l), .tuple #[.slice a1 n1 c1, .int .i64 cc], .slice a1 n1 c1, .int .i64 cc, .tuple #[.slice a2 n2 c2, .int .i64 cc], .agg (BC l), .tuple #[.slice a2 n2 c2, .int .i64 cc], .slice a2 n2 c2, .int .i64 cc, .bool true, .bool true, .slice a1 n1 c1, .string (bs bb), .slice a2 n2 c2, undef, undef, undef, undef, undef, undef, undef, undef, undef, undef, undef, undef, undef, undef, undef], []⟩ _
  refine wpAnyH_take (i := 5) (v := .string (bs bb)) rfl (by kernel_rfl) (by kernel_rfl) (by kernel_rfl) (fun _ _ _ h => h) (Or.inl ⟨by rfl, ?_⟩) hHeld ?_
  · intro W hW; obtain ⟨hW1, hW2, hW3⟩ := hW; go_simp
  change wpAnyH _ _ _ _ _ _ _ ⟨#[.agg (BC l), .pointer (some ⟨w.heap.size, 0, none⟩), .bool false, .bool true, .slice a1 n1 c1, .int .i64 cc, .slice a2 n2 c2, .int .i64 cc, .bool true, .tuple #[.slice a1 n1 c1, .int .i64 cc], .agg (BC l), .tuple #[.slice a1 n1 c1, .int .i64 cc], .slice a1 n1 c1, .int .i64 cc, .tuple #[.slice a2 n2 c2, .int .i64 cc], .agg (BC l), .tuple #[.slice a2 n2 c2, .int .i64 cc], .slice a2 n2 c2, .int .i64 cc, .bool true, .bool true, .slice a1 n1 c1, .string (bs bb), .slice a2 n2 c2, .string (bs bb), undef, undef, undef, undef, undef, undef, undef, undef, undef, undef, undef, undef, undef, undef], []⟩ _
  refine wpAnyH_take (i := 6) (v := .bool true) rfl (by kernel_rfl) (by kernel_rfl) (by kernel_rfl) (fun _ _ _ h => h) (Or.inl ⟨by rfl, ?_⟩) hHeld ?_
  · intro W hW; clear hW; go_simp
  change wpAnyH _ _ _ _ _ _ _ ⟨#[.agg (BC l), .pointer (some ⟨w.heap.size, 0, none⟩), .bool false, .bool true, .slice a1 n1 c1, .int .i64 cc, .slice a2 n2 c2, .int .i64 cc, .bool true, .tuple #[.slice a1 n1 c1, .int .i64 cc], .agg (BC l), .tuple #[.slice a1 n1 c1, .int .i64 cc], .slice a1 n1 c1, .int .i64 cc, .tuple #[.slice a2 n2 c2, .int .i64 cc], .agg (BC l), .tuple #[.slice a2 n2 c2, .int .i64 cc], .slice a2 n2 c2, .int .i64 cc, .bool true, .bool true, .slice a1 n1 c1, .string (bs bb), .slice a2 n2 c2, .string (bs bb), .bool true, undef, undef, undef, undef, undef, undef, undef, undef, undef, undef, undef, undef, undef], []⟩ _
  refine wpAnyH_take (i := 7) (v := .bool true) rfl (by kernel_rfl) (by kernel_rfl) (by kernel_rfl) (fun _ _ _ h => h) (Or.inl ⟨by rfl, ?_⟩) hHeld ?_
  · intro W hW; clear hW; go_simp
  change wpAnyH _ _ _ _ _ _ _ ⟨#[.agg (BC l), .pointer (some ⟨w.heap.size, 0, none⟩), .bool false, .bool true, .slice a1 n1 c1, .int .i64 cc, .slice a2 n2 c2, .int .i64 cc, .bool true, .tuple #[.slice a1 n1 c1, .int .i64 cc], .agg (BC l), .tuple #[.slice a1 n1 c1, .int .i64 cc], .slice a1 n1 c1, .int .i64 cc, .tuple #[.slice a2 n2 c2, .int .i64 cc], .agg (BC l), .tuple #[.slice a2 n2 c2, .int .i64 cc], .slice a2 n2 c2, .int .i64 cc, .bool true, .bool true, .slice a1 n1 c1, .string (bs bb), .slice a2 n2 c2, .string (bs bb), .bool true, .bool true, undef, undef, undef, undef, undef, undef, undef, undef, undef, undef, undef, undef], []⟩ _
  refine wpAnyH_take (i := 8) (v := .bool true) rfl (by kernel_rfl) (by kernel_rfl) (by kernel_rfl) (fun _ _ _ h => h) (Or.inl ⟨by rfl, ?_⟩) hHeld ?_
  · intro W hW; clear hW; go_simp
  change wpAnyH _ _ _ _ _ _ _ ⟨#[.agg (BC l), .pointer (some ⟨w.heap.size, 0, none⟩), .bool false, .bool true, .slice a1 n1 c1, .int .i64 cc, .slice a2 n2 c2, .int .i64 cc, .bool true, .tuple #[.slice a1 n1 c1, .int .i64 cc], .agg (BC l), .tuple #[.slice a1 n1 c1, .int .i64 cc], .slice a1 n1 c1, .int .i64 cc, .tuple #[.slice a2 n2 c2, .int .i64 cc], .agg (BC l), .tuple #[.slice a2 n2 c2, .int .i64 cc], .slice a2 n2 c2, .int .i64 cc, .bool true, .bool true, .slice a1 n1 c1, .string (bs bb), .slice a2 n2 c2, .string (bs bb), .bool true, .bool true, .bool true, undef, undef, undef, undef, undef, undef, undef, undef, undef, undef, undef], []⟩ _
  refine wpAnyH_take (i := 9) (v := .int .i64 cc) rfl (by kernel_rfl) (by kernel_rfl) (by kernel_rfl) (fun _ _ _ h => h) (Or.inl ⟨by rfl, ?_⟩) hHeld ?_
  · intro W hW; clear hW; go_simp
  change wpAnyH _ _ _ _ _ _ _ ⟨#[.agg (BC l), .pointer (some ⟨w.heap.size, 0, none⟩), .bool false, .bool true, .slice a1 n1 c1, .int .i64 cc, .slice a2 n2 c2, .int .i64 cc, .bool true, .tuple #[.slice a1 n1 c1, .int .i64 cc], .agg (BC l), .tuple #[.slice a1 n1 c1, .int .i64 cc], .slice a1 n1 c1, .int .i64 cc, .tuple #[.slice a2 n2 c2, .int .i64 cc], .agg (BC l), .tuple #[.slice a2 n2 c2, .int .i64 cc], .slice a2 n2 c2, .int .i64 cc, .bool true, .bool true, .slice a1 n1 c1, .string (bs bb), .slice a2 n2 c2, .string (bs bb), .bool true, .bool true, .bool true, .int .i64 cc, undef, undef, undef, undef, undef, undef, undef, undef, undef, undef], []⟩ _
  refine wpAnyH_take (i := 10) (v := .int .i64 cc) rfl (by kernel_rfl) (by kernel_rfl) (by kernel_rfl) (fun _ _ _ h => h) (Or.inl ⟨by rfl, ?_⟩) hHeld ?_
  · intro W hW; clear hW; go_simp
  change wpAnyH _ _ _ _ _ _ _ ⟨#[.agg (BC l), .pointer (some ⟨w.heap.size, 0, none⟩), .bool false, .bool true, .slice a1 n1 c1, .int .i64 cc, .slice a2 n2 c2, .int .i64 cc, .bool true, .tuple #[.slice a1 n1 c1, .int .i64 cc], .agg (BC l), .tuple #[.slice a1 n1 c1, .int .i64 cc], .slice a1 n1 c1, .int .i64 cc, .tuple #[.slice a2 n2 c2, .int .i64 cc], .agg (BC l), .tuple #[.slice a2 n2 c2, .int .i64 cc], .slice a2 n2 c2, .int .i64 cc, .bool true, .bool true, .slice a1 n1 c1, .string (bs bb), .slice a2 n2 c2, .string (bs bb), .bool true, .bool true, .bool true, .int .i64 cc, .int .i64 cc, undef, undef, undef, undef, undef, undef, undef, undef, undef], []⟩ _
  refine wpAnyH_take (i := 11) (v := .bool true) rfl (by kernel_rfl) (by kernel_rfl) (by kernel_rfl) (fun _ _ _ h => h) (Or.inl ⟨by rfl, ?_⟩) hHeld ?_
  · intro W hW; clear hW; go_simp
  change wpAnyH _ _ _ _ _ _ _ ⟨#[.agg (BC l), .pointer (some ⟨w.heap.size, 0, none⟩), .bool false, .bool true, .slice a1 n1 c1, .int .i64 cc, .slice a2 n2 c2, .int .i64 cc, .bool true, .tuple #[.slice a1 n1 c1, .int .i64 cc], .agg (BC l), .tuple #[.slice a1 n1 c1, .int .i64 cc], .slice a1 n1 c1, .int .i64 cc, .tuple #[.slice a2 n2 c2, .int .i64 cc], .agg (BC l), .tuple #[.slice a2 n2 c2, .int .i64 cc], .slice a2 n2 c2, .int .i64 cc, .bool true, .bool true, .slice a1 n1 c1, .string (bs bb), .slice a2 n2 c2, .string (bs bb), .bool true, .bool true, .bool true, .int .i64 cc, .int .i64 cc, .bool true, undef, undef, undef, undef, undef, undef, undef, undef], []⟩ _
  refine wpAnyH_take (i := 12) (v := .bool true) rfl (by kernel_rfl) (by kernel_rfl) (by kernel_rfl) (fun _ _ _ h => h) (Or.inl ⟨by rfl, ?_⟩) hHeld ?_
  · intro W hW; clear hW; go_simp
  change wpAnyH _ _ _ _ _ _ _ ⟨#[.agg (BC l), .pointer (some ⟨w.heap.size, 0, none⟩), .bool false, .bool true, .slice a1 n1 c1, .int .i64 cc, .slice a2 n2 c2, .int .i64 cc, .bool true, .tuple #[.slice a1 n1 c1, .int .i64 cc], .agg (BC l), .tuple #[.slice a1 n1 c1, .int .i64 cc], .slice a1 n1 c1, .int .i64 cc, .tuple #[.slice a2 n2 c2, .int .i64 cc], .agg (BC l), .tuple #[.slice a2 n2 c2, .int .i64 cc], .slice a2 n2 c2, .int .i64 cc, .bool true, .bool true, .slice a1 n1 c1, .string (bs bb), .slice a2 n2 c2, .string (bs bb), .bool true, .bool true, .bool true, .int .i64 cc, .int .i64 cc, .bool true, .bool true, undef, undef, undef, undef, undef, undef, undef], []⟩ _
  refine wpAnyH_take (i := 13) (v := .bool true) rfl (by kernel_rfl) (by kernel_rfl) (by kernel_rfl) (fun _ _ _ h => h) (Or.inl ⟨by rfl, ?_⟩) hHeld ?_
  · intro W hW; clear hW; go_simp
  change wpAnyH _ _ _ _ _ _ _ ⟨#[.agg (BC l), .pointer (some ⟨w.heap.size, 0, none⟩), .bool false, .bool true, .slice a1 n1 c1, .int .i64 cc, .slice a2 n2 c2, .int .i64 cc, .bool true, .tuple #[.slice a1 n1 c1, .int .i64 cc], .agg (BC l), .tuple #[.slice a1 n1 c1, .int .i64 cc], .slice a1 n1 c1, .int .i64 cc, .tuple #[.slice a2 n2 c2, .int .i64 cc], .agg (BC l), .tuple #[.slice a2 n2 c2, .int .i64 cc], .slice a2 n2 c2, .int .i64 cc, .bool true, .bool true, .slice a1 n1 c1, .string (bs bb), .slice a2 n2 c2, .string (bs bb), .bool true, .bool true, .bool true, .int .i64 cc, .int .i64 cc, .bool true, .bool true, .bool true, undef, undef, undef, undef, undef, undef], []⟩ _
  refine wpAnyH_take (i := 14) (v := .agg (BC l)) rfl (by kernel_rfl) (by kernel_rfl) (by kernel_rfl) (fun _ _ _ h => h) (yieldsIf_load_mid (by rfl) 27 (.tmp 1) rfl w.heap.size 0 rfl (bcl l) _ (fun W hW => hW.1.at_) Try.underlying27 rfl Try.size27) hHeld ?_
  change wpAnyH _ _ _ _ _ _ _ ⟨#[.agg (BC l), .pointer (some ⟨w.heap.size, 0, none⟩), .bool false, .bool true, .slice a1 n1 c1, .int .i64 cc, .slice a2 n2 c2, .int .i64 cc, .bool true, .tuple #[.slice a1 n1 c1, .int .i64 cc], .agg (BC l), .tuple #[.slice a1 n1 c1, .int .i64 cc], .slice a1 n1 c1, .int .i64 cc, .tuple #[.slice a2 n2 c2, .int .i64 cc], .agg (BC l), .tuple #[.slice a2 n2 c2, .int .i64 cc], .slice a2 n2 c2, .int .i64 cc, .bool true, .bool true, .slice a1 n1 c1, .string (bs bb), .slice a2 n2 c2, .string (bs bb), .bool true, .bool true, .bool true, .int .i64 cc, .int .i64 cc, .bool true, .bool true, .bool true, .agg (BC l), undef, undef, undef, undef, undef], []⟩ _
  refine wpAnyH_take (i := 16) (v := .agg (BC l)) rfl (by kernel_rfl) (by kernel_rfl) (by kernel_rfl) (fun _ _ _ h => h) (yieldsIf_load_mid (by rfl) 27 (.tmp 1) rfl w.heap.size 0 rfl (bcl l) _ (fun W hW => hW.1.at_) Try.underlying27 rfl Try.size27) hHeld ?_
  change wpAnyH _ _ _ _ _ _ _ ⟨#[.agg (BC l), .pointer (some ⟨w.heap.size, 0, none⟩), .bool false, .bool true, .slice a1 n1 c1, .int .i64 cc, .slice a2 n2 c2, .int .i64 cc, .bool true, .tuple #[.slice a1 n1 c1, .int .i64 cc], .agg (BC l), .tuple #[.slice a1 n1 c1, .int .i64 cc], .slice a1 n1 c1, .int .i64 cc, .tuple #[.slice a2 n2 c2, .int .i64 cc], .agg (BC l), .tuple #[.slice a2 n2 c2, .int .i64 cc], .slice a2 n2 c2, .int .i64 cc, .bool true, .bool true, .slice a1 n1 c1, .string (bs bb), .slice a2 n2 c2, .string (bs bb), .bool true, .bool true, .bool true, .int .i64 cc, .int .i64 cc, .bool true, .bool true, .bool true, .agg (BC l), undef, .agg (BC l), undef, undef, undef], []⟩ _
  refine wpAnyH_ready (rs := [15]) (by kernel_rfl) (by simp) ?_
  refine AllReadyH.cons rfl (fun K hK => ?_) AllReadyH.nil
  go_simp
  refine (right12 l _ hl).mono ?_
  rintro e w5 ⟨rfl, hb5⟩
  replace A0 := A0.on hb5; replace Y1 := Y1.on hb5; replace Y2 := Y2.on hb5; replace W0 := belowOn W0 hb5
  clear hb5 hHeld
  refine hK.out _ _ ⟨A0, Y1, Y2⟩ (fun hHeld => ?_)
  clear hK K
  change wpAnyH _ _ _ _ _ _ _ ⟨#[.agg (BC l), .pointer (some ⟨w.heap.size, 0, none⟩), .bool false, .bool true, .slice a1 n1 c1, .int .i64 cc, .slice a2 n2 c2, .int .i64 cc, .bool true, .tuple #[.slice a1 n1 c1, .int .i64 cc], .agg (BC l), .tuple #[.slice a1 n1 c1, .int .i64 cc], .slice a1 n1 c1, .int .i64 cc, .tuple #[.slice a2 n2 c2, .int .i64 cc], .agg (BC l), .tuple #[.slice a2 n2 c2, .int .i64 cc], .slice a2 n2 c2, .int .i64 cc, .bool true, .bool true, .slice a1 n1 c1, .string (bs bb), .slice a2 n2 c2, .string (bs bb), .bool true, .bool true, .bool true, .int .i64 cc, .int .i64 cc, .bool true, .bool true, .bool true, .agg (BC l), .bool (brt l), .agg (BC l), undef, undef, undef], []⟩ _
  refine wpAnyH_ready (rs := [17]) (by kernel_rfl) (by simp) ?_
  refine AllReadyH.cons rfl (fun K hK => ?_) AllReadyH.nil
  go_simp
  refine (right13 l _).mono ?_
  rintro e w6 ⟨rfl, hb5⟩
  replace A0 := A0.on hb5; replace Y1 := Y1.on hb5; replace Y2 := Y2.on hb5; replace W0 := belowOn W0 hb5
  clear hb5 hHeld
  refine hK.out _ _ ⟨A0, Y1, Y2⟩ (fun hHeld => ?_)
  clear hK K
  change wpAnyH _ _ _ _ _ _ _ ⟨#[.agg (BC l), .pointer (some ⟨w.heap.size, 0, none⟩), .bool false, .bool true, .slice a1 n1 c1, .int .i64 cc, .slice a2 n2 c2, .int .i64 cc, .bool true, .tuple #[.slice a1 n1 c1, .int .i64 cc], .agg (BC l), .tuple #[.slice a1 n1 c1, .int .i64 cc], .slice a1 n1 c1, .int .i64 cc, .tuple #[.slice a2 n2 c2, .int .i64 cc], .agg (BC l), .tuple #[.slice a2 n2 c2, .int .i64 cc], .slice a2 n2 c2, .int .i64 cc, .bool true, .bool true, .slice a1 n1 c1, .string (bs bb), .slice a2 n2 c2, .string (bs bb), .bool true, .bool true, .bool true, .int .i64 cc, .int .i64 cc, .bool true, .bool true, .bool true, .agg (BC l), .bool (brt l), .agg (BC l), .bool (brt l), undef, undef], []⟩ _
  refine wpAnyH_take (i := 18) (v := .bool true) rfl (by kernel_rfl) (by kernel_rfl) (by kernel_rfl) (fun _ _ _ h => h) (Or.inl ⟨by rfl, ?_⟩) hHeld ?_
  · intro W hW; clear hW; go_simp
  change wpAnyH _ _ _ _ _ _ _ ⟨#[.agg (BC l), .pointer (some ⟨w.heap.size, 0, none⟩), .bool false, .bool true, .slice a1 n1 c1, .int .i64 cc, .slice a2 n2 c2, .int .i64 cc, .bool true, .tuple #[.slice a1 n1 c1, .int .i64 cc], .agg (BC l), .tuple #[.slice a1 n1 c1, .int .i64 cc], .slice a1 n1 c1, .int .i64 cc, .tuple #[.slice a2 n2 c2, .int .i64 cc], .agg (BC l), .tuple #[.slice a2 n2 c2, .int .i64 cc], .slice a2 n2 c2, .int .i64 cc, .bool true, .bool true, .slice a1 n1 c1, .string (bs bb), .slice a2 n2 c2, .string (bs bb), .bool true, .bool true, .bool true, .int .i64 cc, .int .i64 cc, .bool true, .bool true, .bool true, .agg (BC l), .bool (brt l), .agg (BC l), .bool (brt l), .bool true, undef], []⟩ _
  refine wpAnyH_take (i := 19) (v := .bool true) rfl (by kernel_rfl) (by kernel_rfl) (by kernel_rfl) (fun _ _ _ h => h) (Or.inl ⟨by rfl, ?_⟩) hHeld ?_
  · intro W hW; clear hW; go_simp
  change wpAnyH _ _ _ _ _ _ _ ⟨#[.agg (BC l), .pointer (some ⟨w.heap.size, 0, none⟩), .bool false, .bool true, .slice a1 n1 c1, .int .i64 cc, .slice a2 n2 c2, .int .i64 cc, .bool true, .tuple #[.slice a1 n1 c1, .int .i64 cc], .agg (BC l), .tuple #[.slice a1 n1 c1, .int .i64 cc], .slice a1 n1 c1, .int .i64 cc, .tuple #[.slice a2 n2 c2, .int .i64 cc], .agg (BC l), .tuple #[.slice a2 n2 c2, .int .i64 cc], .slice a2 n2 c2, .int .i64 cc, .bool true, .bool true, .slice a1 n1 c1, .string (bs bb), .slice a2 n2 c2, .string (bs bb), .bool true, .bool true, .bool true, .int .i64 cc, .int .i64 cc, .bool true, .bool true, .bool true, .agg (BC l), .bool (brt l), .agg (BC l), .bool (brt l), .bool true, .bool true], []⟩ _
  refine wpAnyH_take (i := 20) (v := .bool true) rfl (by kernel_rfl) (by kernel_rfl) (by kernel_rfl) (fun _ _ _ h => h) (Or.inl ⟨by rfl, ?_⟩) hHeld ?_
  · intro W hW; clear hW; go_simp
  change wpAnyH _ _ _ _ _ _ _ ⟨#[.agg (BC l), .pointer (some ⟨w.heap.size, 0, none⟩), .bool true, .bool true, .slice a1 n1 c1, .int .i64 cc, .slice a2 n2 c2, .int .i64 cc, .bool true, .tuple #[.slice a1 n1 c1, .int .i64 cc], .agg (BC l), .tuple #[.slice a1 n1 c1, .int .i64 cc], .slice a1 n1 c1, .int .i64 cc, .tuple #[.slice a2 n2 c2, .int .i64 cc], .agg (BC l), .tuple #[.slice a2 n2 c2, .int .i64 cc], .slice a2 n2 c2, .int .i64 cc, .bool true, .bool true, .slice a1 n1 c1, .string (bs bb), .slice a2 n2 c2, .string (bs bb), .bool true, .bool true, .bool true, .int .i64 cc, .int .i64 cc, .bool true, .bool true, .bool true, .agg (BC l), .bool (brt l), .agg (BC l), .bool (brt l), .bool true, .bool true], []⟩ _
  refine wpAnyH_done (by kernel_rfl) ?_ _
  go_wp2
  go_ret
  exact ⟨rfl, W0⟩
set_option maxRecDepth 100000 in
set_option maxHeartbeats 2000000 in
theorem bpduEncodeslifted (os : Os) (started : os.Started) (H : Type) (enc : TypeId × Value → H) :
    ReturnsInHanded {} Try.checked os 3 .any (Rows.bpduEncodesSpec.pre6 enc Try.prog Try.f3 Rows.bpduEncodesRow.domain false) (Rows.bpduEncodesSpec.post enc Try.prog Try.f3 false true false false) := by
  refine returnsInHanded_of_change (C := Try.checked) own started (by kernel_rfl) Try.func3
    (ChangeSpec.witness6 (enc := enc) (C := Try.checked) false ⟨#[], #[.agg #[.int .i64 0, .int .i64 0, .int .i64 0, .int .u8 0, .int .u8 0, .int .u8 0, .int .u8 0, .int .u8 0, .int .u8 0, .int .i64 0, .int .i64 0, .int .u8 0, .int .u8 0, .int .u8 0, .int .u8 0, .int .u8 0, .int .u8 0, .int .i64 0, .int .i64 0, .int .i64 0, .int .i64 0, .int .i64 0]], []⟩ 8 (by kernel_rfl) (by kernel_rfl) (by kernel_rfl) (by kernel_rfl)) ?_
  intro W base args ds gs before hval0 hW _ _
  have hval : ∀ (j : Nat) t v, Try.f3.params[j]? = some t → args[j]? = some v → Value.okWide Try.prog W .any base t v := hval0
  have hW' := hW
  obtain ⟨p, q, hA0, hV, rfl, _, _⟩ := hW
  have hA : DataW.TrodAll enc Try.prog W 0 (fun _ => true) true Try.f3.params.toList args.toList ds p := hA0
  rw [Try.params3] at hA hval
  obtain ⟨v0, vs0, d0, ds0, p0, q0, hargs, rfl, rfl, h0, r0⟩ := trodAll_cons hA
  obtain ⟨rfl, rfl, rfl⟩ := trodAll_nil r0
  obtain rfl : args = #[v0] := by cases args; simp_all
  obtain ⟨rfl, rfl⟩ := trodVars_none hV
  have h0k := h0
  obtain ⟨l0, rfl, hl0⟩ := open_bpdu (hval 0 27 v0 rfl rfl) h0
  clear hA0 hval0
  simp only [List.append_nil] at hW'
  have hlt : ∀ x ∈ p0, x.block < W.heap.size := fun x hx => by simpa using hW'.lt x (by simpa using hx)
  refine (encodesWalk l0 W hl0).mono fun e W' ⟨he, hbl⟩ => ?_
  subst he
  exact ⟨_, rfl, _, _, _, [], _, [], hW', (trodAll_cons_mk (shut_bool Try.underlying4 _) trodAll_mk0), (trodAll_cons_mk (Below.trod Try.laidOut (by kernel_rfl) (of_decide_eq_true (by kernel_rfl)) h0k hbl (fun x hx => hlt x (by simp [hx]))) trodAll_mk0), rfl, hbl.frame _, fun h => by cases h⟩

theorem bpduEncodes_holds : Rows.BpduEncodesSaid :=
  OpenClaim.holds_of_wide 3 Try.f3 rfl rfl rfl rfl rfl rfl rfl ⟨rfl, rfl, rfl, rfl, rfl⟩ rfl rfl rfl rfl rfl (by kernel_rfl) Try.func3 (by kernel_rfl)
    (of_decide_eq_true (by kernel_rfl)) (by unfold Func.isWrapper; first | (rw [if_pos (by decide +kernel)]; kernel_rfl) | (rw [if_neg (by decide +kernel)]; exact ⟨rfl, rfl⟩))
    (fun os started H enc _ => bpduEncodeslifted os started H enc)

#print axioms bpduEncodes_holds
end Go.Proofs.Ytdaglmimfkcmeaa
