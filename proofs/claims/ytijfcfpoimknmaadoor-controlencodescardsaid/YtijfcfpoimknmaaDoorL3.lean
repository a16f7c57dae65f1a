/- ControlEncodes: for every packet the law answers true, and it reads behind the call as it read before. No condition beyond what the card's tie says of the table of kinds. -/
import Derived.Test.YtijfcfpoimknmaaDoorOp
import Derived.Test.YtijfcfpoimknmaaDoorAw
import Derived.Test.YtijfcfpoimknmaaDoorCards
import Derived.Test.YtijfcfpoimknmaaDoorTie
import Derived.SevenTiedAt
import Derived.Test.YtijfcfpoimknmaaDoorC4
import Derived.Test.YtijfcfpoimknmaaDoorR5
namespace Go.Proofs.YtijfcfpoimknmaaDoor
open Go.ChangeShapes Go.WideShapes Go.ChangeAt Go.RowKit

set_option maxRecDepth 100000 in
set_option maxHeartbeats 4000000 in
theorem encodesWalk (p : Pk) (a1 : Option Addr) (m1 c1 : Nat) (w : World) (hT : KT w) (hp : Byt w a1 m1 c1 p.n.b) (bp : NtB p.n) :
    Calls Tryd.prog 3 #[.agg (PC p (.slice a1 m1 c1))] w fun e w' => e = .returned (.bool true) ∧ Below w.heap.size w w' := by
  have L0 := below_alloc w (.cells (PC p (.slice a1 m1 c1)) 28)
  have X0 : Box (w.alloc (.cells (PC p (.slice a1 m1 c1)) 28)) w.heap.size (pcl p (.slice a1 m1 c1)) := Box.new w (pcl p (.slice a1 m1 c1)) 28
  have P0 := hp.on L0
  have K0 := hT.on L0
  have HB := hide bp
  have hl := hide hp.len
  clear hp hT bp
  go_enter Tryd.func3, Tryd.ntmps3
  go_wp2_with fail
  refine (awake10 _ K0).mono ?_
  rintro e w1 ⟨rfl, hb⟩
  replace X0 := X0.on hb; replace P0 := P0.on hb; replace K0 := K0.on hb; replace L0 := belowOn L0 hb
  have x13 := X0.cell 13 _ rfl
  clear hb
  rcases Bool.eq_false_or_eq_true (decide ((m1 : Int) > 3000)) with hl1 | hl1
  · go_wp2
    go_ret
    exact ⟨rfl, L0⟩
  have tk1 : True := trivial
  go_wp2_with (have _t := tk1; refine wpl_pkt (.tmp 1) rfl X0 ?_ ?_ ?_; rfl; rfl; clear tk1)
  refine (encode11 p a1 m1 c1 _ K0 HB.out P0).mono ?_
  rintro e w2 ⟨b1, n1, d1, rfl, Z1, hb⟩
  replace X0 := X0.on hb; replace P0 := P0.on hb; replace K0 := K0.on hb; replace L0 := belowOn L0 hb
  clear hb x13 hl1
  have tk2 : True := trivial
  go_wp2_with (have _t := tk2; refine wpl_pkt (.tmp 1) rfl X0 ?_ ?_ ?_; rfl; rfl; clear tk2)
  refine (encode12 p a1 m1 c1 _ HB.out P0).mono ?_
  rintro e w3 ⟨b2, n2, d2, rfl, Z2, hb⟩
  replace X0 := X0.on hb; replace K0 := K0.on hb; replace L0 := belowOn L0 hb; replace Z1 := Z1.on hb
  clear hb P0 HB
  have sb := bs_beq_self (eb p)
  have hc1 : ∀ W, Byt W b1 n1 d1 (eb p) → (convert 24 9 (.slice b1 n1 d1)).run Tryd.prog W = .ok (.string (bs (eb p))) W := fun W h => bytStr h
  have hc2 : ∀ W, Byt W b2 n2 d2 (eb p) → (convert 24 9 (.slice b2 n2 d2)).run Tryd.prog W = .ok (.string (bs (eb p))) W := fun W h => bytStr h
  have C1 := hide (fun W h => right13 p.n a1 m1 c1 hl.out W h)
  have C2 := hide (fun W => right14 p.n a1 m1 c1 hl.out W)
  replace X0 := X0.drew; replace Z1 := Z1.drew; replace Z2 := Z2.drew; replace K0 := K0.drew; replace L0 := L0.drew
  generalize ec p = cc at *
  generalize eb p = bb at *
  generalize rt p.n = rr0 at *
  go_wp2_with fail
  refine wp_region_held_drew (S := fun w' => Box w' w.heap.size (pcl p (.slice a1 m1 c1)) ∧ Byt w' b1 n1 d1 bb ∧ Byt w' b2 n2 d2 bb ∧ KT w') (by kernel_rfl) ⟨X0, Z1, Z2, K0⟩ (fun hHeld => ?_)
  refine wpAnyH_take (i := 0) (v := .slice b1 n1 d1) rfl (by kernel_rfl) (by kernel_rfl) (by kernel_rfl) (fun _ _ _ h => h) (Or.inl ⟨by rfl, ?_⟩) hHeld ?_
  · intro W hW; clear hW; go_simp
  change wpAnyH _ _ _ _ _ _ _ ⟨#[.agg (PC p (.slice a1 m1 c1)), .pointer (some ⟨w.heap.size, 0, none⟩), .bool false, .bool true, .slice b1 n1 d1, .int .i64 cc, .slice b2 n2 d2, .int .i64 cc, .bool true, .bool true, .bool false, .bool false, .pointer (some ⟨w.heap.size, 3, none⟩), .pointer (some ⟨w.heap.size, 13, none⟩), .slice a1 m1 c1, .int .i64 m1, .bool false, .bool false, undef, .tuple #[.slice b1 n1 d1, .int .i64 cc], .agg (PC p (.slice a1 m1 c1)), .tuple #[.slice b1 n1 d1, .int .i64 cc], .slice b1 n1 d1, .int .i64 cc, .tuple #[.slice b2 n2 d2, .int .i64 cc], .agg (PC p (.slice a1 m1 c1)), .tuple #[.slice b2 n2 d2, .int .i64 cc], .slice b2 n2 d2, .int .i64 cc, .slice b1 n1 d1, undef, undef, undef, undef, undef, undef, undef, undef, undef, undef, undef, undef, undef, undef, undef, undef, undef, undef], []⟩ _
  refine wpAnyH_take (i := 1) (v := .string (bs bb)) rfl (by kernel_rfl) (by kernel_rfl) (by kernel_rfl) (fun _ _ _ h => h) (Or.inl ⟨by rfl, ?_⟩) hHeld ?_
  · intro W hW; obtain ⟨hW1, hW2, hW3, hW4⟩ := hW; go_simp
  change wpAnyH _ _ _ _ _ _ _ ⟨#[.agg (PC p (.slice a1 m1 c1)), .pointer (some ⟨w.heap.size, 0, none⟩), .bool false, .bool true, .slice b1 n1 d1, .int .i64 cc, .slice b2 n2 d2, .int .i64 cc, .bool true, .bool true, .bool false, .bool false, .pointer (some ⟨w.heap.size, 3, none⟩), .pointer (some ⟨w.heap.size, 13, none⟩), .slice a1 m1 c1, .int .i64 m1, .bool false, .bool false, undef, .tuple #[.slice b1 n1 d1, .int .i64 cc], .agg (PC p (.slice a1 m1 c1)), .tuple #[.slice b1 n1 d1, .int .i64 cc], .slice b1 n1 d1, .int .i64 cc, .tuple #[.slice b2 n2 d2, .int .i64 cc], .agg (PC p (.slice a1 m1 c1)), .tuple #[.slice b2 n2 d2, .int .i64 cc], .slice b2 n2 d2, .int .i64 cc, .slice b1 n1 d1, .string (bs bb), undef, undef, undef, undef, undef, undef, undef, undef, undef, undef, undef, undef, undef, undef, undef, undef, undef], []⟩ _
  refine wpAnyH_take (i := 2) (v := .slice b2 n2 d2) rfl (by kernel_rfl) (by kernel_rfl) (by kernel_rfl) (fun _ _ _ h => h) (Or.inl ⟨by rfl, ?_⟩) hHeld ?_
  · intro W hW; clear hW; go_simp
  change wpAnyH _ _ _ _ _ _ _ ⟨#[.agg (PC p (.slice a1 m1 c1)), .pointer (some ⟨w.heap.size, 0, none⟩), .bool false, .bool true, .slice b1 n1 d1, .int .i64 cc, .slice b2 n2 d2, .int .i64 cc, .bool true, .bool true, .bool false, .bool false, .pointer (some ⟨w.heap.size, 3, none⟩), .pointer (some ⟨w.heap.size, 13, none⟩), .slice a1 m1 c1, .int .i64 m1, .bool false, .bool false, undef, .tuple #[.slice b1 n1 d1, .int .i64 cc], .agg (PC p (.slice a1 m1 c1)), .tuple #[.slice b1 n1 d1, .int .i64 cc], .slice b1 n1 d1, .int .i64 cc, .tuple #[.slice b2 n2 d2, .int .i64 cc], .agg (PC p (.slice a1 m1 c1)), .tuple #[.slice b2 n2 d2, .int .i64 cc], .slice b2 n2 d2, .int .i64 cc, .slice b1 n1 d1, .string (bs bb), .slice b2 n2 d2, undef, undef, undef, undef, undef, undef, undef, undef, undef, undef, undef, undef, undef, undef, undef, undef], []⟩ _
  refine wpAnyH_take (i := 3) (v := .string (bs bb)) rfl (by kernel_rfl) (by kernel_rfl) (by kernel_rfl) (fun _ _ _ h => h) (Or.inl ⟨by rfl, ?_⟩) hHeld ?_
  · intro W hW; obtain ⟨hW1, hW2, hW3, hW4⟩ := hW; go_simp
  change wpAnyH _ _ _ _ _ _ _ ⟨#[.agg (PC p (.slice a1 m1 c1)), .pointer (some ⟨w.heap.size, 0, none⟩), .bool false, .bool true, .slice b1 n1 d1, .int .i64 cc, .slice b2 n2 d2, .int .i64 cc, .bool true, .bool true, .bool false, .bool false, .pointer (some ⟨w.heap.size, 3, none⟩), .pointer (some ⟨w.heap.size, 13, none⟩), .slice a1 m1 c1, .int .i64 m1, .bool false, .bool false, undef, .tuple #[.slice b1 n1 d1, .int .i64 cc], .agg (PC p (.slice a1 m1 c1)), .tuple #[.slice b1 n1 d1, .int .i64 cc], .slice b1 n1 d1, .int .i64 cc, .tuple #[.slice b2 n2 d2, .int .i64 cc], .agg (PC p (.slice a1 m1 c1)), .tuple #[.slice b2 n2 d2, .int .i64 cc], .slice b2 n2 d2, .int .i64 cc, .slice b1 n1 d1, .string (bs bb), .slice b2 n2 d2, .string (bs bb), undef, undef, undef, undef, undef, undef, undef, undef, undef, undef, undef, undef, undef, undef, undef], []⟩ _
  refine wpAnyH_take (i := 4) (v := .bool true) rfl (by kernel_rfl) (by kernel_rfl) (by kernel_rfl) (fun _ _ _ h => h) (Or.inl ⟨by rfl, ?_⟩) hHeld ?_
  · intro W hW; clear hW; go_simp
  change wpAnyH _ _ _ _ _ _ _ ⟨#[.agg (PC p (.slice a1 m1 c1)), .pointer (some ⟨w.heap.size, 0, none⟩), .bool false, .bool true, .slice b1 n1 d1, .int .i64 cc, .slice b2 n2 d2, .int .i64 cc, .bool true, .bool true, .bool false, .bool false, .pointer (some ⟨w.heap.size, 3, none⟩), .pointer (some ⟨w.heap.size, 13, none⟩), .slice a1 m1 c1, .int .i64 m1, .bool false, .bool false, undef, .tuple #[.slice b1 n1 d1, .int .i64 cc], .agg (PC p (.slice a1 m1 c1)), .tuple #[.slice b1 n1 d1, .int .i64 cc], .slice b1 n1 d1, .int .i64 cc, .tuple #[.slice b2 n2 d2, .int .i64 cc], .agg (PC p (.slice a1 m1 c1)), .tuple #[.slice b2 n2 d2, .int .i64 cc], .slice b2 n2 d2, .int .i64 cc, .slice b1 n1 d1, .string (bs bb), .slice b2 n2 d2, .string (bs bb), .bool true, undef, undef, undef, undef, undef, undef, undef, undef, undef, undef, undef, undef, undef, undef], []⟩ _
  refine wpAnyH_take (i := 5) (v := .bool true) rfl (by kernel_rfl) (by kernel_rfl) (by kernel_rfl) (fun _ _ _ h => h) (Or.inl ⟨by rfl, ?_⟩) hHeld ?_
  · intro W hW; clear hW; go_simp
  change wpAnyH _ _ _ _ _ _ _ ⟨#[.agg (PC p (.slice a1 m1 c1)), .pointer (some ⟨w.heap.size, 0, none⟩), .bool false, .bool true, .slice b1 n1 d1, .int .i64 cc, .slice b2 n2 d2, .int .i64 cc, .bool true, .bool true, .bool false, .bool false, .pointer (some ⟨w.heap.size, 3, none⟩), .pointer (some ⟨w.heap.size, 13, none⟩), .slice a1 m1 c1, .int .i64 m1, .bool false, .bool false, undef, .tuple #[.slice b1 n1 d1, .int .i64 cc], .agg (PC p (.slice a1 m1 c1)), .tuple #[.slice b1 n1 d1, .int .i64 cc], .slice b1 n1 d1, .int .i64 cc, .tuple #[.slice b2 n2 d2, .int .i64 cc], .agg (PC p (.slice a1 m1 c1)), .tuple #[.slice b2 n2 d2, .int .i64 cc], .slice b2 n2 d2, .int .i64 cc, .slice b1 n1 d1, .string (bs bb), .slice b2 n2 d2, .string (bs bb), .bool true, .bool true, undef, undef, undef, undef, undef, undef, undef, undef, undef, undef, undef, undef, undef], []⟩ _
  refine wpAnyH_take (i := 6) (v := .int .i64 cc) rfl (by kernel_rfl) (by kernel_rfl) (by kernel_rfl) (fun _ _ _ h => h) (Or.inl ⟨by rfl, ?_⟩) hHeld ?_
  · intro W hW; clear hW; go_simp
  change wpAnyH _ _ _ _ _ _ _ ⟨#[.agg (PC p (.slice a1 m1 c1)), .pointer (some ⟨w.heap.size, 0, none⟩), .bool false, .bool true, .slice b1 n1 d1, .int .i64 cc, .slice b2 n2 d2, .int .i64 cc, .bool true, .bool true, .bool false, .bool false, .pointer (some ⟨w.heap.size, 3, none⟩), .pointer (some ⟨w.heap.size, 13, none⟩), .slice a1 m1 c1, .int .i64 m1, .bool false, .bool false, undef, .tuple #[.slice b1 n1 d1, .int .i64 cc], .agg (PC p (.slice a1 m1 c1)), .tuple #[.slice b1 n1 d1, .int .i64 cc], .slice b1 n1 d1, .int .i64 cc, .tuple #[.slice b2 n2 d2, .int .i64 cc], .agg (PC p (.slice a1 m1 c1)), .tuple #[.slice b2 n2 d2, .int .i64 cc], .slice b2 n2 d2, .int .i64 cc, .slice b1 n1 d1, .string (bs bb), .slice b2 n2 d2, .string (bs bb), .bool true, .bool true, .int .i64 cc, undef, undef, undef, undef, undef, undef, undef, undef, undef, undef, undef, undef], []⟩ _
  refine wpAnyH_take (i := 7) (v := .int .i64 cc) rfl (by kernel_rfl) (by kernel_rfl) (by kernel_rfl) (fun _ _ _ h => h) (Or.inl ⟨by rfl, ?_⟩) hHeld ?_
  · intro W hW; clear hW; go_simp
  change wpAnyH _ _ _ _ _ _ _ ⟨#[.agg (PC p (.slice a1 m1 c1)), .pointer (some ⟨w.heap.size, 0, none⟩), .bool false, .bool true, .slice b1 n1 d1, .int .i64 cc, .slice b2 n2 d2, .int .i64 cc, .bool true, .bool true, .bool false, .bool false, .pointer (some ⟨w.heap.size, 3, none⟩), .pointer (some ⟨w.heap.size, 13, none⟩), .slice a1 m1 c1, .int .i64 m1, .bool false, .bool false, undef, .tuple #[.slice b1 n1 d1, .int .i64 cc], .agg (PC p (.slice a1 m1 c1)), .tuple #[.slice b1 n1 d1, .int .i64 cc], .slice b1 n1 d1, .int .i64 cc, .tuple #[.slice b2 n2 d2, .int .i64 cc], .agg (PC p (.slice a1 m1 c1)), .tuple #[.slice b2 n2 d2, .int .i64 cc], .slice b2 n2 d2, .int .i64 cc, .slice b1 n1 d1, .string (bs bb), .slice b2 n2 d2, .string (bs bb), .bool true, .bool true, .int .i64 cc, .int .i64 cc, undef, undef, undef, undef, undef, undef, undef, undef, undef, undef, undef], []⟩ _
  refine wpAnyH_take (i := 8) (v := .bool true) rfl (by kernel_rfl) (by kernel_rfl) (by kernel_rfl) (fun _ _ _ h => h) (Or.inl ⟨by rfl, ?_⟩) hHeld ?_
  · intro W hW; clear hW; go_simp
  change wpAnyH _ _ _ _ _ _ _ ⟨#[.agg (PC p (.slice a1 m1 c1)), .pointer (some ⟨w.heap.size, 0, none⟩), .bool false, .bool true, .slice b1 n1 d1, .int .i64 cc, .slice b2 n2 d2, .int .i64 cc, .bool true, .bool true, .bool false, .bool false, .pointer (some ⟨w.heap.size, 3, none⟩), .pointer (some ⟨w.heap.size, 13, none⟩), .slice a1 m1 c1, .int .i64 m1, .bool false, .bool false, undef, .tuple #[.slice b1 n1 d1, .int .i64 cc], .agg (PC p (.slice a1 m1 c1)), .tuple #[.slice b1 n1 d1, .int .i64 cc], .slice b1 n1 d1, .int .i64 cc, .tuple #[.slice b2 n2 d2, .int .i64 cc], .agg (PC p (.slice a1 m1 c1)), .tuple #[.slice b2 n2 d2, .int .i64 cc], .slice b2 n2 d2, .int .i64 cc, .slice b1 n1 d1, .string (bs bb), .slice b2 n2 d2, .string (bs bb), .bool true, .bool true, .int .i64 cc, .int .i64 cc, .bool true, undef, undef, undef, undef, undef, undef, undef, undef, undef, undef], []⟩ _
  refine wpAnyH_take (i := 9) (v := .bool true) rfl (by kernel_rfl) (by kernel_rfl) (by kernel_rfl) (fun _ _ _ h => h) (Or.inl ⟨by rfl, ?_⟩) hHeld ?_
  · intro W hW; clear hW; go_simp
  change wpAnyH _ _ _ _ _ _ _ ⟨#[.agg (PC p (.slice a1 m1 c1)), .pointer (some ⟨w.heap.size, 0, none⟩), .bool false, .bool true, .slice b1 n1 d1, .int .i64 cc, .slice b2 n2 d2, .int .i64 cc, .bool true, .bool true, .bool false, .bool false, .pointer (some ⟨w.heap.size, 3, none⟩), .pointer (some ⟨w.heap.size, 13, none⟩), .slice a1 m1 c1, .int .i64 m1, .bool false, .bool false, undef, .tuple #[.slice b1 n1 d1, .int .i64 cc], .agg (PC p (.slice a1 m1 c1)), .tuple #[.slice b1 n1 d1, .int .i64 cc], .slice b1 n1 d1, .int .i64 cc, .tuple #[.slice b2 n2 d2, .int .i64 cc], .agg (PC p (.slice a1 m1 c1)), .tuple #[.slice b2 n2 d2, .int .i64 cc], .slice b2 n2 d2, .int .i64 cc, .slice b1 n1 d1, .string (bs bb), .slice b2 n2 d2, .string (bs bb), .bool true, .bool true, .int .i64 cc, .int .i64 cc, .bool true, .bool true, undef, undef, undef, undef, undef, undef, undef, undef, undef], []⟩ _
  refine wpAnyH_take (i := 10) (v := .bool true) rfl (by kernel_rfl) (by kernel_rfl) (by kernel_rfl) (fun _ _ _ h => h) (Or.inl ⟨by rfl, ?_⟩) hHeld ?_
  · intro W hW; clear hW; go_simp
  change wpAnyH _ _ _ _ _ _ _ ⟨#[.agg (PC p (.slice a1 m1 c1)), .pointer (some ⟨w.heap.size, 0, none⟩), .bool false, .bool true, .slice b1 n1 d1, .int .i64 cc, .slice b2 n2 d2, .int .i64 cc, .bool true, .bool true, .bool false, .bool false, .pointer (some ⟨w.heap.size, 3, none⟩), .pointer (some ⟨w.heap.size, 13, none⟩), .slice a1 m1 c1, .int .i64 m1, .bool false, .bool false, undef, .tuple #[.slice b1 n1 d1, .int .i64 cc], .agg (PC p (.slice a1 m1 c1)), .tuple #[.slice b1 n1 d1, .int .i64 cc], .slice b1 n1 d1, .int .i64 cc, .tuple #[.slice b2 n2 d2, .int .i64 cc], .agg (PC p (.slice a1 m1 c1)), .tuple #[.slice b2 n2 d2, .int .i64 cc], .slice b2 n2 d2, .int .i64 cc, .slice b1 n1 d1, .string (bs bb), .slice b2 n2 d2, .string (bs bb), .bool true, .bool true, .int .i64 cc, .int .i64 cc, .bool true, .bool true, .bool true, undef, undef, undef, undef, undef, undef, undef, undef], []⟩ _
  refine wpAnyH_take (i := 11) (v := .pointer (some ⟨w.heap.size, 3, none⟩)) rfl (by kernel_rfl) (by kernel_rfl) (by kernel_rfl) (fun _ _ _ h => h) (Or.inl ⟨by rfl, ?_⟩) hHeld ?_
  · intro W hW; clear hW; go_simp
  change wpAnyH _ _ _ _ _ _ _ ⟨#[.agg (PC p (.slice a1 m1 c1)), .pointer (some ⟨w.heap.size, 0, none⟩), .bool false, .bool true, .slice b1 n1 d1, .int .i64 cc, .slice b2 n2 d2, .int .i64 cc, .bool true, .bool true, .bool false, .bool false, .pointer (some ⟨w.heap.size, 3, none⟩), .pointer (some ⟨w.heap.size, 13, none⟩), .slice a1 m1 c1, .int .i64 m1, .bool false, .bool false, undef, .tuple #[.slice b1 n1 d1, .int .i64 cc], .agg (PC p (.slice a1 m1 c1)), .tuple #[.slice b1 n1 d1, .int .i64 cc], .slice b1 n1 d1, .int .i64 cc, .tuple #[.slice b2 n2 d2, .int .i64 cc], .agg (PC p (.slice a1 m1 c1)), .tuple #[.slice b2 n2 d2, .int .i64 cc], .slice b2 n2 d2, .int .i64 cc, .slice b1 n1 d1, .string (bs bb), .slice b2 n2 d2, .string (bs bb), .bool true, .bool true, .int .i64 cc, .int .i64 cc, .bool true, .bool true, .bool true, .pointer (some ⟨w.heap.size, 3, none⟩), undef, undef, undef, undef, undef, undef, undef], []⟩ _
  refine wpAnyH_take (i := 12) (v := .agg (NC p.n (.slice a1 m1 c1))) rfl (by kernel_rfl) (by kernel_rfl) (by kernel_rfl) (fun _ _ _ h => h) (yieldsIf_load_mid (by rfl) 26 (.tmp 40) rfl w.heap.size 3 rfl (ncl p.n (.slice a1 m1 c1)) _ (fun W hW => hW.1.note) Tryd.underlying26 rfl Tryd.size26) hHeld ?_
  change wpAnyH _ _ _ _ _ _ _ ⟨#[.agg (PC p (.slice a1 m1 c1)), .pointer (some ⟨w.heap.size, 0, none⟩), .bool false, .bool true, .slice b1 n1 d1, .int .i64 cc, .slice b2 n2 d2, .int .i64 cc, .bool true, .bool true, .bool false, .bool false, .pointer (some ⟨w.heap.size, 3, none⟩), .pointer (some ⟨w.heap.size, 13, none⟩), .slice a1 m1 c1, .int .i64 m1, .bool false, .bool false, undef, .tuple #[.slice b1 n1 d1, .int .i64 cc], .agg (PC p (.slice a1 m1 c1)), .tuple #[.slice b1 n1 d1, .int .i64 cc], .slice b1 n1 d1, .int .i64 cc, .tuple #[.slice b2 n2 d2, .int .i64 cc], .agg (PC p (.slice a1 m1 c1)), .tuple #[.slice b2 n2 d2, .int .i64 cc], .slice b2 n2 d2, .int .i64 cc, .slice b1 n1 d1, .string (bs bb), .slice b2 n2 d2, .string (bs bb), .bool true, .bool true, .int .i64 cc, .int .i64 cc, .bool true, .bool true, .bool true, .pointer (some ⟨w.heap.size, 3, none⟩), .agg (NC p.n (.slice a1 m1 c1)), undef, undef, undef, undef, undef, undef], []⟩ _
  refine wpAnyH_take (i := 14) (v := .pointer (some ⟨w.heap.size, 3, none⟩)) rfl (by kernel_rfl) (by kernel_rfl) (by kernel_rfl) (fun _ _ _ h => h) (Or.inl ⟨by rfl, ?_⟩) hHeld ?_
  · intro W hW; clear hW; go_simp
  change wpAnyH _ _ _ _ _ _ _ ⟨#[.agg (PC p (.slice a1 m1 c1)), .pointer (some ⟨w.heap.size, 0, none⟩), .bool false, .bool true, .slice b1 n1 d1, .int .i64 cc, .slice b2 n2 d2, .int .i64 cc, .bool true, .bool true, .bool false, .bool false, .pointer (some ⟨w.heap.size, 3, none⟩), .pointer (some ⟨w.heap.size, 13, none⟩), .slice a1 m1 c1, .int .i64 m1, .bool false, .bool false, undef, .tuple #[.slice b1 n1 d1, .int .i64 cc], .agg (PC p (.slice a1 m1 c1)), .tuple #[.slice b1 n1 d1, .int .i64 cc], .slice b1 n1 d1, .int .i64 cc, .tuple #[.slice b2 n2 d2, .int .i64 cc], .agg (PC p (.slice a1 m1 c1)), .tuple #[.slice b2 n2 d2, .int .i64 cc], .slice b2 n2 d2, .int .i64 cc, .slice b1 n1 d1, .string (bs bb), .slice b2 n2 d2, .string (bs bb), .bool true, .bool true, .int .i64 cc, .int .i64 cc, .bool true, .bool true, .bool true, .pointer (some ⟨w.heap.size, 3, none⟩), .agg (NC p.n (.slice a1 m1 c1)), undef, .pointer (some ⟨w.heap.size, 3, none⟩), undef, undef, undef, undef], []⟩ _
  refine wpAnyH_take (i := 15) (v := .agg (NC p.n (.slice a1 m1 c1))) rfl (by kernel_rfl) (by kernel_rfl) (by kernel_rfl) (fun _ _ _ h => h) (yieldsIf_load_mid (by rfl) 26 (.tmp 43) rfl w.heap.size 3 rfl (ncl p.n (.slice a1 m1 c1)) _ (fun W hW => hW.1.note) Tryd.underlying26 rfl Tryd.size26) hHeld ?_
  change wpAnyH _ _ _ _ _ _ _ ⟨#[.agg (PC p (.slice a1 m1 c1)), .pointer (some ⟨w.heap.size, 0, none⟩), .bool false, .bool true, .slice b1 n1 d1, .int .i64 cc, .slice b2 n2 d2, .int .i64 cc, .bool true, .bool true, .bool false, .bool false, .pointer (some ⟨w.heap.size, 3, none⟩), .pointer (some ⟨w.heap.size, 13, none⟩), .slice a1 m1 c1, .int .i64 m1, .bool false, .bool false, undef, .tuple #[.slice b1 n1 d1, .int .i64 cc], .agg (PC p (.slice a1 m1 c1)), .tuple #[.slice b1 n1 d1, .int .i64 cc], .slice b1 n1 d1, .int .i64 cc, .tuple #[.slice b2 n2 d2, .int .i64 cc], .agg (PC p (.slice a1 m1 c1)), .tuple #[.slice b2 n2 d2, .int .i64 cc], .slice b2 n2 d2, .int .i64 cc, .slice b1 n1 d1, .string (bs bb), .slice b2 n2 d2, .string (bs bb), .bool true, .bool true, .int .i64 cc, .int .i64 cc, .bool true, .bool true, .bool true, .pointer (some ⟨w.heap.size, 3, none⟩), .agg (NC p.n (.slice a1 m1 c1)), undef, .pointer (some ⟨w.heap.size, 3, none⟩), .agg (NC p.n (.slice a1 m1 c1)), undef, undef, undef], []⟩ _
  refine wpAnyH_ready (rs := [13]) (by kernel_rfl) (by simp) ?_
  refine AllReadyH.cons rfl (fun K hK => ?_) AllReadyH.nil
  go_simp
  refine (C1.out _ K0).mono ?_
  rintro e w5 ⟨rfl, hb5⟩
  replace X0 := X0.on hb5; replace Z1 := Z1.on hb5; replace Z2 := Z2.on hb5; replace K0 := K0.on hb5; replace L0 := belowOn L0 hb5
  clear hb5 hHeld
  refine hK.out _ _ ⟨X0, Z1, Z2, K0⟩ (fun hHeld => ?_)
  clear hK K
  change wpAnyH _ _ _ _ _ _ _ ⟨#[.agg (PC p (.slice a1 m1 c1)), .pointer (some ⟨w.heap.size, 0, none⟩), .bool false, .bool true, .slice b1 n1 d1, .int .i64 cc, .slice b2 n2 d2, .int .i64 cc, .bool true, .bool true, .bool false, .bool false, .pointer (some ⟨w.heap.size, 3, none⟩), .pointer (some ⟨w.heap.size, 13, none⟩), .slice a1 m1 c1, .int .i64 m1, .bool false, .bool false, undef, .tuple #[.slice b1 n1 d1, .int .i64 cc], .agg (PC p (.slice a1 m1 c1)), .tuple #[.slice b1 n1 d1, .int .i64 cc], .slice b1 n1 d1, .int .i64 cc, .tuple #[.slice b2 n2 d2, .int .i64 cc], .agg (PC p (.slice a1 m1 c1)), .tuple #[.slice b2 n2 d2, .int .i64 cc], .slice b2 n2 d2, .int .i64 cc, .slice b1 n1 d1, .string (bs bb), .slice b2 n2 d2, .string (bs bb), .bool true, .bool true, .int .i64 cc, .int .i64 cc, .bool true, .bool true, .bool true, .pointer (some ⟨w.heap.size, 3, none⟩), .agg (NC p.n (.slice a1 m1 c1)), .bool rr0, .pointer (some ⟨w.heap.size, 3, none⟩), .agg (NC p.n (.slice a1 m1 c1)), undef, undef, undef], []⟩ _
  refine wpAnyH_ready (rs := [16]) (by kernel_rfl) (by simp) ?_
  refine AllReadyH.cons rfl (fun K hK => ?_) AllReadyH.nil
  go_simp
  refine (C2.out _).mono ?_
  rintro e w6 ⟨rfl, hb5⟩
  replace X0 := X0.on hb5; replace Z1 := Z1.on hb5; replace Z2 := Z2.on hb5; replace K0 := K0.on hb5; replace L0 := belowOn L0 hb5
  clear hb5 hHeld
  refine hK.out _ _ ⟨X0, Z1, Z2, K0⟩ (fun hHeld => ?_)
  clear hK K
  change wpAnyH _ _ _ _ _ _ _ ⟨#[.agg (PC p (.slice a1 m1 c1)), .pointer (some ⟨w.heap.size, 0, none⟩), .bool false, .bool true, .slice b1 n1 d1, .int .i64 cc, .slice b2 n2 d2, .int .i64 cc, .bool true, .bool true, .bool false, .bool false, .pointer (some ⟨w.heap.size, 3, none⟩), .pointer (some ⟨w.heap.size, 13, none⟩), .slice a1 m1 c1, .int .i64 m1, .bool false, .bool false, undef, .tuple #[.slice b1 n1 d1, .int .i64 cc], .agg (PC p (.slice a1 m1 c1)), .tuple #[.slice b1 n1 d1, .int .i64 cc], .slice b1 n1 d1, .int .i64 cc, .tuple #[.slice b2 n2 d2, .int .i64 cc], .agg (PC p (.slice a1 m1 c1)), .tuple #[.slice b2 n2 d2, .int .i64 cc], .slice b2 n2 d2, .int .i64 cc, .slice b1 n1 d1, .string (bs bb), .slice b2 n2 d2, .string (bs bb), .bool true, .bool true, .int .i64 cc, .int .i64 cc, .bool true, .bool true, .bool true, .pointer (some ⟨w.heap.size, 3, none⟩), .agg (NC p.n (.slice a1 m1 c1)), .bool rr0, .pointer (some ⟨w.heap.size, 3, none⟩), .agg (NC p.n (.slice a1 m1 c1)), .bool rr0, undef, undef], []⟩ _
  refine wpAnyH_take (i := 17) (v := .bool true) rfl (by kernel_rfl) (by kernel_rfl) (by kernel_rfl) (fun _ _ _ h => h) (Or.inl ⟨by rfl, ?_⟩) hHeld ?_
  · intro W hW; clear hW; go_simp
  change wpAnyH _ _ _ _ _ _ _ ⟨#[.agg (PC p (.slice a1 m1 c1)), .pointer (some ⟨w.heap.size, 0, none⟩), .bool false, .bool true, .slice b1 n1 d1, .int .i64 cc, .slice b2 n2 d2, .int .i64 cc, .bool true, .bool true, .bool false, .bool false, .pointer (some ⟨w.heap.size, 3, none⟩), .pointer (some ⟨w.heap.size, 13, none⟩), .slice a1 m1 c1, .int .i64 m1, .bool false, .bool false, undef, .tuple #[.slice b1 n1 d1, .int .i64 cc], .agg (PC p (.slice a1 m1 c1)), .tuple #[.slice b1 n1 d1, .int .i64 cc], .slice b1 n1 d1, .int .i64 cc, .tuple #[.slice b2 n2 d2, .int .i64 cc], .agg (PC p (.slice a1 m1 c1)), .tuple #[.slice b2 n2 d2, .int .i64 cc], .slice b2 n2 d2, .int .i64 cc, .slice b1 n1 d1, .string (bs bb), .slice b2 n2 d2, .string (bs bb), .bool true, .bool true, .int .i64 cc, .int .i64 cc, .bool true, .bool true, .bool true, .pointer (some ⟨w.heap.size, 3, none⟩), .agg (NC p.n (.slice a1 m1 c1)), .bool rr0, .pointer (some ⟨w.heap.size, 3, none⟩), .agg (NC p.n (.slice a1 m1 c1)), .bool rr0, .bool true, undef], []⟩ _
  refine wpAnyH_take (i := 18) (v := .bool true) rfl (by kernel_rfl) (by kernel_rfl) (by kernel_rfl) (fun _ _ _ h => h) (Or.inl ⟨by rfl, ?_⟩) hHeld ?_
  · intro W hW; clear hW; go_simp
  change wpAnyH _ _ _ _ _ _ _ ⟨#[.agg (PC p (.slice a1 m1 c1)), .pointer (some ⟨w.heap.size, 0, none⟩), .bool false, .bool true, .slice b1 n1 d1, .int .i64 cc, .slice b2 n2 d2, .int .i64 cc, .bool true, .bool true, .bool false, .bool false, .pointer (some ⟨w.heap.size, 3, none⟩), .pointer (some ⟨w.heap.size, 13, none⟩), .slice a1 m1 c1, .int .i64 m1, .bool false, .bool false, undef, .tuple #[.slice b1 n1 d1, .int .i64 cc], .agg (PC p (.slice a1 m1 c1)), .tuple #[.slice b1 n1 d1, .int .i64 cc], .slice b1 n1 d1, .int .i64 cc, .tuple #[.slice b2 n2 d2, .int .i64 cc], .agg (PC p (.slice a1 m1 c1)), .tuple #[.slice b2 n2 d2, .int .i64 cc], .slice b2 n2 d2, .int .i64 cc, .slice b1 n1 d1, .string (bs bb), .slice b2 n2 d2, .string (bs bb), .bool true, .bool true, .int .i64 cc, .int .i64 cc, .bool true, .bool true, .bool true, .pointer (some ⟨w.heap.size, 3, none⟩), .agg (NC p.n (.slice a1 m1 c1)), .bool rr0, .pointer (some ⟨w.heap.size, 3, none⟩), .agg (NC p.n (.slice a1 m1 c1)), .bool rr0, .bool true, .bool true], []⟩ _
  refine wpAnyH_take (i := 19) (v := .bool true) rfl (by kernel_rfl) (by kernel_rfl) (by kernel_rfl) (fun _ _ _ h => h) (Or.inl ⟨by rfl, ?_⟩) hHeld ?_
  · intro W hW; clear hW; go_simp
  change wpAnyH _ _ _ _ _ _ _ ⟨#[.agg (PC p (.slice a1 m1 c1)), .pointer (some ⟨w.heap.size, 0, none⟩), .bool true, .bool true, .slice b1 n1 d1, .int .i64 cc, .slice b2 n2 d2, .int .i64 cc, .bool true, .bool true, .bool false, .bool false, .pointer (some ⟨w.heap.size, 3, none⟩), .pointer (some ⟨w.heap.size, 13, none⟩), .slice a1 m1 c1, .int .i64 m1, .bool false, .bool false, undef, .tuple #[.slice b1 n1 d1, .int .i64 cc], .agg (PC p (.slice a1 m1 c1)), .tuple #[.slice b1 n1 d1, .int .i64 cc], .slice b1 n1 d1, .int .i64 cc, .tuple #[.slice b2 n2 d2, .int .i64 cc], .agg (PC p (.slice a1 m1 c1)), .tuple #[.slice b2 n2 d2, .int .i64 cc], .slice b2 n2 d2, .int .i64 cc, .slice b1 n1 d1, .string (bs bb), .slice b2 n2 d2, .string (bs bb), .bool true, .bool true, .int .i64 cc, .int .i64 cc, .bool true, .bool true, .bool true, .pointer (some ⟨w.heap.size, 3, none⟩), .agg (NC p.n (.slice a1 m1 c1)), .bool rr0, .pointer (some ⟨w.heap.size, 3, none⟩), .agg (NC p.n (.slice a1 m1 c1)), .bool rr0, .bool true, .bool true], []⟩ _
  refine wpAnyH_done (by kernel_rfl) ?_ _
  go_wp2
  go_ret
  exact ⟨rfl, L0⟩
set_option maxRecDepth 100000 in
set_option maxHeartbeats 2000000 in
theorem controlEncodeslifted (os : Os) (started : os.Started) (H : Type) (enc : TypeId × Value → H) :
    ReturnsInHanded {} Tryd.checked os 3 .any (fun w args => (Rows.controlEncodesSpec.pre enc Tryd.prog Tryd.f3 [] false w args ∧ laidMetH Tryd.prog laidK w) ∧ sizedMet enc Tryd.prog Tryd.f3 (OpenSpec.ofChange Rows.controlEncodesSpec) false w args)
      (Rows.controlEncodesSpec.post enc Tryd.prog Tryd.f3 false true false false) := by
  refine returnsInHanded_of_change_and (C := Tryd.checked) (X := fun w _ => laidMetH Tryd.prog laidK w) (fun _ _ _ hh h => h.of_heap hh) own started (by kernel_rfl) Tryd.func3
    (ChangeSpec.witness_shaped (enc := enc) (C := Tryd.checked) (os := os) (X := fun w _ => laidMetH Tryd.prog laidK w) false (World.doorLaid Tryd.prog 14 os) #[.agg #[.int .i64 0, .int .i64 0, .int .i64 0, .int .i64 0, .int .i64 0, .int .u8 0, .int .u8 0, .int .u8 0, .int .u8 0, .int .u8 0, .int .u8 0, .int .i64 0, .int .i64 0, .slice none 0 0]] 8 rfl (World.shaped_of_RefB (by kernel_rfl) (by kernel_rfl)) (by kernel_rfl) (by kernel_rfl) (by kernel_rfl) (door_met os _)) ?_
  intro W base args ds gs before hval0 hW _ _ hL _
  have hval : ∀ (j : Nat) t v, Tryd.f3.params[j]? = some t → args[j]? = some v → Value.okWide Tryd.prog W .any base t v := hval0
  have hW' := hW
  obtain ⟨p, q, hA0, hV, rfl, _, _⟩ := hW
  have hA : DataW.TrodAll enc Tryd.prog W 0 (fun _ => true) true Tryd.f3.params.toList args.toList ds p := hA0
  rw [Tryd.params3] at hA hval
  have hT := kt_of_laid hL
  obtain ⟨v0, vs0, d0, ds0, p0, q0, hargs, rfl, rfl, h0, r0⟩ := trodAll_cons hA
  obtain ⟨rfl, rfl, rfl⟩ := trodAll_nil r0
  obtain rfl : args = #[v0] := by cases args; simp_all
  obtain ⟨rfl, rfl⟩ := trodVars_none hV
  have h0k := h0
  obtain ⟨l0, a0, m0, c0, rfl, hy0, hb0⟩ := open_pkt (hval 0 28 v0 rfl rfl) h0
  clear hA0 hval0
  simp only [List.append_nil] at hW'
  have hlt : ∀ x ∈ p0, x.block < W.heap.size := fun x hx => by simpa using hW'.lt x (by simpa using hx)
  refine (encodesWalk l0 a0 m0 c0 W hT hy0 hb0).mono fun e W' ⟨he, hbl⟩ => ?_
  subst he
  exact ⟨_, rfl, _, _, _, [], _, [], hW', (trodAll_cons_mk (shut_bool Tryd.underlying4 _) trodAll_mk0), (trodAll_cons_mk (Below.trod Tryd.laidOut (by kernel_rfl) (of_decide_eq_true (by kernel_rfl)) h0k hbl (fun x hx => hlt x (by simp [hx]))) trodAll_mk0), rfl, hbl.frame _, fun h => by cases h⟩

theorem controlEncodes_holds : Rows.ControlEncodesSaid :=
  OpenClaim.holds_of_wide 3 Tryd.f3 rfl rfl rfl rfl rfl rfl rfl ⟨rfl, rfl, rfl, rfl, rfl⟩ rfl rfl rfl rfl rfl (by kernel_rfl) Tryd.func3 (by kernel_rfl)
    (of_decide_eq_true (by kernel_rfl)) (by unfold Func.isWrapper; first | (rw [if_pos (by decide +kernel)]; kernel_rfl) | (rw [if_neg (by decide +kernel)]; exact ⟨rfl, rfl⟩))
    (fun os started H enc _ => controlEncodeslifted os started H enc)

theorem controlEncodes_card_holds : Rows.ControlEncodesCardSaid :=
  Claim7.holds_tied_plain_at .later [] [.data] true (true, "40610068b199d95fe10dea4bfc5d373c8e4676b673a11564a6585a93802516b6") false
    controlEncodes_holds (fun _ h => by cases h) (by kernel_rfl) (fun _ h => by cases h) controlEncodes_row_tie rfl ⟨rfl, rfl⟩ (by kernel_rfl) rfl
    (fun f fn hf hfn => by
      obtain rfl : f = 3 := Option.some.inj ((show Tryd.prog.funcNamed "gemel/gemellaw06.ControlEncodes" = some 3 by kernel_rfl).symm.trans hf) |>.symm
      obtain rfl : fn = Tryd.f3 := (Option.some.inj (Tryd.func3.symm.trans hfn)).symm
      exact ⟨by kernel_rfl, fun j t ht => by
        rw [Tryd.params3] at ht
        have hm : t ∈ [28] := by simpa using Array.mem_of_getElem? ht
        have hall : ([28].all fun u => !Tryd.prog.wantsStandIn u) = true := by kernel_rfl
        exact (show Tryd.prog.wantsStandIn t = false by simpa using List.all_eq_true.1 hall t hm)⟩)
    (by kernel_rfl)

#print axioms controlEncodes_card_holds
end Go.Proofs.YtijfcfpoimknmaaDoor
