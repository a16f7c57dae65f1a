/- Contract of Encode, as the document has it. -/
import Derived.Test.YtaehhhknpbbmkaaAa
import Derived.Test.YtaehhhknpbbmkaaA5
namespace Go.Proofs.Ytaehhhknpbbmkaa
open Go.RowKit

set_option maxRecDepth 100000 in
set_option maxHeartbeats 1000000 in
theorem encode11_no (l : Lac) (w : World) (hr : lrt l = false) :
    Calls Try.prog 11 #[.agg (LC l)] w fun e w' => e = .returned (.tuple #[.slice none 0 0, .int .i64 1]) ∧ Below w.heap.size w w' := by
  have A0 : Box (w.alloc (.cells (LC l) 27)) w.heap.size (lcl l) := Box.new w (lcl l) 27
  go_enter Try.func11, Try.ntmps11
  go_wp2_with (refine wpl_lacp (.tmp 1) rfl A0 ?_ ?_ ?_; rfl; rfl)
  refine (right13 l _).mono ?_
  rintro e w1 ⟨rfl, hb1⟩
  clear A0
  go_wp2
  go_ret2
  exact ⟨rfl, belowOn (below_alloc _ _) hb1⟩
set_option maxRecDepth 100000 in
set_option maxHeartbeats 4000000 in
theorem encode11_yes (l : Lac) (w : World) (hl : LacB l) (hr : lrt l = true) :
    Calls Try.prog 11 #[.agg (LC l)] w fun e w' => ∃ ao c, e = .returned (.tuple #[.slice ao 110 c, .int .i64 0]) ∧ Byt w' ao 110 c (enc l) ∧ Below w.heap.size w w' := by
  obtain ⟨k1, k2, k3⟩ := lrt_and hr
  obtain ⟨d0, d1⟩ := w16_and k3
  have K1 := hide k1
  have K2 := hide k2
  have HL := hide hl
  have HE := hide (enc_rng hl hr)
  clear k1 k2 k3 hl
  have A0 : Box (w.alloc (.cells (LC l) 27)) w.heap.size (lcl l) := Box.new w (lcl l) 27
  have W0 := below_alloc w (.cells (LC l) 27)
  go_enter Try.func11, Try.ntmps11
  go_wp2_with (refine wpl_lacp (.tmp 1) rfl A0 ?_ ?_ ?_; rfl; rfl)
  refine (right13 l _).mono ?_
  rintro e w1 ⟨rfl, hb1⟩
  replace A0 := A0.on hb1
  replace W0 := belowOn W0 hb1
  have R1 : Row (w1.alloc (.cells #[.int .u8 1, .int .u8 1, .int .u8 1, .int .u8 20] 5)) w1.heap.size (.slice (some ⟨w1.heap.size, 0, none⟩) 4 4) 4 [1, 1, 1, 20] := Row.lit _ _ 4 rfl rfl (by omega) (Nat.le_refl _)
  have LG : w.heap.size < w1.heap.size := A0.lt
  replace A0 := A0.alloc (.cells #[.int .u8 1, .int .u8 1, .int .u8 1, .int .u8 20] 5)
  replace W0 := belowOn W0 (below_alloc w1 (.cells #[.int .u8 1, .int .u8 1, .int .u8 1, .int .u8 20] 5))
  have hz : w1.heap.size ≤ (w1.alloc (.cells #[.int .u8 1, .int .u8 1, .int .u8 1, .int .u8 20] 5)).heap.size := by simp
  obtain ⟨G, hG⟩ : ∃ G, G = w1.heap.size := ⟨_, rfl⟩
  have HG := hide hG
  have R2 : Row (w1.alloc (.cells #[.int .u8 1, .int .u8 1, .int .u8 1, .int .u8 20] 5)) G (.slice (some ⟨w1.heap.size, 0, none⟩) 4 4) 4 [1, 1, 1, 20] := by rw [hG]; exact R1
  replace LG : w.heap.size < G := by rw [hG]; exact LG
  replace hz : G ≤ (w1.alloc (.cells #[.int .u8 1, .int .u8 1, .int .u8 1, .int .u8 20] 5)).heap.size := by rw [hG]; exact hz
  have HR := hide R2
  clear hb1 R1 R2 hG HG
  have a0 := A0.act
  go_wp2_with (refine wpl_info (.tmp 12) rfl a0 ?_ ?_ ?_; rfl; rfl)
  refine (bytes23 l.a _ K1.out HL.out.a).mono ?_
  rintro e w2 ⟨ao, c, rfl, hY, hb1⟩
  replace A0 := A0.on hb1
  replace W0 := belowOn W0 hb1
  replace hz := Nat.le_trans hz hb1.size
  have HR2 := hide (HR.out.on hb1)
  have HY := hide hY
  clear hb1 hY a0 HR
  go_wp2_with (at_builtin; refine wpl_app rfl (.tmp 11) (.tmp 14) rfl G _ 4 _ rfl HR2.out _ 18 _ _ rfl HY.out (by omega) hz ?_)
  intro v' w3 hR hB2
  replace A0 := A0.below LG hB2
  replace W0 := W0.trans (hB2.mono (Nat.le_of_lt LG))
  replace hz := Nat.le_trans hz hB2.size
  have HR := hide hR
  clear hR hB2 HR2 HY
  clear hr
  have BB := hide (byt2 w3 2 20 (by omega) (by omega))
  go_wp2_with (at_builtin; refine wpl_app rfl (.tmp 16) (.tmp 17) rfl G _ 22 _ rfl (HR.out.alloc _) _ 2 2 _ rfl BB.out (by omega) (by simp; omega) ?_)
  intro v' w4 hR hB2
  replace A0 := (A0.alloc _).below LG hB2
  replace W0 := (belowOn W0 (below_alloc _ _)).trans (hB2.mono (Nat.le_of_lt LG))
  replace hz : G ≤ w4.heap.size := Nat.le_trans (Nat.le_trans hz (below_alloc w3 _).size) hB2.size
  have HR2 := hide hR
  clear hR hB2 HR BB
  have HR := HR2
  clear HR2
  have a0 := A0.par
  go_wp2_with (refine wpl_info (.tmp 20) rfl a0 ?_ ?_ ?_; rfl; rfl)
  refine (bytes23 l.p _ K2.out HL.out.p).mono ?_
  rintro e w5 ⟨ao, c, rfl, hY, hb1⟩
  replace A0 := A0.on hb1
  replace W0 := belowOn W0 hb1
  replace hz := Nat.le_trans hz hb1.size
  have HR2 := hide (HR.out.on hb1)
  have HY := hide hY
  clear hb1 hY a0 HR
  go_wp2_with (at_builtin; refine wpl_app rfl (.tmp 19) (.tmp 22) rfl G _ 24 _ rfl HR2.out _ 18 _ _ rfl HY.out (by omega) hz ?_)
  intro v' w6 hR hB2
  replace A0 := A0.below LG hB2
  replace W0 := W0.trans (hB2.mono (Nat.le_of_lt LG))
  replace hz := Nat.le_trans hz hB2.size
  have HR := hide hR
  clear hR hB2 HR2 HY
  have BB := hide (byt2 w6 3 16 (by omega) (by omega))
  go_wp2_with (at_builtin; refine wpl_app rfl (.tmp 24) (.tmp 25) rfl G _ 42 _ rfl (HR.out.alloc _) _ 2 2 _ rfl BB.out (by omega) (by simp; omega) ?_)
  intro v' w7 hR hB2
  replace A0 := (A0.alloc _).below LG hB2
  replace W0 := (belowOn W0 (below_alloc _ _)).trans (hB2.mono (Nat.le_of_lt LG))
  replace hz : G ≤ w7.heap.size := Nat.le_trans (Nat.le_trans hz (below_alloc w6 _).size) hB2.size
  have HR2 := hide hR
  clear hR hB2 HR BB
  have HR := HR2
  clear HR2
  have c0 := A0.cell 22 (.int .i64 l.dl) rfl
  go_wp2_with fail
  refine (two24' l.dl _ d0 d1).mono ?_
  rintro e w8 ⟨ao, rfl, hY, hb1⟩
  replace A0 := A0.on hb1
  replace W0 := belowOn W0 hb1
  replace hz := Nat.le_trans hz hb1.size
  have HR2 := hide (HR.out.on hb1)
  have HY := hide hY
  clear hb1 hY c0 HR
  go_wp2_with (at_builtin; refine wpl_app rfl (.tmp 27) (.tmp 30) rfl G _ 44 _ rfl HR2.out _ 2 _ _ rfl HY.out (by omega) hz ?_)
  intro v' w9 hR hB2
  replace W0 := W0.trans (hB2.mono (Nat.le_of_lt LG))
  replace hz := Nat.le_trans hz hB2.size
  have HR := hide hR
  clear hR hB2 HR2 HY A0
  go_wp2_with (at_builtin; refine wpl_app0 rfl (.tmp 32) _ rfl G _ 46 _ rfl HR.out 64 64 rfl rfl (by omega) (by omega) (by omega) hz ?_)
  intro v' w10 hR hB2
  replace W0 := W0.trans (hB2.mono (Nat.le_of_lt LG))
  have HRR := hide hR
  clear hR hB2 HR hz
  go_wp2
  go_ret2
  obtain ⟨ao, c, hv, hy⟩ := Row.byt (ns := enc l) (by
    have e : enc l = [1, 1, 1, 20] ++ ibs l.a ++ [2, 20] ++ ibs l.p ++ [3, 16] ++ [l.dl / 256, l.dl % 256] ++ zs 64 := rfl
    rw [e]
    exact HRR.out) HE.out
  exact ⟨ao, c, by rw [hv]; rfl, hy, W0⟩
theorem encode11 (l : Lac) (w : World) (hl : LacB l) :
    Calls Try.prog 11 #[.agg (LC l)] w fun e w' => ∃ ao n c, e = .returned (.tuple #[.slice ao n c, .int .i64 (ec l)]) ∧ Byt w' ao n c (eb l) ∧ Below w.heap.size w w' := by
  cases hr : lrt l
  · rw [eb_no hr, ec_no hr]
    exact (encode11_no l w hr).mono fun e w' ⟨he, hB⟩ => ⟨none, 0, 0, he, Byt.nothing w', hB⟩
  · rw [eb_yes hr, ec_yes hr]
    exact (encode11_yes l w hl hr).mono fun e w' ⟨ao, c, he, hb, hB⟩ => ⟨ao, 110, c, he, hb, hB⟩
end Go.Proofs.Ytaehhhknpbbmkaa
