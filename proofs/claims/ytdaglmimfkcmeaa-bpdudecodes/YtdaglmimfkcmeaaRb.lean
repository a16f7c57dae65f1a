/- Contract of Encode, as the document has it. -/
import Derived.Test.YtdaglmimfkcmeaaRn
import Derived.Test.YtdaglmimfkcmeaaRr
namespace Go.Proofs.Ytdaglmimfkcmeaa
open Go.RowKit

set_option maxRecDepth 100000 in
set_option maxHeartbeats 1000000 in
theorem encode11_no (p : Bpd) (w : World) (hr : brt p = false) :
    Calls Try.prog 11 #[.agg (BC p)] w fun e w' => e = .returned (.tuple #[.slice none 0 0, .int .i64 1]) ∧ Below w.heap.size w w' := by
  have A0 : Box (w.alloc (.cells (BC p) 27)) w.heap.size (bcl p) := Box.new w (bcl p) 27
  have tk1 : True := trivial
  go_enter Try.func11, Try.ntmps11
  go_wp2_with (have _t := tk1; refine wpl_bpdu (.tmp 1) rfl A0 ?_ ?_ ?_; rfl; rfl; clear tk1)
  refine (right13 p _).mono ?_
  rintro e w1 ⟨rfl, hb1⟩
  clear A0
  go_wp2
  go_ret2
  exact ⟨rfl, belowOn (below_alloc _ _) hb1⟩
set_option maxRecDepth 100000 in
set_option maxHeartbeats 4000000 in
theorem encode11_128 (fl : Int) (r : Idn) (c : Int) (b : Idn) (po ag mx he fw : Int) (w : World) (hl : BpdB ⟨128, fl, r, c, b, po, ag, mx, he, fw⟩) (hr : brt ⟨128, fl, r, c, b, po, ag, mx, he, fw⟩ = true) :
    Calls Try.prog 11 #[.agg (BC ⟨128, fl, r, c, b, po, ag, mx, he, fw⟩)] w fun e w' => ∃ ao c', e = .returned (.tuple #[.slice ao 4 c', .int .i64 0]) ∧ Byt w' ao 4 c' (enc ⟨128, fl, r, c, b, po, ag, mx, he, fw⟩) ∧ Below w.heap.size w w' := by
  have HL := hide hl
  have HE := hide (enc_rng hl hr)
  have A0 : Box (w.alloc (.cells (BC ⟨128, fl, r, c, b, po, ag, mx, he, fw⟩) 27)) w.heap.size (bcl ⟨128, fl, r, c, b, po, ag, mx, he, fw⟩) := Box.new w (bcl ⟨128, fl, r, c, b, po, ag, mx, he, fw⟩) 27
  have W0 := below_alloc w (.cells (BC ⟨128, fl, r, c, b, po, ag, mx, he, fw⟩) 27)
  clear hl
  have tk1 : True := trivial
  go_enter Try.func11, Try.ntmps11
  go_wp2_with (have _t := tk1; refine wpl_bpdu (.tmp 1) rfl A0 ?_ ?_ ?_; rfl; rfl; clear tk1)
  refine (right13 ⟨128, fl, r, c, b, po, ag, mx, he, fw⟩ _).mono ?_
  rw [hr]
  rintro e w1 ⟨rfl, hb1⟩
  replace A0 := A0.on hb1
  replace W0 := belowOn W0 hb1
  have R1 : Row (w1.alloc (.cells #[.int .u8 0, .int .u8 0, .int .u8 0, .int .u8 128] 5)) w1.heap.size (.slice (some ⟨w1.heap.size, 0, none⟩) 4 4) 4 [0, 0, 0, 128] := Row.lit _ _ 4 rfl rfl (by omega) (Nat.le_refl _)
  have LG : w.heap.size < w1.heap.size := A0.lt
  have c0 := A0.cell 0 (.int .i64 128) rfl
  have cz := (A0.alloc (.cells #[.int .u8 0, .int .u8 0, .int .u8 0, .int .u8 128] 5)).cell 0 (.int .i64 128) rfl
  clear hb1 hr A0
  replace W0 := belowOn W0 (below_alloc w1 (.cells #[.int .u8 0, .int .u8 0, .int .u8 0, .int .u8 128] 5))
  have HR := hide R1
  clear R1
  go_wp2
  go_ret2
  obtain ⟨ao, c', hv, hy⟩ := Row.byt (ns := enc ⟨128, fl, r, c, b, po, ag, mx, he, fw⟩) (by
    have e : enc ⟨128, fl, r, c, b, po, ag, mx, he, fw⟩ = [0, 0, 0, 128] := rfl
    rw [e]
    exact HR.out) HE.out
  exact ⟨ao, c', by rw [← hv]; rfl, hy, W0⟩
set_option maxRecDepth 100000 in
set_option maxHeartbeats 4000000 in
theorem encode11_0 (fl : Int) (r : Idn) (c : Int) (b : Idn) (po ag mx he fw : Int) (w : World) (hl : BpdB ⟨0, fl, r, c, b, po, ag, mx, he, fw⟩) (hr : brt ⟨0, fl, r, c, b, po, ag, mx, he, fw⟩ = true) :
    Calls Try.prog 11 #[.agg (BC ⟨0, fl, r, c, b, po, ag, mx, he, fw⟩)] w fun e w' => ∃ ao c', e = .returned (.tuple #[.slice ao 35 c', .int .i64 0]) ∧ Byt w' ao 35 c' (enc ⟨0, fl, r, c, b, po, ag, mx, he, fw⟩) ∧ Below w.heap.size w w' := by
  have HL := hide hl
  have HE := hide (enc_rng hl hr)
  have hf : fts ⟨0, fl, r, c, b, po, ag, mx, he, fw⟩ = true := brt_fts hr (by show ¬ (0 : Int) = 128; omega)
  obtain ⟨f1, f2, f3, f4, f5, f6, f7, f8, f9⟩ := fts_and hf
  simp only at f1 f2 f3 f4 f5 f6 f7 f8 f9
  have q1 : IntKind.u8.wrap fl = fl := by have := fit_and f1; rw [u8_mod]; have := this.2; omega
  have k1 : 0 ≤ fl ∧ fl ≤ 255 := by have := fit_and f1; omega
  have F1 := hide f1; have F2 := hide f2; have F3 := hide f3; have F4 := hide f4; have F5 := hide f5; have F6 := hide f6; have F7 := hide f7; have F8 := hide f8; have F9 := hide f9
  clear f1 f2 f3 f4 f5 f6 f7 f8 f9 hf
  have A0 : Box (w.alloc (.cells (BC ⟨0, fl, r, c, b, po, ag, mx, he, fw⟩) 27)) w.heap.size (bcl ⟨0, fl, r, c, b, po, ag, mx, he, fw⟩) := Box.new w (bcl ⟨0, fl, r, c, b, po, ag, mx, he, fw⟩) 27
  have W0 := below_alloc w (.cells (BC ⟨0, fl, r, c, b, po, ag, mx, he, fw⟩) 27)
  clear hl
  have tk1 : True := trivial
  go_enter Try.func11, Try.ntmps11
  go_wp2_with (have _t := tk1; refine wpl_bpdu (.tmp 1) rfl A0 ?_ ?_ ?_; rfl; rfl; clear tk1)
  refine (right13 ⟨0, fl, r, c, b, po, ag, mx, he, fw⟩ _).mono ?_
  rw [hr]
  rintro e w1 ⟨rfl, hb1⟩
  replace A0 := A0.on hb1
  replace W0 := belowOn W0 hb1
  have R1 : Row (w1.alloc (.cells #[.int .u8 0, .int .u8 0, .int .u8 0, .int .u8 0] 5)) w1.heap.size (.slice (some ⟨w1.heap.size, 0, none⟩) 4 4) 4 [0, 0, 0, 0] := Row.lit _ _ 4 rfl rfl (by omega) (Nat.le_refl _)
  have LG : w.heap.size < w1.heap.size := A0.lt
  have c0 := A0.cell 0 (.int .i64 0) rfl
  have cz := (A0.alloc (.cells #[.int .u8 0, .int .u8 0, .int .u8 0, .int .u8 0] 5)).cell 0 (.int .i64 0) rfl
  replace A0 := A0.alloc (.cells #[.int .u8 0, .int .u8 0, .int .u8 0, .int .u8 0] 5)
  replace W0 := belowOn W0 (below_alloc w1 (.cells #[.int .u8 0, .int .u8 0, .int .u8 0, .int .u8 0] 5))
  have hz : w1.heap.size ≤ (w1.alloc (.cells #[.int .u8 0, .int .u8 0, .int .u8 0, .int .u8 0] 5)).heap.size := by simp
  obtain ⟨G, hG⟩ : ∃ G, G = w1.heap.size := ⟨_, rfl⟩
  have R2 : Row (w1.alloc (.cells #[.int .u8 0, .int .u8 0, .int .u8 0, .int .u8 0] 5)) G (.slice (some ⟨w1.heap.size, 0, none⟩) 4 4) 4 [0, 0, 0, 0] := by rw [hG]; exact R1
  replace LG : w.heap.size < G := by rw [hG]; exact LG
  replace hz : G ≤ (w1.alloc (.cells #[.int .u8 0, .int .u8 0, .int .u8 0, .int .u8 0] 5)).heap.size := by rw [hG]; exact hz
  have HR := hide R2
  have hz0 : G ≤ w1.heap.size := by rw [hG]; exact Nat.le_refl _
  clear hb1 R1 R2 hG hr
  have c1 := A0.cell 1 (.int .i64 fl) rfl
  have BB' := byt1 (w1.alloc (.cells #[.int .u8 0, .int .u8 0, .int .u8 0, .int .u8 0] 5)) fl k1
  rw [World.size_alloc] at BB'
  have BB := hide BB'
  clear BB'
  go_wp2_with (at_builtin; refine wpl_app rfl (.tmp 23) (.tmp 27) rfl G _ 4 _ rfl (HR.out.alloc _) _ 1 1 _ rfl BB.out (by omega) (by simp; omega) ?_)
  intro v' w2 hR hB2
  replace A0 := (A0.alloc _).below LG hB2
  replace W0 := (belowOn W0 (below_alloc _ _)).trans (hB2.mono (Nat.le_of_lt LG))
  replace hz : G ≤ w2.heap.size := Nat.le_trans (Nat.le_trans hz (below_alloc _ _).size) hB2.size
  have HR2 := hide hR
  clear hR hB2 HR BB c0 cz c1 q1 k1 hz0
  have HR := HR2
  clear HR2
  have a0 := A0.rtc
  have tk1 : True := trivial
  go_wp2_with (have _t := tk1; refine wpl_id (.tmp 30) rfl a0 ?_ ?_ ?_; rfl; rfl; clear tk1)
  refine (id20 r _ F2.out HL.out.r).mono ?_
  rintro e w3 ⟨ao, cc, rfl, hY, hb1⟩
  replace A0 := A0.on hb1
  replace W0 := belowOn W0 hb1
  replace hz := Nat.le_trans hz hb1.size
  have HR2 := hide (HR.out.on hb1)
  have HY := hide hY
  clear hb1 hY a0 HR
  go_wp2_with (at_builtin; refine wpl_app rfl (.tmp 29) (.tmp 32) rfl G _ 5 _ rfl HR2.out _ 8 _ _ rfl HY.out (by omega) hz ?_)
  intro v' w4 hR hB2
  replace A0 := A0.below LG hB2
  replace W0 := W0.trans (hB2.mono (Nat.le_of_lt LG))
  replace hz := Nat.le_trans hz hB2.size
  have HR := hide hR
  clear hR hB2 HR2 HY
  have a0 := A0.cell 9 (.int .i64 c) rfl
  go_wp2_with fail
  refine (number21_4' c _ F3.out).mono ?_
  rintro e w5 ⟨ao, rfl, hY, hb1⟩
  replace A0 := A0.on hb1
  replace W0 := belowOn W0 hb1
  replace hz := Nat.le_trans hz hb1.size
  have HR2 := hide (HR.out.on hb1)
  have HY := hide hY
  clear hb1 hY a0 HR
  go_wp2_with (at_builtin; refine wpl_app rfl (.tmp 34) (.tmp 37) rfl G _ 13 _ rfl HR2.out _ 4 _ _ rfl HY.out (by omega) hz ?_)
  intro v' w6 hR hB2
  replace A0 := A0.below LG hB2
  replace W0 := W0.trans (hB2.mono (Nat.le_of_lt LG))
  replace hz := Nat.le_trans hz hB2.size
  have HR := hide hR
  clear hR hB2 HR2 HY
  have a0 := A0.brid
  have tk1 : True := trivial
  go_wp2_with (have _t := tk1; refine wpl_id (.tmp 40) rfl a0 ?_ ?_ ?_; rfl; rfl; clear tk1)
  refine (id20 b _ F4.out HL.out.b).mono ?_
  rintro e w7 ⟨ao, cc, rfl, hY, hb1⟩
  replace A0 := A0.on hb1
  replace W0 := belowOn W0 hb1
  replace hz := Nat.le_trans hz hb1.size
  have HR2 := hide (HR.out.on hb1)
  have HY := hide hY
  clear hb1 hY a0 HR
  go_wp2_with (at_builtin; refine wpl_app rfl (.tmp 39) (.tmp 42) rfl G _ 17 _ rfl HR2.out _ 8 _ _ rfl HY.out (by omega) hz ?_)
  intro v' w8 hR hB2
  replace A0 := A0.below LG hB2
  replace W0 := W0.trans (hB2.mono (Nat.le_of_lt LG))
  replace hz := Nat.le_trans hz hB2.size
  have HR := hide hR
  clear hR hB2 HR2 HY
  have a0 := A0.cell 17 (.int .i64 po) rfl
  go_wp2_with fail
  refine (number21_2' po _ F5.out).mono ?_
  rintro e w9 ⟨ao, rfl, hY, hb1⟩
  replace A0 := A0.on hb1
  replace W0 := belowOn W0 hb1
  replace hz := Nat.le_trans hz hb1.size
  have HR2 := hide (HR.out.on hb1)
  have HY := hide hY
  clear hb1 hY a0 HR
  go_wp2_with (at_builtin; refine wpl_app rfl (.tmp 44) (.tmp 47) rfl G _ 25 _ rfl HR2.out _ 2 _ _ rfl HY.out (by omega) hz ?_)
  intro v' w10 hR hB2
  replace A0 := A0.below LG hB2
  replace W0 := W0.trans (hB2.mono (Nat.le_of_lt LG))
  replace hz := Nat.le_trans hz hB2.size
  have HR := hide hR
  clear hR hB2 HR2 HY
  have a0 := A0.cell 18 (.int .i64 ag) rfl
  go_wp2_with fail
  refine (number21_2' ag _ F6.out).mono ?_
  rintro e w11 ⟨ao, rfl, hY, hb1⟩
  replace A0 := A0.on hb1
  replace W0 := belowOn W0 hb1
  replace hz := Nat.le_trans hz hb1.size
  have HR2 := hide (HR.out.on hb1)
  have HY := hide hY
  clear hb1 hY a0 HR
  go_wp2_with (at_builtin; refine wpl_app rfl (.tmp 49) (.tmp 52) rfl G _ 27 _ rfl HR2.out _ 2 _ _ rfl HY.out (by omega) hz ?_)
  intro v' w12 hR hB2
  replace A0 := A0.below LG hB2
  replace W0 := W0.trans (hB2.mono (Nat.le_of_lt LG))
  replace hz := Nat.le_trans hz hB2.size
  have HR := hide hR
  clear hR hB2 HR2 HY
  have a0 := A0.cell 19 (.int .i64 mx) rfl
  go_wp2_with fail
  refine (number21_2' mx _ F7.out).mono ?_
  rintro e w13 ⟨ao, rfl, hY, hb1⟩
  replace A0 := A0.on hb1
  replace W0 := belowOn W0 hb1
  replace hz := Nat.le_trans hz hb1.size
  have HR2 := hide (HR.out.on hb1)
  have HY := hide hY
  clear hb1 hY a0 HR
  go_wp2_with (at_builtin; refine wpl_app rfl (.tmp 54) (.tmp 57) rfl G _ 29 _ rfl HR2.out _ 2 _ _ rfl HY.out (by omega) hz ?_)
  intro v' w14 hR hB2
  replace A0 := A0.below LG hB2
  replace W0 := W0.trans (hB2.mono (Nat.le_of_lt LG))
  replace hz := Nat.le_trans hz hB2.size
  have HR := hide hR
  clear hR hB2 HR2 HY
  have a0 := A0.cell 20 (.int .i64 he) rfl
  go_wp2_with fail
  refine (number21_2' he _ F8.out).mono ?_
  rintro e w15 ⟨ao, rfl, hY, hb1⟩
  replace A0 := A0.on hb1
  replace W0 := belowOn W0 hb1
  replace hz := Nat.le_trans hz hb1.size
  have HR2 := hide (HR.out.on hb1)
  have HY := hide hY
  clear hb1 hY a0 HR
  go_wp2_with (at_builtin; refine wpl_app rfl (.tmp 59) (.tmp 62) rfl G _ 31 _ rfl HR2.out _ 2 _ _ rfl HY.out (by omega) hz ?_)
  intro v' w16 hR hB2
  replace A0 := A0.below LG hB2
  replace W0 := W0.trans (hB2.mono (Nat.le_of_lt LG))
  replace hz := Nat.le_trans hz hB2.size
  have HR := hide hR
  clear hR hB2 HR2 HY
  have a0 := A0.cell 21 (.int .i64 fw) rfl
  go_wp2_with fail
  refine (number21_2' fw _ F9.out).mono ?_
  rintro e w17 ⟨ao, rfl, hY, hb1⟩
  replace A0 := A0.on hb1
  replace W0 := belowOn W0 hb1
  replace hz := Nat.le_trans hz hb1.size
  have HR2 := hide (HR.out.on hb1)
  have HY := hide hY
  clear hb1 hY a0 HR
  go_wp2_with (at_builtin; refine wpl_app rfl (.tmp 64) (.tmp 67) rfl G _ 33 _ rfl HR2.out _ 2 _ _ rfl HY.out (by omega) hz ?_)
  intro v' w18 hR hB2
  replace A0 := A0.below LG hB2
  replace W0 := W0.trans (hB2.mono (Nat.le_of_lt LG))
  replace hz := Nat.le_trans hz hB2.size
  have HR := hide hR
  clear hR hB2 HR2 HY
  have a0 := A0.cell 0 (.int .i64 0) rfl
  have HRR := HR
  clear HR
  go_wp2
  go_ret2
  obtain ⟨ao, c', hv, hy⟩ := Row.byt (ns := enc ⟨0, fl, r, c, b, po, ag, mx, he, fw⟩) (by
    have e : enc ⟨0, fl, r, c, b, po, ag, mx, he, fw⟩ = [0, 0, 0, 0] ++ [fl] ++ ib r ++ be 4 c ++ ib b ++ be 2 po ++ be 2 ag ++ be 2 mx ++ be 2 he ++ be 2 fw := by
      have e1 := be1 F1.out
      simp only [enc, bdy, List.append_assoc]
      rw [e1]
      rfl
    rw [e]
    exact HRR.out) HE.out
  exact ⟨ao, c', by rw [← hv]; rfl, hy, W0⟩
set_option maxRecDepth 100000 in
set_option maxHeartbeats 4000000 in
theorem encode11_2 (fl : Int) (r : Idn) (c : Int) (b : Idn) (po ag mx he fw : Int) (w : World) (hl : BpdB ⟨2, fl, r, c, b, po, ag, mx, he, fw⟩) (hr : brt ⟨2, fl, r, c, b, po, ag, mx, he, fw⟩ = true) :
    Calls Try.prog 11 #[.agg (BC ⟨2, fl, r, c, b, po, ag, mx, he, fw⟩)] w fun e w' => ∃ ao c', e = .returned (.tuple #[.slice ao 36 c', .int .i64 0]) ∧ Byt w' ao 36 c' (enc ⟨2, fl, r, c, b, po, ag, mx, he, fw⟩) ∧ Below w.heap.size w w' := by
  have HL := hide hl
  have HE := hide (enc_rng hl hr)
  have hf : fts ⟨2, fl, r, c, b, po, ag, mx, he, fw⟩ = true := brt_fts hr (by show ¬ (2 : Int) = 128; omega)
  obtain ⟨f1, f2, f3, f4, f5, f6, f7, f8, f9⟩ := fts_and hf
  simp only at f1 f2 f3 f4 f5 f6 f7 f8 f9
  have q1 : IntKind.u8.wrap fl = fl := by have := fit_and f1; rw [u8_mod]; have := this.2; omega
  have k1 : 0 ≤ fl ∧ fl ≤ 255 := by have := fit_and f1; omega
  have F1 := hide f1; have F2 := hide f2; have F3 := hide f3; have F4 := hide f4; have F5 := hide f5; have F6 := hide f6; have F7 := hide f7; have F8 := hide f8; have F9 := hide f9
  clear f1 f2 f3 f4 f5 f6 f7 f8 f9 hf
  have A0 : Box (w.alloc (.cells (BC ⟨2, fl, r, c, b, po, ag, mx, he, fw⟩) 27)) w.heap.size (bcl ⟨2, fl, r, c, b, po, ag, mx, he, fw⟩) := Box.new w (bcl ⟨2, fl, r, c, b, po, ag, mx, he, fw⟩) 27
  have W0 := below_alloc w (.cells (BC ⟨2, fl, r, c, b, po, ag, mx, he, fw⟩) 27)
  clear hl
  have tk1 : True := trivial
  go_enter Try.func11, Try.ntmps11
  go_wp2_with (have _t := tk1; refine wpl_bpdu (.tmp 1) rfl A0 ?_ ?_ ?_; rfl; rfl; clear tk1)
  refine (right13 ⟨2, fl, r, c, b, po, ag, mx, he, fw⟩ _).mono ?_
  rw [hr]
  rintro e w1 ⟨rfl, hb1⟩
  replace A0 := A0.on hb1
  replace W0 := belowOn W0 hb1
  have R1 : Row (w1.alloc (.cells #[.int .u8 0, .int .u8 0, .int .u8 2, .int .u8 2] 5)) w1.heap.size (.slice (some ⟨w1.heap.size, 0, none⟩) 4 4) 4 [0, 0, 2, 2] := Row.lit _ _ 4 rfl rfl (by omega) (Nat.le_refl _)
  have LG : w.heap.size < w1.heap.size := A0.lt
  have c0 := A0.cell 0 (.int .i64 2) rfl
  have cz := (A0.alloc (.cells #[.int .u8 0, .int .u8 0, .int .u8 2, .int .u8 2] 5)).cell 0 (.int .i64 2) rfl
  replace A0 := A0.alloc (.cells #[.int .u8 0, .int .u8 0, .int .u8 2, .int .u8 2] 5)
  replace W0 := belowOn W0 (below_alloc w1 (.cells #[.int .u8 0, .int .u8 0, .int .u8 2, .int .u8 2] 5))
  have hz : w1.heap.size ≤ (w1.alloc (.cells #[.int .u8 0, .int .u8 0, .int .u8 2, .int .u8 2] 5)).heap.size := by simp
  obtain ⟨G, hG⟩ : ∃ G, G = w1.heap.size := ⟨_, rfl⟩
  have R2 : Row (w1.alloc (.cells #[.int .u8 0, .int .u8 0, .int .u8 2, .int .u8 2] 5)) G (.slice (some ⟨w1.heap.size, 0, none⟩) 4 4) 4 [0, 0, 2, 2] := by rw [hG]; exact R1
  replace LG : w.heap.size < G := by rw [hG]; exact LG
  replace hz : G ≤ (w1.alloc (.cells #[.int .u8 0, .int .u8 0, .int .u8 2, .int .u8 2] 5)).heap.size := by rw [hG]; exact hz
  have HR := hide R2
  have hz0 : G ≤ w1.heap.size := by rw [hG]; exact Nat.le_refl _
  clear hb1 R1 R2 hG hr
  have c1 := A0.cell 1 (.int .i64 fl) rfl
  have BB' := byt1 (w1.alloc (.cells #[.int .u8 0, .int .u8 0, .int .u8 2, .int .u8 2] 5)) fl k1
  rw [World.size_alloc] at BB'
  have BB := hide BB'
  clear BB'
  go_wp2_with (at_builtin; refine wpl_app rfl (.tmp 23) (.tmp 27) rfl G _ 4 _ rfl (HR.out.alloc _) _ 1 1 _ rfl BB.out (by omega) (by simp; omega) ?_)
  intro v' w2 hR hB2
  replace A0 := (A0.alloc _).below LG hB2
  replace W0 := (belowOn W0 (below_alloc _ _)).trans (hB2.mono (Nat.le_of_lt LG))
  replace hz : G ≤ w2.heap.size := Nat.le_trans (Nat.le_trans hz (below_alloc _ _).size) hB2.size
  have HR2 := hide hR
  clear hR hB2 HR BB c0 cz c1 q1 k1 hz0
  have HR := HR2
  clear HR2
  have a0 := A0.rtc
  have tk1 : True := trivial
  go_wp2_with (have _t := tk1; refine wpl_id (.tmp 30) rfl a0 ?_ ?_ ?_; rfl; rfl; clear tk1)
  refine (id20 r _ F2.out HL.out.r).mono ?_
  rintro e w3 ⟨ao, cc, rfl, hY, hb1⟩
  replace A0 := A0.on hb1
  replace W0 := belowOn W0 hb1
  replace hz := Nat.le_trans hz hb1.size
  have HR2 := hide (HR.out.on hb1)
  have HY := hide hY
  clear hb1 hY a0 HR
  go_wp2_with (at_builtin; refine wpl_app rfl (.tmp 29) (.tmp 32) rfl G _ 5 _ rfl HR2.out _ 8 _ _ rfl HY.out (by omega) hz ?_)
  intro v' w4 hR hB2
  replace A0 := A0.below LG hB2
  replace W0 := W0.trans (hB2.mono (Nat.le_of_lt LG))
  replace hz := Nat.le_trans hz hB2.size
  have HR := hide hR
  clear hR hB2 HR2 HY
  have a0 := A0.cell 9 (.int .i64 c) rfl
  go_wp2_with fail
  refine (number21_4' c _ F3.out).mono ?_
  rintro e w5 ⟨ao, rfl, hY, hb1⟩
  replace A0 := A0.on hb1
  replace W0 := belowOn W0 hb1
  replace hz := Nat.le_trans hz hb1.size
  have HR2 := hide (HR.out.on hb1)
  have HY := hide hY
  clear hb1 hY a0 HR
  go_wp2_with (at_builtin; refine wpl_app rfl (.tmp 34) (.tmp 37) rfl G _ 13 _ rfl HR2.out _ 4 _ _ rfl HY.out (by omega) hz ?_)
  intro v' w6 hR hB2
  replace A0 := A0.below LG hB2
  replace W0 := W0.trans (hB2.mono (Nat.le_of_lt LG))
  replace hz := Nat.le_trans hz hB2.size
  have HR := hide hR
  clear hR hB2 HR2 HY
  have a0 := A0.brid
  have tk1 : True := trivial
  go_wp2_with (have _t := tk1; refine wpl_id (.tmp 40) rfl a0 ?_ ?_ ?_; rfl; rfl; clear tk1)
  refine (id20 b _ F4.out HL.out.b).mono ?_
  rintro e w7 ⟨ao, cc, rfl, hY, hb1⟩
  replace A0 := A0.on hb1
  replace W0 := belowOn W0 hb1
  replace hz := Nat.le_trans hz hb1.size
  have HR2 := hide (HR.out.on hb1)
  have HY := hide hY
  clear hb1 hY a0 HR
  go_wp2_with (at_builtin; refine wpl_app rfl (.tmp 39) (.tmp 42) rfl G _ 17 _ rfl HR2.out _ 8 _ _ rfl HY.out (by omega) hz ?_)
  intro v' w8 hR hB2
  replace A0 := A0.below LG hB2
  replace W0 := W0.trans (hB2.mono (Nat.le_of_lt LG))
  replace hz := Nat.le_trans hz hB2.size
  have HR := hide hR
  clear hR hB2 HR2 HY
  have a0 := A0.cell 17 (.int .i64 po) rfl
  go_wp2_with fail
  refine (number21_2' po _ F5.out).mono ?_
  rintro e w9 ⟨ao, rfl, hY, hb1⟩
  replace A0 := A0.on hb1
  replace W0 := belowOn W0 hb1
  replace hz := Nat.le_trans hz hb1.size
  have HR2 := hide (HR.out.on hb1)
  have HY := hide hY
  clear hb1 hY a0 HR
  go_wp2_with (at_builtin; refine wpl_app rfl (.tmp 44) (.tmp 47) rfl G _ 25 _ rfl HR2.out _ 2 _ _ rfl HY.out (by omega) hz ?_)
  intro v' w10 hR hB2
  replace A0 := A0.below LG hB2
  replace W0 := W0.trans (hB2.mono (Nat.le_of_lt LG))
  replace hz := Nat.le_trans hz hB2.size
  have HR := hide hR
  clear hR hB2 HR2 HY
  have a0 := A0.cell 18 (.int .i64 ag) rfl
  go_wp2_with fail
  refine (number21_2' ag _ F6.out).mono ?_
  rintro e w11 ⟨ao, rfl, hY, hb1⟩
  replace A0 := A0.on hb1
  replace W0 := belowOn W0 hb1
  replace hz := Nat.le_trans hz hb1.size
  have HR2 := hide (HR.out.on hb1)
  have HY := hide hY
  clear hb1 hY a0 HR
  go_wp2_with (at_builtin; refine wpl_app rfl (.tmp 49) (.tmp 52) rfl G _ 27 _ rfl HR2.out _ 2 _ _ rfl HY.out (by omega) hz ?_)
  intro v' w12 hR hB2
  replace A0 := A0.below LG hB2
  replace W0 := W0.trans (hB2.mono (Nat.le_of_lt LG))
  replace hz := Nat.le_trans hz hB2.size
  have HR := hide hR
  clear hR hB2 HR2 HY
  have a0 := A0.cell 19 (.int .i64 mx) rfl
  go_wp2_with fail
  refine (number21_2' mx _ F7.out).mono ?_
  rintro e w13 ⟨ao, rfl, hY, hb1⟩
  replace A0 := A0.on hb1
  replace W0 := belowOn W0 hb1
  replace hz := Nat.le_trans hz hb1.size
  have HR2 := hide (HR.out.on hb1)
  have HY := hide hY
  clear hb1 hY a0 HR
  go_wp2_with (at_builtin; refine wpl_app rfl (.tmp 54) (.tmp 57) rfl G _ 29 _ rfl HR2.out _ 2 _ _ rfl HY.out (by omega) hz ?_)
  intro v' w14 hR hB2
  replace A0 := A0.below LG hB2
  replace W0 := W0.trans (hB2.mono (Nat.le_of_lt LG))
  replace hz := Nat.le_trans hz hB2.size
  have HR := hide hR
  clear hR hB2 HR2 HY
  have a0 := A0.cell 20 (.int .i64 he) rfl
  go_wp2_with fail
  refine (number21_2' he _ F8.out).mono ?_
  rintro e w15 ⟨ao, rfl, hY, hb1⟩
  replace A0 := A0.on hb1
  replace W0 := belowOn W0 hb1
  replace hz := Nat.le_trans hz hb1.size
  have HR2 := hide (HR.out.on hb1)
  have HY := hide hY
  clear hb1 hY a0 HR
  go_wp2_with (at_builtin; refine wpl_app rfl (.tmp 59) (.tmp 62) rfl G _ 31 _ rfl HR2.out _ 2 _ _ rfl HY.out (by omega) hz ?_)
  intro v' w16 hR hB2
  replace A0 := A0.below LG hB2
  replace W0 := W0.trans (hB2.mono (Nat.le_of_lt LG))
  replace hz := Nat.le_trans hz hB2.size
  have HR := hide hR
  clear hR hB2 HR2 HY
  have a0 := A0.cell 21 (.int .i64 fw) rfl
  go_wp2_with fail
  refine (number21_2' fw _ F9.out).mono ?_
  rintro e w17 ⟨ao, rfl, hY, hb1⟩
  replace A0 := A0.on hb1
  replace W0 := belowOn W0 hb1
  replace hz := Nat.le_trans hz hb1.size
  have HR2 := hide (HR.out.on hb1)
  have HY := hide hY
  clear hb1 hY a0 HR
  go_wp2_with (at_builtin; refine wpl_app rfl (.tmp 64) (.tmp 67) rfl G _ 33 _ rfl HR2.out _ 2 _ _ rfl HY.out (by omega) hz ?_)
  intro v' w18 hR hB2
  replace A0 := A0.below LG hB2
  replace W0 := W0.trans (hB2.mono (Nat.le_of_lt LG))
  replace hz := Nat.le_trans hz hB2.size
  have HR := hide hR
  clear hR hB2 HR2 HY
  have a0 := A0.cell 0 (.int .i64 2) rfl
  have BB := hide (byt1 w18 0 (by omega))
  go_wp2_with (at_builtin; refine wpl_app rfl (.tmp 72) (.tmp 73) rfl G _ 35 _ rfl (HR.out.alloc _) _ 1 1 _ rfl BB.out (by omega) (by simp; omega) ?_)
  intro v' w19 hR hB2
  replace W0 := (belowOn W0 (below_alloc _ _)).trans (hB2.mono (Nat.le_of_lt LG))
  have HRR := hide hR
  clear hR hB2 HR BB A0 a0 hz
  go_wp2
  go_ret2
  obtain ⟨ao, c', hv, hy⟩ := Row.byt (ns := enc ⟨2, fl, r, c, b, po, ag, mx, he, fw⟩) (by
    have e : enc ⟨2, fl, r, c, b, po, ag, mx, he, fw⟩ = [0, 0, 2, 2] ++ [fl] ++ ib r ++ be 4 c ++ ib b ++ be 2 po ++ be 2 ag ++ be 2 mx ++ be 2 he ++ be 2 fw ++ [0] := by
      have e1 := be1 F1.out
      simp only [enc, bdy, List.append_assoc]
      rw [e1]
      rfl
    rw [e]
    exact HRR.out) HE.out
  exact ⟨ao, c', by rw [← hv]; rfl, hy, W0⟩
theorem encode11_yes (p : Bpd) (w : World) (hp : BpdB p) (hr : brt p = true) :
    Calls Try.prog 11 #[.agg (BC p)] w fun e w' => ∃ ao n c, e = .returned (.tuple #[.slice ao n c, .int .i64 0]) ∧ Byt w' ao n c (enc p) ∧ Below w.heap.size w w' := by
  have hk := knw_or (brt_knw hr)
  obtain ⟨kd, fl, r, c, b, po, ag, mx, he, fw⟩ := p
  simp only at hk
  rcases hk with rfl | rfl | rfl
  · exact (encode11_0 fl r c b po ag mx he fw w hp hr).mono fun e w' ⟨ao, c', h⟩ => ⟨ao, _, c', h⟩
  · exact (encode11_2 fl r c b po ag mx he fw w hp hr).mono fun e w' ⟨ao, c', h⟩ => ⟨ao, _, c', h⟩
  · exact (encode11_128 fl r c b po ag mx he fw w hp hr).mono fun e w' ⟨ao, c', h⟩ => ⟨ao, _, c', h⟩
theorem encode11 (p : Bpd) (w : World) (hp : BpdB p) :
    Calls Try.prog 11 #[.agg (BC p)] w fun e w' => ∃ ao n c, e = .returned (.tuple #[.slice ao n c, .int .i64 (ec p)]) ∧ Byt w' ao n c (eb p) ∧ Below w.heap.size w w' := by
  cases hr : brt p
  · rw [eb_no hr, ec_no hr]
    exact (encode11_no p w hr).mono fun e w' ⟨he, hB⟩ => ⟨none, 0, 0, he, Byt.nothing w', hB⟩
  · rw [eb_yes hr, ec_yes hr]
    exact encode11_yes p w hp hr
end Go.Proofs.Ytdaglmimfkcmeaa
