/- Contract of Encode, as the program has it. -/
import Derived.Test.YtaehhhknpbbmkaaA4
namespace Go.Proofs.Ytaehhhknpbbmkaa
open Go.RowKit

set_option maxRecDepth 100000 in
set_option maxHeartbeats 1000000 in
theorem encode10_no (l : Lac) (w : World) (hr : lrt l = false) :
    Calls Try.prog 10 #[.agg (LC l)] w fun e w' => e = .returned (.tuple #[.slice none 0 0, .int .i64 1]) ∧ Below w.heap.size w w' := by
  have A0 : Box (w.alloc (.cells (LC l) 27)) w.heap.size (lcl l) := Box.new w (lcl l) 27
  go_enter Try.func10, Try.ntmps10
  go_wp2_with (refine wpl_lacp (.tmp 1) rfl A0 ?_ ?_ ?_; rfl; rfl)
  refine (right12 l _).mono ?_
  rintro e w1 ⟨rfl, hb1⟩
  clear A0
  go_wp2
  go_ret2
  exact ⟨rfl, belowOn (below_alloc _ _) hb1⟩

set_option maxRecDepth 100000 in
set_option maxHeartbeats 4000000 in
theorem encode10_yes (l : Lac) (w : World) (hl : LacB l) (hr : lrt l = true) :
    Calls Try.prog 10 #[.agg (LC l)] w fun e w' => ∃ g cap, e = .returned (.tuple #[.slice (some ⟨g, 0, none⟩) 110 cap, .int .i64 0]) ∧ Byt w' (some ⟨g, 0, none⟩) 110 cap (enc l) ∧ Below w.heap.size w w' := by
  obtain ⟨k1, k2, k3⟩ := lrt_and hr
  obtain ⟨d0, d1⟩ := w16_and k3
  have K1 := hide k1
  have K2 := hide k2
  have HL := hide hl
  have HR := hide (enc_rng hl hr)
  clear k1 k2 k3 hl
  obtain ⟨i0, hi, hz0, hz1, hz2⟩ := info_parts Try.info5
  have A0 : Box (w.alloc (.cells (LC l) 27)) w.heap.size (lcl l) := Box.new w (lcl l) 27
  have W0 := below_alloc w (.cells (LC l) 27)
  go_enter Try.func10, Try.ntmps10
  go_wp2_with (refine wpl_lacp (.tmp 1) rfl A0 ?_ ?_ ?_; rfl; rfl)
  refine (right12 l _).mono ?_
  rintro e w1 ⟨rfl, hb1⟩
  replace A0 := A0.on hb1
  replace W0 := belowOn W0 hb1
  clear hb1
  go_wp2_with (at_make; refine wpList_make_own _ rfl _ _ 29 rfl w1.heap.size 5 i0 (.int .u8 0) 1 Try.underlying29 hi hz0 hz1 .i64 .i64 _ 110 rfl rfl rfl (by rw [hz2]; omega) (by unfold maxLen; omega) (Nat.le_refl _) ?_)
  intro w2 hown hgrow
  have B2 : Below w1.heap.size w1 w2 := (Below.refl _ _).grown hgrow (Nat.le_refl _) (fun k hk => by cases hk)
  have hO : Own w2 w1.heap.size 0 [] := ⟨hown, (hown.lt _ rfl).2⟩
  have hG : w.heap.size ≠ w1.heap.size := by have := A0.lt; omega
  have LG : w.heap.size ≤ w1.heap.size := by have := A0.lt; omega
  replace A0 := A0.on B2
  replace W0 := belowOn W0 B2
  have LW : w.heap.size ≤ w2.heap.size := Nat.le_of_lt A0.lt
  obtain ⟨G, hGe⟩ : ∃ G, G = w1.heap.size := ⟨_, rfl⟩
  rw [← hGe] at hG LG hO ⊢
  have HO := hide hO
  clear hgrow B2 hown hO hGe hi hz0 hz1 hz2 hr
  have BB := hide (byt2 w2 1 1 (by omega) (by omega))
  go_wp2_with (at_builtin; refine wpl_fit rfl (.tmp 9) (.tmp 10) rfl G 0 2 _ rfl (HO.out.alloc _) _ 2 2 _ rfl BB.out rfl (by omega) ?_)
  intro w3 hO g1
  replace W0 := below_grown (W0.alloc LW _) g1 LG (by simp; omega)
  replace A0 := (A0.alloc _).kept hG g1
  replace LW : w.heap.size ≤ w3.heap.size := Nat.le_of_lt A0.lt
  have HO2 := hide hO
  clear hO g1 HO BB
  have HO := HO2
  clear HO2
  have BB := hide (byt2 w3 1 20 (by omega) (by omega))
  go_wp2_with (at_builtin; refine wpl_fit rfl (.tmp 12) (.tmp 13) rfl G 2 4 _ rfl (HO.out.alloc _) _ 2 2 _ rfl BB.out rfl (by omega) ?_)
  intro w4 hO g1
  replace W0 := below_grown (W0.alloc LW _) g1 LG (by simp; omega)
  replace A0 := (A0.alloc _).kept hG g1
  replace LW : w.heap.size ≤ w4.heap.size := Nat.le_of_lt A0.lt
  have HO2 := hide hO
  clear hO g1 HO BB
  have HO := HO2
  clear HO2
  have a0 := A0.act
  go_wp2_with (refine wpl_info (.tmp 16) rfl a0 ?_ ?_ ?_; rfl; rfl)
  refine (info20 G 4 _ l.a _ K1.out HL.out.a HO.out (by omega)).mono ?_
  rintro e w5 ⟨rfl, hO, g1⟩
  replace W0 := below_grown W0 g1 LG LW
  replace A0 := A0.kept hG g1
  replace LW : w.heap.size ≤ w5.heap.size := Nat.le_of_lt A0.lt
  have HO2 := hide hO
  clear hO g1 HO
  have HO := HO2
  clear HO2
  clear a0
  have BB := hide (byt2 w5 2 20 (by omega) (by omega))
  go_wp2_with (at_builtin; refine wpl_fit rfl (.tmp 19) (.tmp 20) rfl G 22 24 _ rfl (HO.out.alloc _) _ 2 2 _ rfl BB.out rfl (by omega) ?_)
  intro w6 hO g1
  replace W0 := below_grown (W0.alloc LW _) g1 LG (by simp; omega)
  replace A0 := (A0.alloc _).kept hG g1
  replace LW : w.heap.size ≤ w6.heap.size := Nat.le_of_lt A0.lt
  have HO2 := hide hO
  clear hO g1 HO BB
  have HO := HO2
  clear HO2
  have a0 := A0.par
  go_wp2_with (refine wpl_info (.tmp 23) rfl a0 ?_ ?_ ?_; rfl; rfl)
  refine (info20 G 24 _ l.p _ K2.out HL.out.p HO.out (by omega)).mono ?_
  rintro e w7 ⟨rfl, hO, g1⟩
  replace W0 := below_grown W0 g1 LG LW
  replace A0 := A0.kept hG g1
  replace LW : w.heap.size ≤ w7.heap.size := Nat.le_of_lt A0.lt
  have HO2 := hide hO
  clear hO g1 HO
  have HO := HO2
  clear HO2
  clear a0
  have BB := hide (byt2 w7 3 16 (by omega) (by omega))
  go_wp2_with (at_builtin; refine wpl_fit rfl (.tmp 26) (.tmp 27) rfl G 42 44 _ rfl (HO.out.alloc _) _ 2 2 _ rfl BB.out rfl (by omega) ?_)
  intro w8 hO g1
  replace W0 := below_grown (W0.alloc LW _) g1 LG (by simp; omega)
  replace A0 := (A0.alloc _).kept hG g1
  replace LW : w.heap.size ≤ w8.heap.size := Nat.le_of_lt A0.lt
  have HO2 := hide hO
  clear hO g1 HO BB
  have HO := HO2
  clear HO2
  have c0 := A0.cell 22 (.int .i64 l.dl) rfl
  go_wp2_with fail
  refine (pair21 G 44 _ l.dl _ d0 d1 HO.out (by omega)).mono ?_
  rintro e w9 ⟨rfl, hO, g1⟩
  replace W0 := below_grown W0 g1 LG LW
  replace A0 := A0.kept hG g1
  replace LW : w.heap.size ≤ w9.heap.size := Nat.le_of_lt A0.lt
  have HO2 := hide hO
  clear hO g1 HO
  have HO := HO2
  clear HO2
  clear c0
  go_wp2_with fail
  refine (zeros22 G 46 58 _ 12 12 _ rfl (by omega) HO.out rfl (by omega)).mono ?_
  rintro e w10 ⟨rfl, hO, g1⟩
  replace W0 := below_grown W0 g1 LG LW
  replace A0 := A0.kept hG g1
  replace LW : w.heap.size ≤ w10.heap.size := Nat.le_of_lt A0.lt
  have HO2 := hide hO
  clear hO g1 HO
  have HO := HO2
  clear HO2
  have BB := hide (byt2 w10 0 0 (by omega) (by omega))
  go_wp2_with (at_builtin; refine wpl_fit rfl (.tmp 35) (.tmp 36) rfl G 58 60 _ rfl (HO.out.alloc _) _ 2 2 _ rfl BB.out rfl (by omega) ?_)
  intro w11 hO g1
  replace W0 := below_grown (W0.alloc LW _) g1 LG (by simp; omega)
  replace A0 := (A0.alloc _).kept hG g1
  replace LW : w.heap.size ≤ w11.heap.size := Nat.le_of_lt A0.lt
  have HO2 := hide hO
  clear hO g1 HO BB
  have HO := HO2
  clear HO2
  go_wp2_with fail
  refine (zeros22 G 60 110 _ 50 50 _ rfl (by omega) HO.out rfl (by omega)).mono ?_
  rintro e w12 ⟨rfl, hO, g1⟩
  replace W0 := below_grown W0 g1 LG LW
  replace A0 := A0.kept hG g1
  replace LW : w.heap.size ≤ w12.heap.size := Nat.le_of_lt A0.lt
  have HO2 := hide hO
  clear hO g1 HO
  have HO := HO2
  clear HO2
  go_wp2
  go_ret2
  refine ⟨G, 110, rfl, ?_, W0⟩
  have h := HO.out.row
  obtain ⟨ao, c, e, hb⟩ := own_byt (ns := enc l) (by
    have e : enc l = [] ++ [1, 1] ++ [1, 20] ++ ibs l.a ++ [2, 20] ++ ibs l.p ++ [3, 16] ++ [l.dl / 256, l.dl % 256] ++ zs 12 ++ [0, 0] ++ zs 50 := rfl
    rw [e]
    exact h) HR.out
  injection e with e1 e2 e3
  subst e1 e3
  exact hb
theorem encode10 (l : Lac) (w : World) (hl : LacB l) :
    Calls Try.prog 10 #[.agg (LC l)] w fun e w' => ∃ ao n c, e = .returned (.tuple #[.slice ao n c, .int .i64 (ec l)]) ∧ Byt w' ao n c (eb l) ∧ Below w.heap.size w w' := by
  cases hr : lrt l
  · rw [eb_no hr, ec_no hr]
    exact (encode10_no l w hr).mono fun e w' ⟨he, hB⟩ => ⟨none, 0, 0, he, Byt.nothing w', hB⟩
  · rw [eb_yes hr, ec_yes hr]
    exact (encode10_yes l w hl hr).mono fun e w' ⟨g, cap, he, hb, hB⟩ => ⟨some ⟨g, 0, none⟩, 110, cap, he, hb, hB⟩
end Go.Proofs.Ytaehhhknpbbmkaa
