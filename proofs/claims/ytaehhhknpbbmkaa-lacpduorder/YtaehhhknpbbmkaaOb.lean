/- Walks of LacpduOrder. -/
import Derived.Test.YtaehhhknpbbmkaaOa
namespace Go.Proofs.Ytaehhhknpbbmkaa
open Go.RowKit

set_option maxRecDepth 100000 in
set_option maxHeartbeats 4000000 in
theorem ow3 (a b c : Inf) (w : World) (ha : Rng (ml a)) (hb : Rng (ml b)) (hc : Rng (ml c)) (hab : ls a b = true) (hba : ls b a = false) (hsp : (a.sp == b.sp) = true) (heq : eq6 a.m0 a.m1 a.m2 a.m3 a.m4 a.m5 b.m0 b.m1 b.m2 b.m3 b.m4 b.m5 = false) (hbc : ls b c = false) :
    Calls Try.prog 7 #[.agg (IC a), .agg (IC b), .agg (IC c)] w fun e w' => e = .returned (.bool true) ∧ Below w.heap.size w w' := by
  have A0 := ((Box.new w (icl a) 25).alloc (.cells (IC b) 25)).alloc (.cells (IC c) 25)
  have B0 := (Box.new (w.alloc (.cells (IC a) 25)) (icl b) 25).alloc (.cells (IC c) 25)
  have C0 := Box.new ((w.alloc (.cells (IC a) 25)).alloc (.cells (IC b) 25)) (icl c) 25
  rw [World.size_alloc] at B0
  rw [World.size_alloc, World.size_alloc] at C0
  have W0 := ((below_alloc w (.cells (IC a) 25)).alloc (by simp) (.cells (IC b) 25)).alloc (by simp; omega) (.cells (IC c) 25)
  have he := eqMac a.m0 a.m1 a.m2 a.m3 a.m4 a.m5 b.m0 b.m1 b.m2 b.m3 b.m4 b.m5
  have HAB := hide hab; have HBA := hide hba
  clear hab hba
  have HBC := hide hbc
  clear hbc
  go_enter Try.func7, Try.ntmps7
  go_wp2_with fail
  refine (awake9 _).mono ?_
  rintro e w1 ⟨rfl, hb1⟩
  replace A0 := A0.on hb1; replace B0 := B0.on hb1; replace C0 := C0.on hb1; replace W0 := belowOn W0 hb1
  clear hb1
  go_wp2_with (first | (refine wpl_info (.tmp 3) rfl A0.at_ ?_ ?_ ?_; rfl; rfl) | (refine wpl_info (.tmp 4) rfl B0.at_ ?_ ?_ ?_; rfl; rfl) | (refine wpl_info (.tmp 5) rfl C0.at_ ?_ ?_ ?_; rfl; rfl))
  refine (less18 a b _ ha hb).mono ?_
  rintro e w2 ⟨rfl, hb1⟩
  replace A0 := A0.on hb1; replace B0 := B0.on hb1; replace C0 := C0.on hb1; replace W0 := belowOn W0 hb1
  clear hb1
  rw [HAB.out]
  go_wp2_with (first | (refine wpl_info (.tmp 3) rfl A0.at_ ?_ ?_ ?_; rfl; rfl) | (refine wpl_info (.tmp 4) rfl B0.at_ ?_ ?_ ?_; rfl; rfl) | (refine wpl_info (.tmp 5) rfl C0.at_ ?_ ?_ ?_; rfl; rfl))
  refine (less18 b c _ hb hc).mono ?_
  rintro e w3 ⟨rfl, hb1⟩
  replace A0 := A0.on hb1; replace B0 := B0.on hb1; replace C0 := C0.on hb1; replace W0 := belowOn W0 hb1
  clear hb1
  rw [HBC.out]
  go_wp2_with (first | (refine wpl_info (.tmp 3) rfl A0.at_ ?_ ?_ ?_; rfl; rfl) | (refine wpl_info (.tmp 4) rfl B0.at_ ?_ ?_ ?_; rfl; rfl) | (refine wpl_info (.tmp 5) rfl C0.at_ ?_ ?_ ?_; rfl; rfl))
  refine (less18 a c _ ha hc).mono ?_
  rintro e w4 ⟨rfl, hb1⟩
  replace A0 := A0.on hb1; replace B0 := B0.on hb1; replace C0 := C0.on hb1; replace W0 := belowOn W0 hb1
  clear hb1
  have p0 := A0.cell 0 _ rfl; have p1 := A0.cell 1 _ rfl; have p2 := A0.cell 2 _ rfl; have p3 := A0.cell 3 _ rfl; have p4 := A0.cell 4 _ rfl; have p5 := A0.cell 5 _ rfl; have p6 := A0.cell 6 _ rfl
  have q0 := B0.cell 0 _ rfl; have q1 := B0.cell 1 _ rfl; have q2 := B0.cell 2 _ rfl; have q3 := B0.cell 3 _ rfl; have q4 := B0.cell 4 _ rfl; have q5 := B0.cell 5 _ rfl; have q6 := B0.cell 6 _ rfl
  go_wp2_with (first | (refine wpl_info (.tmp 3) rfl A0.at_ ?_ ?_ ?_; rfl; rfl) | (refine wpl_info (.tmp 4) rfl B0.at_ ?_ ?_ ?_; rfl; rfl) | (refine wpl_info (.tmp 5) rfl C0.at_ ?_ ?_ ?_; rfl; rfl))
  refine (knows16 a a _).mono ?_
  rintro e w5 ⟨rfl, hb1⟩
  replace A0 := A0.on hb1; replace B0 := B0.on hb1; replace C0 := C0.on hb1; replace W0 := belowOn W0 hb1
  clear hb1
  rw [kn_self]
  clear p0 p1 p2 p3 p4 p5 p6 q0 q1 q2 q3 q4 q5 q6 hsp
  clear he heq
  go_wp2_with (first | (refine wpl_info (.tmp 3) rfl A0.at_ ?_ ?_ ?_; rfl; rfl) | (refine wpl_info (.tmp 4) rfl B0.at_ ?_ ?_ ?_; rfl; rfl) | (refine wpl_info (.tmp 5) rfl C0.at_ ?_ ?_ ?_; rfl; rfl))
  refine (less18 a a _ ha ha).mono ?_
  rintro e w6 ⟨rfl, hb1⟩
  replace A0 := A0.on hb1; replace B0 := B0.on hb1; replace C0 := C0.on hb1; replace W0 := belowOn W0 hb1
  clear hb1
  rw [ls_self]
  go_wp2_with (first | (refine wpl_info (.tmp 3) rfl A0.at_ ?_ ?_ ?_; rfl; rfl) | (refine wpl_info (.tmp 4) rfl B0.at_ ?_ ?_ ?_; rfl; rfl) | (refine wpl_info (.tmp 5) rfl C0.at_ ?_ ?_ ?_; rfl; rfl))
  refine (less18 b a _ hb ha).mono ?_
  rintro e w7 ⟨rfl, hb1⟩
  replace A0 := A0.on hb1; replace B0 := B0.on hb1; replace C0 := C0.on hb1; replace W0 := belowOn W0 hb1
  clear hb1
  rw [HBA.out]
  clear A0 B0 C0
  go_wp2
  go_ret
  exact ⟨rfl, W0⟩
set_option maxRecDepth 100000 in
set_option maxHeartbeats 4000000 in
theorem ow4 (a b c : Inf) (w : World) (ha : Rng (ml a)) (hb : Rng (ml b)) (hc : Rng (ml c)) (hab : ls a b = true) (hba : ls b a = false) (hsp : (a.sp == b.sp) = true) (heq : eq6 a.m0 a.m1 a.m2 a.m3 a.m4 a.m5 b.m0 b.m1 b.m2 b.m3 b.m4 b.m5 = false) (hbc : ls b c = true) (hac : ls a c = true) :
    Calls Try.prog 7 #[.agg (IC a), .agg (IC b), .agg (IC c)] w fun e w' => e = .returned (.bool true) ∧ Below w.heap.size w w' := by
  have A0 := ((Box.new w (icl a) 25).alloc (.cells (IC b) 25)).alloc (.cells (IC c) 25)
  have B0 := (Box.new (w.alloc (.cells (IC a) 25)) (icl b) 25).alloc (.cells (IC c) 25)
  have C0 := Box.new ((w.alloc (.cells (IC a) 25)).alloc (.cells (IC b) 25)) (icl c) 25
  rw [World.size_alloc] at B0
  rw [World.size_alloc, World.size_alloc] at C0
  have W0 := ((below_alloc w (.cells (IC a) 25)).alloc (by simp) (.cells (IC b) 25)).alloc (by simp; omega) (.cells (IC c) 25)
  have he := eqMac a.m0 a.m1 a.m2 a.m3 a.m4 a.m5 b.m0 b.m1 b.m2 b.m3 b.m4 b.m5
  have HAB := hide hab; have HBA := hide hba
  clear hab hba
  have HBC := hide hbc
  clear hbc
  have HAC := hide hac
  clear hac
  go_enter Try.func7, Try.ntmps7
  go_wp2_with fail
  refine (awake9 _).mono ?_
  rintro e w1 ⟨rfl, hb1⟩
  replace A0 := A0.on hb1; replace B0 := B0.on hb1; replace C0 := C0.on hb1; replace W0 := belowOn W0 hb1
  clear hb1
  go_wp2_with (first | (refine wpl_info (.tmp 3) rfl A0.at_ ?_ ?_ ?_; rfl; rfl) | (refine wpl_info (.tmp 4) rfl B0.at_ ?_ ?_ ?_; rfl; rfl) | (refine wpl_info (.tmp 5) rfl C0.at_ ?_ ?_ ?_; rfl; rfl))
  refine (less18 a b _ ha hb).mono ?_
  rintro e w2 ⟨rfl, hb1⟩
  replace A0 := A0.on hb1; replace B0 := B0.on hb1; replace C0 := C0.on hb1; replace W0 := belowOn W0 hb1
  clear hb1
  rw [HAB.out]
  go_wp2_with (first | (refine wpl_info (.tmp 3) rfl A0.at_ ?_ ?_ ?_; rfl; rfl) | (refine wpl_info (.tmp 4) rfl B0.at_ ?_ ?_ ?_; rfl; rfl) | (refine wpl_info (.tmp 5) rfl C0.at_ ?_ ?_ ?_; rfl; rfl))
  refine (less18 b c _ hb hc).mono ?_
  rintro e w3 ⟨rfl, hb1⟩
  replace A0 := A0.on hb1; replace B0 := B0.on hb1; replace C0 := C0.on hb1; replace W0 := belowOn W0 hb1
  clear hb1
  rw [HBC.out]
  go_wp2_with (first | (refine wpl_info (.tmp 3) rfl A0.at_ ?_ ?_ ?_; rfl; rfl) | (refine wpl_info (.tmp 4) rfl B0.at_ ?_ ?_ ?_; rfl; rfl) | (refine wpl_info (.tmp 5) rfl C0.at_ ?_ ?_ ?_; rfl; rfl))
  refine (less18 a c _ ha hc).mono ?_
  rintro e w4 ⟨rfl, hb1⟩
  replace A0 := A0.on hb1; replace B0 := B0.on hb1; replace C0 := C0.on hb1; replace W0 := belowOn W0 hb1
  clear hb1
  rw [HAC.out]
  have p0 := A0.cell 0 _ rfl; have p1 := A0.cell 1 _ rfl; have p2 := A0.cell 2 _ rfl; have p3 := A0.cell 3 _ rfl; have p4 := A0.cell 4 _ rfl; have p5 := A0.cell 5 _ rfl; have p6 := A0.cell 6 _ rfl
  have q0 := B0.cell 0 _ rfl; have q1 := B0.cell 1 _ rfl; have q2 := B0.cell 2 _ rfl; have q3 := B0.cell 3 _ rfl; have q4 := B0.cell 4 _ rfl; have q5 := B0.cell 5 _ rfl; have q6 := B0.cell 6 _ rfl
  go_wp2_with (first | (refine wpl_info (.tmp 3) rfl A0.at_ ?_ ?_ ?_; rfl; rfl) | (refine wpl_info (.tmp 4) rfl B0.at_ ?_ ?_ ?_; rfl; rfl) | (refine wpl_info (.tmp 5) rfl C0.at_ ?_ ?_ ?_; rfl; rfl))
  refine (knows16 a a _).mono ?_
  rintro e w5 ⟨rfl, hb1⟩
  replace A0 := A0.on hb1; replace B0 := B0.on hb1; replace C0 := C0.on hb1; replace W0 := belowOn W0 hb1
  clear hb1
  rw [kn_self]
  clear p0 p1 p2 p3 p4 p5 p6 q0 q1 q2 q3 q4 q5 q6 hsp
  clear he heq
  go_wp2_with (first | (refine wpl_info (.tmp 3) rfl A0.at_ ?_ ?_ ?_; rfl; rfl) | (refine wpl_info (.tmp 4) rfl B0.at_ ?_ ?_ ?_; rfl; rfl) | (refine wpl_info (.tmp 5) rfl C0.at_ ?_ ?_ ?_; rfl; rfl))
  refine (less18 a a _ ha ha).mono ?_
  rintro e w6 ⟨rfl, hb1⟩
  replace A0 := A0.on hb1; replace B0 := B0.on hb1; replace C0 := C0.on hb1; replace W0 := belowOn W0 hb1
  clear hb1
  rw [ls_self]
  go_wp2_with (first | (refine wpl_info (.tmp 3) rfl A0.at_ ?_ ?_ ?_; rfl; rfl) | (refine wpl_info (.tmp 4) rfl B0.at_ ?_ ?_ ?_; rfl; rfl) | (refine wpl_info (.tmp 5) rfl C0.at_ ?_ ?_ ?_; rfl; rfl))
  refine (less18 b a _ hb ha).mono ?_
  rintro e w7 ⟨rfl, hb1⟩
  replace A0 := A0.on hb1; replace B0 := B0.on hb1; replace C0 := C0.on hb1; replace W0 := belowOn W0 hb1
  clear hb1
  rw [HBA.out]
  clear A0 B0 C0
  go_wp2
  go_ret
  exact ⟨rfl, W0⟩
end Go.Proofs.Ytaehhhknpbbmkaa
