/- Contracts of SameNote and Same. -/
import Derived.Test.YtijfcfpoimknmaaDoorA2
namespace Go.Proofs.YtijfcfpoimknmaaDoor
open Go.RowKit

set_option maxRecDepth 100000 in
set_option maxHeartbeats 8000000 in
theorem same42 (x y : Nt) (a1 : Option Addr) (m1 c1 : Nat) (a2 : Option Addr) (m2 c2 : Nat) (w : World) (hx : Byt w a1 m1 c1 x.b) (hy : Byt w a2 m2 c2 y.b) :
    Calls Tryd.prog 42 #[.agg (NC x (.slice a1 m1 c1)), .agg (NC y (.slice a2 m2 c2))] w fun e w' => e = .returned (.bool (neq x y)) ∧ Below w.heap.size w w' := by
  have L0 : Below w.heap.size w ((w.alloc (.cells (NC x (.slice a1 m1 c1)) 26)).alloc (.cells (NC y (.slice a2 m2 c2)) 26)) := by go_grown
  have X0 : Box ((w.alloc (.cells (NC x (.slice a1 m1 c1)) 26)).alloc (.cells (NC y (.slice a2 m2 c2)) 26)) w.heap.size (ncl x (.slice a1 m1 c1)) := (Box.new w (ncl x (.slice a1 m1 c1)) 26).alloc _
  have Y0 : Box ((w.alloc (.cells (NC x (.slice a1 m1 c1)) 26)).alloc (.cells (NC y (.slice a2 m2 c2)) 26)) (w.heap.size + 1) (ncl y (.slice a2 m2 c2)) := by
    have := Box.new (w.alloc (.cells (NC x (.slice a1 m1 c1)) 26)) (ncl y (.slice a2 m2 c2)) 26
    rwa [World.size_alloc] at this
  have s1 := bytStr (hx.on L0)
  have s2 := bytStr (hy.on L0)
  have sq := bs_beq hx.rng hy.rng
  have he := eqM x y
  have MX := X0.mac
  have MY := Y0.mac
  have x0 := X0.cell 0 _ rfl
  have x1 := X0.cell 1 _ rfl
  have x8 := X0.cell 8 _ rfl
  have x9 := X0.cell 9 _ rfl
  have x10 := X0.cell 10 _ rfl
  have y0 := Y0.cell 0 _ rfl
  have y1 := Y0.cell 1 _ rfl
  have y8 := Y0.cell 8 _ rfl
  have y9 := Y0.cell 9 _ rfl
  have y10 := Y0.cell 10 _ rfl
  have HN : Hid (neq x y = (x.k == y.k && (x.v == y.v && (eq6 x.m0 x.m1 x.m2 x.m3 x.m4 x.m5 y.m0 y.m1 y.m2 y.m3 y.m4 y.m5 && (x.p == y.p && (x.s == y.s && decide (x.b = y.b))))))) := hide rfl
  generalize decide (x.b = y.b) = qb at *
  generalize eq6 x.m0 x.m1 x.m2 x.m3 x.m4 x.m5 y.m0 y.m1 y.m2 y.m3 y.m4 y.m5 = qm at *
  have BW := hide L0
  clear hx hy L0 X0 Y0
  rcases Bool.eq_false_or_eq_true (x.k == y.k) with hk | hk
  rotate_left
  · have tk1 : True := trivial
    have tk2 : True := trivial
    go_enter Tryd.func42, Tryd.ntmps42
    go_wp2_with (first | (have _t := tk1; refine wpl_mac (.tmp 18) rfl MX ?_ ?_ ?_; rfl; rfl; clear tk1) | (have _t := tk2; refine wpl_mac (.tmp 20) rfl MY ?_ ?_ ?_; rfl; rfl; clear tk2))
    go_ret
    exact ⟨ret_bool (by rw [HN.out]; simp [*]), BW.out⟩
  rcases Bool.eq_false_or_eq_true (x.v == y.v) with hv | hv
  rotate_left
  · have tk1 : True := trivial
    have tk2 : True := trivial
    go_enter Tryd.func42, Tryd.ntmps42
    go_wp2_with (first | (have _t := tk1; refine wpl_mac (.tmp 18) rfl MX ?_ ?_ ?_; rfl; rfl; clear tk1) | (have _t := tk2; refine wpl_mac (.tmp 20) rfl MY ?_ ?_ ?_; rfl; rfl; clear tk2))
    go_ret
    exact ⟨ret_bool (by rw [HN.out]; simp [*]), BW.out⟩
  cases qm
  · have tk1 : True := trivial
    have tk2 : True := trivial
    go_enter Tryd.func42, Tryd.ntmps42
    go_wp2_with (first | (have _t := tk1; refine wpl_mac (.tmp 18) rfl MX ?_ ?_ ?_; rfl; rfl; clear tk1) | (have _t := tk2; refine wpl_mac (.tmp 20) rfl MY ?_ ?_ ?_; rfl; rfl; clear tk2))
    go_ret
    exact ⟨ret_bool (by rw [HN.out]; simp [*]), BW.out⟩
  rcases Bool.eq_false_or_eq_true (x.p == y.p) with hp | hp
  rotate_left
  · have tk1 : True := trivial
    have tk2 : True := trivial
    go_enter Tryd.func42, Tryd.ntmps42
    go_wp2_with (first | (have _t := tk1; refine wpl_mac (.tmp 18) rfl MX ?_ ?_ ?_; rfl; rfl; clear tk1) | (have _t := tk2; refine wpl_mac (.tmp 20) rfl MY ?_ ?_ ?_; rfl; rfl; clear tk2))
    go_ret
    exact ⟨ret_bool (by rw [HN.out]; simp [*]), BW.out⟩
  rcases Bool.eq_false_or_eq_true (x.s == y.s) with hs | hs
  rotate_left
  · have tk1 : True := trivial
    have tk2 : True := trivial
    go_enter Tryd.func42, Tryd.ntmps42
    go_wp2_with (first | (have _t := tk1; refine wpl_mac (.tmp 18) rfl MX ?_ ?_ ?_; rfl; rfl; clear tk1) | (have _t := tk2; refine wpl_mac (.tmp 20) rfl MY ?_ ?_ ?_; rfl; rfl; clear tk2))
    go_ret
    exact ⟨ret_bool (by rw [HN.out]; simp [*]), BW.out⟩
  have tk1 : True := trivial
  have tk2 : True := trivial
  go_enter Tryd.func42, Tryd.ntmps42
  go_wp2_with (first | (have _t := tk1; refine wpl_mac (.tmp 18) rfl MX ?_ ?_ ?_; rfl; rfl; clear tk1) | (have _t := tk2; refine wpl_mac (.tmp 20) rfl MY ?_ ?_ ?_; rfl; rfl; clear tk2))
  go_ret
  exact ⟨ret_bool (by rw [HN.out]; simp [*]), BW.out⟩
set_option maxRecDepth 100000 in
set_option maxHeartbeats 8000000 in
theorem same17 (x y : Pk) (a1 : Option Addr) (m1 c1 : Nat) (a2 : Option Addr) (m2 c2 : Nat) (w : World) (hx : Byt w a1 m1 c1 x.n.b) (hy : Byt w a2 m2 c2 y.n.b) :
    Calls Tryd.prog 17 #[.agg (PC x (.slice a1 m1 c1)), .agg (PC y (.slice a2 m2 c2))] w fun e w' => e = .returned (.bool (peq x y)) ∧ Below w.heap.size w w' := by
  have L0 : Below w.heap.size w ((w.alloc (.cells (PC x (.slice a1 m1 c1)) 28)).alloc (.cells (PC y (.slice a2 m2 c2)) 28)) := by go_grown
  have X0 : Box ((w.alloc (.cells (PC x (.slice a1 m1 c1)) 28)).alloc (.cells (PC y (.slice a2 m2 c2)) 28)) w.heap.size (pcl x (.slice a1 m1 c1)) := (Box.new w (pcl x (.slice a1 m1 c1)) 28).alloc _
  have Y0 : Box ((w.alloc (.cells (PC x (.slice a1 m1 c1)) 28)).alloc (.cells (PC y (.slice a2 m2 c2)) 28)) (w.heap.size + 1) (pcl y (.slice a2 m2 c2)) := by
    have := Box.new (w.alloc (.cells (PC x (.slice a1 m1 c1)) 28)) (pcl y (.slice a2 m2 c2)) 28
    rwa [World.size_alloc] at this
  have C := hide (same42 x.n y.n a1 m1 c1 a2 m2 c2 _ (hx.on L0) (hy.on L0))
  have NX := X0.note
  have NY := Y0.note
  have HN : Hid (peq x y = (x.e == y.e && (x.q == y.q && (x.a == y.a && neq x.n y.n)))) := hide rfl
  clear hx hy
  have tk1 : True := trivial
  have tk2 : True := trivial
  go_enter Tryd.func17, Tryd.ntmps17
  go_wp2_with (first | (have _t := tk1; refine wpl_note (.tmp 6) rfl NX ?_ ?_ ?_; rfl; rfl; clear tk1) | (have _t := tk2; refine wpl_note (.tmp 8) rfl NY ?_ ?_ ?_; rfl; rfl; clear tk2))
  refine C.out.mono ?_
  rintro e w1 ⟨rfl, hb⟩
  replace X0 := X0.on hb
  replace Y0 := Y0.on hb
  have BW := hide (belowOn L0 hb)
  have x0 := X0.cell 0 _ rfl
  have x1 := X0.cell 1 _ rfl
  have x2 := X0.cell 2 _ rfl
  have y0 := Y0.cell 0 _ rfl
  have y1 := Y0.cell 1 _ rfl
  have y2 := Y0.cell 2 _ rfl
  clear C NX NY X0 Y0 L0 hb
  rcases Bool.eq_false_or_eq_true (x.e == y.e) with he | he
  rotate_left
  · go_wp2
    go_ret
    exact ⟨ret_bool (by rw [HN.out]; simp [*]), BW.out⟩
  rcases Bool.eq_false_or_eq_true (x.q == y.q) with hq | hq
  rotate_left
  · go_wp2
    go_ret
    exact ⟨ret_bool (by rw [HN.out]; simp [*]), BW.out⟩
  rcases Bool.eq_false_or_eq_true (x.a == y.a) with ha | ha
  rotate_left
  · go_wp2
    go_ret
    exact ⟨ret_bool (by rw [HN.out]; simp [*]), BW.out⟩
  go_wp2
  go_ret
  exact ⟨ret_bool (by rw [HN.out]; simp [*]), BW.out⟩
end Go.Proofs.YtijfcfpoimknmaaDoor
