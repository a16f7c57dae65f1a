/- Contracts of Compare, mayBe, right; the program's table in memory; next, way, first. -/
import Derived.Test.YtjlmheecefobaaaA2
namespace Go.Proofs.Ytjlmheecefobaaa
open Go.RowKit Go.PlainAid

theorem eqM_num {x y : Mc} (h : Mok x) (k : Mok y) : eqM x y = (num x == num y) := by
  rw [Bool.eq_iff_iff, eqM_iff, beq_iff_eq]
  exact ⟨fun e => by rw [e], num_inj h k⟩
theorem box_two (w : World) (a b : List Value) (e : TypeId) : Box ((w.alloc (.cells a.toArray e)).alloc (.cells b.toArray e)) w.heap.size a ∧ Box ((w.alloc (.cells a.toArray e)).alloc (.cells b.toArray e)) (w.heap.size + 1) b := by
  refine ⟨(Box.new w a e).alloc _, ?_⟩
  have h := Box.new (w.alloc (.cells a.toArray e)) b e
  rw [World.size_alloc] at h
  exact h
theorem box_m2 (w : World) (x y : Mc) : Box ((w.alloc (.cells (MC x) 34)).alloc (.cells (MC y) 34)) w.heap.size (mcl x) ∧ Box ((w.alloc (.cells (MC x) 34)).alloc (.cells (MC y) 34)) (w.heap.size + 1) (mcl y) := box_two w (mcl x) (mcl y) 34
theorem box_m (w : World) (x : Mc) : Box (w.alloc (.cells (MC x) 34)) w.heap.size (mcl x) := Box.new w (mcl x) 34
theorem box_e (w : World) (x : En) : Box (w.alloc (.cells (EC x) 36)) w.heap.size (ecl x) := Box.new w (ecl x) 36
theorem box_s (w : World) (x : St) : Box (w.alloc (.cells (SC x) 66)) w.heap.size (scl x) := Box.new w (scl x) 66
set_option maxRecDepth 100000 in
set_option maxHeartbeats 1000000 in
theorem compare54 (x y : Mc) (w : World) (h : Mok x) (k : Mok y) :
    Calls Try.prog 54 #[.agg (MC x), .agg (MC y)] w fun e w' => e = .returned (.int .i64 (cmp3 (num x) (num y))) ∧ Below w.heap.size w w' := by
  obtain ⟨A, B⟩ := box_m2 w x y
  have A0 := A.at_
  have B0 := hide B
  have W0 : Hid (Below w.heap.size w ((w.alloc (.cells (MC x) 34)).alloc (.cells (MC y) 34))) := hide (by go_grown)
  clear A B
  have tk1 : True := trivial
  go_enter Try.func54, Try.ntmps54
  go_wp2_with (first | (have _t := tk1; refine wpl_mac (.tmp 2) rfl A0 ?_ ?_ ?_; rfl; rfl; clear tk1))
  refine (num65 x _ h).mono ?_
  rintro e w1 ⟨rfl, hb⟩
  have B1 := (B0.out.on hb).at_
  have W1 : Hid (Below w.heap.size w w1) := hide (belowOn W0.out hb)
  clear hb A0 B0 W0
  have tk1 : True := trivial
  go_wp2_with (first | (have _t := tk1; refine wpl_mac (.tmp 3) rfl B1 ?_ ?_ ?_; rfl; rfl; clear tk1))
  refine (num65 y _ k).mono ?_
  rintro e w2 ⟨rfl, hd⟩
  have W2 : Hid (Below w.heap.size w w2) := hide (belowOn W1.out hd)
  clear hd B1 W1
  go_wp2
  · go_ret
    exact ⟨ret_int (cmp3_lt (by assumption)).symm, W2.out⟩
  · go_ret
    exact ⟨ret_int (cmp3_gt (by assumption)).symm, W2.out⟩
  · go_ret
    exact ⟨ret_int (cmp3_eq (by omega) (by omega)).symm, W2.out⟩
theorem mc_cells {w : World} {k : Nat} {m : Mc} (h : Box w k (mcl m)) : w.cell? ⟨k, 0, none⟩ = some (.int .u8 m.a) ∧ w.cell? ⟨k, 1, none⟩ = some (.int .u8 m.b) ∧ w.cell? ⟨k, 2, none⟩ = some (.int .u8 m.c) ∧ w.cell? ⟨k, 3, none⟩ = some (.int .u8 m.d) ∧ w.cell? ⟨k, 4, none⟩ = some (.int .u8 m.e) ∧ w.cell? ⟨k, 5, none⟩ = some (.int .u8 m.f) :=
  ⟨h.cell 0 _ rfl, h.cell 1 _ rfl, h.cell 2 _ rfl, h.cell 3 _ rfl, h.cell 4 _ rfl, h.cell 5 _ rfl⟩
section
attribute [local go_sem] MC0 MC1 MC2 MC3 MC4 MC5
set_option maxRecDepth 100000 in
set_option maxHeartbeats 1000000 in
theorem compare53 (x y : Mc) (w : World) (h : Mok x) (k : Mok y) :
    Calls Try.prog 53 #[.agg (MC x), .agg (MC y)] w fun e w' => e = .returned (.int .i64 (cmp3 (num x) (num y))) ∧ Below w.heap.size w w' := by
  have he := eqMac x y
  have h6 := eqM_num h k
  by_cases hx : num x = num y
  · have ht : eqM x y = true := by rw [h6]; simp [hx]
    have hr : cmp3 (num x) (num y) = 0 := by simp [cmp3, hx]
    rw [hr]
    clear h6 hx hr
    obtain ⟨A, B⟩ := box_m2 w x y
    have A0 := A.at_
    have B0 := B.at_
    clear A B
    have tk1 : True := trivial
    have tk2 : True := trivial
    go_enter Try.func53, Try.ntmps53
    go_wp2_with (first | (have _t := tk1; refine wpl_mac (.tmp 2) rfl A0 ?_ ?_ ?_; rfl; rfl; clear tk1) | (have _t := tk2; refine wpl_mac (.tmp 3) rfl B0 ?_ ?_ ?_; rfl; rfl; clear tk2))
    go_ret
    exact ⟨rfl, by go_grown⟩
  · have ht : eqM x y = false := by rw [h6]; simp [hx]
    clear h6
    have HX : Hid (¬ num x = num y) := hide hx
    clear hx
    obtain ⟨A, B⟩ := box_m2 w x y
    have A0 := A.at_
    have B0 := B.at_
    have HA := hide (mc_cells A)
    have HB := hide (mc_cells B)
    clear A B
    have hz : w.heap.size < w.heap.size + 1 + 1 := by omega
    have tk1 : True := trivial
    have tk2 : True := trivial
    go_enter Try.func53, Try.ntmps53
    go_wp2_with (first | (have _t := tk1; refine wpl_mac (.tmp 2) rfl A0 ?_ ?_ ?_; rfl; rfl; clear tk1) | (have _t := tk2; refine wpl_mac (.tmp 3) rfl B0 ?_ ?_ ?_; rfl; rfl; clear tk2))
    clear A0 B0
    obtain ⟨c0, c1, c2, c3, c4, c5⟩ := HA.out
    obtain ⟨d0, d1, d2, d3, d4, d5⟩ := HB.out
    go_region_held3 (fun w' => w'.cell? ⟨w.heap.size, 0, none⟩ = some (.int .u8 x.a) ∧ w'.cell? ⟨w.heap.size, 1, none⟩ = some (.int .u8 x.b) ∧ w'.cell? ⟨w.heap.size, 2, none⟩ = some (.int .u8 x.c) ∧ w'.cell? ⟨w.heap.size, 3, none⟩ = some (.int .u8 x.d) ∧ w'.cell? ⟨w.heap.size, 4, none⟩ = some (.int .u8 x.e) ∧ w'.cell? ⟨w.heap.size, 5, none⟩ = some (.int .u8 x.f) ∧ w'.cell? ⟨w.heap.size + 1, 0, none⟩ = some (.int .u8 y.a) ∧ w'.cell? ⟨w.heap.size + 1, 1, none⟩ = some (.int .u8 y.b) ∧ w'.cell? ⟨w.heap.size + 1, 2, none⟩ = some (.int .u8 y.c) ∧ w'.cell? ⟨w.heap.size + 1, 3, none⟩ = some (.int .u8 y.d) ∧ w'.cell? ⟨w.heap.size + 1, 4, none⟩ = some (.int .u8 y.e) ∧ w'.cell? ⟨w.heap.size + 1, 5, none⟩ = some (.int .u8 y.f)) (go_keep)
      (first | (go_at_call_of 64 x.a; refine (num64 x _ h).mono ?_; rintro e w1 ⟨rfl, hb⟩; obtain ⟨hc, hf⟩ := bcell hb; have hz1 : w.heap.size + 1 < w1.heap.size := (by have := hb.size; simp at this; omega); have hz0 : w.heap.size < w1.heap.size := (by omega)) | (go_at_call_of 64 y.a; refine (num64 y _ k).mono ?_; rintro e w2 ⟨rfl, hd⟩; obtain ⟨hc2, hf2⟩ := bcell hd))
    have hB : Below w.heap.size w w2 := ((((Below.refl _ _).alloc (Nat.le_refl _) _).alloc (by simp) _).drew.trans (hb.mono (by simp; omega))).trans (hd.mono (by omega))
    clear hc hf hb hd hc2 hf2
    go_wp2
    · go_ret
      exact ⟨ret_int (cmp3_lt (by assumption)).symm, hB⟩
    · go_ret
      have hx := HX.out
      exact ⟨ret_int (cmp3_gt (by omega)).symm, hB⟩
end
end Go.Proofs.Ytjlmheecefobaaa
