/- Contracts of mayBe and right; the program's table in memory; next, way, first. -/
import Derived.Test.YtjlmheecefobaaaA3
namespace Go.Proofs.Ytjlmheecefobaaa
open Go.RowKit Go.PlainAid

theorem rgt_no {v : Int} {m : Mc} {p : Int} (h : ¬ (1 ≤ v ∧ v ≤ 4094 ∧ 0 ≤ p ∧ p ≤ 1000)) : rgt v m p = false := by
  rw [Bool.eq_false_iff]
  intro e
  have := rgt_v e
  omega
set_option maxRecDepth 100000 in
set_option maxHeartbeats 1000000 in
theorem maybe39 (v : Int) (m : Mc) (p : Int) (w : World) (h : Mok m) :
    Calls Try.prog 39 #[.int .i64 v, .agg (MC m), .int .i64 p] w fun e w' => e = .returned (.bool (rgt v m p)) ∧ Below w.heap.size w w' := by
  have A0 := (box_m w m).at_
  have W0 : Hid (Below w.heap.size w (w.alloc (.cells (MC m) 34))) := hide (below_alloc w _)
  by_cases h1 : 1 ≤ v
  · by_cases h2 : v ≤ 4094
    · have q := fun w => group56 m w h
      have e : rgt v m p = (isP p && !grp m) := by simp [rgt, isV, h1, h2]
      rw [e]
      generalize grp m = g at q ⊢
      have tk1 : True := trivial
      cases g
      · by_cases h3 : 0 ≤ p
        · by_cases h4 : p ≤ 1000
          all_goals
            go_enter Try.func39, Try.ntmps39
            go_wp2_with (first | (have _t := tk1; refine wpl_mac (.tmp 4) rfl A0 ?_ ?_ ?_; rfl; rfl; clear tk1) | (go_at_call 56; refine (q _).mono ?_; rintro e w1 ⟨rfl, hb⟩))
            go_ret
            exact ⟨ret_bool (by simp [isP, h3, h4]), belowOn W0.out hb⟩
        · go_enter Try.func39, Try.ntmps39
          go_wp2_with (first | (have _t := tk1; refine wpl_mac (.tmp 4) rfl A0 ?_ ?_ ?_; rfl; rfl; clear tk1) | (go_at_call 56; refine (q _).mono ?_; rintro e w1 ⟨rfl, hb⟩))
          go_ret
          exact ⟨ret_bool (by simp [isP]; omega), belowOn W0.out hb⟩
      · go_enter Try.func39, Try.ntmps39
        go_wp2_with (first | (have _t := tk1; refine wpl_mac (.tmp 4) rfl A0 ?_ ?_ ?_; rfl; rfl; clear tk1) | (go_at_call 56; refine (q _).mono ?_; rintro e w1 ⟨rfl, hb⟩))
        go_ret
        exact ⟨ret_bool (by simp), belowOn W0.out hb⟩
    · go_enter Try.func39, Try.ntmps39
      go_wp2
      go_ret
      exact ⟨ret_bool ((rgt_no (by omega)).symm), W0.out⟩
  · go_enter Try.func39, Try.ntmps39
    go_wp2
    go_ret
    exact ⟨ret_bool ((rgt_no (by omega)).symm), W0.out⟩
end Go.Proofs.Ytjlmheecefobaaa
