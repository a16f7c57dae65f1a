/- Contracts: rightTag, Right, of both. -/
import Derived.Test.YtelinahpneikiaaA2
namespace Go.Proofs.Ytelinahpneikiaa
open Go.RowKit

section
attribute [local go_sem] FC12 FC13 FC14 FC15 FC16 FC_size
set_option maxRecDepth 100000 in
set_option maxHeartbeats 4000000 in
theorem rightTag48 (f : Fd) (s : Value) (w : World) :
    Calls Try.prog 48 #[.agg (FC f s)] w fun e w' => e = .returned (.bool (tok f)) ∧ Below w.heap.size w w' := by
  have B0 := below_alloc w (.cells (FC f s) 37)
  have E := hide (show tok f = if f.tg then decide (0 ≤ f.vl) && decide (f.vl ≤ 4094) && decide (0 ≤ f.pr) && decide (f.pr ≤ 7) else f.vl == 0 && f.pr == 0 from rfl)
  rcases Bool.eq_false_or_eq_true f.tg with h | h
  · rw [h, if_pos rfl] at E
    by_cases h1 : 0 ≤ f.vl
    · by_cases h2 : f.vl ≤ 4094
      · by_cases h3 : 0 ≤ f.pr
        · by_cases h4 : f.pr ≤ 7
          · go_enter Try.func48, Try.ntmps48
            go_wp2
            go_ret
            exact ⟨ret_bool (by rw [E.out]; simp [h1, h2, h3, h4]), B0⟩
          · go_enter Try.func48, Try.ntmps48
            go_wp2
            go_ret
            exact ⟨ret_bool (by rw [E.out]; simp [h1, h2, h3]; omega), B0⟩
        · go_enter Try.func48, Try.ntmps48
          go_wp2
          go_ret
          exact ⟨ret_bool (by rw [E.out]; simp; omega), B0⟩
      · go_enter Try.func48, Try.ntmps48
        go_wp2
        go_ret
        exact ⟨ret_bool (by rw [E.out]; simp; omega), B0⟩
    · go_enter Try.func48, Try.ntmps48
      go_wp2
      go_ret
      exact ⟨ret_bool (by rw [E.out]; simp; omega), B0⟩
  · rw [h, if_neg (by simp)] at E
    rcases Bool.eq_false_or_eq_true (f.vl == 0) with h1 | h1
    · rcases Bool.eq_false_or_eq_true (f.pr == 0) with h2 | h2
      all_goals
        go_enter Try.func48, Try.ntmps48
        go_wp2
        go_ret
        exact ⟨ret_bool (by rw [E.out, h1, h2]; rfl), B0⟩
    · go_enter Try.func48, Try.ntmps48
      go_wp2
      go_ret
      exact ⟨ret_bool (by rw [E.out, h1]; rfl), B0⟩
set_option maxRecDepth 100000 in
set_option maxHeartbeats 4000000 in
theorem right34 (f : Fd) (a : Option Addr) (n c : Nat) (hl : f.bs.length = n) (w : World) :
    Calls Try.prog 34 #[.agg (FC f (.slice a n c))] w fun e w' => e = .returned (.bool (rt f)) ∧ Below w.heap.size w w' := by
  have B0 := below_alloc w (.cells (FC f (.slice a n c)) 37)
  have A0 : Box (w.alloc (.cells (FC f (.slice a n c)) 37)) w.heap.size (fcl f (.slice a n c)) := Box.new w _ 37
  have E := hide (show rt f = (decide (1536 ≤ f.ty) && decide (f.ty ≤ 65535) && !(f.ty == 33024) && decide ((f.bs.length : Int) ≤ 1500) && tok f) from rfl)
  rw [hl] at E
  by_cases h1 : 1536 ≤ f.ty
  · by_cases h2 : f.ty ≤ 65535
    · rcases Bool.eq_false_or_eq_true (f.ty == 33024) with h3 | h3
      · have h3' : (f.ty != 33024) = false := by simp [bne, h3]
        go_enter Try.func34, Try.ntmps34
        go_wp2
        go_ret
        exact ⟨ret_bool (by rw [E.out, h3]; simp), B0⟩
      · have h3' : (f.ty != 33024) = true := by simp [bne, h3]
        by_cases h4 : (n : Int) ≤ 1500
        · have tk1 : True := trivial
          have HH : Hid (rt f = tok f) := hide (by rw [E.out, h3]; simp [h1, h2]; intro _; omega)
          go_enter Try.func34, Try.ntmps34
          go_wp2_with (first | (have _t := tk1; refine wpl_frame (.tmp 1) rfl A0 ?_ ?_ ?_; rfl; rfl; clear tk1))
          refine (rightTag48 f _ _).mono ?_
          rintro e w1 ⟨rfl, B1⟩
          have BB := belowOn B0 B1
          clear B1 A0
          go_wp2
          go_ret
          exact ⟨ret_bool (by rw [HH.out]), BB⟩
        · go_enter Try.func34, Try.ntmps34
          go_wp2
          go_ret
          exact ⟨ret_bool (by rw [E.out, h3]; simp; omega), B0⟩
    · go_enter Try.func34, Try.ntmps34
      go_wp2
      go_ret
      exact ⟨ret_bool (by rw [E.out]; simp; omega), B0⟩
  · go_enter Try.func34, Try.ntmps34
    go_wp2
    go_ret
    exact ⟨ret_bool (by rw [E.out]; simp; omega), B0⟩
set_option maxRecDepth 100000 in
set_option maxHeartbeats 8000000 in
theorem right35 (f : Fd) (a : Option Addr) (n c : Nat) (hl : f.bs.length = n) (w : World) :
    Calls Try.prog 35 #[.agg (FC f (.slice a n c))] w fun e w' => e = .returned (.bool (rt f)) ∧ Below w.heap.size w w' := by
  have B0 := below_alloc w (.cells (FC f (.slice a n c)) 37)
  have E := hide (show rt f = (decide (1536 ≤ f.ty) && decide (f.ty ≤ 65535) && !(f.ty == 33024) && decide ((f.bs.length : Int) ≤ 1500) && tok f) from rfl)
  have E2 := hide (show tok f = if f.tg then decide (0 ≤ f.vl) && decide (f.vl ≤ 4094) && decide (0 ≤ f.pr) && decide (f.pr ≤ 7) else f.vl == 0 && f.pr == 0 from rfl)
  rw [hl] at E
  by_cases h1 : f.ty < 1536
  · go_enter Try.func35, Try.ntmps35
    go_wp2
    go_ret
    exact ⟨ret_bool (by rw [E.out]; simp; omega), B0⟩
  · by_cases h2 : 65535 < f.ty
    · go_enter Try.func35, Try.ntmps35
      go_wp2
      go_ret
      exact ⟨ret_bool (by rw [E.out]; simp; omega), B0⟩
    · rcases Bool.eq_false_or_eq_true (f.ty == 33024) with h3 | h3
      · go_enter Try.func35, Try.ntmps35
        go_wp2
        go_ret
        exact ⟨ret_bool (by rw [E.out, h3]; simp), B0⟩
      · by_cases h4 : (1500 : Int) < n
        · go_enter Try.func35, Try.ntmps35
          go_wp2
          go_ret
          exact ⟨ret_bool (by rw [E.out, h3]; simp; omega), B0⟩
        · have HH : Hid (rt f = tok f) := hide (by
            rw [E.out, h3]
            have a1 : 1536 ≤ f.ty := by omega
            have a2 : f.ty ≤ 65535 := by omega
            have a3 : (n : Int) ≤ 1500 := by omega
            rw [decide_eq_true a1, decide_eq_true a2, decide_eq_true a3]
            simp)
          rcases Bool.eq_false_or_eq_true f.tg with h | h
          · rw [h, if_pos rfl] at E2
            by_cases g1 : 0 ≤ f.vl
            · by_cases g2 : f.vl ≤ 4094
              · by_cases g3 : 0 ≤ f.pr
                · by_cases g4 : f.pr ≤ 7
                  · go_enter Try.func35, Try.ntmps35
                    go_wp2
                    go_ret
                    exact ⟨ret_bool (by rw [HH.out, E2.out]; simp [g1, g2, g3, g4]), B0⟩
                  · go_enter Try.func35, Try.ntmps35
                    go_wp2
                    go_ret
                    exact ⟨ret_bool (by rw [HH.out, E2.out]; simp [g1, g2, g3]; omega), B0⟩
                · go_enter Try.func35, Try.ntmps35
                  go_wp2
                  go_ret
                  exact ⟨ret_bool (by rw [HH.out, E2.out]; simp; omega), B0⟩
              · go_enter Try.func35, Try.ntmps35
                go_wp2
                go_ret
                exact ⟨ret_bool (by rw [HH.out, E2.out]; simp; omega), B0⟩
            · go_enter Try.func35, Try.ntmps35
              go_wp2
              go_ret
              exact ⟨ret_bool (by rw [HH.out, E2.out]; simp; omega), B0⟩
          · rw [h, if_neg (by simp)] at E2
            rcases Bool.eq_false_or_eq_true (f.vl == 0) with g1 | g1
            · rcases Bool.eq_false_or_eq_true (f.pr == 0) with g2 | g2
              all_goals
                go_enter Try.func35, Try.ntmps35
                go_wp2
                go_ret
                exact ⟨ret_bool (by rw [HH.out, E2.out, g1, g2]; rfl), B0⟩
            · go_enter Try.func35, Try.ntmps35
              go_wp2
              go_ret
              exact ⟨ret_bool (by rw [HH.out, E2.out, g1]; rfl), B0⟩
end
end Go.Proofs.Ytelinahpneikiaa
