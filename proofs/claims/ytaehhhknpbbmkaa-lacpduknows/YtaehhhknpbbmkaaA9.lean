/- Contracts of Less and Knows, of the program and of the document's own answers. -/
import Derived.Test.YtaehhhknpbbmkaaA8
import Derived.Laws.Unary
namespace Go.Proofs.Ytaehhhknpbbmkaa
open Go.RowKit

section
attribute [local go_sem] IC0 IC1 IC2 IC3 IC4 IC5 IC6 IC7 IC8 IC9 IC10
set_option maxRecDepth 100000 in
set_option maxHeartbeats 1000000 in
theorem less18 (a b : Inf) (w : World) (ha : Rng (ml a)) (hb : Rng (ml b)) :
    Calls Try.prog 18 #[.agg (IC a), .agg (IC b)] w fun e w' => e = .returned (.bool (ls a b)) ∧ Below w.heap.size w w' := by
  have HA := hide (b6 ha)
  have HB := hide (b6 hb)
  clear ha hb
  by_cases h1 : a.sp = b.sp
  · have h2 : (a.sp != b.sp) = false := by simp [h1]
    have h3 : ls a b = decide (nm a < nm b) := by simp [ls, h1]
    rw [h3]
    clear h3 h1
    go_enter Try.func18, Try.ntmps18
    go_wp2_with fail
    refine (cmp33 _ _ _ _ _ _ _ _ _ _ _ _ _ HA.out HB.out).mono ?_
    rintro e w1 ⟨rfl, hb⟩
    go_wp2
    go_ret
    exact ⟨ret_bool (cmp3_neg _ _), belowOn (by go_grown) hb⟩
  · have h2 : (a.sp != b.sp) = true := by simp [h1]
    have h3 : ls a b = decide (a.sp < b.sp) := by simp [ls, h1]
    rw [h3]
    clear h3 h1
    go_enter Try.func18, Try.ntmps18
    go_wp2
    go_ret
    exact ⟨rfl, by go_grown⟩
set_option maxRecDepth 100000 in
set_option maxHeartbeats 1000000 in
theorem less19 (a b : Inf) (w : World) (ha : Rng (ml a)) (hb : Rng (ml b)) :
    Calls Try.prog 19 #[.agg (IC a), .agg (IC b)] w fun e w' => e = .returned (.bool (ls a b)) ∧ Below w.heap.size w w' := by
  have HA := hide (b6 ha)
  have HB := hide (b6 hb)
  clear ha hb
  by_cases h1 : a.sp < b.sp
  · have h3 : ls a b = true := by simp [ls, h1]
    rw [h3]
    clear h3
    go_enter Try.func19, Try.ntmps19
    go_wp2
    go_ret
    exact ⟨rfl, by go_grown⟩
  · have h1' : decide (a.sp < b.sp) = false := by simp; omega
    by_cases h2 : a.sp = b.sp
    · have h4 : (a.sp == b.sp) = true := by simp [h2]
      have h3 : ls a b = decide (nm a < nm b) := by simp [ls, h2]
      rw [h3]
      clear h3 h2 h1
      go_enter Try.func19, Try.ntmps19
      go_wp2_with fail
      refine (cmp34 _ _ _ _ _ _ _ _ _ _ _ _ _ HA.out HB.out).mono ?_
      rintro e w1 ⟨rfl, hb⟩
      go_wp2
      go_ret
      exact ⟨ret_bool (cmp3_neg _ _), belowOn (by go_grown) hb⟩
    · have h4 : (a.sp == b.sp) = false := by simp [h2]
      have h3 : ls a b = false := by simp [ls, h2]; omega
      rw [h3]
      clear h3 h2 h1
      go_enter Try.func19, Try.ntmps19
      go_wp2
      go_ret
      exact ⟨rfl, by go_grown⟩
/-- Does one end know the other one? -/
def kn (a b : Inf) : Bool := a.sp == b.sp && (eq6 a.m0 a.m1 a.m2 a.m3 a.m4 a.m5 b.m0 b.m1 b.m2 b.m3 b.m4 b.m5 && (a.ky == b.ky && (a.pp == b.pp && (a.po == b.po && (bits .and .i64 a.st 4 == bits .and .i64 b.st 4 && (bits .and .i64 a.st 8 == 0 || bits .and .i64 b.st 8 != 0))))))
theorem kn_self (a : Inf) : kn a a = true := by
  simp only [kn, beq_self_eq_true, eq6_self, Bool.true_and]
  cases h : bits .and .i64 a.st 8 == 0
  · simp only [bne, h, Bool.not_false, Bool.or_true]
  · rfl
/-- Without its State. -/
def s0 (x : Inf) : Inf := { x with st := 0 }
theorem IC_s0 (x : Inf) : (IC x).setIfInBounds 10 (.int .i64 0) = IC (s0 x) := rfl
theorem kn_s0 (a b : Inf) : kn a b = (ieq (s0 a) (s0 b) && (bits .and .i64 a.st 4 == bits .and .i64 b.st 4 && (bits .and .i64 a.st 8 == 0 || bits .and .i64 b.st 8 != 0))) := by
  simp only [kn, ieq, s0, beq_self_eq_true, Bool.and_true, Bool.and_assoc]
section
attribute [local go_sem] IC_s0
set_option maxRecDepth 100000 in
set_option maxHeartbeats 1000000 in
theorem knows16 (a b : Inf) (w : World) :
    Calls Try.prog 16 #[.agg (IC a), .agg (IC b)] w fun e w' => e = .returned (.bool (kn a b)) ∧ Below w.heap.size w w' := by
  have he := eqI (s0 a) (s0 b)
  have A0 := ((Box.new w (icl (s0 a)) 25).alloc (.cells (IC (s0 b)) 25)).at_
  have B0 : World.rangeAt ((w.alloc (.cells (IC (s0 a)) 25)).alloc (.cells (IC (s0 b)) 25)) (w.heap.size + 1) 0 (icl (s0 b)) := by
    have h := (Box.new (w.alloc (.cells (IC (s0 a)) 25)) (icl (s0 b)) 25).at_
    rw [World.size_alloc] at h
    exact h
  rw [kn_s0]
  cases h1 : ieq (s0 a) (s0 b) <;> cases h2 : bits .and .i64 a.st 4 == bits .and .i64 b.st 4 <;> cases h3 : bits .and .i64 a.st 8 == 0
  all_goals
    have tk1 : True := trivial
    have tk2 : True := trivial
    go_enter Try.func16, Try.ntmps16
    go_wp2_with (first | (have _t := tk1; refine wpl_info (.tmp 2) rfl A0 ?_ ?_ ?_; rfl; rfl; clear tk1) | (have _t := tk2; refine wpl_info (.tmp 3) rfl B0 ?_ ?_ ?_; rfl; rfl; clear tk2))
    all_goals
      go_ret
      exact ⟨by first | rfl | (exact ret_bool (by simp [*])), by go_grown⟩
end
set_option maxRecDepth 100000 in
set_option maxHeartbeats 1000000 in
theorem knows17 (a b : Inf) (w : World) :
    Calls Try.prog 17 #[.agg (IC a), .agg (IC b)] w fun e w' => e = .returned (.bool (kn a b)) ∧ Below w.heap.size w w' := by
  have he := eqMac a.m0 a.m1 a.m2 a.m3 a.m4 a.m5 b.m0 b.m1 b.m2 b.m3 b.m4 b.m5
  by_cases h1 : a.sp = b.sp
  · have k1 : (a.sp != b.sp) = false := by simp [h1]
    have j1 : (a.sp == b.sp) = true := by simp [h1]
    clear h1
    cases h2 : eq6 a.m0 a.m1 a.m2 a.m3 a.m4 a.m5 b.m0 b.m1 b.m2 b.m3 b.m4 b.m5
    · have hk : kn a b = false := by simp [kn, j1, h2]
      rw [hk]
      clear hk
      go_enter Try.func17, Try.ntmps17
      go_wp2
      go_ret
      exact ⟨rfl, by go_grown⟩
    · by_cases h3 : a.ky = b.ky
      · have k3 : (a.ky != b.ky) = false := by simp [h3]
        have j3 : (a.ky == b.ky) = true := by simp [h3]
        clear h3
        by_cases h4 : a.pp = b.pp
        · have k4 : (a.pp != b.pp) = false := by simp [h4]
          have j4 : (a.pp == b.pp) = true := by simp [h4]
          clear h4
          by_cases h5 : a.po = b.po
          · have k5 : (a.po != b.po) = false := by simp [h5]
            have j5 : (a.po == b.po) = true := by simp [h5]
            clear h5
            have hk : kn a b = (bits .and .i64 a.st 4 == bits .and .i64 b.st 4 && (bits .and .i64 a.st 8 == 0 || bits .and .i64 b.st 8 != 0)) := by simp only [kn, j1, h2, j3, j4, j5, Bool.true_and]
            rw [hk]
            clear hk
            cases h6 : bits .and .i64 a.st 4 == bits .and .i64 b.st 4 <;> cases h7 : bits .and .i64 a.st 8 == 0
            all_goals
              go_enter Try.func17, Try.ntmps17
              go_wp2
              all_goals
                go_ret
                exact ⟨by first | rfl | (exact ret_bool (by simp [*])), by go_grown⟩
          · have k5 : (a.po != b.po) = true := by simp [h5]
            have hk : kn a b = false := by simp [kn, h5]
            rw [hk]
            clear hk h5
            go_enter Try.func17, Try.ntmps17
            go_wp2
            go_ret
            exact ⟨rfl, by go_grown⟩
        · have k4 : (a.pp != b.pp) = true := by simp [h4]
          have hk : kn a b = false := by simp [kn, h4]
          rw [hk]
          clear hk h4
          go_enter Try.func17, Try.ntmps17
          go_wp2
          go_ret
          exact ⟨rfl, by go_grown⟩
      · have k3 : (a.ky != b.ky) = true := by simp [h3]
        have hk : kn a b = false := by simp [kn, h3]
        rw [hk]
        clear hk h3
        go_enter Try.func17, Try.ntmps17
        go_wp2
        go_ret
        exact ⟨rfl, by go_grown⟩
  · have k1 : (a.sp != b.sp) = true := by simp [h1]
    have hk : kn a b = false := by simp [kn, h1]
    rw [hk]
    clear hk h1
    go_enter Try.func17, Try.ntmps17
    go_wp2
    go_ret
    exact ⟨rfl, by go_grown⟩
end
end Go.Proofs.Ytaehhhknpbbmkaa
