/- The step that asks whether numbers fit; contracts of fits and of Right, as the program has it. -/
import Derived.Test.YtdaglmimfkcmeaaWa
import Derived.Test.YtdaglmimfkcmeaaA8
namespace Go.Proofs.Ytdaglmimfkcmeaa
open Go.RowKit

/-- A variable of one bool. -/
structure Flg (k : Nat) (a : Bool) (w : World) : Prop where
  at_ : w.cell? ⟨k, 0, none⟩ = some (.bool a)
  fr : w.frozen? ⟨k, 0, none⟩ = false
  lt : k < w.heap.size
theorem fit1_eq (n : Int) : (true && fit 1 n) = (n / 256 == 0) := by
  rw [Bool.true_and, Bool.eq_iff_iff, beq_iff_eq, fit, decide_eq_true_eq]; omega
theorem fit2_eq (n : Int) : (true && fit 2 n) = (n / 65536 == 0) := by
  rw [Bool.true_and, Bool.eq_iff_iff, beq_iff_eq, fit, decide_eq_true_eq]; omega
theorem fit4_eq (n : Int) : (true && fit 4 n) = (n / 4294967296 == 0) := by
  rw [Bool.true_and, Bool.eq_iff_iff, beq_iff_eq, fit, decide_eq_true_eq]; omega
theorem fit6_eq (n : Int) : (true && fit 6 n) = (n / 281474976710656 == 0) := by
  rw [Bool.true_and, Bool.eq_iff_iff, beq_iff_eq, fit, decide_eq_true_eq]; omega
set_option maxRecDepth 100000 in
set_option maxHeartbeats 1000000 in
theorem fits37 (k : Nat) (a : Bool) (n : Int) (j : Nat) (w : World) (h : Flg k a w) (hj : j = 1 ∨ j = 2 ∨ j = 4 ∨ j = 6) :
    Calls Try.prog 37 #[.int .i64 n, .int .i64 j, .pointer (some ⟨k, 0, none⟩)] w fun e w' => Mid k (k + 1) w w' ∧ e = .returned (.int .i64 n) ∧ Flg k (a && fit j n) w' := by
  have l := h.lt
  have M := (Mid.refl k (k + 1) w).grown (setCell_grown w k 0 (.bool (a && fit j n))) (Or.inr ⟨Nat.le_refl _, Nat.lt_succ_self _⟩)
  have F : Flg k (a && fit j n) (w.setCell ⟨k, 0, none⟩ (.bool (a && fit j n))) := ⟨World.cell?_setCell_same _ _ _ h.at_, by rw [World.frozen?_setCell]; exact h.fr, by have := (setCell_grown w k 0 (.bool (a && fit j n))).size; omega⟩
  have HM := hide (And.intro M F)
  obtain ⟨c1, f1, -⟩ := h
  clear l M F
  cases a
  · go_enter Try.func37, Try.ntmps37
    go_wp2
    go_ret
    exact ⟨HM.out.1, rfl, HM.out.2⟩
  · rcases hj with e | e | e | e <;> subst e
    · have q := hide (fit1_eq n)
      go_enter Try.func37, Try.ntmps37
      go_wp2
      go_ret
      rw [← q.out]
      exact ⟨HM.out.1, rfl, HM.out.2⟩
    · have q := hide (fit2_eq n)
      go_enter Try.func37, Try.ntmps37
      go_wp2
      go_ret
      rw [← q.out]
      exact ⟨HM.out.1, rfl, HM.out.2⟩
    · have q := hide (fit4_eq n)
      go_enter Try.func37, Try.ntmps37
      go_wp2
      go_ret
      rw [← q.out]
      exact ⟨HM.out.1, rfl, HM.out.2⟩
    · have q := hide (fit6_eq n)
      go_enter Try.func37, Try.ntmps37
      go_wp2
      go_ret
      rw [← q.out]
      exact ⟨HM.out.1, rfl, HM.out.2⟩
theorem ent37 (args : Array Value) (w : World) : (callFunc 37 args).run Try.prog w = .ok (.enter 37 args) w := by
  kernel_rfl
theorem stepFit (k : Nat) : StepC 37 #[.pointer (some ⟨k, 0, none⟩)] k (k + 1) (Flg k) sFit where
  run := fun s n j w r h hj hr => (fits37 k s n j w h hj).mono fun e w' ⟨M, he, F⟩ => ⟨M, Or.inr ⟨_, _, (Option.some.inj hr).symm, he, F⟩⟩
  on := fun s w w' h hb => ⟨(hb.cell (p := ⟨k, 0, none⟩) (Nat.lt_succ_self k)).trans h.at_, (hb.frozen (p := ⟨k, 0, none⟩) (Nat.lt_succ_self k)).trans h.fr, Nat.lt_of_lt_of_le h.lt hb.size⟩
  sz := fun s w h => h.lt
  ent := ent37
  six := fun s s' n m _ _ h h0 h1 => by
    injection h with h; injection h with h; injection h with h2 h3
    subst h3
    exact ⟨h0, h1⟩
theorem BC_bare : (BC zeroB).setIfInBounds 0 (.int .i64 128) = BC bare := rfl
section
attribute [local go_sem] ZB BC_bare
set_option maxRecDepth 100000 in
set_option maxHeartbeats 1000000 in
theorem fits23 (p : Bpd) (w : World) (hp : BpdB p) (k : knw p.kd = true) (k2 : ¬ p.kd = 128) :
    Calls Try.prog 23 #[.agg (BC p)] w fun e w' => e = .returned (.bool (fts p)) ∧ Below w.heap.size w w' := by
  obtain ⟨q, hq⟩ := wFit hp k k2
  have A0 : Box ((w.alloc (.cells (BC p) 27)).alloc (.cells #[.bool true] 4)) w.heap.size (bcl p) := (Box.new w (bcl p) 27).alloc _
  have B0 : Below w.heap.size w ((w.alloc (.cells (BC p) 27)).alloc (.cells #[.bool true] 4)) := by go_grown
  have I0 : Flg (w.heap.size + 1) true ((w.alloc (.cells (BC p) 27)).alloc (.cells #[.bool true] 4)) := ⟨by simp, by simp, by simp⟩
  have L0 : w.heap.size + 1 ≤ ((w.alloc (.cells (BC p) 27)).alloc (.cells #[.bool true] 4)).heap.size := by simp
  have HI := hide I0
  have hmf : ∀ (fn : Fn) (first cap : Array Value) (w : World), (Instr.makeFunc fn first cap).run Try.prog w = .ok (.func fn first cap) w := fun _ _ _ _ => rfl
  have HK := hide k2
  clear I0 k k2
  have tk1 : True := trivial
  go_enter Try.func23, Try.ntmps23
  go_wp2_with (have _t := tk1; refine wpl_bpdu (.tmp 1) rfl A0 ?_ ?_ ?_; rfl; rfl; clear tk1)
  refine (walk18 (stepFit (w.heap.size + 1)) true p hp _ _ HI.out hq).mono ?_
  rintro e w1 ⟨M1, ⟨h, -⟩ | ⟨s', m, h, rfl, I⟩⟩
  · cases h
  injection h with h; injection h with h1 h2
  subst h1 h2
  have c1 := I.at_
  have B1 := B0.trans ((M1.below L0).mono (Nat.le_succ _))
  clear M1 B0 HI hq A0 I
  go_wp2
  go_ret
  exact ⟨rfl, B1⟩
set_option maxRecDepth 100000 in
set_option maxHeartbeats 1000000 in
theorem right12 (p : Bpd) (w : World) (hp : BpdB p) :
    Calls Try.prog 12 #[.agg (BC p)] w fun e w' => e = .returned (.bool (brt p)) ∧ Below w.heap.size w w' := by
  have A0 : Box (w.alloc (.cells (BC p) 27)) w.heap.size (bcl p) := Box.new w (bcl p) 27
  have B0 := below_alloc w (.cells (BC p) 27)
  have c0 := A0.cell 0 (.int .i64 p.kd) rfl
  have tk1 : True := trivial
  by_cases h : p.kd = 128
  · have h1 : (p.kd == 128) = true := by simp [h]
    have he := eqB p bare
    rw [brt_ch h]
    clear h
    go_enter Try.func12, Try.ntmps12
    go_wp2_with (have _t := tk1; refine wpl_bpdu (.tmp 1) rfl A0 ?_ ?_ ?_; rfl; rfl; clear tk1)
    go_ret
    exact ⟨rfl, B0⟩
  · have h1 : (p.kd == 128) = false := by simp [h]
    rw [brt_no h]
    have H := hide h
    cases hk : knw p.kd
    · clear h
      go_enter Try.func12, Try.ntmps12
      go_wp2_with (go_at_call 22; refine (known22 _ _).mono ?_; rw [hk]; rintro e w' ⟨rfl, rfl⟩)
      go_ret
      exact ⟨rfl, B0⟩
    · clear h
      have HK := hide hk
      go_enter Try.func12, Try.ntmps12
      go_wp2_with (first | (go_at_call 22; refine (known22 _ _).mono ?_; rw [hk]; rintro e w' ⟨rfl, rfl⟩) | (have _t := tk1; refine wpl_bpdu (.tmp 1) rfl A0 ?_ ?_ ?_; rfl; rfl; clear tk1))
      refine (fits23 p _ hp HK.out H.out).mono ?_
      rintro e w1 ⟨rfl, hb⟩
      clear A0 c0
      go_wp2
      go_ret
      exact ⟨ret_bool (by simp), belowOn B0 hb⟩
end
end Go.Proofs.Ytdaglmimfkcmeaa
