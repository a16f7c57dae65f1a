/- Contracts of Right, as the program and as the document has it. -/
import Derived.Test.YtmpojeehjhpkbaaA1
namespace Go.Proofs.Ytmpojeehjhpkbaa
open Go.RowKit

set_option maxRecDepth 100000 in
set_option maxHeartbeats 1000000 in
theorem tok23 (f : Fd) (b : Value) (w : World) :
    Calls Try.prog 34 #[.agg #[.int .u8 f.d0, .int .u8 f.d1, .int .u8 f.d2, .int .u8 f.d3, .int .u8 f.d4, .int .u8 f.d5, .int .u8 f.s0, .int .u8 f.s1, .int .u8 f.s2, .int .u8 f.s3, .int .u8 f.s4, .int .u8 f.s5, .bool f.tg, .int .i64 f.vl, .int .i64 f.pr, .int .i64 f.ty, b]] w fun e w' => e = .returned (.bool (tok f)) ∧ Below w.heap.size w w' := by
  cases ht : f.tg
  · by_cases h1 : f.vl = 0 <;> by_cases h2 : f.pr = 0
    all_goals
      have HT := hide ht
      have ht2 : tok f = decide (f.vl = 0 ∧ f.pr = 0) := by simp [tok, ht]
      rw [ht2]
      clear ht2
      go_enter Try.func34, Try.ntmps34
      go_wp2
      go_ret
      exact ⟨ret_bool (by simp [*]), by go_grown⟩
  · have ht2 : tok f = decide (0 ≤ f.vl ∧ f.vl ≤ 4094 ∧ 0 ≤ f.pr ∧ f.pr ≤ 7) := by simp [tok, ht]
    rw [ht2]
    clear ht2
    go_enter Try.func34, Try.ntmps34
    go_wp2
    all_goals
      go_ret
      exact ⟨ret_bool (by first | (simp [*]; done) | (rw [Bool.eq_iff_iff]; simp; omega)), by go_grown⟩
theorem rt_no {f : Fd} (h : ¬ (1536 ≤ f.ty ∧ f.ty ≤ 65535 ∧ f.ty ≠ 33024 ∧ f.bs.length ≤ 1500)) : rt f = false := by simp only [rt, decide_eq_false h, Bool.false_and]
theorem rt_yes {f : Fd} (h : 1536 ≤ f.ty ∧ f.ty ≤ 65535 ∧ f.ty ≠ 33024 ∧ f.bs.length ≤ 1500) : rt f = tok f := by simp only [rt, decide_eq_true h, Bool.true_and]
set_option maxRecDepth 100000 in
set_option maxHeartbeats 1000000 in
theorem right12 (f : Fd) (ao : Option Addr) (n c : Nat) (w : World) (hn : f.bs.length = n) :
    Calls Try.prog 27 #[.agg #[.int .u8 f.d0, .int .u8 f.d1, .int .u8 f.d2, .int .u8 f.d3, .int .u8 f.d4, .int .u8 f.d5, .int .u8 f.s0, .int .u8 f.s1, .int .u8 f.s2, .int .u8 f.s3, .int .u8 f.s4, .int .u8 f.s5, .bool f.tg, .int .i64 f.vl, .int .i64 f.pr, .int .i64 f.ty, (.slice ao n c)]] w fun e w' => e = .returned (.bool (rt f)) ∧ Below w.heap.size w w' := by
  by_cases hg : 1536 ≤ f.ty ∧ f.ty ≤ 65535 ∧ f.ty ≠ 33024 ∧ f.bs.length ≤ 1500
  · rw [rt_yes hg]
    obtain ⟨h1, h2, h3, h4⟩ := hg
    replace h4 : (n : Int) ≤ 1500 := by omega
    have h3' : (f.ty != 33024) = true := by simp [h3]
    have A0 := AtF.new w f (.slice ao n c)
    clear h3 hn
    go_enter Try.func27, Try.ntmps27
    go_wp2_with (first | (go_at_call 34; refine (tok23 f _ _).mono ?_; rintro e w1 ⟨rfl, hb⟩) | (refine wpl_frame (.tmp 1) rfl A0 ?_ ?_ ?_; rfl; rfl))
    go_ret
    exact ⟨rfl, belowOn (below_alloc _ _) hb⟩
  · rw [rt_no hg]
    rw [hn] at hg
    clear hn
    by_cases h1 : 1536 ≤ f.ty
    · by_cases h2 : f.ty ≤ 65535
      · by_cases h3 : f.ty = 33024
        · have h3' : (f.ty != 33024) = false := by simp [h3]
          clear hg h3
          go_enter Try.func27, Try.ntmps27
          go_wp2
          go_ret
          exact ⟨rfl, by go_grown⟩
        · have h3' : (f.ty != 33024) = true := by simp [h3]
          have h4 : (1500 : Int) < n := by
            have : ¬ n ≤ 1500 := fun h => hg ⟨h1, h2, h3, h⟩
            omega
          have h4' : decide ((n : Int) ≤ 1500) = false := by simp; omega
          clear hg h3
          go_enter Try.func27, Try.ntmps27
          go_wp2
          go_ret
          exact ⟨rfl, by go_grown⟩
      · clear hg
        go_enter Try.func27, Try.ntmps27
        go_wp2
        go_ret
        exact ⟨rfl, by go_grown⟩
    · clear hg
      go_enter Try.func27, Try.ntmps27
      go_wp2
      go_ret
      exact ⟨rfl, by go_grown⟩
end Go.Proofs.Ytmpojeehjhpkbaa
