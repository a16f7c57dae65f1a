/- The contracts of Of. -/
import Derived.Test.YtokmkgjjiloacaaA2
namespace Go.Proofs.Ytokmkgjjiloacaa
open Go.RowKit

set_option maxRecDepth 100000 in
set_option maxHeartbeats 1000000 in
theorem of21_no (n : Int) (w : World) (h0 : 281474976710656 ≤ n) :
    Calls Try.prog 21 #[.int .u64 n] w fun e w' => e = .returned (.tuple #[.agg #[.int .u8 0, .int .u8 0, .int .u8 0, .int .u8 0, .int .u8 0, .int .u8 0], .int .i64 1]) ∧ Below w.heap.size w w' := by
  go_enter Try.func21, Try.ntmps21
  go_wp2
  refine bodyPost_ret (v := .tuple #[.agg #[.int .u8 0, .int .u8 0, .int .u8 0, .int .u8 0, .int .u8 0, .int .u8 0], .int .i64 1]) (by simp [results, Try.results21, go_sem]) rfl ⟨rfl, by go_grown⟩

set_option maxRecDepth 100000 in
set_option maxHeartbeats 1000000 in
theorem of22_no (n : Int) (w : World) (h0 : 281474976710656 ≤ n) :
    Calls Try.prog 22 #[.int .u64 n] w fun e w' => e = .returned (.tuple #[.agg #[.int .u8 0, .int .u8 0, .int .u8 0, .int .u8 0, .int .u8 0, .int .u8 0], .int .i64 1]) ∧ Below w.heap.size w w' := by
  go_enter Try.func22, Try.ntmps22
  go_wp2
  refine bodyPost_ret (v := .tuple #[.agg #[.int .u8 0, .int .u8 0, .int .u8 0, .int .u8 0, .int .u8 0, .int .u8 0], .int .i64 1]) (by simp [results, Try.results22, go_sem]) rfl ⟨rfl, by go_grown⟩

theorem b21_of (n : Int) (h0 : 0 ≤ n) (h1 : n < 281474976710656) : B6 (n / 256 / 256 / 256 / 256 / 256) (n / 256 / 256 / 256 / 256 % 256) (n / 256 / 256 / 256 % 256) (n / 256 / 256 % 256) (n / 256 % 256) (n % 256) := by constructor <;> omega
theorem n21_of (n : Int) (_h0 : 0 ≤ n) (_h1 : n < 281474976710656) : num (n / 256 / 256 / 256 / 256 / 256) (n / 256 / 256 / 256 / 256 % 256) (n / 256 / 256 / 256 % 256) (n / 256 / 256 % 256) (n / 256 % 256) (n % 256) = n := by unfold num; omega
theorem b22_of (n : Int) (_h0 : 0 ≤ n) (_h1 : n < 281474976710656) : B6 (n / 256 / 256 / 256 / 256 / 256 % 256) (n / 256 / 256 / 256 / 256 % 256) (n / 256 / 256 / 256 % 256) (n / 256 / 256 % 256) (n / 256 % 256) (n % 256) := by constructor <;> omega
theorem n22_of (n : Int) (h0 : 0 ≤ n) (h1 : n < 281474976710656) : num (n / 256 / 256 / 256 / 256 / 256 % 256) (n / 256 / 256 / 256 / 256 % 256) (n / 256 / 256 / 256 % 256) (n / 256 / 256 % 256) (n / 256 % 256) (n % 256) = n := by unfold num; omega

set_option maxRecDepth 100000 in
set_option maxHeartbeats 1000000 in
theorem of21_yes (n : Int) (w : World) (h0 : 0 ≤ n) (h1 : n < 281474976710656) :
    Calls Try.prog 21 #[.int .u64 n] w fun e w' => ∃ b0 b1 b2 b3 b4 b5 : Int, B6 b0 b1 b2 b3 b4 b5 ∧ num b0 b1 b2 b3 b4 b5 = n ∧ e = .returned (.tuple #[.agg #[.int .u8 b0, .int .u8 b1, .int .u8 b2, .int .u8 b3, .int .u8 b4, .int .u8 b5], .int .i64 0]) ∧ Below w.heap.size w w' := by
  go_enter Try.func21, Try.ntmps21
  go_wp2
  go_rounds 7
  exact bodyPost_ret (v := .tuple #[.agg #[.int .u8 (n / 256 / 256 / 256 / 256 / 256), .int .u8 (n / 256 / 256 / 256 / 256 % 256), .int .u8 (n / 256 / 256 / 256 % 256), .int .u8 (n / 256 / 256 % 256), .int .u8 (n / 256 % 256), .int .u8 (n % 256)], .int .i64 0]) (by simp [results, Try.results21, go_sem]) rfl ⟨_, _, _, _, _, _, b21_of n h0 h1, n21_of n h0 h1, rfl, by go_grown⟩

set_option maxRecDepth 100000 in
set_option maxHeartbeats 1000000 in
theorem of22_yes (n : Int) (w : World) (h0 : 0 ≤ n) (h1 : n < 281474976710656) :
    Calls Try.prog 22 #[.int .u64 n] w fun e w' => ∃ b0 b1 b2 b3 b4 b5 : Int, B6 b0 b1 b2 b3 b4 b5 ∧ num b0 b1 b2 b3 b4 b5 = n ∧ e = .returned (.tuple #[.agg #[.int .u8 b0, .int .u8 b1, .int .u8 b2, .int .u8 b3, .int .u8 b4, .int .u8 b5], .int .i64 0]) ∧ Below w.heap.size w w' := by
  go_enter Try.func22, Try.ntmps22
  go_wp2
  go_rounds 7
  exact bodyPost_ret (v := .tuple #[.agg #[.int .u8 (n / 256 / 256 / 256 / 256 / 256 % 256), .int .u8 (n / 256 / 256 / 256 / 256 % 256), .int .u8 (n / 256 / 256 / 256 % 256), .int .u8 (n / 256 / 256 % 256), .int .u8 (n / 256 % 256), .int .u8 (n % 256)], .int .i64 0]) (by simp [results, Try.results22, go_sem]) rfl ⟨_, _, _, _, _, _, b22_of n h0 h1, n22_of n h0 h1, rfl, by go_grown⟩

end Go.Proofs.Ytokmkgjjiloacaa
