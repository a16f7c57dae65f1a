/- Plain facts: six bytes as a number, which of two is less. -/
import Derived.Test.YtaehhhknpbbmkaaPlain
namespace Go.Proofs.Ytaehhhknpbbmkaa
open Go.RowKit

/-- Six bytes. -/
structure B6 (a0 a1 a2 a3 a4 a5 : Int) : Prop where
  l0 : 0 ≤ a0
  u0 : a0 ≤ 255
  l1 : 0 ≤ a1
  u1 : a1 ≤ 255
  l2 : 0 ≤ a2
  u2 : a2 ≤ 255
  l3 : 0 ≤ a3
  u3 : a3 ≤ 255
  l4 : 0 ≤ a4
  u4 : a4 ≤ 255
  l5 : 0 ≤ a5
  u5 : a5 ≤ 255

/-- The bytes as a number. -/
def num (a0 a1 a2 a3 a4 a5 : Int) : Int := ((((a0 * 256 + a1) * 256 + a2) * 256 + a3) * 256 + a4) * 256 + a5

theorem num_lo {a0 a1 a2 a3 a4 a5 : Int} (h : B6 a0 a1 a2 a3 a4 a5) : 0 ≤ num a0 a1 a2 a3 a4 a5 := by
  obtain ⟨l0, u0, l1, u1, l2, u2, l3, u3, l4, u4, l5, u5⟩ := h
  unfold num; omega
theorem num_hi {a0 a1 a2 a3 a4 a5 : Int} (h : B6 a0 a1 a2 a3 a4 a5) : num a0 a1 a2 a3 a4 a5 < 281474976710656 := by
  obtain ⟨l0, u0, l1, u1, l2, u2, l3, u3, l4, u4, l5, u5⟩ := h
  unfold num; omega

/-- Six numbers are the same six. -/
def eq6 (a0 a1 a2 a3 a4 a5 b0 b1 b2 b3 b4 b5 : Int) : Bool := a0 == b0 && (a1 == b1 && (a2 == b2 && (a3 == b3 && (a4 == b4 && a5 == b5))))
theorem eq6_num {a0 a1 a2 a3 a4 a5 b0 b1 b2 b3 b4 b5 : Int} (h : B6 a0 a1 a2 a3 a4 a5) (k : B6 b0 b1 b2 b3 b4 b5) :
    eq6 a0 a1 a2 a3 a4 a5 b0 b1 b2 b3 b4 b5 = (num a0 a1 a2 a3 a4 a5 == num b0 b1 b2 b3 b4 b5) := by
  obtain ⟨l0, u0, l1, u1, l2, u2, l3, u3, l4, u4, l5, u5⟩ := h
  obtain ⟨m0, v0, m1, v1, m2, v2, m3, v3, m4, v4, m5, v5⟩ := k
  rw [Bool.eq_iff_iff]
  simp only [eq6, num, Bool.and_eq_true, beq_iff_eq]
  omega
theorem eq6_self (a0 a1 a2 a3 a4 a5 : Int) : eq6 a0 a1 a2 a3 a4 a5 a0 a1 a2 a3 a4 a5 = true := by simp [eq6]

/-- 'x << 8 | b' of a uint64 that has room. -/
theorem or8 (x b : Int) (h0 : 0 ≤ x) (h1 : x < 1099511627776) (g0 : 0 ≤ b) (g1 : b ≤ 255) :
    bits .or .u64 (IntKind.u64.wrap (x * 256)) (IntKind.u64.wrap b) = x * 256 + b := by
  have e1 : IntKind.u64.wrap (x * 256) = x * 256 := IntWalk.u64_in _ (by omega)
  have e2 : IntKind.u64.wrap b = b := IntWalk.u64_in _ (by omega)
  rw [e1, e2, u64_or _ _ (by omega) (by omega) (by omega) (by omega), nat_join 8 _ _ (by omega) (by omega)]
  omega
theorem or0 (b : Int) (g0 : 0 ≤ b) (g1 : b ≤ 255) : bits .or .u64 0 (IntKind.u64.wrap b) = b := by
  have e2 : IntKind.u64.wrap b = b := IntWalk.u64_in _ (by omega)
  rw [e2, u64_or _ _ (by omega) (by omega) (by omega) (by omega), nat_join 8 _ _ (by omega) (by omega)]
  omega
theorem or_num {a0 a1 a2 a3 a4 a5 : Int} (h : B6 a0 a1 a2 a3 a4 a5) :
    bits .or .u64 (IntKind.u64.wrap (bits .or .u64 (IntKind.u64.wrap (bits .or .u64 (IntKind.u64.wrap (bits .or .u64 (IntKind.u64.wrap (bits .or .u64 (IntKind.u64.wrap (bits .or .u64 0 (IntKind.u64.wrap a0) * 256)) (IntKind.u64.wrap a1) * 256)) (IntKind.u64.wrap a2) * 256)) (IntKind.u64.wrap a3) * 256)) (IntKind.u64.wrap a4) * 256)) (IntKind.u64.wrap a5) = num a0 a1 a2 a3 a4 a5 := by
  obtain ⟨l0, u0, l1, u1, l2, u2, l3, u3, l4, u4, l5, u5⟩ := h
  rw [or0 a0 l0 u0, or8 a0 a1 (by omega) (by omega) l1 u1, or8 _ a2 (by omega) (by omega) l2 u2, or8 _ a3 (by omega) (by omega) l3 u3, or8 _ a4 (by omega) (by omega) l4 u4, or8 _ a5 (by omega) (by omega) l5 u5]
  rfl

/-- Which of two is less. -/
def cmp3 (x y : Int) : Int := if x < y then -1 else if x = y then 0 else 1
theorem cmp3_lt {x y : Int} (h : x < y) : cmp3 x y = -1 := by simp [cmp3, h]
theorem cmp3_gt {x y : Int} (h : y < x) : cmp3 x y = 1 := by
  have h1 : ¬ x < y := by omega
  have h2 : ¬ x = y := by omega
  simp [cmp3, h1, h2]
theorem cmp3_eq {x y : Int} (h1 : ¬ x < y) (h2 : ¬ y < x) : cmp3 x y = 0 := by
  have h3 : x = y := by omega
  simp [cmp3, h3]
theorem b6 {x : Inf} (h : Rng (ml x)) : B6 x.m0 x.m1 x.m2 x.m3 x.m4 x.m5 := by
  have g : ∀ n, n ∈ ml x → 0 ≤ n ∧ n ≤ 255 := h
  have g0 := g x.m0 (by simp [ml]); have g1 := g x.m1 (by simp [ml]); have g2 := g x.m2 (by simp [ml]); have g3 := g x.m3 (by simp [ml]); have g4 := g x.m4 (by simp [ml]); have g5 := g x.m5 (by simp [ml])
  exact ⟨g0.1, g0.2, g1.1, g1.2, g2.1, g2.2, g3.1, g3.2, g4.1, g4.2, g5.1, g5.2⟩
/-- An info's address as a number. -/
def nm (x : Inf) : Int := num x.m0 x.m1 x.m2 x.m3 x.m4 x.m5
theorem cmp3_neg (x y : Int) : decide (cmp3 x y < 0) = decide (x < y) := by
  unfold cmp3; split
  · simp [*]
  · split <;> simp [*]
/-- Is a system ahead of another one? -/
def ls (a b : Inf) : Bool := decide (a.sp < b.sp ∨ a.sp = b.sp ∧ nm a < nm b)
/-- Are two of one system? -/
def sy (a b : Inf) : Bool := decide (a.sp = b.sp ∧ nm a = nm b)
end Go.Proofs.Ytaehhhknpbbmkaa
