/- Plain facts: the order of addresses is that of their texts. -/
import Derived.Test.YtokmkgjjiloacaaRound
namespace Go.Proofs.Ytokmkgjjiloacaa
open Go.RowKit

theorem hex_lt {x y : Int} (h1 : x < 16) (k1 : y < 16) : hex x < hex y ↔ x < y := by
  unfold hex; split <;> split <;> omega
theorem hex_eq {x y : Int} (h1 : x < 16) (k1 : y < 16) : hex x = hex y ↔ x = y := by
  unfold hex; split <;> split <;> omega

theorem u8_lt {x y : Int} (h0 : 0 ≤ x) (h1 : x ≤ 255) (k0 : 0 ≤ y) (k1 : y ≤ 255) : UInt8.ofNat x.toNat < UInt8.ofNat y.toNat ↔ x < y := by
  rw [UInt8.lt_iff_toNat_lt]; simp; omega
theorem u8_eq {x y : Int} (h0 : 0 ≤ x) (h1 : x ≤ 255) (k0 : 0 ≤ y) (k1 : y ≤ 255) : UInt8.ofNat x.toNat = UInt8.ofNat y.toNat ↔ x = y := by
  rw [← UInt8.toNat_inj]; simp; omega

/-- The figures of one byte ahead of the rest. -/
theorem less_byte {a b : Int} (X Y : List UInt8) (h0 : 0 ≤ a) (h1 : a ≤ 255) (k0 : 0 ≤ b) (k1 : b ≤ 255) :
    Op.bytesLess (UInt8.ofNat (hex (a / 16)).toNat :: UInt8.ofNat (hex (a % 16)).toNat :: X) (UInt8.ofNat (hex (b / 16)).toNat :: UInt8.ofNat (hex (b % 16)).toNat :: Y) = (decide (a < b) || (decide (a = b) && Op.bytesLess X Y)) := by
  have A := @u8_lt (hex (a / 16)) (hex (b / 16)) (hex_lo (by omega)) (hex_hi (by omega)) (hex_lo (by omega)) (hex_hi (by omega))
  have B := @u8_eq (hex (a / 16)) (hex (b / 16)) (hex_lo (by omega)) (hex_hi (by omega)) (hex_lo (by omega)) (hex_hi (by omega))
  have C := @u8_lt (hex (a % 16)) (hex (b % 16)) (hex_lo (by omega)) (hex_hi (by omega)) (hex_lo (by omega)) (hex_hi (by omega))
  have D := @u8_eq (hex (a % 16)) (hex (b % 16)) (hex_lo (by omega)) (hex_hi (by omega)) (hex_lo (by omega)) (hex_hi (by omega))
  rw [hex_lt (by omega) (by omega)] at A C
  rw [hex_eq (by omega) (by omega)] at B D
  rw [Bool.eq_iff_iff]
  simp only [Op.bytesLess, Bool.or_eq_true, Bool.and_eq_true, decide_eq_true_eq, beq_iff_eq, A, B, C, D]
  generalize (Op.bytesLess X Y = true) = p
  by_cases hp : p <;> simp only [hp, and_true, and_false, or_false] <;> omega

theorem less_colon (X Y : List UInt8) : Op.bytesLess (UInt8.ofNat (58 : Int).toNat :: X) (UInt8.ofNat (58 : Int).toNat :: Y) = Op.bytesLess X Y := by
  simp [Op.bytesLess]

theorem text_less {a0 a1 a2 a3 a4 a5 b0 b1 b2 b3 b4 b5 : Int} (h : B6 a0 a1 a2 a3 a4 a5) (k : B6 b0 b1 b2 b3 b4 b5) :
    Op.bytesLess (bs (textL a0 a1 a2 a3 a4 a5)).toList (bs (textL b0 b1 b2 b3 b4 b5)).toList = decide (num a0 a1 a2 a3 a4 a5 < num b0 b1 b2 b3 b4 b5) := by
  rw [bs_toList, bs_toList]
  simp only [textL, List.map_cons, List.map_nil]
  rw [less_byte _ _ h.l0 h.u0 k.l0 k.u0, less_colon, less_byte _ _ h.l1 h.u1 k.l1 k.u1, less_colon, less_byte _ _ h.l2 h.u2 k.l2 k.u2, less_colon, less_byte _ _ h.l3 h.u3 k.l3 k.u3, less_colon, less_byte _ _ h.l4 h.u4 k.l4 k.u4, less_colon, less_byte _ _ h.l5 h.u5 k.l5 k.u5]
  obtain ⟨l0, u0, l1, u1, l2, u2, l3, u3, l4, u4, l5, u5⟩ := h
  obtain ⟨m0, v0, m1, v1, m2, v2, m3, v3, m4, v4, m5, v5⟩ := k
  rw [Bool.eq_iff_iff]
  simp only [Op.bytesLess, Bool.or_eq_true, Bool.and_eq_true, decide_eq_true_eq, Bool.false_eq_true, and_false, or_false]
  unfold num
  omega
end Go.Proofs.Ytokmkgjjiloacaa
