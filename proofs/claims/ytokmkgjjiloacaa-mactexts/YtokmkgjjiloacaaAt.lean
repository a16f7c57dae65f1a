/- An address in a block of memory, and how it is kept; the answers of Of and Parse, in one form each. -/
import Derived.Test.YtokmkgjjiloacaaA7
import Derived.Test.YtokmkgjjiloacaaA8
namespace Go.Proofs.Ytokmkgjjiloacaa
open Go.RowKit Go.PlainAid

/-- Block b holds the six bytes. -/
structure At6 (b : Nat) (wr : World) (a0 a1 a2 a3 a4 a5 : Int) : Prop where
  lt : b < wr.heap.size
  c0 : wr.cell? ⟨b, 0, none⟩ = some (.int .u8 a0)
  c1 : wr.cell? ⟨b, 1, none⟩ = some (.int .u8 a1)
  c2 : wr.cell? ⟨b, 2, none⟩ = some (.int .u8 a2)
  c3 : wr.cell? ⟨b, 3, none⟩ = some (.int .u8 a3)
  c4 : wr.cell? ⟨b, 4, none⟩ = some (.int .u8 a4)
  c5 : wr.cell? ⟨b, 5, none⟩ = some (.int .u8 a5)
theorem At6.on {b : Nat} {wr w1 : World} {a0 a1 a2 a3 a4 a5 : Int} (h : At6 b wr a0 a1 a2 a3 a4 a5) (hb : Below wr.heap.size wr w1) : At6 b w1 a0 a1 a2 a3 a4 a5 := by
  have e : ∀ i, w1.cell? ⟨b, i, none⟩ = wr.cell? ⟨b, i, none⟩ := fun i => hb.cell (p := ⟨b, i, none⟩) h.lt
  exact ⟨Nat.lt_of_lt_of_le h.lt hb.size, by rw [e]; exact h.c0, by rw [e]; exact h.c1, by rw [e]; exact h.c2, by rw [e]; exact h.c3, by rw [e]; exact h.c4, by rw [e]; exact h.c5⟩
theorem At6.alloc {b : Nat} {wr : World} {a0 a1 a2 a3 a4 a5 : Int} (h : At6 b wr a0 a1 a2 a3 a4 a5) (o : Obj) : At6 b (wr.alloc o) a0 a1 a2 a3 a4 a5 :=
  h.on ((Below.refl _ _).alloc (Nat.le_refl _) o)
theorem At6.drew {b : Nat} {wr : World} {a0 a1 a2 a3 a4 a5 : Int} (h : At6 b wr a0 a1 a2 a3 a4 a5) : At6 b wr.drew a0 a1 a2 a3 a4 a5 := ⟨h.lt, h.c0, h.c1, h.c2, h.c3, h.c4, h.c5⟩
theorem At6.new (w : World) (a0 a1 a2 a3 a4 a5 : Int) : At6 w.heap.size (w.alloc (.cells #[.int .u8 a0, .int .u8 a1, .int .u8 a2, .int .u8 a3, .int .u8 a4, .int .u8 a5] 23)) a0 a1 a2 a3 a4 a5 :=
  ⟨by simp, by simp, by simp, by simp, by simp, by simp, by simp⟩

/-- What Of answers. -/
def OfR (n b0 b1 b2 b3 b4 b5 x : Int) : Prop := B6 b0 b1 b2 b3 b4 b5 ∧ ((x = 0 ∧ num b0 b1 b2 b3 b4 b5 = n ∧ n < 281474976710656) ∨ (x = 1 ∧ num b0 b1 b2 b3 b4 b5 = 0 ∧ 281474976710656 ≤ n))
theorem b6z : B6 0 0 0 0 0 0 := by constructor <;> decide
theorem OfR.same {n b0 b1 b2 b3 b4 b5 x c0 c1 c2 c3 c4 c5 y : Int} (h : OfR n b0 b1 b2 b3 b4 b5 x) (k : OfR n c0 c1 c2 c3 c4 c5 y) : eq6 b0 b1 b2 b3 b4 b5 c0 c1 c2 c3 c4 c5 = true ∧ x = y := by
  obtain ⟨hb, h⟩ := h
  obtain ⟨kb, k⟩ := k
  rw [eq6_num hb kb]
  rcases h with ⟨h0, h1, h2⟩ | ⟨h0, h1, h2⟩ <;> rcases k with ⟨k0, k1, k2⟩ | ⟨k0, k1, k2⟩
  · exact ⟨by simp [h1, k1], by omega⟩
  · omega
  · omega
  · exact ⟨by simp [h1, k1], by omega⟩
theorem of21 (n : Int) (w : World) (h0 : 0 ≤ n) : Calls Try.prog 21 #[.int .u64 n] w fun e w' => ∃ b0 b1 b2 b3 b4 b5 x : Int, OfR n b0 b1 b2 b3 b4 b5 x ∧ e = .returned (.tuple #[.agg #[.int .u8 b0, .int .u8 b1, .int .u8 b2, .int .u8 b3, .int .u8 b4, .int .u8 b5], .int .i64 x]) ∧ Below w.heap.size w w' := by
  by_cases h : n < 281474976710656
  · exact (of21_yes n w h0 h).mono fun e w' ⟨b0, b1, b2, b3, b4, b5, h1, h2, h3, h4⟩ => ⟨b0, b1, b2, b3, b4, b5, 0, ⟨h1, Or.inl ⟨rfl, h2, h⟩⟩, h3, h4⟩
  · exact (of21_no n w (by omega)).mono fun e w' ⟨h3, h4⟩ => ⟨0, 0, 0, 0, 0, 0, 1, ⟨b6z, Or.inr ⟨rfl, rfl, by omega⟩⟩, h3, h4⟩
theorem of22 (n : Int) (w : World) (h0 : 0 ≤ n) : Calls Try.prog 22 #[.int .u64 n] w fun e w' => ∃ b0 b1 b2 b3 b4 b5 x : Int, OfR n b0 b1 b2 b3 b4 b5 x ∧ e = .returned (.tuple #[.agg #[.int .u8 b0, .int .u8 b1, .int .u8 b2, .int .u8 b3, .int .u8 b4, .int .u8 b5], .int .i64 x]) ∧ Below w.heap.size w w' := by
  by_cases h : n < 281474976710656
  · exact (of22_yes n w h0 h).mono fun e w' ⟨b0, b1, b2, b3, b4, b5, h1, h2, h3, h4⟩ => ⟨b0, b1, b2, b3, b4, b5, 0, ⟨h1, Or.inl ⟨rfl, h2, h⟩⟩, h3, h4⟩
  · exact (of22_no n w (by omega)).mono fun e w' ⟨h3, h4⟩ => ⟨0, 0, 0, 0, 0, 0, 1, ⟨b6z, Or.inr ⟨rfl, rfl, by omega⟩⟩, h3, h4⟩

/-- What Parse answers. -/
def PaR (s : ByteArray) (b0 b1 b2 b3 b4 b5 x : Int) : Prop := (x = 0 ∧ s.size = 17 ∧ okAll s ∧ b0 = byteAt s 0 ∧ b1 = byteAt s 1 ∧ b2 = byteAt s 2 ∧ b3 = byteAt s 3 ∧ b4 = byteAt s 4 ∧ b5 = byteAt s 5) ∨ (x = 2 ∧ ¬ (s.size = 17 ∧ okAll s) ∧ b0 = 0 ∧ b1 = 0 ∧ b2 = 0 ∧ b3 = 0 ∧ b4 = 0 ∧ b5 = 0)
theorem PaR.b6 {s : ByteArray} {b0 b1 b2 b3 b4 b5 x : Int} (h : PaR s b0 b1 b2 b3 b4 b5 x) : B6 b0 b1 b2 b3 b4 b5 := by
  rcases h with ⟨_, _, h, rfl, rfl, rfl, rfl, rfl, rfl⟩ | ⟨_, _, rfl, rfl, rfl, rfl, rfl, rfl⟩
  · exact okAll_B6 h
  · exact b6z
theorem PaR.same {s : ByteArray} {b0 b1 b2 b3 b4 b5 x c0 c1 c2 c3 c4 c5 y : Int} (h : PaR s b0 b1 b2 b3 b4 b5 x) (k : PaR s c0 c1 c2 c3 c4 c5 y) : eq6 b0 b1 b2 b3 b4 b5 c0 c1 c2 c3 c4 c5 = true ∧ x = y := by
  rcases h with ⟨h0, h1, h2, rfl, rfl, rfl, rfl, rfl, rfl⟩ | ⟨h0, h1, rfl, rfl, rfl, rfl, rfl, rfl⟩ <;> rcases k with ⟨k0, k1, k2, rfl, rfl, rfl, rfl, rfl, rfl⟩ | ⟨k0, k1, rfl, rfl, rfl, rfl, rfl, rfl⟩
  · exact ⟨eq6_self _ _ _ _ _ _, by omega⟩
  · exact absurd ⟨h1, h2⟩ k1
  · exact absurd ⟨k1, k2⟩ h1
  · exact ⟨eq6_self _ _ _ _ _ _, by omega⟩
theorem pRes_PaR {s : ByteArray} {e : Ending} (hl : s.size = 17) (h : pRes s e) : ∃ b0 b1 b2 b3 b4 b5 x : Int, PaR s b0 b1 b2 b3 b4 b5 x ∧ e = .returned (.tuple #[.agg #[.int .u8 b0, .int .u8 b1, .int .u8 b2, .int .u8 b3, .int .u8 b4, .int .u8 b5], .int .i64 x]) := by
  rcases h with ⟨h, rfl⟩ | ⟨h, rfl⟩
  · exact ⟨_, _, _, _, _, _, 0, Or.inl ⟨rfl, hl, h, rfl, rfl, rfl, rfl, rfl, rfl⟩, rfl⟩
  · exact ⟨_, _, _, _, _, _, 2, Or.inr ⟨rfl, fun k => h k.2, rfl, rfl, rfl, rfl, rfl, rfl⟩, rfl⟩
end Go.Proofs.Ytokmkgjjiloacaa
