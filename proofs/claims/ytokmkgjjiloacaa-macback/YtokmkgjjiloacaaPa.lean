/- The contracts of Parse, whatever the text. -/
import Derived.Test.YtokmkgjjiloacaaA9
import Derived.Test.YtokmkgjjiloacaaAa
import Derived.Test.YtokmkgjjiloacaaAt
namespace Go.Proofs.Ytokmkgjjiloacaa
open Go.RowKit Go.PlainAid

theorem pa19 (s : ByteArray) (w : World) : Calls Try.prog 19 #[.string s] w fun e w' => ∃ b0 b1 b2 b3 b4 b5 x : Int, PaR s b0 b1 b2 b3 b4 b5 x ∧ e = .returned (.tuple #[.agg #[.int .u8 b0, .int .u8 b1, .int .u8 b2, .int .u8 b3, .int .u8 b4, .int .u8 b5], .int .i64 x]) ∧ Below w.heap.size w w' := by
  by_cases hl : s.size = 17
  · refine (parse19 s w hl).mono fun e w' ⟨h, hb⟩ => ?_
    obtain ⟨b0, b1, b2, b3, b4, b5, x, h1, h2⟩ := pRes_PaR hl h
    exact ⟨b0, b1, b2, b3, b4, b5, x, h1, h2, hb⟩
  · refine (parse19_len s w (by simp; omega)).mono fun e w' ⟨h, hb⟩ => ?_
    exact ⟨0, 0, 0, 0, 0, 0, 2, Or.inr ⟨rfl, fun k => hl k.1, rfl, rfl, rfl, rfl, rfl, rfl⟩, h, hb⟩
theorem pa20 (s : ByteArray) (w : World) : Calls Try.prog 20 #[.string s] w fun e w' => ∃ b0 b1 b2 b3 b4 b5 x : Int, PaR s b0 b1 b2 b3 b4 b5 x ∧ e = .returned (.tuple #[.agg #[.int .u8 b0, .int .u8 b1, .int .u8 b2, .int .u8 b3, .int .u8 b4, .int .u8 b5], .int .i64 x]) ∧ Below w.heap.size w w' := by
  by_cases hl : s.size = 17
  · refine (parse20 s w hl).mono fun e w' ⟨h, hb⟩ => ?_
    obtain ⟨b0, b1, b2, b3, b4, b5, x, h1, h2⟩ := pRes_PaR hl h
    exact ⟨b0, b1, b2, b3, b4, b5, x, h1, h2, hb⟩
  · refine (parse20_len s w (by simp; omega)).mono fun e w' ⟨h, hb⟩ => ?_
    exact ⟨0, 0, 0, 0, 0, 0, 2, Or.inr ⟨rfl, fun k => hl k.1, rfl, rfl, rfl, rfl, rfl, rfl⟩, h, hb⟩
end Go.Proofs.Ytokmkgjjiloacaa
