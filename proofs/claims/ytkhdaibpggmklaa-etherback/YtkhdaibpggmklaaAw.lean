/- Contract of Decode, as the document has it, whichever bytes there are. -/
import Derived.Test.YtkhdaibpggmklaaAt
import Derived.Test.YtkhdaibpggmklaaAu
import Derived.Test.YtkhdaibpggmklaaAv
namespace Go.Proofs.Ytkhdaibpggmklaa
open Go.RowKit

theorem decode15 (ao : Option Addr) (n c : Nat) (ns : List Int) (w : World) (hb : Byt w ao n c ns) (hbnd : n ≤ 5000) (D : Fd) (E : Int) (hD : dec ns = (D, E)) :
    Calls Try.prog 15 #[.slice ao n c] w fun e w' => ∃ ao' n' c', e = .returned (.tuple #[.agg #[.int .u8 D.d0, .int .u8 D.d1, .int .u8 D.d2, .int .u8 D.d3, .int .u8 D.d4, .int .u8 D.d5, .int .u8 D.s0, .int .u8 D.s1, .int .u8 D.s2, .int .u8 D.s3, .int .u8 D.s4, .int .u8 D.s5, .bool D.tg, .int .i64 D.vl, .int .i64 D.pr, .int .i64 D.ty, (.slice ao' n' c')], .int .i64 E]) ∧ Byt w' ao' n' c' D.bs ∧ Below w.heap.size w w' := by
  have hl := hb.len
  by_cases h14 : n < 14
  · have h := dec_none (raw_short (b := ns) (by omega))
    rw [hD] at h
    injection h with h1 h2
    subst h1 h2
    exact (dec15_short ao n c w h14).mono fun e w' ⟨he, hB⟩ => ⟨none, 0, 0, he, Byt.nothing w', hB⟩
  obtain ⟨x0, x1, x2, x3, x4, x5, x6, x7, x8, x9, x10, x11, x12, x13, q, rfl⟩ := list14 ns (by omega)
  by_cases ht : x12 * 256 + x13 = 33024
  · by_cases hq : q.length < 4
    · have h := dec_none (raw_cut x0 x1 x2 x3 x4 x5 x6 x7 x8 x9 x10 x11 x12 x13 q ht hq)
      rw [hD] at h
      injection h with h1 h2
      subst h1 h2
      exact (dec15_tshort x0 x1 x2 x3 x4 x5 x6 x7 x8 x9 x10 x11 x12 x13 q ao n c w hb (by simp at hl; omega) ht hq).mono fun e w' ⟨he, hB⟩ => ⟨none, 0, 0, he, Byt.nothing w', hB⟩
    obtain ⟨x14, x15, x16, x17, q, rfl⟩ := list4 q (by omega)
    have h := dec_of (raw_tagged x0 x1 x2 x3 x4 x5 x6 x7 x8 x9 x10 x11 x12 x13 x14 x15 x16 x17 q ht)
    rw [hD] at h
    injection h with h1 h2
    subst h1 h2
    exact dec15_tag x0 x1 x2 x3 x4 x5 x6 x7 x8 x9 x10 x11 x12 x13 x14 x15 x16 x17 q ao n c w hb (by simp at hl; omega) ht hbnd
  · have h := dec_of (raw_plain x0 x1 x2 x3 x4 x5 x6 x7 x8 x9 x10 x11 x12 x13 q ht)
    rw [hD] at h
    injection h with h1 h2
    subst h1 h2
    exact dec15_plain x0 x1 x2 x3 x4 x5 x6 x7 x8 x9 x10 x11 x12 x13 q ao n c w hb (by simp at hl; omega) ht hbnd
theorem decode14' (ao : Option Addr) (n c : Nat) (ns : List Int) (w : World) (hb : Byt w ao n c ns) (D : Fd) (E : Int) (hD : dec ns = (D, E)) :
    Calls Try.prog 14 #[.slice ao n c] w fun e w' => ∃ ao' n' c', e = .returned (.tuple #[.agg #[.int .u8 D.d0, .int .u8 D.d1, .int .u8 D.d2, .int .u8 D.d3, .int .u8 D.d4, .int .u8 D.d5, .int .u8 D.s0, .int .u8 D.s1, .int .u8 D.s2, .int .u8 D.s3, .int .u8 D.s4, .int .u8 D.s5, .bool D.tg, .int .i64 D.vl, .int .i64 D.pr, .int .i64 D.ty, (.slice ao' n' c')], .int .i64 E]) ∧ Byt w' ao' n' c' D.bs ∧ Below w.heap.size w w' := by
  have h := decode14 ao n c ns w hb
  rw [hD] at h
  exact h
end Go.Proofs.Ytkhdaibpggmklaa
