/- Plain: the last changes that the document's journal keeps. Contract of Since of the document's journal, where it refuses. -/
import Derived.Test.YtjlmheecefobaaaK1
import Derived.Test.YtjlmheecefobaaaAw
namespace Go.Proofs.Ytjlmheecefobaaa
open Go.RowKit Go.PlainAid

theorem tl_length (n : Nat) (cs : List Ch) : (tl n cs).length = if cs.length ≤ n then cs.length else n := by
  unfold tl
  rw [List.length_drop]
  split <;> omega
theorem tl_short {n : Nat} {cs : List Ch} (h : cs.length < n) (d : Ch) : tl n (cs ++ [d]) = tl n cs ++ [d] := by
  unfold tl
  rw [List.length_append, show cs.length + [d].length - n = 0 by simp; omega, show cs.length - n = 0 by omega]
  simp
theorem tl_long {n : Nat} {cs : List Ch} (h : n ≤ cs.length) (d : Ch) : tl n (cs ++ [d]) = (tl n cs ++ [d]).drop 1 := by
  unfold tl
  rw [List.length_append, show cs.length + [d].length - n = (cs.length - n) + 1 by simp; omega]
  rw [← List.drop_drop, List.drop_append_of_le_length (by omega)]
theorem tl_drop {n q : Nat} {cs : List Ch} (h : q ≤ cs.length) (hn : cs.length ≤ q + n) : (tl n cs).drop ((tl n cs).length - (cs.length - q)) = cs.drop q := by
  have hl := tl_length n cs
  unfold tl at *
  rw [List.drop_drop]
  congr 1
  split at hl <;> omega
set_option maxRecDepth 100000 in
set_option maxHeartbeats 2000000 in
theorem sincer17_no (g n m c : Nat) (ao : Option Addr) (cs : List Ch) (q : Int) (w : World) (H : RJ w g n ao m c cs) (hL : cs.length ≤ 1073741823) (hn : q < 0 ∨ (cs.length : Int) < q ∨ (n : Int) < cs.length - q) :
    Calls Try.prog 17 #[.pointer (some ⟨g, 0, none⟩), .int .i64 q] w fun e w' => e = .returned (.tuple #[.slice none 0 0, .bool false]) ∧ Below w.heap.size w w' := by
  have c0 := H.bx.cell 0 _ rfl
  have c1 := H.bx.cell 1 _ rfl
  have c2 := H.bx.cell 2 _ rfl
  have n2 := H.n2
  have hm := H.sl.len
  have htl := tl_length n cs
  have hfin : Below w.heap.size w w := Below.refl _ _
  by_cases h1 : q < 0
  · have d1 : decide (q < 0) = true := by simp [h1]
    clear hn H hm htl
    go_enter Try.func17, Try.ntmps17
    go_wp2_with fail
    go_quiet (fail)
    go_wp2
    go_ret2
    exact ⟨rfl, belowN (Below.refl _ _) _⟩
  · have d1 : decide (q < 0) = false := by simp; omega
    by_cases h2 : (cs.length : Int) < q
    · have d2 : decide ((cs.length : Int) < q) = true := by simp [h2]
      clear hn H hm htl
      go_enter Try.func17, Try.ntmps17
      go_wp2_with fail
      go_quiet (fail)
      go_wp2
      go_ret2
      exact ⟨rfl, belowN (Below.refl _ _) _⟩
    · have d2 : decide ((cs.length : Int) < q) = false := by simp; omega
      have hmn : m ≤ n := by split at htl <;> omega
      have d3 : decide ((m : Int) < (cs.length : Int) - q) = true := by simp; omega
      have e1 : IntKind.i64.wrap ((cs.length : Int) - q) = (cs.length : Int) - q := IntWalk.i64_in _ (by omega)
      clear hn H hm htl
      go_enter Try.func17, Try.ntmps17
      go_wp2_with fail
      go_quiet (fail)
      go_wp2
      go_ret2
      exact ⟨rfl, belowN (Below.refl _ _) _⟩
end Go.Proofs.Ytjlmheecefobaaa
