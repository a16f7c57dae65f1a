/- Worlds and tables, as the laws want them. -/
import Derived.Test.YtjlmheecefobaaaF4
import Derived.Test.YtjlmheecefobaaaD3
import Derived.Test.YtjlmheecefobaaaAw
import Derived.Test.YtjlmheecefobaaaE4
namespace Go.Proofs.Ytjlmheecefobaaa
open Go.RowKit Go.PlainAid

theorem Box.mid {w w1 : World} {k N M : Nat} {cs : List Value} (h : Box w k cs) (m : Mid N M w w1) (hk : M ≤ k) : Box w1 k cs := h.block (m.block k h.lt (Or.inr hk))
theorem Box.low {w w1 : World} {k N M : Nat} {cs : List Value} (h : Box w k cs) (m : Mid N M w w1) (hk : k < N) : Box w1 k cs := h.block (m.block k h.lt (Or.inl hk))
theorem PT.size {w : World} {h : Nat} {ps : List En} {T : Tb} (H : PT w h ps T) : h ≤ w.heap.size := by have := H.lt; omega
/-- The program's table turns. -/
theorem mid_on {w w1 w2 : World} {h N : Nat} (hB : Below N w w1) (M : Mid h (h + 2) w1 w2) (hN : N ≤ h) (hl : h ≤ w1.heap.size) : Below N w w2 := hB.trans ((M.below hl).mono hN)
theorem PT.putIn {w w1 : World} {h k : Nat} {ps : List En} {T : Tb} (H : PT w h ps T) (g : w.grownBy w1 (some k)) (hk : h + 2 ≤ k) : PT w1 h ps T :=
  H.keep (fun j _ h2 => g.block j (by have := H.lt; omega) (fun e => by have := Option.some.inj e; omega))
theorem Box.putIn {w w1 : World} {j k : Nat} {cs : List Value} (H : Box w j cs) (g : w.grownBy w1 (some k)) (hk : j ≠ k) : Box w1 j cs := H.kept hk g
/-- A variable is made, and stored into. -/
theorem stored {w w2 : World} {o : Obj} (hg : (w.alloc o).grownBy w2 (some w.heap.size)) : Below w.heap.size w w2 := below_grown (below_alloc w o) hg (Nat.le_refl _) (by simp)
end Go.Proofs.Ytjlmheecefobaaa
