/- A range of an entry's cells, and a draw, on the way. -/
import Derived.Test.YtbpkdkniiggcpaaF5
namespace Go.Proofs.Ytbpkdkniiggcpaa
open Go.RowKit Go.PlainAid

theorem range_on {w w1 : World} {b o : Nat} {x : En} (hb : Below w.heap.size w w1) (h : w.rangeAt b o (ecl x)) : w1.rangeAt b o (ecl x) := fun i v hi => by
  have hc := h i v hi
  exact (hb.cell (p := ⟨b, o + i, none⟩) (World.block_lt_of_cell? w _ hc)).trans hc
theorem drew_below (w : World) : Below w.heap.size w w.drew := ⟨rfl, rfl, rfl, Nat.le_refl _, fun _ _ => rfl⟩
end Go.Proofs.Ytbpkdkniiggcpaa
