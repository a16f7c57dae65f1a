/- Contracts of the document's forget, Age, FlushPort, FlushVlan, Same. -/
import Derived.Test.YtbpkdkniiggcpaaD6
import Derived.Test.YtbpkdkniiggcpaaC2
namespace Go.Proofs.Ytbpkdkniiggcpaa
open Go.RowKit Go.PlainAid

theorem ersOne (w : World) (x : En) : Ers (w.alloc (.cells (EC x) 33)) (some ⟨w.heap.size, 0, none⟩) 1 1 [x] := ⟨rfl, fun e => (by cases e), fun a e j u hj => by
  obtain rfl := Option.some.inj e
  rw [Addr.add_lit, Nat.zero_add, World.cell?_alloc_at _ _ _ _ rfl]
  have hj' : (ecl x ++ [])[j]? = some u := hj
  rw [List.append_nil] at hj'
  show (ecl x).toArray[j]? = some u
  rw [List.getElem?_toArray]
  exact hj'⟩
theorem rowMono {w : World} {g g' : Nat} {lv : Value} {n : Nat} {xs : List Value} (hg : g' ≤ g) (hr : w.ownsRow g 33 10 lv n xs) : w.ownsRow g' 33 10 lv n xs := by
  refine ⟨hr.1, ?_⟩
  rcases hr.2 with h | ⟨b, cap, cur, e, hb, r⟩
  · exact Or.inl h
  · exact Or.inr ⟨b, cap, cur, e, by omega, r⟩
/-- What the document asks of an entry, by a kind. -/
def kd (k a b : Int) (x : En) : Bool := if k = 0 then gA a b x else if k = 1 then gP a x else gV a x
end Go.Proofs.Ytbpkdkniiggcpaa
