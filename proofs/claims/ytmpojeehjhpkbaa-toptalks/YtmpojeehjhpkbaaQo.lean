/- A list of ints, a number of 32 bits, an int, as arguments. -/
import Derived.Test.YtmpojeehjhpkbaaAw
import Derived.Test.YtmpojeehjhpkbaaAf
import Derived.ProofKit
import Derived.SizedLaws
import Derived.OpenShut
import Derived.Deep.Slices
namespace Go.Proofs.Ytmpojeehjhpkbaa
open Go.ChangeShapes Go.WideShapes Go.ChangeAt Go.RowKit

theorem open_list {H : Type} {enc : TypeId × Value → H} {W : World} {r : Reach} {b0 : Nat} {v : Value} {d : DataW H} {p : List MemPlace}
    (hv : Value.okWide Try.prog W r b0 32 v) (h : DataW.Trod enc Try.prog W 0 (fun _ => true) true 32 v d p) : ∃ ao n c ns, v = .slice ao n c ∧ Its W 0 ao n c ns := by
  obtain ⟨a, len, cap, rfl⟩ := okWide_slice Try.underlying32 hv
  obtain ⟨fuel, hf⟩ := h
  have hf' : DataW.trod enc Try.prog W 0 (fun _ => true) true fuel 32 [.slice a len cap] = some (d, p) := by simpa [Value.cells] using hf
  rcases open_ints Try.underlying32 Try.underlying3 Try.cells3 hf' with ⟨hcs, hx⟩ | ⟨a, len', cap', zs, hcs, _, hl, hm, hz, hx, hcell, hwz⟩
  · simp at hcs
    obtain ⟨rfl, rfl, rfl⟩ := hcs
    exact ⟨none, 0, 0, [], rfl, ⟨rfl, fun _ => ⟨rfl, rfl⟩, fun j hj => by omega, Nat.le_refl _, Nat.zero_le _⟩⟩
  · simp at hcs
    obtain ⟨rfl, rfl, rfl⟩ := hcs
    simp only [if_true] at hz
    refine ⟨some a, len, cap, zs.take len, rfl, ⟨by simp; omega, fun e => (by cases e), fun j hj => ?_, hl, hm⟩⟩
    obtain ⟨b, off, rfl, hc⟩ := ints_at hcell (by omega)
    refine ⟨b, off, rfl, Nat.zero_le _, ?_⟩
    rw [hc j (by omega)]
    simp [List.getD, hj]
theorem open_hash {H : Type} {enc : TypeId × Value → H} {W : World} {r : Reach} {b0 : Nat} {v : Value} {d : DataW H} {p : List MemPlace}
    (hv : Value.okWide Try.prog W r b0 27 v) (h : DataW.Trod enc Try.prog W 0 (fun _ => true) true 27 v d p) : ∃ x : Nat, v = .int .u32 x ∧ x < 4294967296 := by
  obtain ⟨x, rfl, h1, h2, h3⟩ := open_int Try.underlying27 hv h
  have hx : 0 ≤ x ∧ x < 4294967296 := by
    have h9 := bounds_u32 (n := x) (by assumption)
    omega
  obtain ⟨n, rfl⟩ := Int.eq_ofNat_of_zero_le hx.1
  exact ⟨n, rfl, by omega⟩
set_option maxRecDepth 100000 in
theorem open_num {H : Type} {enc : TypeId × Value → H} {W : World} {r : Reach} {b0 : Nat} {v : Value} {d : DataW H} {p : List MemPlace}
    (hv : Value.okWide Try.prog W r b0 3 v) (h : DataW.Trod enc Try.prog W 0 (fun _ => true) true 3 v d p) : ∃ a : Int, v = .int .i64 a := by
  obtain ⟨x, rfl, h1, h2, h3⟩ := open_int Try.underlying3 hv h
  exact ⟨x, rfl⟩
end Go.Proofs.Ytmpojeehjhpkbaa
