/- Contract of Decode, as the document has it: small facts. -/
import Derived.Test.YtkhdaibpggmklaaAr
namespace Go.Proofs.Ytkhdaibpggmklaa
open Go.RowKit

theorem DI.drewN {w wr : World} {f : Fd} (h : DI w wr f) (m : Nat) : DI w (wr.drewN m) f := ⟨⟨h.below.os, h.below.tape, h.below.output, h.below.size, h.below.block⟩, ⟨h.at_.lt, h.at_.c0, h.at_.c1, h.at_.c2, h.at_.c3, h.at_.c4, h.at_.c5, h.at_.c6, h.at_.c7, h.at_.c8, h.at_.c9, h.at_.c10, h.at_.c11, h.at_.c12, h.at_.c13, h.at_.c14, h.at_.c15, h.at_.c16⟩, h.tf, h.tb⟩
theorem AtF.drew {w : World} {k : Nat} {f : Fd} {b : Value} (h : AtF w k f b) : AtF w.drew k f b := ⟨h.lt, h.c0, h.c1, h.c2, h.c3, h.c4, h.c5, h.c6, h.c7, h.c8, h.c9, h.c10, h.c11, h.c12, h.c13, h.c14, h.c15, h.c16⟩
/-- The bytes behind the first k of a slice, however its end is spelt. -/
theorem tail_byt {w : World} {b o n c : Nat} {ns q : List Int} {k : Nat} (h : Byt w (some ⟨b, o, none⟩) n c ns) (hq : ns.drop k = q) (hn : n = q.length + k) {ad : Option Addr} {cc : Nat} (h1 : ¬ c = k → ad = some ⟨b, o + k, none⟩ ∧ cc = c - k) (h2 : c = k → cc = 0 ∧ ad ≠ none) : Byt w ad q.length cc q := by
  have hle := h.le
  have hmx := h.mx
  by_cases hc : c = k
  · obtain ⟨rfl, h3⟩ := h2 hc
    exact ⟨rfl, fun e => absurd e h3, fun j hj => by omega, by omega, by omega, by rw [← hq]; exact rng_drop h.rng k⟩
  · obtain ⟨rfl, rfl⟩ := h1 hc
    refine ⟨rfl, fun e => (by cases e), fun j hj => ⟨b, o + k, rfl, ?_⟩, by omega, by omega, by rw [← hq]; exact rng_drop h.rng k⟩
    obtain ⟨b2, o2, e2, hcell⟩ := h.cell (k + j) (by omega)
    injection Option.some.inj e2 with e3 e4
    subst e3 e4
    rw [Nat.add_assoc, hcell, ← hq]
    simp [List.getD_eq_getElem?_getD]
theorem Row.fresh {w : World} {base : Nat} {v : Value} {n : Nat} {ns : List Int} (h : Row w base v n ns) (hr : Rng ns) : ∃ ao c, v = .slice ao n c ∧ Byt w ao n c ns ∧ ∀ b o, ao = some ⟨b, o, none⟩ → base ≤ b := own_fresh h hr
/-- What Decode makes of the frame that bytes tell. -/
def dF (f : Fd) : Fd := if rt f then f else zero
def dC (f : Fd) : Int := if rt f then 0 else 2
theorem dF_yes {f : Fd} (h : rt f = true) : dF f = f := by simp [dF, h]
theorem dF_no {f : Fd} (h : rt f = false) : dF f = zero := by simp [dF, h]
theorem dC_yes {f : Fd} (h : rt f = true) : dC f = 0 := by simp [dC, h]
theorem dC_no {f : Fd} (h : rt f = false) : dC f = 2 := by simp [dC, h]
theorem dec_of {b : List Int} {f : Fd} (h : raw b = some f) : dec b = (dF f, dC f) := by
  cases k : rt f
  · rw [dec_bad h k]; simp [dF, dC, k]
  · rw [dec_good h k]; simp [dF, dC, k]
end Go.Proofs.Ytkhdaibpggmklaa
