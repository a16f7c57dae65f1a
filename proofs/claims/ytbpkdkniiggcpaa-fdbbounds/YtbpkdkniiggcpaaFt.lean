/- A slice of steps in memory. -/
import Derived.Test.YtbpkdkniiggcpaaA1
namespace Go.Proofs.Ytbpkdkniiggcpaa
open Go.RowKit Go.PlainAid

/-- A slice of steps, in blocks below G. -/
structure Sts (w : World) (G : Nat) (ao : Option Addr) (n c : Nat) (ss : List St) : Prop where
  len : ss.length = n
  nil : ao = none → n = 0
  cell : ∀ j s, ss[j]? = some s → Mok s.m ∧ ∃ b o, ao = some ⟨b, o, none⟩ ∧ b < G ∧ w.rangeAt b (o + j * 11) (scl s)
  le : n ≤ c
  mx : c ≤ maxLen
theorem Sts.below {w w1 : World} {G : Nat} {ao : Option Addr} {n c : Nat} {ss : List St} (h : Sts w G ao n c ss) (hb : Below G w w1) : Sts w1 G ao n c ss :=
  ⟨h.len, h.nil, fun j s hj => by
    obtain ⟨hm, b, o, e, hG, hc⟩ := h.cell j s hj
    exact ⟨hm, b, o, e, hG, fun i v hi => (hb.cell (p := ⟨b, o + j * 11 + i, none⟩) hG).trans (hc i v hi)⟩, h.le, h.mx⟩
theorem Sts.up {w : World} {G G' : Nat} {ao : Option Addr} {n c : Nat} {ss : List St} (h : Sts w G ao n c ss) (hG : G ≤ G') : Sts w G' ao n c ss :=
  ⟨h.len, h.nil, fun j s hj => by
    obtain ⟨hm, b, o, e, hb, hc⟩ := h.cell j s hj
    exact ⟨hm, b, o, e, by omega, hc⟩, h.le, h.mx⟩
end Go.Proofs.Ytbpkdkniiggcpaa
