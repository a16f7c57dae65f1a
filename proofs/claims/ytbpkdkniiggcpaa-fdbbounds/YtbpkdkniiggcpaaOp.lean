/- A slice of steps, a step, an int, as an argument. -/
import Derived.Test.YtbpkdkniiggcpaaFt
import Derived.ProofKit
import Derived.SizedLaws
import Derived.OpenShut
import Derived.Deep.Slices
namespace Go.Proofs.Ytbpkdkniiggcpaa
open Go.ChangeShapes Go.WideShapes Go.ChangeAt Go.RowKit

set_option maxRecDepth 100000 in
theorem Try.laidOut : laidOutB Try.prog = true := by kernel_rfl
set_option maxRecDepth 100000 in
theorem own : ownKnob Try.prog.godebug = none := by kernel_rfl
set_option maxRecDepth 100000 in
theorem list6' {α : Type} (l : List α) (h : l.length = 6) : ∃ a b c d e f, l = [a, b, c, d, e, f] := by
  match l, h with
  | [a, b, c, d, e, f], _ => exact ⟨a, b, c, d, e, f, rfl⟩
set_option maxRecDepth 100000 in
theorem list11 {α : Type} (l : List α) (h : l.length = 11) : ∃ c0 c1 c2 c3 c4 c5 c6 c7 c8 c9 c10, l = [c0, c1, c2, c3, c4, c5, c6, c7, c8, c9, c10] := by
  match l, h with
  | [c0, c1, c2, c3, c4, c5, c6, c7, c8, c9, c10], _ => exact ⟨c0, c1, c2, c3, c4, c5, c6, c7, c8, c9, c10, rfl⟩
set_option maxRecDepth 100000 in
theorem read_mac {H : Type} {enc : TypeId × Value → H} {W : World} {m : Nat} {c0 c1 c2 c3 c4 c5 : Value} {x : DataW H × List MemPlace}
    (hf : DataW.trod enc Try.prog W 0 (fun _ => true) true m 24 [c0, c1, c2, c3, c4, c5] = some x) :
    ∃ a0 a1 a2 a3 a4 a5 : Int, c0 = .int .u8 a0 ∧ c1 = .int .u8 a1 ∧ c2 = .int .u8 a2 ∧ c3 = .int .u8 a3 ∧ c4 = .int .u8 a4 ∧ c5 = .int .u8 a5 ∧ Mok ⟨a0, a1, a2, a3, a4, a5⟩ := by
  obtain ⟨xs, m, _, hx, _, hl, hg⟩ := DataW.trod_array Try.underlying24 hf
  obtain ⟨x0, x1, x2, x3, x4, x5, rfl⟩ := list6' xs hl
  have g0 := hg 0 (by omega); have g1 := hg 1 (by omega); have g2 := hg 2 (by omega); have g3 := hg 3 (by omega); have g4 := hg 4 (by omega); have g5 := hg 5 (by omega)
  simp [Try.cells5] at g0 g1 g2 g3 g4 g5
  obtain ⟨n0, e0, rfl, w0⟩ := DataW.trod_int Try.underlying5 g0
  obtain ⟨n1, e1, rfl, w1⟩ := DataW.trod_int Try.underlying5 g1
  obtain ⟨n2, e2, rfl, w2⟩ := DataW.trod_int Try.underlying5 g2
  obtain ⟨n3, e3, rfl, w3⟩ := DataW.trod_int Try.underlying5 g3
  obtain ⟨n4, e4, rfl, w4⟩ := DataW.trod_int Try.underlying5 g4
  obtain ⟨n5, e5, rfl, w5⟩ := DataW.trod_int Try.underlying5 g5
  simp at e0 e1 e2 e3 e4 e5
  subst e0 e1 e2 e3 e4 e5
  have k0 := bounds_u8 w0; have k1 := bounds_u8 w1; have k2 := bounds_u8 w2; have k3 := bounds_u8 w3; have k4 := bounds_u8 w4; have k5 := bounds_u8 w5
  exact ⟨n0, n1, n2, n3, n4, n5, rfl, rfl, rfl, rfl, rfl, rfl, by constructor <;> simp <;> omega⟩
set_option maxRecDepth 100000 in
set_option maxHeartbeats 2000000 in
theorem read_step {H : Type} {enc : TypeId × Value → H} {W : World} {fuel : Nat} {cs : List Value} {x : DataW H × List MemPlace}
    (hf : DataW.trod enc Try.prog W 0 (fun _ => true) true fuel 26 cs = some x) : ∃ s : St, cs = scl s ∧ Mok s.m := by
  obtain ⟨xs, m, _, hx, hc, hl, hg⟩ := DataW.trod_struct Try.underlying26 hf
  rw [Try.cells26] at hc
  obtain ⟨c0, c1, c2, c3, c4, c5, c6, c7, c8, c9, c10, rfl⟩ := list11 cs hc
  obtain ⟨x0, x1, x2, x3, x4, x5, rfl⟩ := list6' xs hl
  have g0 := hg 0 _ rfl; have g1 := hg 1 _ rfl; have g2 := hg 2 _ rfl; have g3 := hg 3 _ rfl; have g4 := hg 4 _ rfl; have g5 := hg 5 _ rfl
  simp [Try.cells3, Try.cells24] at g0 g1 g2 g3 g4 g5
  obtain ⟨n0, e0, rfl, w0⟩ := DataW.trod_int Try.underlying3 g0
  obtain ⟨n1, e1, rfl, w1⟩ := DataW.trod_int Try.underlying3 g1
  obtain ⟨a0, a1, a2, a3, a4, a5, rfl, rfl, rfl, rfl, rfl, rfl, ra⟩ := read_mac g2
  obtain ⟨n3, e3, rfl, w3⟩ := DataW.trod_int Try.underlying3 g3
  obtain ⟨n4, e4, rfl, w4⟩ := DataW.trod_int Try.underlying3 g4
  obtain ⟨n5, e5, rfl, w5⟩ := DataW.trod_int Try.underlying3 g5
  simp at e0 e1 e3 e4 e5
  subst e0 e1 e3 e4 e5
  exact ⟨⟨n0, n1, ⟨a0, a1, a2, a3, a4, a5⟩, n3, n4, n5⟩, rfl, ra⟩
set_option maxRecDepth 100000 in
theorem open_step {H : Type} {enc : TypeId × Value → H} {W : World} {r : Reach} {b0 : Nat} {v : Value} {d : DataW H} {p : List MemPlace}
    (hv : Value.okWide Try.prog W r b0 26 v) (h : DataW.Trod enc Try.prog W 0 (fun _ => true) true 26 v d p) : ∃ s : St, v = .agg (SC s) ∧ Mok s.m := by
  obtain ⟨cs, rfl, hsz, _⟩ : ∃ cs, v = .agg cs ∧ cs.size = Try.prog.cellsOf 26 ∧ Row.okWide Try.prog W r b0 26 cs := by
    simpa [Value.okWide, Try.underlying26] using hv
  obtain ⟨l⟩ := cs
  obtain ⟨fuel, hf⟩ := h
  obtain ⟨s, hs, hm⟩ := read_step hf
  refine ⟨s, ?_, hm⟩
  have : l = scl s := hs
  subst this
  rfl
set_option maxRecDepth 100000 in
theorem list_of {α : Type} {Q : Nat → α → Prop} : ∀ n : Nat, (∀ i, i < n → ∃ s, Q i s) → ∃ ss : List α, ss.length = n ∧ ∀ i s, ss[i]? = some s → Q i s
  | 0, _ => ⟨[], rfl, fun i s h => by simp at h⟩
  | n + 1, h => by
    obtain ⟨ss, hl, hq⟩ := list_of n (fun i hi => h i (by omega))
    obtain ⟨s, hs⟩ := h n (by omega)
    refine ⟨ss ++ [s], by simp [hl], fun i s' hi => ?_⟩
    by_cases hin : i < n
    · rw [List.getElem?_append_left (by omega)] at hi
      exact hq i s' hi
    · have hlt := (List.getElem?_eq_some_iff.1 hi).1
      simp [hl] at hlt
      obtain rfl : i = n := by omega
      rw [List.getElem?_append_right (by omega), hl] at hi
      simp at hi
      subst hi
      exact hs
set_option maxRecDepth 100000 in
theorem open_steps {H : Type} {enc : TypeId × Value → H} {W : World} {r : Reach} {b0 : Nat} {v : Value} {d : DataW H} {p : List MemPlace}
    (hv : Value.okWide Try.prog W r b0 22 v) (h : DataW.Trod enc Try.prog W 0 (fun _ => true) true 22 v d p) : ∃ ao n c ss, v = .slice ao n c ∧ Sts W W.heap.size ao n c ss := by
  obtain ⟨a, len, cap, rfl⟩ := okWide_slice Try.underlying22 hv
  obtain ⟨fuel, hf⟩ := h
  have hf' : DataW.trod enc Try.prog W 0 (fun _ => true) true fuel 22 [.slice a len cap] = some (d, p) := by simpa [Value.cells] using hf
  rcases Go.Deep.open_slice Try.underlying22 hf' with ⟨h0, _⟩ | ⟨ad, len', cap', m, n, D, Pl, h0, hb, hle, hmx, hm, _, hel⟩
  · simp at h0
    obtain ⟨rfl, rfl, rfl⟩ := h0
    exact ⟨none, 0, 0, [], rfl, ⟨rfl, fun _ => rfl, fun j s hj => by simp at hj, Nat.le_refl _, Nat.zero_le _⟩⟩
  · simp at h0
    obtain ⟨rfl, rfl, rfl⟩ := h0
    simp only [if_true] at hm
    subst hm
    obtain ⟨ss, hl, hq⟩ := list_of (Q := fun i s => Mok s.m ∧ W.cells? 0 (ad.add (i * 11)) 11 = some (scl s)) len (fun i hi => by
      obtain ⟨cs', h1, h2⟩ := hel i (by omega)
      rw [Try.cells26] at h1
      obtain ⟨s, rfl, hm⟩ := read_step h2
      exact ⟨s, hm, h1⟩)
    refine ⟨some ad, len, _, ss, rfl, ⟨hl, fun e => (by cases e), fun j s hj => ?_, hle, hmx⟩⟩
    obtain ⟨hmk, hc⟩ := hq j s hj
    obtain ⟨-, hlen, hcell⟩ := World.cells?_some hc
    obtain ⟨b, o, sp⟩ := ad
    have h0 := hcell 0 (by omega)
    have h0' : W.cell? (((⟨b, o, sp⟩ : Addr).add (j * 11)).add 0) = some (.int .i64 s.d) := h0
    have hj0 : j < ss.length := (List.getElem?_eq_some_iff.1 hj).1
    obtain ⟨s1, hs1⟩ : ∃ s1, ss[0]? = some s1 := ⟨_, List.getElem?_eq_getElem (by omega)⟩
    obtain ⟨-, -, hcell1⟩ := World.cells?_some (hq 0 s1 hs1).2
    have h1' : W.cell? (((⟨b, o, sp⟩ : Addr).add (0 * 11)).add 0) = some (.int .i64 s1.d) := hcell1 0 (by omega)
    have hsp : sp = none := by simpa [Addr.add] using World.cell?_spot h1'
    subst hsp
    rw [Addr.add_lit] at hcell
    refine ⟨hmk, b, o, rfl, ?_, fun i v hi => ?_⟩
    · rw [Addr.add_lit, Addr.add_lit] at h0'
      exact World.block_lt_of_cell? W _ h0'
    · have hi4 : i < 11 := (List.getElem?_eq_some_iff.1 hi).1
      have := hcell i hi4
      rw [Addr.add_lit] at this
      exact this.trans hi
set_option maxRecDepth 100000 in
theorem open_num {H : Type} {enc : TypeId × Value → H} {W : World} {r : Reach} {b0 : Nat} {v : Value} {d : DataW H} {p : List MemPlace}
    (hv : Value.okWide Try.prog W r b0 3 v) (h : DataW.Trod enc Try.prog W 0 (fun _ => true) true 3 v d p) : ∃ a : Int, v = .int .i64 a ∧ I64 a := by
  obtain ⟨x, rfl, h1, h2, h3⟩ := open_int Try.underlying3 hv h
  exact ⟨x, rfl, bounds_i64 (by assumption)⟩
end Go.Proofs.Ytbpkdkniiggcpaa
