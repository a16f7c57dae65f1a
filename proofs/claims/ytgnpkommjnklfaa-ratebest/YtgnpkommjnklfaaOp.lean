/- Floats, arrays and lists of floats among the arguments; a list of floats in memory. -/
import Derived.Test.YtgnpkommjnklfaaA1
import Derived.ProofKit
import Derived.SizedLaws
import Derived.Deep.Grids
import Derived.OpenShut
namespace Go.Proofs.Ytgnpkommjnklfaa
open Go.Deep Go.ChangeShapes Go.WideShapes Go.ChangeAt Go.RowKit

theorem own : ownKnob Try.prog.godebug = none := by kernel_rfl
theorem Try.laidOut : laidOutB Try.prog = true := by kernel_rfl
theorem Try.cells3 : Try.prog.cellsOf 3 = 1 := by kernel_rfl
theorem Try.cells22 : Try.prog.cellsOf 22 = 1 := by kernel_rfl
theorem Try.cells37 : Try.prog.cellsOf 37 = 2 := by kernel_rfl
theorem Try.cells38 : Try.prog.cellsOf 38 = 2 := by kernel_rfl

theorem trod_float {H : Type} {enc : TypeId × Value → H} {P : Program} {w : World} {base : Nat} {spare : Nat → Bool} {held : Bool} {t : TypeId} {fuel : Nat} {cs : List Value} {x : DataW H × List MemPlace} {k : FloatKind}
    (ht : P.underlying t = some (.float k)) (h : DataW.trod enc P w base spare held fuel t cs = some x) : ∃ n, cs = [.float k n] ∧ x = (.lit (.float k n), []) ∧ (Lit.float k n).wf = true := by
  cases fuel with
  | zero => simp [DataW.trod] at h
  | succ n =>
    unfold DataW.trod at h
    rw [ht] at h
    split at h <;> simp_all

theorem float_lt {b : Nat} (h : (Lit.float .f64 b).wf = true) : b < 18446744073709551616 := by simpa [Lit.wf] using h

/-- A list of floats, in blocks below N. -/
structure Flt (w : World) (N : Nat) (ao : Option Addr) (n c : Nat) (xs : List Nat) : Prop where
  len : xs.length = n
  cell : ∀ j, j < n → ∃ b o, ao = some ⟨b, o, none⟩ ∧ b < N ∧ w.cell? ⟨b, o + j, none⟩ = some (.float .f64 (xs.getD j 0))
  le : n ≤ c
  mx : c ≤ maxLen
  rng : ∀ j, xs.getD j 0 < 18446744073709551616

theorem Flt.on {w w1 : World} {N : Nat} {ao : Option Addr} {n c : Nat} {xs : List Nat} (h : Flt w N ao n c xs) (hb : Below N w w1) : Flt w1 N ao n c xs :=
  ⟨h.len, fun j hj => by
    obtain ⟨b, o, e, hl, hc⟩ := h.cell j hj
    exact ⟨b, o, e, hl, (hb.cell (p := ⟨b, o + j, none⟩) hl).trans hc⟩, h.le, h.mx, h.rng⟩
theorem Flt.up {w : World} {N M : Nat} {ao : Option Addr} {n c : Nat} {xs : List Nat} (h : Flt w N ao n c xs) (hb : N ≤ M) : Flt w M ao n c xs :=
  ⟨h.len, fun j hj => by
    obtain ⟨b, o, e, hl, hc⟩ := h.cell j hj
    exact ⟨b, o, e, by omega, hc⟩, h.le, h.mx, h.rng⟩
theorem Flt.at {w : World} {N : Nat} {ao : Option Addr} {n c : Nat} {xs : List Nat} (h : Flt w N ao n c xs) (hn : 0 < n) : ∃ b o, ao = some ⟨b, o, none⟩ ∧ b < N ∧ ∀ j, j < n → w.cell? ⟨b, o + j, none⟩ = some (.float .f64 (xs.getD j 0)) := by
  obtain ⟨b, o, rfl, hl, hc⟩ := h.cell 0 hn
  refine ⟨b, o, rfl, hl, fun j hj => ?_⟩
  obtain ⟨b', o', e, hl', hc'⟩ := h.cell j hj
  have e1 := Option.some.inj e
  injection e1 with e2 e3
  subst e2 e3
  exact hc'

theorem open_floats {H : Type} {enc : TypeId × Value → H} {W : World} {r : Reach} {b0 : Nat} {v : Value} {d : DataW H} {p : List MemPlace}
    (hv : Value.okWide Try.prog W r b0 28 v) (h : DataW.Trod enc Try.prog W 0 (fun _ => true) true 28 v d p) : ∃ ao n c xs, v = .slice ao n c ∧ Flt W W.heap.size ao n c xs := by
  obtain ⟨a, len, cap, rfl⟩ := okWide_slice Try.underlying28 hv
  obtain ⟨fuel, hf⟩ := h
  have hf' : DataW.trod enc Try.prog W 0 (fun _ => true) true fuel 28 [.slice a len cap] = some (d, p) := by simpa [Value.cells] using hf
  rcases DataW.trod_slice Try.underlying28 hf' with ⟨h0, -⟩ | ⟨a', len', cap', elems, rest, n, _, hcs, _, hb, hl, hm, hlen, hel, -, -⟩
  · simp at h0
    obtain ⟨rfl, rfl, rfl⟩ := h0
    exact ⟨none, 0, 0, [], rfl, ⟨rfl, fun j hj => by omega, Nat.le_refl _, Nat.zero_le _, fun j => by simp⟩⟩
  · simp at hcs
    obtain ⟨rfl, rfl, rfl⟩ := hcs
    have each : ∀ i, i < len → ∃ b : Nat, W.cell? (a'.add i) = some (.float .f64 b) ∧ b < 18446744073709551616 := by
      intro i hi
      have h1 := hel i hi
      obtain ⟨y, hy⟩ : ∃ y, elems[i]? = some y := ⟨_, List.getElem?_eq_getElem (by omega)⟩
      rw [hy, Try.cells22, Nat.mul_one, Option.bind_eq_some_iff] at h1
      obtain ⟨cs', h2, h3⟩ := h1
      obtain ⟨b, rfl, -, hw⟩ := trod_float Try.underlying22 h3
      exact ⟨b, cell_of_cells?_one h2, float_lt hw⟩
    obtain ⟨B, hB⟩ := choose_lt (α := Nat) (p := fun i b => W.cell? (a'.add i) = some (.float .f64 b) ∧ b < 18446744073709551616) each
    refine ⟨some a', len, cap, (List.range len).map B, rfl, ⟨by simp, fun j hj => ?_, hl, hm, fun j => ?_⟩⟩
    · obtain ⟨b, off, spot⟩ := a'
      have hspot : spot = none := by simpa [Addr.add] using World.cell?_spot (hB 0 (by omega)).1
      subst hspot
      have hc := (hB j hj).1
      rw [Go.WideShapes.add_plain] at hc
      refine ⟨b, off, rfl, World.block_lt_of_cell? W _ hc, ?_⟩
      rw [hc]
      simp [List.getD, hj]
    · by_cases hj : j < len
      · have := (hB j hj).2
        simpa [List.getD, hj] using this
      · simp [List.getD, hj]

theorem list2 {α : Type} (l : List α) (h : (⟨l⟩ : Array α).size = 2) : ∃ a b, l = [a, b] := by
  match l, h with
  | [a, b], _ => exact ⟨a, b, rfl⟩
theorem list2' {α : Type} (l : List α) (h : l.length = 2) : ∃ a b, l = [a, b] := by
  match l, h with
  | [a, b], _ => exact ⟨a, b, rfl⟩

theorem open_two {H : Type} {enc : TypeId × Value → H} {W : World} {r : Reach} {b0 : Nat} {v : Value} {d : DataW H} {p : List MemPlace}
    (hv : Value.okWide Try.prog W r b0 37 v) (h : DataW.Trod enc Try.prog W 0 (fun _ => true) true 37 v d p) : ∃ a b : Nat, v = .agg #[.float .f64 a, .float .f64 b] := by
  obtain ⟨cs, rfl, hsz, _⟩ : ∃ cs, v = .agg cs ∧ cs.size = Try.prog.cellsOf 37 ∧ Row.okWide Try.prog W r b0 37 cs := by
    simpa [Value.okWide, Try.underlying37] using hv
  rw [Try.cells37] at hsz
  obtain ⟨l⟩ := cs
  obtain ⟨c0, c1, rfl⟩ := list2 l hsz
  obtain ⟨fuel, hf⟩ := h
  obtain ⟨xs, m, _, hx, _, hl, hg⟩ := DataW.trod_array Try.underlying37 hf
  obtain ⟨x0, x1, rfl⟩ := list2' xs hl
  have g0 := hg 0 (by omega); have g1 := hg 1 (by omega)
  simp [Try.cells22, Value.cells] at g0 g1
  obtain ⟨n0, e0, -, w0⟩ := trod_float Try.underlying22 g0
  obtain ⟨n1, e1, -, w1⟩ := trod_float Try.underlying22 g1
  simp at e0 e1
  subst e0 e1
  exact ⟨n0, n1, rfl⟩

theorem open_pair {H : Type} {enc : TypeId × Value → H} {W : World} {r : Reach} {b0 : Nat} {v : Value} {d : DataW H} {p : List MemPlace}
    (hv : Value.okWide Try.prog W r b0 38 v) (h : DataW.Trod enc Try.prog W 0 (fun _ => true) true 38 v d p) : ∃ a b : Int, v = .agg #[.int .i64 a, .int .i64 b] := by
  obtain ⟨cs, rfl, hsz, _⟩ : ∃ cs, v = .agg cs ∧ cs.size = Try.prog.cellsOf 38 ∧ Row.okWide Try.prog W r b0 38 cs := by
    simpa [Value.okWide, Try.underlying38] using hv
  rw [Try.cells38] at hsz
  obtain ⟨l⟩ := cs
  obtain ⟨c0, c1, rfl⟩ := list2 l hsz
  obtain ⟨fuel, hf⟩ := h
  obtain ⟨xs, m, _, hx, _, hl, hg⟩ := DataW.trod_array Try.underlying38 hf
  obtain ⟨x0, x1, rfl⟩ := list2' xs hl
  have g0 := hg 0 (by omega); have g1 := hg 1 (by omega)
  simp [Try.cells3, Value.cells] at g0 g1
  obtain ⟨n0, e0, -, w0⟩ := DataW.trod_int Try.underlying3 g0
  obtain ⟨n1, e1, -, w1⟩ := DataW.trod_int Try.underlying3 g1
  simp at e0 e1
  subst e0 e1
  exact ⟨n0, n1, rfl⟩

end Go.Proofs.Ytgnpkommjnklfaa
