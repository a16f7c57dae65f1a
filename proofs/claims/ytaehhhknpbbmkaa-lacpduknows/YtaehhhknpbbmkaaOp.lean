/- An info, a LACPDU, and a list of bytes, as an argument. -/
import Derived.Test.YtaehhhknpbbmkaaA1
import Derived.ProofKit
import Derived.SizedLaws
namespace Go.Proofs.Ytaehhhknpbbmkaa
open Go.ChangeShapes Go.WideShapes Go.ChangeAt Go.RowKit

theorem own : ownKnob Try.prog.godebug = none := by kernel_rfl
theorem Try.laidOut : laidOutB Try.prog = true := by kernel_rfl
theorem list6' {α : Type} (l : List α) (h : l.length = 6) : ∃ a b c d e f, l = [a, b, c, d, e, f] := by
  match l, h with
  | [a, b, c, d, e, f], _ => exact ⟨a, b, c, d, e, f, rfl⟩
theorem list3' {α : Type} (l : List α) (h : l.length = 3) : ∃ a b c, l = [a, b, c] := by
  match l, h with
  | [a, b, c], _ => exact ⟨a, b, c, rfl⟩
theorem list11 {α : Type} (l : List α) (h : l.length = 11) : ∃ c0 c1 c2 c3 c4 c5 c6 c7 c8 c9 c10, l = [c0, c1, c2, c3, c4, c5, c6, c7, c8, c9, c10] := by
  match l, h with
  | [c0, c1, c2, c3, c4, c5, c6, c7, c8, c9, c10], _ => exact ⟨c0, c1, c2, c3, c4, c5, c6, c7, c8, c9, c10, rfl⟩
theorem list23 {α : Type} (l : List α) (h : l.length = 23) : ∃ c0 c1 c2 c3 c4 c5 c6 c7 c8 c9 c10 c11 c12 c13 c14 c15 c16 c17 c18 c19 c20 c21 c22, l = [c0, c1, c2, c3, c4, c5, c6, c7, c8, c9, c10, c11, c12, c13, c14, c15, c16, c17, c18, c19, c20, c21, c22] := by
  obtain ⟨c0, c1, c2, c3, c4, c5, c6, c7, c8, c9, c10, e1⟩ := list11 (l.take 11) (by rw [List.length_take]; omega)
  obtain ⟨c11, c12, c13, c14, c15, c16, c17, c18, c19, c20, c21, e2⟩ := list11 ((l.drop 11).take 11) (by rw [List.length_take, List.length_drop]; omega)
  have hl : (l.drop 22).length = 1 := by rw [List.length_drop]; omega
  obtain ⟨c22, e3⟩ := List.length_eq_one_iff.1 hl
  refine ⟨c0, c1, c2, c3, c4, c5, c6, c7, c8, c9, c10, c11, c12, c13, c14, c15, c16, c17, c18, c19, c20, c21, c22, ?_⟩
  have h1 : l = l.take 11 ++ ((l.drop 11).take 11 ++ l.drop 22) := by
    have h2 : (l.drop 11).take 11 ++ l.drop 22 = l.drop 11 := by
      have := List.take_append_drop 11 (l.drop 11)
      rw [List.drop_drop] at this
      exact this
    rw [h2, List.take_append_drop]
  rw [h1, e1, e2, e3]
  rfl
theorem read_mac {H : Type} {enc : TypeId × Value → H} {W : World} {m : Nat} {c0 c1 c2 c3 c4 c5 : Value} {x : DataW H × List MemPlace}
    (hf : DataW.trod enc Try.prog W 0 (fun _ => true) true m 23 [c0, c1, c2, c3, c4, c5] = some x) :
    ∃ a0 a1 a2 a3 a4 a5 : Int, c0 = .int .u8 a0 ∧ c1 = .int .u8 a1 ∧ c2 = .int .u8 a2 ∧ c3 = .int .u8 a3 ∧ c4 = .int .u8 a4 ∧ c5 = .int .u8 a5 ∧ Rng [a0, a1, a2, a3, a4, a5] := by
  obtain ⟨xs, m, _, hx, _, hl, hg⟩ := DataW.trod_array Try.underlying23 hf
  obtain ⟨x0, x1, x2, x3, x4, x5, rfl⟩ := list6' xs hl
  have g0 := hg 0 (by omega); have g1 := hg 1 (by omega); have g2 := hg 2 (by omega); have g3 := hg 3 (by omega); have g4 := hg 4 (by omega); have g5 := hg 5 (by omega)
  simp [Try.cells5] at g0 g1 g2 g3 g4 g5
  obtain ⟨n0, e0, rfl, w0⟩ := DataW.trod_int Try.underlying5 g0
  obtain ⟨n1, e1, rfl, w1⟩ := DataW.trod_int Try.underlying5 g1
  obtain ⟨n2, e2, rfl, w2⟩ := DataW.trod_int Try.underlying5 g2
  obtain ⟨n3, e3, rfl, w3⟩ := DataW.trod_int Try.underlying5 g3
  obtain ⟨n4, e4, rfl, w4⟩ := DataW.trod_int Try.underlying5 g4
  obtain ⟨n5, e5, rfl, w5⟩ := DataW.trod_int Try.underlying5 g5
  simp at e0 e1 e2 e3 e4 e5
  subst e0 e1 e2 e3 e4 e5
  have k0 := bounds_u8 w0; have k1 := bounds_u8 w1; have k2 := bounds_u8 w2; have k3 := bounds_u8 w3; have k4 := bounds_u8 w4; have k5 := bounds_u8 w5
  exact ⟨n0, n1, n2, n3, n4, n5, rfl, rfl, rfl, rfl, rfl, rfl, rng_cons k0.1 k0.2 (rng_cons k1.1 k1.2 (rng_cons k2.1 k2.2 (rng_cons k3.1 k3.2 (rng_cons k4.1 k4.2 (rng_cons k5.1 k5.2 rng_nil)))))⟩
set_option maxRecDepth 100000 in
set_option maxHeartbeats 1000000 in
theorem read_info {H : Type} {enc : TypeId × Value → H} {W : World} {m : Nat} {c0 c1 c2 c3 c4 c5 c6 c7 c8 c9 c10 : Value} {x : DataW H × List MemPlace}
    (hf : DataW.trod enc Try.prog W 0 (fun _ => true) true m 25 [c0, c1, c2, c3, c4, c5, c6, c7, c8, c9, c10] = some x) : ∃ i : Inf, [c0, c1, c2, c3, c4, c5, c6, c7, c8, c9, c10] = icl i ∧ Rng (ml i) := by
  obtain ⟨xs, m, _, hx, _, hl, hg⟩ := DataW.trod_struct Try.underlying25 hf
  obtain ⟨x0, x1, x2, x3, x4, x5, rfl⟩ := list6' xs hl
  have g0 := hg 0 _ rfl; have g1 := hg 1 _ rfl; have g2 := hg 2 _ rfl; have g3 := hg 3 _ rfl; have g4 := hg 4 _ rfl; have g5 := hg 5 _ rfl
  simp [Try.cells23, Try.cells3] at g0 g1 g2 g3 g4 g5
  obtain ⟨n0, e0, rfl, w0⟩ := DataW.trod_int Try.underlying3 g0
  obtain ⟨a0, a1, a2, a3, a4, a5, rfl, rfl, rfl, rfl, rfl, rfl, ra⟩ := read_mac g1
  obtain ⟨n2, e2, rfl, w2⟩ := DataW.trod_int Try.underlying3 g2
  obtain ⟨n3, e3, rfl, w3⟩ := DataW.trod_int Try.underlying3 g3
  obtain ⟨n4, e4, rfl, w4⟩ := DataW.trod_int Try.underlying3 g4
  obtain ⟨n5, e5, rfl, w5⟩ := DataW.trod_int Try.underlying3 g5
  simp at e0 e2 e3 e4 e5
  subst e0 e2 e3 e4 e5
  exact ⟨⟨n0, a0, a1, a2, a3, a4, a5, n2, n3, n4, n5⟩, rfl, ra⟩
set_option maxRecDepth 100000 in
set_option maxHeartbeats 1000000 in
theorem open_info {H : Type} {enc : TypeId × Value → H} {W : World} {r : Reach} {b0 : Nat} {v : Value} {d : DataW H} {p : List MemPlace}
    (hv : Value.okWide Try.prog W r b0 25 v) (h : DataW.Trod enc Try.prog W 0 (fun _ => true) true 25 v d p) : ∃ i : Inf, v = .agg (IC i) ∧ Rng (ml i) := by
  obtain ⟨cs, rfl, hsz, _⟩ : ∃ cs, v = .agg cs ∧ cs.size = Try.prog.cellsOf 25 ∧ Row.okWide Try.prog W r b0 25 cs := by
    simpa [Value.okWide, Try.underlying25] using hv
  rw [Try.cells25] at hsz
  obtain ⟨l⟩ := cs
  obtain ⟨c0, c1, c2, c3, c4, c5, c6, c7, c8, c9, c10, rfl⟩ := list11 l hsz
  obtain ⟨fuel, hf⟩ := h
  obtain ⟨i, e, hr⟩ := read_info (by simpa [Value.cells] using hf)
  exact ⟨i, by rw [e]; rfl, hr⟩
set_option maxRecDepth 100000 in
set_option maxHeartbeats 1000000 in
theorem open_lacp {H : Type} {enc : TypeId × Value → H} {W : World} {r : Reach} {b0 : Nat} {v : Value} {d : DataW H} {p : List MemPlace}
    (hv : Value.okWide Try.prog W r b0 27 v) (h : DataW.Trod enc Try.prog W 0 (fun _ => true) true 27 v d p) : ∃ l : Lac, v = .agg (LC l) ∧ LacB l := by
  obtain ⟨cs, rfl, hsz, _⟩ : ∃ cs, v = .agg cs ∧ cs.size = Try.prog.cellsOf 27 ∧ Row.okWide Try.prog W r b0 27 cs := by
    simpa [Value.okWide, Try.underlying27] using hv
  rw [Try.cells27] at hsz
  obtain ⟨l⟩ := cs
  obtain ⟨c0, c1, c2, c3, c4, c5, c6, c7, c8, c9, c10, c11, c12, c13, c14, c15, c16, c17, c18, c19, c20, c21, c22, rfl⟩ := list23 l hsz
  obtain ⟨fuel, hf⟩ := h
  obtain ⟨xs, m, _, hx, _, hl, hg⟩ := DataW.trod_struct Try.underlying27 hf
  obtain ⟨x0, x1, x2, rfl⟩ := list3' xs hl
  have g0 := hg 0 _ rfl; have g1 := hg 1 _ rfl; have g2 := hg 2 _ rfl
  simp [Try.cells25, Try.cells3, Value.cells] at g0 g1 g2
  obtain ⟨i, ei, hi⟩ := read_info g0
  obtain ⟨j, ej, hj⟩ := read_info g1
  obtain ⟨n2, e2, rfl, w2⟩ := DataW.trod_int Try.underlying3 g2
  simp at e2
  subst e2
  refine ⟨⟨i, j, n2⟩, ?_, ⟨hi, hj⟩⟩
  have e : ([c0, c1, c2, c3, c4, c5, c6, c7, c8, c9, c10, c11, c12, c13, c14, c15, c16, c17, c18, c19, c20, c21, .int .i64 n2] : List Value) = [c0, c1, c2, c3, c4, c5, c6, c7, c8, c9, c10] ++ ([c11, c12, c13, c14, c15, c16, c17, c18, c19, c20, c21] ++ [.int .i64 n2]) := rfl
  show Value.agg ⟨[c0, c1, c2, c3, c4, c5, c6, c7, c8, c9, c10, c11, c12, c13, c14, c15, c16, c17, c18, c19, c20, c21, .int .i64 n2]⟩ = _
  rw [e, ei, ej]
  rfl
theorem open_bytes {H : Type} {enc : TypeId × Value → H} {W : World} {r : Reach} {b0 : Nat} {v : Value} {d : DataW H} {p : List MemPlace}
    (hv : Value.okWide Try.prog W r b0 29 v) (h : DataW.Trod enc Try.prog W 0 (fun _ => true) true 29 v d p) : ∃ ao n c ns, v = .slice ao n c ∧ Byt W ao n c ns := by
  obtain ⟨a, len, cap, rfl⟩ := okWide_slice Try.underlying29 hv
  obtain ⟨fuel, hf⟩ := h
  have hf' : DataW.trod enc Try.prog W 0 (fun _ => true) true fuel 29 [.slice a len cap] = some (d, p) := by simpa [Value.cells] using hf
  rcases open_ints Try.underlying29 Try.underlying5 Try.cells5 hf' with ⟨hcs, hx⟩ | ⟨a, len', cap', zs, hcs, _, hl, hm, hz, hx, hcell, hwz⟩
  · simp at hcs
    obtain ⟨rfl, rfl, rfl⟩ := hcs
    exact ⟨none, 0, 0, [], rfl, Byt.nothing W⟩
  · simp at hcs
    obtain ⟨rfl, rfl, rfl⟩ := hcs
    simp only [if_true] at hz
    refine ⟨some a, len, cap, zs.take len, rfl, ⟨by simp; omega, fun e => (by cases e), fun j hj => ?_, hl, hm, fun n hn => bounds_u8 (hwz n (List.mem_of_mem_take hn))⟩⟩
    obtain ⟨b, off, rfl, hc⟩ := ints_at hcell (by omega)
    refine ⟨b, off, rfl, ?_⟩
    rw [hc j (by omega)]
    simp [List.getD, hj]
end Go.Proofs.Ytaehhhknpbbmkaa
