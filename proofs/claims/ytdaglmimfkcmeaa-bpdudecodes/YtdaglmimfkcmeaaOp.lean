/- An id, a BPDU, and a list of bytes, as an argument. -/
import Derived.Test.YtdaglmimfkcmeaaA1
import Derived.ProofKit
import Derived.SizedLaws
namespace Go.Proofs.Ytdaglmimfkcmeaa
open Go.ChangeShapes Go.WideShapes Go.ChangeAt Go.RowKit

theorem own : ownKnob Try.prog.godebug = none := by kernel_rfl
theorem Try.laidOut : laidOutB Try.prog = true := by kernel_rfl
theorem list6' {α : Type} (l : List α) (h : l.length = 6) : ∃ a b c d e f, l = [a, b, c, d, e, f] := by
  match l, h with
  | [a, b, c, d, e, f], _ => exact ⟨a, b, c, d, e, f, rfl⟩
theorem list2' {α : Type} (l : List α) (h : l.length = 2) : ∃ a b, l = [a, b] := by
  match l, h with
  | [a, b], _ => exact ⟨a, b, rfl⟩
theorem list7 {α : Type} (l : List α) (h : l.length = 7) : ∃ c0 c1 c2 c3 c4 c5 c6, l = [c0, c1, c2, c3, c4, c5, c6] := by
  match l, h with
  | [c0, c1, c2, c3, c4, c5, c6], _ => exact ⟨c0, c1, c2, c3, c4, c5, c6, rfl⟩
theorem list10 {α : Type} (l : List α) (h : l.length = 10) : ∃ c0 c1 c2 c3 c4 c5 c6 c7 c8 c9, l = [c0, c1, c2, c3, c4, c5, c6, c7, c8, c9] := by
  match l, h with
  | [c0, c1, c2, c3, c4, c5, c6, c7, c8, c9], _ => exact ⟨c0, c1, c2, c3, c4, c5, c6, c7, c8, c9, rfl⟩
theorem list11 {α : Type} (l : List α) (h : l.length = 11) : ∃ c0 c1 c2 c3 c4 c5 c6 c7 c8 c9 c10, l = [c0, c1, c2, c3, c4, c5, c6, c7, c8, c9, c10] := by
  match l, h with
  | [c0, c1, c2, c3, c4, c5, c6, c7, c8, c9, c10], _ => exact ⟨c0, c1, c2, c3, c4, c5, c6, c7, c8, c9, c10, rfl⟩
theorem list22 {α : Type} (l : List α) (h : l.length = 22) : ∃ c0 c1 c2 c3 c4 c5 c6 c7 c8 c9 c10 c11 c12 c13 c14 c15 c16 c17 c18 c19 c20 c21, l = [c0, c1, c2, c3, c4, c5, c6, c7, c8, c9, c10, c11, c12, c13, c14, c15, c16, c17, c18, c19, c20, c21] := by
  obtain ⟨c0, c1, c2, c3, c4, c5, c6, c7, c8, c9, c10, e1⟩ := list11 (l.take 11) (by rw [List.length_take]; omega)
  obtain ⟨c11, c12, c13, c14, c15, c16, c17, c18, c19, c20, c21, e2⟩ := list11 (l.drop 11) (by rw [List.length_drop]; omega)
  refine ⟨c0, c1, c2, c3, c4, c5, c6, c7, c8, c9, c10, c11, c12, c13, c14, c15, c16, c17, c18, c19, c20, c21, ?_⟩
  rw [← List.take_append_drop 11 l, e1, e2]
  rfl
theorem read_mac {H : Type} {enc : TypeId × Value → H} {W : World} {m : Nat} {c0 c1 c2 c3 c4 c5 : Value} {x : DataW H × List MemPlace}
    (hf : DataW.trod enc Try.prog W 0 (fun _ => true) true m 23 [c0, c1, c2, c3, c4, c5] = some x) :
    ∃ a0 a1 a2 a3 a4 a5 : Int, c0 = .int .u8 a0 ∧ c1 = .int .u8 a1 ∧ c2 = .int .u8 a2 ∧ c3 = .int .u8 a3 ∧ c4 = .int .u8 a4 ∧ c5 = .int .u8 a5 ∧ Rng [a0, a1, a2, a3, a4, a5] := by
  obtain ⟨xs, m, _, hx, _, hl, hg⟩ := DataW.trod_array Try.underlying23 hf
  obtain ⟨x0, x1, x2, x3, x4, x5, rfl⟩ := list6' xs hl
  have g0 := hg 0 (by omega); have g1 := hg 1 (by omega); have g2 := hg 2 (by omega); have g3 := hg 3 (by omega); have g4 := hg 4 (by omega); have g5 := hg 5 (by omega)
  simp [Try.cells5] at g0 g1 g2 g3 g4 g5
  obtain ⟨n0, e0, rfl, w0⟩ := DataW.trod_int Try.underlying5 g0
  obtain ⟨n1, e1, rfl, w1⟩ := DataW.trod_int Try.underlying5 g1
  obtain ⟨n2, e2, rfl, w2⟩ := DataW.trod_int Try.underlying5 g2
  obtain ⟨n3, e3, rfl, w3⟩ := DataW.trod_int Try.underlying5 g3
  obtain ⟨n4, e4, rfl, w4⟩ := DataW.trod_int Try.underlying5 g4
  obtain ⟨n5, e5, rfl, w5⟩ := DataW.trod_int Try.underlying5 g5
  simp at e0 e1 e2 e3 e4 e5
  subst e0 e1 e2 e3 e4 e5
  have k0 := bounds_u8 w0; have k1 := bounds_u8 w1; have k2 := bounds_u8 w2; have k3 := bounds_u8 w3; have k4 := bounds_u8 w4; have k5 := bounds_u8 w5
  exact ⟨n0, n1, n2, n3, n4, n5, rfl, rfl, rfl, rfl, rfl, rfl, rng_cons k0.1 k0.2 (rng_cons k1.1 k1.2 (rng_cons k2.1 k2.2 (rng_cons k3.1 k3.2 (rng_cons k4.1 k4.2 (rng_cons k5.1 k5.2 rng_nil)))))⟩
set_option maxRecDepth 100000 in
set_option maxHeartbeats 1000000 in
theorem read_id {H : Type} {enc : TypeId × Value → H} {W : World} {m : Nat} {c0 c1 c2 c3 c4 c5 c6 : Value} {x : DataW H × List MemPlace}
    (hf : DataW.trod enc Try.prog W 0 (fun _ => true) true m 25 [c0, c1, c2, c3, c4, c5, c6] = some x) : ∃ i : Idn, [c0, c1, c2, c3, c4, c5, c6] = icl i ∧ Rng (ml i) := by
  obtain ⟨xs, m, _, hx, _, hl, hg⟩ := DataW.trod_struct Try.underlying25 hf
  obtain ⟨x0, x1, rfl⟩ := list2' xs hl
  have g0 := hg 0 _ rfl; have g1 := hg 1 _ rfl
  simp [Try.cells23, Try.cells3] at g0 g1
  obtain ⟨n0, e0, rfl, w0⟩ := DataW.trod_int Try.underlying3 g0
  obtain ⟨a0, a1, a2, a3, a4, a5, rfl, rfl, rfl, rfl, rfl, rfl, ra⟩ := read_mac g1
  simp at e0
  subst e0
  exact ⟨⟨n0, a0, a1, a2, a3, a4, a5⟩, rfl, ra⟩
set_option maxRecDepth 100000 in
set_option maxHeartbeats 1000000 in
theorem open_id {H : Type} {enc : TypeId × Value → H} {W : World} {r : Reach} {b0 : Nat} {v : Value} {d : DataW H} {p : List MemPlace}
    (hv : Value.okWide Try.prog W r b0 25 v) (h : DataW.Trod enc Try.prog W 0 (fun _ => true) true 25 v d p) : ∃ i : Idn, v = .agg (IC i) ∧ Rng (ml i) := by
  obtain ⟨cs, rfl, hsz, _⟩ : ∃ cs, v = .agg cs ∧ cs.size = Try.prog.cellsOf 25 ∧ Row.okWide Try.prog W r b0 25 cs := by
    simpa [Value.okWide, Try.underlying25] using hv
  rw [Try.cells25] at hsz
  obtain ⟨l⟩ := cs
  obtain ⟨c0, c1, c2, c3, c4, c5, c6, rfl⟩ := list7 l hsz
  obtain ⟨fuel, hf⟩ := h
  obtain ⟨i, e, hr⟩ := read_id (by simpa [Value.cells] using hf)
  exact ⟨i, by rw [e]; rfl, hr⟩
set_option maxRecDepth 100000 in
set_option maxHeartbeats 2000000 in
theorem open_bpdu {H : Type} {enc : TypeId × Value → H} {W : World} {r : Reach} {b0 : Nat} {v : Value} {d : DataW H} {p : List MemPlace}
    (hv : Value.okWide Try.prog W r b0 27 v) (h : DataW.Trod enc Try.prog W 0 (fun _ => true) true 27 v d p) : ∃ q : Bpd, v = .agg (BC q) ∧ BpdB q := by
  obtain ⟨cs, rfl, hsz, _⟩ : ∃ cs, v = .agg cs ∧ cs.size = Try.prog.cellsOf 27 ∧ Row.okWide Try.prog W r b0 27 cs := by
    simpa [Value.okWide, Try.underlying27] using hv
  rw [Try.cells27] at hsz
  obtain ⟨l⟩ := cs
  obtain ⟨c0, c1, c2, c3, c4, c5, c6, c7, c8, c9, c10, c11, c12, c13, c14, c15, c16, c17, c18, c19, c20, c21, rfl⟩ := list22 l hsz
  obtain ⟨fuel, hf⟩ := h
  obtain ⟨xs, m, _, hx, _, hl, hg⟩ := DataW.trod_struct Try.underlying27 hf
  obtain ⟨x0, x1, x2, x3, x4, x5, x6, x7, x8, x9, rfl⟩ := list10 xs hl
  have g0 := hg 0 _ rfl; have g1 := hg 1 _ rfl; have g2 := hg 2 _ rfl; have g3 := hg 3 _ rfl; have g4 := hg 4 _ rfl; have g5 := hg 5 _ rfl; have g6 := hg 6 _ rfl; have g7 := hg 7 _ rfl; have g8 := hg 8 _ rfl; have g9 := hg 9 _ rfl
  simp [Try.cells25, Try.cells3, Value.cells] at g0 g1 g2 g3 g4 g5 g6 g7 g8 g9
  obtain ⟨n0, e0, rfl, w0⟩ := DataW.trod_int Try.underlying3 g0
  obtain ⟨n1, e1, rfl, w1⟩ := DataW.trod_int Try.underlying3 g1
  obtain ⟨i2, e2, h2⟩ := read_id g2
  obtain ⟨n3, e3, rfl, w3⟩ := DataW.trod_int Try.underlying3 g3
  obtain ⟨i4, e4, h4⟩ := read_id g4
  obtain ⟨n5, e5, rfl, w5⟩ := DataW.trod_int Try.underlying3 g5
  obtain ⟨n6, e6, rfl, w6⟩ := DataW.trod_int Try.underlying3 g6
  obtain ⟨n7, e7, rfl, w7⟩ := DataW.trod_int Try.underlying3 g7
  obtain ⟨n8, e8, rfl, w8⟩ := DataW.trod_int Try.underlying3 g8
  obtain ⟨n9, e9, rfl, w9⟩ := DataW.trod_int Try.underlying3 g9
  simp at e0 e1 e3 e5 e6 e7 e8 e9
  subst e0 e1 e3 e5 e6 e7 e8 e9
  refine ⟨⟨n0, n1, i2, n3, i4, n5, n6, n7, n8, n9⟩, ?_, ⟨h2, h4⟩⟩
  have e : ([.int .i64 n0, .int .i64 n1, c2, c3, c4, c5, c6, c7, c8, .int .i64 n3, c10, c11, c12, c13, c14, c15, c16, .int .i64 n5, .int .i64 n6, .int .i64 n7, .int .i64 n8, .int .i64 n9] : List Value) = .int .i64 n0 :: .int .i64 n1 :: ([c2, c3, c4, c5, c6, c7, c8] ++ (.int .i64 n3 :: ([c10, c11, c12, c13, c14, c15, c16] ++ [.int .i64 n5, .int .i64 n6, .int .i64 n7, .int .i64 n8, .int .i64 n9]))) := rfl
  show Value.agg ⟨[.int .i64 n0, .int .i64 n1, c2, c3, c4, c5, c6, c7, c8, .int .i64 n3, c10, c11, c12, c13, c14, c15, c16, .int .i64 n5, .int .i64 n6, .int .i64 n7, .int .i64 n8, .int .i64 n9]⟩ = _
  rw [e, e2, e4]
  rfl
theorem open_bytes {H : Type} {enc : TypeId × Value → H} {W : World} {r : Reach} {b0 : Nat} {v : Value} {d : DataW H} {p : List MemPlace}
    (hv : Value.okWide Try.prog W r b0 29 v) (h : DataW.Trod enc Try.prog W 0 (fun _ => true) true 29 v d p) : ∃ ao n c ns, v = .slice ao n c ∧ Byt W ao n c ns := by
  obtain ⟨a, len, cap, rfl⟩ := okWide_slice Try.underlying29 hv
  obtain ⟨fuel, hf⟩ := h
  have hf' : DataW.trod enc Try.prog W 0 (fun _ => true) true fuel 29 [.slice a len cap] = some (d, p) := by simpa [Value.cells] using hf
  rcases open_ints Try.underlying29 Try.underlying5 Try.cells5 hf' with ⟨hcs, hx⟩ | ⟨a, len', cap', zs, hcs, _, hl, hm, hz, hx, hcell, hwz⟩
  · simp at hcs
    obtain ⟨rfl, rfl, rfl⟩ := hcs
    exact ⟨none, 0, 0, [], rfl, Byt.nothing W⟩
  · simp at hcs
    obtain ⟨rfl, rfl, rfl⟩ := hcs
    simp only [if_true] at hz
    refine ⟨some a, len, cap, zs.take len, rfl, ⟨by simp; omega, fun e => (by cases e), fun j hj => ?_, hl, hm, fun n hn => bounds_u8 (hwz n (List.mem_of_mem_take hn))⟩⟩
    obtain ⟨b, off, rfl, hc⟩ := ints_at hcell (by omega)
    refine ⟨b, off, rfl, ?_⟩
    rw [hc j (by omega)]
    simp [List.getD, hj]
end Go.Proofs.Ytdaglmimfkcmeaa
