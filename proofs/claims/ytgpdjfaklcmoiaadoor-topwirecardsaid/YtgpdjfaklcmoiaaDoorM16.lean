/- A frame, and a list of bytes, as an argument. -/
import Derived.Test.YtgpdjfaklcmoiaaDoorM14
import Derived.ProofKit
import Derived.SizedLaws
namespace Go.Proofs.YtgpdjfaklcmoiaaDoor.Eth
open Go.ChangeShapes Go.WideShapes Go.ChangeAt Go.RowKit

theorem own : ownKnob Tryd.prog.godebug = none := by kernel_rfl
theorem Tryd.laidOut : laidOutB Tryd.prog = true := by kernel_rfl
theorem Tryd.cells3 : Tryd.prog.cellsOf 3 = 1 := by kernel_rfl
theorem Tryd.cells4 : Tryd.prog.cellsOf 4 = 1 := by kernel_rfl
theorem Tryd.cells24 : Tryd.prog.cellsOf 24 = 1 := by kernel_rfl
theorem list17 {α : Type} (l : List α) (h : (⟨l⟩ : Array α).size = 17) : ∃ c0 c1 c2 c3 c4 c5 c6 c7 c8 c9 c10 c11 c12 c13 c14 c15 c16, l = [c0, c1, c2, c3, c4, c5, c6, c7, c8, c9, c10, c11, c12, c13, c14, c15, c16] := by
  match l, h with
  | [c0, c1, c2, c3, c4, c5, c6, c7, c8, c9, c10, c11, c12, c13, c14, c15, c16], _ => exact ⟨c0, c1, c2, c3, c4, c5, c6, c7, c8, c9, c10, c11, c12, c13, c14, c15, c16, rfl⟩
theorem list7 {α : Type} (l : List α) (h : l.length = 7) : ∃ a b c d e f g, l = [a, b, c, d, e, f, g] := by
  match l, h with
  | [a, b, c, d, e, f, g], _ => exact ⟨a, b, c, d, e, f, g, rfl⟩
theorem list6' {α : Type} (l : List α) (h : l.length = 6) : ∃ a b c d e f, l = [a, b, c, d, e, f] := by
  match l, h with
  | [a, b, c, d, e, f], _ => exact ⟨a, b, c, d, e, f, rfl⟩
theorem read_mac {H : Type} {enc : TypeId × Value → H} {W : World} {m : Nat} {c0 c1 c2 c3 c4 c5 : Value} {x : DataW H × List MemPlace}
    (hf : DataW.trod enc Tryd.prog W 0 (fun _ => true) true m 23 [c0, c1, c2, c3, c4, c5] = some x) :
    ∃ a0 a1 a2 a3 a4 a5 : Int, c0 = .int .u8 a0 ∧ c1 = .int .u8 a1 ∧ c2 = .int .u8 a2 ∧ c3 = .int .u8 a3 ∧ c4 = .int .u8 a4 ∧ c5 = .int .u8 a5 ∧ Rng [a0, a1, a2, a3, a4, a5] := by
  obtain ⟨xs, m, _, hx, _, hl, hg⟩ := DataW.trod_array Tryd.underlying23 hf
  obtain ⟨x0, x1, x2, x3, x4, x5, rfl⟩ := list6' xs hl
  have g0 := hg 0 (by omega); have g1 := hg 1 (by omega); have g2 := hg 2 (by omega); have g3 := hg 3 (by omega); have g4 := hg 4 (by omega); have g5 := hg 5 (by omega)
  simp [Tryd.cells5] at g0 g1 g2 g3 g4 g5
  obtain ⟨n0, e0, rfl, w0⟩ := DataW.trod_int Tryd.underlying5 g0
  obtain ⟨n1, e1, rfl, w1⟩ := DataW.trod_int Tryd.underlying5 g1
  obtain ⟨n2, e2, rfl, w2⟩ := DataW.trod_int Tryd.underlying5 g2
  obtain ⟨n3, e3, rfl, w3⟩ := DataW.trod_int Tryd.underlying5 g3
  obtain ⟨n4, e4, rfl, w4⟩ := DataW.trod_int Tryd.underlying5 g4
  obtain ⟨n5, e5, rfl, w5⟩ := DataW.trod_int Tryd.underlying5 g5
  simp at e0 e1 e2 e3 e4 e5
  subst e0 e1 e2 e3 e4 e5
  have k0 := bounds_u8 w0; have k1 := bounds_u8 w1; have k2 := bounds_u8 w2; have k3 := bounds_u8 w3; have k4 := bounds_u8 w4; have k5 := bounds_u8 w5
  exact ⟨n0, n1, n2, n3, n4, n5, rfl, rfl, rfl, rfl, rfl, rfl, rng_cons k0.1 k0.2 (rng_cons k1.1 k1.2 (rng_cons k2.1 k2.2 (rng_cons k3.1 k3.2 (rng_cons k4.1 k4.2 (rng_cons k5.1 k5.2 rng_nil)))))⟩

theorem read_bytes {H : Type} {enc : TypeId × Value → H} {W : World} {m : Nat} {v : Value} {x : DataW H × List MemPlace}
    (hf : DataW.trod enc Tryd.prog W 0 (fun _ => true) true m 24 [v] = some x) : ∃ ao n c ns, v = .slice ao n c ∧ Byt W ao n c ns := by
  rcases open_ints Tryd.underlying24 Tryd.underlying5 Tryd.cells5 hf with ⟨hcs, hx⟩ | ⟨a, len', cap', zs, hcs, _, hl, hm, hz, hx, hcell, hwz⟩
  · simp at hcs
    subst hcs
    exact ⟨none, 0, 0, [], rfl, Byt.nothing W⟩
  · simp at hcs
    subst hcs
    simp only [if_true] at hz
    refine ⟨some a, len', cap', zs.take len', rfl, ⟨by simp; omega, fun e => (by cases e), fun j hj => ?_, hl, hm, fun n hn => bounds_u8 (hwz n (List.mem_of_mem_take hn))⟩⟩
    obtain ⟨b, off, rfl, hc⟩ := ints_at hcell (by omega)
    refine ⟨b, off, rfl, ?_⟩
    rw [hc j (by omega)]
    simp [List.getD, hj]

set_option maxRecDepth 100000 in
set_option maxHeartbeats 1000000 in
theorem open_frame {H : Type} {enc : TypeId × Value → H} {W : World} {r : Reach} {b0 : Nat} {v : Value} {d : DataW H} {p : List MemPlace}
    (hv : Value.okWide Tryd.prog W r b0 26 v) (h : DataW.Trod enc Tryd.prog W 0 (fun _ => true) true 26 v d p) :
    ∃ (f : Fd) (ao : Option Addr) (n c : Nat), v = .agg #[.int .u8 f.d0, .int .u8 f.d1, .int .u8 f.d2, .int .u8 f.d3, .int .u8 f.d4, .int .u8 f.d5, .int .u8 f.s0, .int .u8 f.s1, .int .u8 f.s2, .int .u8 f.s3, .int .u8 f.s4, .int .u8 f.s5, .bool f.tg, .int .i64 f.vl, .int .i64 f.pr, .int .i64 f.ty, (.slice ao n c)] ∧ FdB f ∧ Byt W ao n c f.bs := by
  obtain ⟨cs, rfl, hsz, _⟩ : ∃ cs, v = .agg cs ∧ cs.size = Tryd.prog.cellsOf 26 ∧ Row.okWide Tryd.prog W r b0 26 cs := by
    simpa [Value.okWide, Tryd.underlying26] using hv
  rw [Tryd.cells26] at hsz
  obtain ⟨l⟩ := cs
  obtain ⟨c0, c1, c2, c3, c4, c5, c6, c7, c8, c9, c10, c11, c12, c13, c14, c15, c16, rfl⟩ := list17 l hsz
  obtain ⟨fuel, hf⟩ := h
  obtain ⟨xs, m, _, hx, _, hl, hg⟩ := DataW.trod_struct Tryd.underlying26 hf
  obtain ⟨x0, x1, x2, x3, x4, x5, x6, rfl⟩ := list7 xs hl
  have g0 := hg 0 _ rfl; have g1 := hg 1 _ rfl; have g2 := hg 2 _ rfl; have g3 := hg 3 _ rfl; have g4 := hg 4 _ rfl; have g5 := hg 5 _ rfl; have g6 := hg 6 _ rfl
  simp [Tryd.cells23, Tryd.cells3, Tryd.cells4, Tryd.cells24, Value.cells] at g0 g1 g2 g3 g4 g5 g6
  obtain ⟨a0, a1, a2, a3, a4, a5, rfl, rfl, rfl, rfl, rfl, rfl, ra⟩ := read_mac g0
  obtain ⟨s0, s1, s2, s3, s4, s5, rfl, rfl, rfl, rfl, rfl, rfl, rs⟩ := read_mac g1
  obtain ⟨tg, e2, rfl⟩ := DataW.trod_bool Tryd.underlying4 g2
  obtain ⟨vl, e3, rfl, w3⟩ := DataW.trod_int Tryd.underlying3 g3
  obtain ⟨pr, e4, rfl, w4⟩ := DataW.trod_int Tryd.underlying3 g4
  obtain ⟨ty, e5, rfl, w5⟩ := DataW.trod_int Tryd.underlying3 g5
  obtain ⟨ao, n, c, ns, rfl, hb⟩ := read_bytes g6
  simp at e2 e3 e4 e5
  subst e2 e3 e4 e5
  exact ⟨⟨a0, a1, a2, a3, a4, a5, s0, s1, s2, s3, s4, s5, tg, vl, pr, ty, ns⟩, ao, n, c, rfl, ⟨rng_append ra rs, hb.rng⟩, hb⟩
end Go.Proofs.YtgpdjfaklcmoiaaDoor.Eth
