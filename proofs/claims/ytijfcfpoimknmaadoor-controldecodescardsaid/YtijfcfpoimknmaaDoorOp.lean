/- A packet, a list of bytes, an array of two or three numbers, as an argument; the table of kinds, as the rows list it. -/
import Derived.Test.YtijfcfpoimknmaaDoorA1
import Derived.ProofKit
import Derived.SizedLaws
import Derived.Lib.LaidTab
import Derived.LaidMore
import Derived.OpenShut
import Derived.Stop.Joined
namespace Go.Proofs.YtijfcfpoimknmaaDoor
open Go.ChangeShapes Go.WideShapes Go.ChangeAt Go.RowKit

theorem own : ownKnob Tryd.prog.godebug = none := by kernel_rfl
theorem Tryd.laidOut : laidOutB Tryd.prog = true := by kernel_rfl
theorem gKinds : Tryd.prog.globalNamed "gemel/control.kinds" = some 0 := by kernel_rfl
theorem tKinds : (Tryd.prog.globals[0]?).map (·.type) = some 64 := by kernel_rfl
theorem Tryd.cells64 : Tryd.prog.cellsOf 64 = 9 := by kernel_rfl
abbrev laidK : List (String × DataW Unit) := [("gemel/control.kinds", Rows.laid_gemel_control_kinds)]
theorem kt_of_laid {W : World} (h : laidMetH Tryd.prog laidK W) : KT W := by
  rw [MakeChecks.laidMetH_plain _ _ _ (by kernel_rfl)] at h
  have hT : Lib.TabIs Tryd.prog W "gemel/control.kinds" .i64 tab := Lib.tabIs_of_head gKinds tKinds Tryd.underlying64 Tryd.underlying3 Tryd.cells3 Tryd.cells64 h
  exact ⟨fun j hj => hT.cell gKinds j hj⟩
theorem door_met (os : Os) (args : Array Value) : laidMetH Tryd.prog laidK ((World.doorLaid Tryd.prog 14 os).forCall (fun _ _ => 0) ⟨#[], args, []⟩).memory :=
  laidMetH_of_parts3 (fuel := 8) (laidMet_of_run' 8 (by kernel_rfl) (by kernel_rfl)) (by kernel_rfl) (by kernel_rfl)
theorem Tryd.cells39 : Tryd.prog.cellsOf 39 = 2 := by kernel_rfl
theorem Tryd.cells45 : Tryd.prog.cellsOf 45 = 3 := by kernel_rfl
theorem list2' {α : Type} (l : List α) (h : l.length = 2) : ∃ a b, l = [a, b] := by
  match l, h with
  | [a, b], _ => exact ⟨a, b, rfl⟩
theorem list3' {α : Type} (l : List α) (h : l.length = 3) : ∃ a b c, l = [a, b, c] := by
  match l, h with
  | [a, b, c], _ => exact ⟨a, b, c, rfl⟩
theorem list4' {α : Type} (l : List α) (h : l.length = 4) : ∃ a b c d, l = [a, b, c, d] := by
  match l, h with
  | [a, b, c, d], _ => exact ⟨a, b, c, d, rfl⟩
theorem list6' {α : Type} (l : List α) (h : l.length = 6) : ∃ a b c d e f, l = [a, b, c, d, e, f] := by
  match l, h with
  | [a, b, c, d, e, f], _ => exact ⟨a, b, c, d, e, f, rfl⟩
theorem list14 {α : Type} (l : List α) (h : l.length = 14) : ∃ c0 c1 c2 c3 c4 c5 c6 c7 c8 c9 c10 c11 c12 c13, l = [c0, c1, c2, c3, c4, c5, c6, c7, c8, c9, c10, c11, c12, c13] := by
  match l, h with
  | [c0, c1, c2, c3, c4, c5, c6, c7, c8, c9, c10, c11, c12, c13], _ => exact ⟨c0, c1, c2, c3, c4, c5, c6, c7, c8, c9, c10, c11, c12, c13, rfl⟩
theorem read_mac {H : Type} {enc : TypeId × Value → H} {W : World} {m : Nat} {c0 c1 c2 c3 c4 c5 : Value} {x : DataW H × List MemPlace}
    (hf : DataW.trod enc Tryd.prog W 0 (fun _ => true) true m 23 [c0, c1, c2, c3, c4, c5] = some x) :
    ∃ a0 a1 a2 a3 a4 a5 : Int, c0 = .int .u8 a0 ∧ c1 = .int .u8 a1 ∧ c2 = .int .u8 a2 ∧ c3 = .int .u8 a3 ∧ c4 = .int .u8 a4 ∧ c5 = .int .u8 a5 ∧ Rng [a0, a1, a2, a3, a4, a5] := by
  obtain ⟨xs, m, _, hx, _, hl, hg⟩ := DataW.trod_array Tryd.underlying23 hf
  obtain ⟨x0, x1, x2, x3, x4, x5, rfl⟩ := list6' xs hl
  have g0 := hg 0 (by omega); have g1 := hg 1 (by omega); have g2 := hg 2 (by omega); have g3 := hg 3 (by omega); have g4 := hg 4 (by omega); have g5 := hg 5 (by omega)
  simp [Tryd.cells5] at g0 g1 g2 g3 g4 g5
  obtain ⟨n0, e0, rfl, w0⟩ := DataW.trod_int Tryd.underlying5 g0
  obtain ⟨n1, e1, rfl, w1⟩ := DataW.trod_int Tryd.underlying5 g1
  obtain ⟨n2, e2, rfl, w2⟩ := DataW.trod_int Tryd.underlying5 g2
  obtain ⟨n3, e3, rfl, w3⟩ := DataW.trod_int Tryd.underlying5 g3
  obtain ⟨n4, e4, rfl, w4⟩ := DataW.trod_int Tryd.underlying5 g4
  obtain ⟨n5, e5, rfl, w5⟩ := DataW.trod_int Tryd.underlying5 g5
  simp at e0 e1 e2 e3 e4 e5
  subst e0 e1 e2 e3 e4 e5
  have k0 := bounds_u8 w0; have k1 := bounds_u8 w1; have k2 := bounds_u8 w2; have k3 := bounds_u8 w3; have k4 := bounds_u8 w4; have k5 := bounds_u8 w5
  exact ⟨n0, n1, n2, n3, n4, n5, rfl, rfl, rfl, rfl, rfl, rfl, rng_cons k0.1 k0.2 (rng_cons k1.1 k1.2 (rng_cons k2.1 k2.2 (rng_cons k3.1 k3.2 (rng_cons k4.1 k4.2 (rng_cons k5.1 k5.2 rng_nil)))))⟩
theorem read_bytes {H : Type} {enc : TypeId × Value → H} {W : World} {fuel : Nat} {v : Value} {x : DataW H × List MemPlace}
    (hf : DataW.trod enc Tryd.prog W 0 (fun _ => true) true fuel 24 [v] = some x) : ∃ ao n c ns, v = .slice ao n c ∧ Byt W ao n c ns := by
  rcases open_ints Tryd.underlying24 Tryd.underlying5 Tryd.cells5 hf with ⟨hcs, hx⟩ | ⟨a, len', cap', zs, hcs, _, hl, hm, hz, hx, hcell, hwz⟩
  · simp at hcs
    exact ⟨none, 0, 0, [], hcs, Byt.nothing W⟩
  · simp at hcs
    simp only [if_true] at hz
    refine ⟨some a, len', cap', zs.take len', hcs, ⟨by simp; omega, fun e => (by cases e), fun j hj => ?_, hl, hm, fun n hn => bounds_u8 (hwz n (List.mem_of_mem_take hn))⟩⟩
    obtain ⟨b, off, rfl, hc⟩ := ints_at hcell (by omega)
    refine ⟨b, off, rfl, ?_⟩
    rw [hc j (by omega)]
    simp [List.getD, hj]
theorem open_bytes {H : Type} {enc : TypeId × Value → H} {W : World} {r : Reach} {b0 : Nat} {v : Value} {d : DataW H} {p : List MemPlace}
    (hv : Value.okWide Tryd.prog W r b0 24 v) (h : DataW.Trod enc Tryd.prog W 0 (fun _ => true) true 24 v d p) : ∃ ao n c ns, v = .slice ao n c ∧ Byt W ao n c ns := by
  obtain ⟨a, len, cap, rfl⟩ := okWide_slice Tryd.underlying24 hv
  obtain ⟨fuel, hf⟩ := h
  exact read_bytes (by simpa [Value.cells] using hf)
set_option maxRecDepth 100000 in
set_option maxHeartbeats 2000000 in
theorem open_pkt {H : Type} {enc : TypeId × Value → H} {W : World} {r : Reach} {b0 : Nat} {v : Value} {d : DataW H} {p : List MemPlace}
    (hv : Value.okWide Tryd.prog W r b0 28 v) (h : DataW.Trod enc Tryd.prog W 0 (fun _ => true) true 28 v d p) : ∃ (q : Pk) (a : Option Addr) (m c : Nat), v = .agg (PC q (.slice a m c)) ∧ Byt W a m c q.n.b ∧ NtB q.n := by
  obtain ⟨cs, rfl, hsz, _⟩ : ∃ cs, v = .agg cs ∧ cs.size = Tryd.prog.cellsOf 28 ∧ Row.okWide Tryd.prog W r b0 28 cs := by
    simpa [Value.okWide, Tryd.underlying28] using hv
  rw [Tryd.cells28] at hsz
  obtain ⟨l⟩ := cs
  obtain ⟨c0, c1, c2, c3, c4, c5, c6, c7, c8, c9, c10, c11, c12, c13, rfl⟩ := list14 l hsz
  obtain ⟨fuel, hf⟩ := h
  obtain ⟨xs, m, _, hx, _, hl, hg⟩ := DataW.trod_struct Tryd.underlying28 hf
  obtain ⟨x0, x1, x2, x3, rfl⟩ := list4' xs hl
  have g0 := hg 0 _ rfl; have g1 := hg 1 _ rfl; have g2 := hg 2 _ rfl; have g3 := hg 3 _ rfl
  simp [Tryd.cells26, Tryd.cells3, Value.cells] at g0 g1 g2 g3
  obtain ⟨n0, e0, rfl, w0⟩ := DataW.trod_int Tryd.underlying3 g0
  obtain ⟨n1, e1, rfl, w1⟩ := DataW.trod_int Tryd.underlying3 g1
  obtain ⟨n2, e2, rfl, w2⟩ := DataW.trod_int Tryd.underlying3 g2
  obtain ⟨ys, m', _, hy, _, hl', hg'⟩ := DataW.trod_struct Tryd.underlying26 g3
  obtain ⟨y0, y1, y2, y3, y4, y5, rfl⟩ := list6' ys hl'
  have k0 := hg' 0 _ rfl; have k1 := hg' 1 _ rfl; have k2 := hg' 2 _ rfl; have k3 := hg' 3 _ rfl; have k4 := hg' 4 _ rfl; have k5 := hg' 5 _ rfl
  simp [Tryd.cells23, Tryd.cells3, Tryd.cells24] at k0 k1 k2 k3 k4 k5
  obtain ⟨n3, e3, rfl, w3⟩ := DataW.trod_int Tryd.underlying3 k0
  obtain ⟨n4, e4, rfl, w4⟩ := DataW.trod_int Tryd.underlying3 k1
  obtain ⟨a0, a1, a2, a3, a4, a5, rfl, rfl, rfl, rfl, rfl, rfl, ra⟩ := read_mac k2
  obtain ⟨n5, e5, rfl, w5⟩ := DataW.trod_int Tryd.underlying3 k3
  obtain ⟨n6, e6, rfl, w6⟩ := DataW.trod_int Tryd.underlying3 k4
  obtain ⟨ao, bn, bc, ns, e7, hb⟩ := read_bytes k5
  simp at e0 e1 e2 e3 e4 e5 e6
  subst e0 e1 e2 e3 e4 e5 e6 e7
  exact ⟨⟨n0, n1, n2, ⟨n3, n4, a0, a1, a2, a3, a4, a5, n5, n6, ns⟩⟩, ao, bn, bc, rfl, hb, ⟨ra, hb.rng⟩⟩
theorem open_two {H : Type} {enc : TypeId × Value → H} {W : World} {r : Reach} {b0 : Nat} {v : Value} {d : DataW H} {p : List MemPlace}
    (hv : Value.okWide Tryd.prog W r b0 39 v) (h : DataW.Trod enc Tryd.prog W 0 (fun _ => true) true 39 v d p) : ∃ a b : Int, v = .agg #[.int .i64 a, .int .i64 b] := by
  obtain ⟨cs, rfl, hsz, _⟩ : ∃ cs, v = .agg cs ∧ cs.size = Tryd.prog.cellsOf 39 ∧ Row.okWide Tryd.prog W r b0 39 cs := by
    simpa [Value.okWide, Tryd.underlying39] using hv
  rw [Tryd.cells39] at hsz
  obtain ⟨l⟩ := cs
  obtain ⟨c0, c1, rfl⟩ := list2' l hsz
  obtain ⟨fuel, hf⟩ := h
  obtain ⟨xs, m, _, hx, _, hl, hg⟩ := DataW.trod_array Tryd.underlying39 hf
  obtain ⟨x0, x1, rfl⟩ := list2' xs hl
  have g0 := hg 0 (by omega); have g1 := hg 1 (by omega)
  simp [Tryd.cells3, Value.cells] at g0 g1
  obtain ⟨n0, e0, rfl, w0⟩ := DataW.trod_int Tryd.underlying3 g0
  obtain ⟨n1, e1, rfl, w1⟩ := DataW.trod_int Tryd.underlying3 g1
  simp at e0 e1
  subst e0 e1
  exact ⟨n0, n1, rfl⟩
theorem open_three {H : Type} {enc : TypeId × Value → H} {W : World} {r : Reach} {b0 : Nat} {v : Value} {d : DataW H} {p : List MemPlace}
    (hv : Value.okWide Tryd.prog W r b0 45 v) (h : DataW.Trod enc Tryd.prog W 0 (fun _ => true) true 45 v d p) : ∃ a b c : Int, v = .agg #[.int .i64 a, .int .i64 b, .int .i64 c] := by
  obtain ⟨cs, rfl, hsz, _⟩ : ∃ cs, v = .agg cs ∧ cs.size = Tryd.prog.cellsOf 45 ∧ Row.okWide Tryd.prog W r b0 45 cs := by
    simpa [Value.okWide, Tryd.underlying45] using hv
  rw [Tryd.cells45] at hsz
  obtain ⟨l⟩ := cs
  obtain ⟨c0, c1, c2, rfl⟩ := list3' l hsz
  obtain ⟨fuel, hf⟩ := h
  obtain ⟨xs, m, _, hx, _, hl, hg⟩ := DataW.trod_array Tryd.underlying45 hf
  obtain ⟨x0, x1, x2, rfl⟩ := list3' xs hl
  have g0 := hg 0 (by omega); have g1 := hg 1 (by omega); have g2 := hg 2 (by omega)
  simp [Tryd.cells3, Value.cells] at g0 g1 g2
  obtain ⟨n0, e0, rfl, w0⟩ := DataW.trod_int Tryd.underlying3 g0
  obtain ⟨n1, e1, rfl, w1⟩ := DataW.trod_int Tryd.underlying3 g1
  obtain ⟨n2, e2, rfl, w2⟩ := DataW.trod_int Tryd.underlying3 g2
  simp at e0 e1 e2
  subst e0 e1 e2
  exact ⟨n0, n1, n2, rfl⟩
end Go.Proofs.YtijfcfpoimknmaaDoor
