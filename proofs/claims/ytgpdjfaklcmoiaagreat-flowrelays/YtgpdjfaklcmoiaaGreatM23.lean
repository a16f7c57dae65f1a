/- Steps with frames, a step, two ints, an int, as arguments. -/
import Derived.Test.YtgpdjfaklcmoiaaGreatM12
import Derived.ProofKit
import Derived.SizedLaws
import Derived.OpenShut
import Derived.Deep.Slices
namespace Go.Proofs.YtgpdjfaklcmoiaaGreat
open Go.ChangeShapes Go.WideShapes Go.ChangeAt Go.RowKit

set_option maxRecDepth 100000 in
theorem own : ownKnob Tryz.prog.godebug = none := by kernel_rfl
theorem Tryz.qcI : Tryz.prog.cellsOf 3 = 1 := by kernel_rfl
theorem Tryz.qcB : Tryz.prog.cellsOf 4 = 1 := by kernel_rfl
theorem Tryz.qcU : Tryz.prog.cellsOf 5 = 1 := by kernel_rfl
theorem Tryz.qcBs : Tryz.prog.cellsOf 36 = 1 := by kernel_rfl
theorem Tryz.qcM : Tryz.prog.cellsOf 35 = 6 := by kernel_rfl
theorem Tryz.qcF : Tryz.prog.cellsOf 38 = 17 := by kernel_rfl
theorem Tryz.qcS : Tryz.prog.cellsOf 40 = 23 := by kernel_rfl
theorem Tryz.qcT : Tryz.prog.cellsOf 22 = 2 := by kernel_rfl
theorem list2' {α : Type} (l : List α) (h : l.length = 2) : ∃ a b, l = [a, b] := by
  match l, h with
  | [a, b], _ => exact ⟨a, b, rfl⟩
theorem list6' {α : Type} (l : List α) (h : l.length = 6) : ∃ a b c d e f, l = [a, b, c, d, e, f] := by
  match l, h with
  | [a, b, c, d, e, f], _ => exact ⟨a, b, c, d, e, f, rfl⟩
theorem list7' {α : Type} (l : List α) (h : l.length = 7) : ∃ a b c d e f g, l = [a, b, c, d, e, f, g] := by
  match l, h with
  | [a, b, c, d, e, f, g], _ => exact ⟨a, b, c, d, e, f, g, rfl⟩
theorem list23 {α : Type} (l : List α) (h : l.length = 23) : ∃ c0 c1 c2 c3 c4 c5 c6 c7 c8 c9 c10 c11 c12 c13 c14 c15 c16 c17 c18 c19 c20 c21 c22, l = [c0, c1, c2, c3, c4, c5, c6, c7, c8, c9, c10, c11, c12, c13, c14, c15, c16, c17, c18, c19, c20, c21, c22] := by
  match l, h with
  | [c0, c1, c2, c3, c4, c5, c6, c7, c8, c9, c10, c11, c12, c13, c14, c15, c16, c17, c18, c19, c20, c21, c22], _ => exact ⟨c0, c1, c2, c3, c4, c5, c6, c7, c8, c9, c10, c11, c12, c13, c14, c15, c16, c17, c18, c19, c20, c21, c22, rfl⟩
set_option maxRecDepth 100000 in
theorem read_mac {H : Type} {enc : TypeId × Value → H} {W : World} {m : Nat} {c0 c1 c2 c3 c4 c5 : Value} {x : DataW H × List MemPlace}
    (hf : DataW.trod enc Tryz.prog W 0 (fun _ => true) true m 35 [c0, c1, c2, c3, c4, c5] = some x) :
    ∃ a0 a1 a2 a3 a4 a5 : Int, c0 = .int .u8 a0 ∧ c1 = .int .u8 a1 ∧ c2 = .int .u8 a2 ∧ c3 = .int .u8 a3 ∧ c4 = .int .u8 a4 ∧ c5 = .int .u8 a5 ∧ Mok ⟨a0, a1, a2, a3, a4, a5⟩ := by
  obtain ⟨xs, m, _, hx, _, hl, hg⟩ := DataW.trod_array Tryz.underlying35 hf
  obtain ⟨x0, x1, x2, x3, x4, x5, rfl⟩ := list6' xs hl
  have g0 := hg 0 (by omega); have g1 := hg 1 (by omega); have g2 := hg 2 (by omega); have g3 := hg 3 (by omega); have g4 := hg 4 (by omega); have g5 := hg 5 (by omega)
  simp [Tryz.qcU] at g0 g1 g2 g3 g4 g5
  obtain ⟨n0, e0, rfl, w0⟩ := DataW.trod_int Tryz.underlying5 g0
  obtain ⟨n1, e1, rfl, w1⟩ := DataW.trod_int Tryz.underlying5 g1
  obtain ⟨n2, e2, rfl, w2⟩ := DataW.trod_int Tryz.underlying5 g2
  obtain ⟨n3, e3, rfl, w3⟩ := DataW.trod_int Tryz.underlying5 g3
  obtain ⟨n4, e4, rfl, w4⟩ := DataW.trod_int Tryz.underlying5 g4
  obtain ⟨n5, e5, rfl, w5⟩ := DataW.trod_int Tryz.underlying5 g5
  simp at e0 e1 e2 e3 e4 e5
  subst e0 e1 e2 e3 e4 e5
  have k0 := bounds_u8 w0; have k1 := bounds_u8 w1; have k2 := bounds_u8 w2; have k3 := bounds_u8 w3; have k4 := bounds_u8 w4; have k5 := bounds_u8 w5
  refine ⟨n0, n1, n2, n3, n4, n5, rfl, rfl, rfl, rfl, rfl, rfl, ?_⟩
  constructor <;> (dsimp only; omega)
set_option maxRecDepth 100000 in
theorem read_bytes {H : Type} {enc : TypeId × Value → H} {W : World} {fuel : Nat} {v : Value} {x : DataW H × List MemPlace}
    (hf : DataW.trod enc Tryz.prog W 0 (fun _ => true) true fuel 36 [v] = some x) : ∃ ao n c ns, v = .slice ao n c ∧ Byt W ao n c ns := by
  rcases open_ints Tryz.underlying36 Tryz.underlying5 Tryz.qcU hf with ⟨hcs, hx⟩ | ⟨a, len', cap', zs, hcs, _, hl, hm, hz, hx, hcell, hwz⟩
  · simp at hcs
    exact ⟨none, 0, 0, [], hcs, Byt.nothing W⟩
  · simp at hcs
    simp only [if_true] at hz
    refine ⟨some a, len', cap', zs.take len', hcs, ⟨by simp; omega, fun e => (by cases e), fun j hj => ?_, hl, hm, fun n hn => bounds_u8 (hwz n (List.mem_of_mem_take hn))⟩⟩
    obtain ⟨b, off, rfl, hc⟩ := ints_at hcell (by omega)
    refine ⟨b, off, rfl, ?_⟩
    rw [hc j (by omega)]
    simp [List.getD, hj]
set_option maxRecDepth 100000 in
set_option maxHeartbeats 2000000 in
theorem read_frame {H : Type} {enc : TypeId × Value → H} {W : World} {fuel : Nat} {c0 c1 c2 c3 c4 c5 c6 c7 c8 c9 c10 c11 c12 c13 c14 c15 c16 : Value} {x : DataW H × List MemPlace}
    (hf : DataW.trod enc Tryz.prog W 0 (fun _ => true) true fuel 38 [c0, c1, c2, c3, c4, c5, c6, c7, c8, c9, c10, c11, c12, c13, c14, c15, c16] = some x) : ∃ (q : Fd) (a : Option Addr) (m c : Nat), [c0, c1, c2, c3, c4, c5, c6, c7, c8, c9, c10, c11, c12, c13, c14, c15, c16] = fcl q (.slice a m c) ∧ Byt W a m c q.bs ∧ Mok (mD q) ∧ Mok (mS q) := by
  obtain ⟨xs, m, _, hx, _, hl, hg⟩ := DataW.trod_struct Tryz.underlying38 hf
  obtain ⟨x0, x1, x2, x3, x4, x5, x6, rfl⟩ := list7' xs hl
  have g0 := hg 0 _ rfl; have g1 := hg 1 _ rfl; have g2 := hg 2 _ rfl; have g3 := hg 3 _ rfl; have g4 := hg 4 _ rfl; have g5 := hg 5 _ rfl; have g6 := hg 6 _ rfl
  simp [Tryz.qcM, Tryz.qcI, Tryz.qcB, Tryz.qcBs] at g0 g1 g2 g3 g4 g5 g6
  obtain ⟨a0, a1, a2, a3, a4, a5, rfl, rfl, rfl, rfl, rfl, rfl, ra⟩ := read_mac g0
  obtain ⟨s0, s1, s2, s3, s4, s5, rfl, rfl, rfl, rfl, rfl, rfl, rs⟩ := read_mac g1
  obtain ⟨tg, e2, rfl⟩ := DataW.trod_bool Tryz.underlying4 g2
  obtain ⟨vl, e3, rfl, w3⟩ := DataW.trod_int Tryz.underlying3 g3
  obtain ⟨pr, e4, rfl, w4⟩ := DataW.trod_int Tryz.underlying3 g4
  obtain ⟨ty, e5, rfl, w5⟩ := DataW.trod_int Tryz.underlying3 g5
  obtain ⟨ao, bn, bc, ns, e7, hb⟩ := read_bytes g6
  simp at e2 e3 e4 e5
  subst e2 e3 e4 e5 e7
  exact ⟨⟨a0, a1, a2, a3, a4, a5, s0, s1, s2, s3, s4, s5, tg, vl, pr, ty, ns⟩, ao, bn, bc, rfl, hb, ra, rs⟩
/-- A step, its Body, and what its numbers are. -/
structure Stq (W : World) (s : Stp) : Prop where
  byt : Byt W s.a s.k s.c s.f.bs
  md : Mok (mD s.f)
  ms : Mok (mS s.f)
  vi : I64 s.v
set_option maxRecDepth 100000 in
set_option maxHeartbeats 2000000 in
theorem read_step {H : Type} {enc : TypeId × Value → H} {W : World} {fuel : Nat} {cs : List Value} {x : DataW H × List MemPlace}
    (hf : DataW.trod enc Tryz.prog W 0 (fun _ => true) true fuel 40 cs = some x) : ∃ s : Stp, cs = stc s ∧ Stq W s := by
  obtain ⟨xs, m, _, hx, hc, hl, hg⟩ := DataW.trod_struct Tryz.underlying40 hf
  rw [Tryz.qcS] at hc
  obtain ⟨c0, c1, c2, c3, c4, c5, c6, c7, c8, c9, c10, c11, c12, c13, c14, c15, c16, c17, c18, c19, c20, c21, c22, rfl⟩ := list23 cs hc
  obtain ⟨x0, x1, x2, x3, x4, x5, x6, rfl⟩ := list7' xs hl
  have g0 := hg 0 _ rfl; have g1 := hg 1 _ rfl; have g2 := hg 2 _ rfl; have g3 := hg 3 _ rfl; have g4 := hg 4 _ rfl; have g5 := hg 5 _ rfl; have g6 := hg 6 _ rfl
  simp [Tryz.qcF, Tryz.qcI, Tryz.qcB] at g0 g1 g2 g3 g4 g5 g6
  obtain ⟨n0, e0, rfl, w0⟩ := DataW.trod_int Tryz.underlying3 g0
  obtain ⟨n1, e1, rfl, w1⟩ := DataW.trod_int Tryz.underlying3 g1
  obtain ⟨n2, e2, rfl, w2⟩ := DataW.trod_int Tryz.underlying3 g2
  obtain ⟨n3, e3, rfl, w3⟩ := DataW.trod_int Tryz.underlying3 g3
  obtain ⟨tg, e4, rfl⟩ := DataW.trod_bool Tryz.underlying4 g4
  obtain ⟨q, a, k, c, e5, hb, hd, hs⟩ := read_frame g5
  obtain ⟨n6, e6, rfl, w6⟩ := DataW.trod_int Tryz.underlying3 g6
  simp at e0 e1 e2 e3 e4 e6
  subst e0 e1 e2 e3 e4 e6
  refine ⟨⟨n0, n1, n2, n3, tg, q, a, k, c, n6⟩, ?_, ⟨hb, hd, hs, bounds_i64 w3⟩⟩
  unfold stc
  rw [← e5]
  rfl
set_option maxRecDepth 100000 in
theorem open_step {H : Type} {enc : TypeId × Value → H} {W : World} {r : Reach} {b0 : Nat} {v : Value} {d : DataW H} {p : List MemPlace}
    (hv : Value.okWide Tryz.prog W r b0 40 v) (h : DataW.Trod enc Tryz.prog W 0 (fun _ => true) true 40 v d p) : ∃ s : Stp, v = .agg (stc s).toArray ∧ Stq W s := by
  obtain ⟨cs, rfl, hsz, _⟩ : ∃ cs, v = .agg cs ∧ cs.size = Tryz.prog.cellsOf 40 ∧ Row.okWide Tryz.prog W r b0 40 cs := by
    simpa [Value.okWide, Tryz.underlying40] using hv
  obtain ⟨l⟩ := cs
  obtain ⟨fuel, hf⟩ := h
  obtain ⟨s, hs, hq⟩ := read_step hf
  refine ⟨s, ?_, hq⟩
  have : l = stc s := hs
  subst this
  rfl
set_option maxRecDepth 100000 in
theorem list_of {α : Type} {Q : Nat → α → Prop} : ∀ n : Nat, (∀ i, i < n → ∃ s, Q i s) → ∃ ss : List α, ss.length = n ∧ ∀ i s, ss[i]? = some s → Q i s
  | 0, _ => ⟨[], rfl, fun i s h => by simp at h⟩
  | n + 1, h => by
    obtain ⟨ss, hl, hq⟩ := list_of n (fun i hi => h i (by omega))
    obtain ⟨s, hs⟩ := h n (by omega)
    refine ⟨ss ++ [s], by simp [hl], fun i s' hi => ?_⟩
    by_cases hin : i < n
    · rw [List.getElem?_append_left (by omega)] at hi
      exact hq i s' hi
    · have hlt := (List.getElem?_eq_some_iff.1 hi).1
      simp [hl] at hlt
      obtain rfl : i = n := by omega
      rw [List.getElem?_append_right (by omega), hl] at hi
      simp at hi
      subst hi
      exact hs
/-- Steps, and what their numbers are. -/
structure StsI (W : World) (ao : Option Addr) (n c : Nat) (xs : List Stp) : Prop where
  s : Sts W ao n c xs
  vi : ∀ x ∈ xs, I64 x.v
theorem StsI.on {w w1 : World} {ao : Option Addr} {n c : Nat} {xs : List Stp} (h : StsI w ao n c xs) (hb : Below w.heap.size w w1) : StsI w1 ao n c xs := ⟨h.s.on hb, h.vi⟩
theorem Stq.on {w w1 : World} {s : Stp} (h : Stq w s) (hb : Below w.heap.size w w1) : Stq w1 s := ⟨h.byt.on hb, h.md, h.ms, h.vi⟩
set_option maxRecDepth 100000 in
theorem open_steps {H : Type} {enc : TypeId × Value → H} {W : World} {r : Reach} {b0 : Nat} {v : Value} {d : DataW H} {p : List MemPlace}
    (hv : Value.okWide Tryz.prog W r b0 23 v) (h : DataW.Trod enc Tryz.prog W 0 (fun _ => true) true 23 v d p) : ∃ ao n c ss, v = .slice ao n c ∧ StsI W ao n c ss := by
  obtain ⟨a, len, cap, rfl⟩ := okWide_slice Tryz.underlying23 hv
  obtain ⟨fuel, hf⟩ := h
  have hf' : DataW.trod enc Tryz.prog W 0 (fun _ => true) true fuel 23 [.slice a len cap] = some (d, p) := by simpa [Value.cells] using hf
  rcases Go.Deep.open_slice Tryz.underlying23 hf' with ⟨h0, _⟩ | ⟨ad, len', cap', m, n, D, Pl, h0, hb, hle, hmx, hm, _, hel⟩
  · simp at h0
    obtain ⟨rfl, rfl, rfl⟩ := h0
    exact ⟨none, 0, 0, [], rfl, ⟨⟨rfl, fun _ => ⟨rfl, rfl⟩, fun j s hj => by simp at hj, Nat.le_refl _, Nat.zero_le _, fun x hx => (by cases hx), fun x hx => (by cases hx), fun x hx => (by cases hx)⟩, fun x hx => (by cases hx)⟩⟩
  · simp at h0
    obtain ⟨rfl, rfl, rfl⟩ := h0
    simp only [if_true] at hm
    subst hm
    obtain ⟨ss, hl, hq⟩ := list_of (Q := fun i s => W.cells? 0 (ad.add (i * 23)) 23 = some (stc s) ∧ Stq W s) len (fun i hi => by
      obtain ⟨cs', h1, h2⟩ := hel i (by omega)
      rw [Tryz.qcS] at h1
      obtain ⟨s, rfl, hq⟩ := read_step h2
      exact ⟨s, h1, hq⟩)
    have hall : ∀ s ∈ ss, Stq W s := fun s hs => by
      obtain ⟨i, hi⟩ := List.mem_iff_getElem?.1 hs
      exact (hq i s hi).2
    refine ⟨some ad, len, _, ss, rfl, ⟨⟨hl, fun e => (by cases e), fun j s hj => ?_, hle, hmx, fun s hs => (hall s hs).byt, fun s hs => (hall s hs).md, fun s hs => (hall s hs).ms⟩, fun s hs => (hall s hs).vi⟩⟩
    have hc := (hq j s hj).1
    obtain ⟨-, hlen, hcell⟩ := World.cells?_some hc
    obtain ⟨b, o, sp⟩ := ad
    have hj0 : j < ss.length := (List.getElem?_eq_some_iff.1 hj).1
    obtain ⟨s1, hs1⟩ : ∃ s1, ss[0]? = some s1 := ⟨_, List.getElem?_eq_getElem (by omega)⟩
    obtain ⟨-, -, hcell1⟩ := World.cells?_some (hq 0 s1 hs1).1
    have h1' : W.cell? (((⟨b, o, sp⟩ : Addr).add (0 * 23)).add 0) = some (.int .i64 s1.d) := hcell1 0 (by omega)
    have hsp : sp = none := by simpa [Addr.add] using World.cell?_spot h1'
    subst hsp
    rw [Addr.add_lit] at hcell
    refine ⟨b, o, rfl, fun i v hi => ?_⟩
    have hi4 : i < 23 := by have := (List.getElem?_eq_some_iff.1 hi).1; rwa [stc_length] at this
    have := hcell i hi4
    rw [Addr.add_lit] at this
    exact this.trans hi
set_option maxRecDepth 100000 in
theorem open_two {H : Type} {enc : TypeId × Value → H} {W : World} {r : Reach} {b0 : Nat} {v : Value} {d : DataW H} {p : List MemPlace}
    (hv : Value.okWide Tryz.prog W r b0 22 v) (h : DataW.Trod enc Tryz.prog W 0 (fun _ => true) true 22 v d p) : ∃ a b : Int, v = .agg #[.int .i64 a, .int .i64 b] ∧ I64 a ∧ I64 b := by
  obtain ⟨cs, rfl, hsz, _⟩ : ∃ cs, v = .agg cs ∧ cs.size = Tryz.prog.cellsOf 22 ∧ Row.okWide Tryz.prog W r b0 22 cs := by
    simpa [Value.okWide, Tryz.underlying22] using hv
  rw [Tryz.qcT] at hsz
  obtain ⟨l⟩ := cs
  obtain ⟨c0, c1, rfl⟩ := list2' l hsz
  obtain ⟨fuel, hf⟩ := h
  obtain ⟨xs, m, _, hx, _, hl, hg⟩ := DataW.trod_array Tryz.underlying22 hf
  obtain ⟨x0, x1, rfl⟩ := list2' xs hl
  have g0 := hg 0 (by omega); have g1 := hg 1 (by omega)
  simp [Tryz.qcI, Value.cells] at g0 g1
  obtain ⟨n0, e0, rfl, w0⟩ := DataW.trod_int Tryz.underlying3 g0
  obtain ⟨n1, e1, rfl, w1⟩ := DataW.trod_int Tryz.underlying3 g1
  simp at e0 e1
  subst e0 e1
  exact ⟨n0, n1, rfl, bounds_i64 w0, bounds_i64 w1⟩
set_option maxRecDepth 100000 in
theorem open_num {H : Type} {enc : TypeId × Value → H} {W : World} {r : Reach} {b0 : Nat} {v : Value} {d : DataW H} {p : List MemPlace}
    (hv : Value.okWide Tryz.prog W r b0 3 v) (h : DataW.Trod enc Tryz.prog W 0 (fun _ => true) true 3 v d p) : ∃ a : Int, v = .int .i64 a ∧ I64 a := by
  obtain ⟨x, rfl, h1, h2, h3⟩ := open_int Tryz.underlying3 hv h
  exact ⟨x, rfl, bounds_i64 (by assumption)⟩
end Go.Proofs.YtgpdjfaklcmoiaaGreat
