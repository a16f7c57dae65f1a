/- Slices of entries, of steps; an int, two ints, as arguments. -/
import Derived.Test.YtjlmheecefobaaaS1
import Derived.ProofKit
import Derived.SizedLaws
import Derived.OpenShut
import Derived.Deep.Slices
namespace Go.Proofs.Ytjlmheecefobaaa
open Go.ChangeShapes Go.WideShapes Go.ChangeAt Go.RowKit

set_option maxRecDepth 100000 in
theorem Try.laidOut : laidOutB Try.prog = true := by kernel_rfl
set_option maxRecDepth 100000 in
theorem own : ownKnob Try.prog.godebug = none := by kernel_rfl
theorem Try.cells52 : Try.prog.cellsOf 52 = 2 := by kernel_rfl
theorem list6' {α : Type} (l : List α) (h : l.length = 6) : ∃ a b c d e f, l = [a, b, c, d, e, f] := by
  match l, h with
  | [a, b, c, d, e, f], _ => exact ⟨a, b, c, d, e, f, rfl⟩
theorem list5' {α : Type} (l : List α) (h : l.length = 5) : ∃ a b c d e, l = [a, b, c, d, e] := by
  match l, h with
  | [a, b, c, d, e], _ => exact ⟨a, b, c, d, e, rfl⟩
theorem list2' {α : Type} (l : List α) (h : l.length = 2) : ∃ a b, l = [a, b] := by
  match l, h with
  | [a, b], _ => exact ⟨a, b, rfl⟩
theorem list2 {α : Type} (l : List α) (h : l.length = 2) : ∃ a b, l = [a, b] := list2' l h
theorem list10 {α : Type} (l : List α) (h : l.length = 10) : ∃ c0 c1 c2 c3 c4 c5 c6 c7 c8 c9, l = [c0, c1, c2, c3, c4, c5, c6, c7, c8, c9] := by
  match l, h with
  | [c0, c1, c2, c3, c4, c5, c6, c7, c8, c9], _ => exact ⟨c0, c1, c2, c3, c4, c5, c6, c7, c8, c9, rfl⟩
theorem list11 {α : Type} (l : List α) (h : l.length = 11) : ∃ c0 c1 c2 c3 c4 c5 c6 c7 c8 c9 c10, l = [c0, c1, c2, c3, c4, c5, c6, c7, c8, c9, c10] := by
  match l, h with
  | [c0, c1, c2, c3, c4, c5, c6, c7, c8, c9, c10], _ => exact ⟨c0, c1, c2, c3, c4, c5, c6, c7, c8, c9, c10, rfl⟩
set_option maxRecDepth 100000 in
theorem read_mac {H : Type} {enc : TypeId × Value → H} {W : World} {m : Nat} {c0 c1 c2 c3 c4 c5 : Value} {x : DataW H × List MemPlace}
    (hf : DataW.trod enc Try.prog W 0 (fun _ => true) true m 34 [c0, c1, c2, c3, c4, c5] = some x) :
    ∃ a0 a1 a2 a3 a4 a5 : Int, c0 = .int .u8 a0 ∧ c1 = .int .u8 a1 ∧ c2 = .int .u8 a2 ∧ c3 = .int .u8 a3 ∧ c4 = .int .u8 a4 ∧ c5 = .int .u8 a5 ∧ Mok ⟨a0, a1, a2, a3, a4, a5⟩ := by
  obtain ⟨xs, m, _, hx, _, hl, hg⟩ := DataW.trod_array Try.underlying34 hf
  obtain ⟨x0, x1, x2, x3, x4, x5, rfl⟩ := list6' xs hl
  have g0 := hg 0 (by omega); have g1 := hg 1 (by omega); have g2 := hg 2 (by omega); have g3 := hg 3 (by omega); have g4 := hg 4 (by omega); have g5 := hg 5 (by omega)
  simp [Try.cells5] at g0 g1 g2 g3 g4 g5
  obtain ⟨n0, e0, rfl, w0⟩ := DataW.trod_int Try.underlying5 g0
  obtain ⟨n1, e1, rfl, w1⟩ := DataW.trod_int Try.underlying5 g1
  obtain ⟨n2, e2, rfl, w2⟩ := DataW.trod_int Try.underlying5 g2
  obtain ⟨n3, e3, rfl, w3⟩ := DataW.trod_int Try.underlying5 g3
  obtain ⟨n4, e4, rfl, w4⟩ := DataW.trod_int Try.underlying5 g4
  obtain ⟨n5, e5, rfl, w5⟩ := DataW.trod_int Try.underlying5 g5
  simp at e0 e1 e2 e3 e4 e5
  subst e0 e1 e2 e3 e4 e5
  have k0 := bounds_u8 w0; have k1 := bounds_u8 w1; have k2 := bounds_u8 w2; have k3 := bounds_u8 w3; have k4 := bounds_u8 w4; have k5 := bounds_u8 w5
  exact ⟨n0, n1, n2, n3, n4, n5, rfl, rfl, rfl, rfl, rfl, rfl, by constructor <;> simp <;> omega⟩
set_option maxRecDepth 100000 in
set_option maxHeartbeats 2000000 in
theorem read_ent {H : Type} {enc : TypeId × Value → H} {W : World} {fuel : Nat} {cs : List Value} {x : DataW H × List MemPlace}
    (hf : DataW.trod enc Try.prog W 0 (fun _ => true) true fuel 36 cs = some x) : ∃ s : En, cs = ecl s ∧ Eok s := by
  obtain ⟨xs, m, _, hx, hc, hl, hg⟩ := DataW.trod_struct Try.underlying36 hf
  rw [Try.cells36] at hc
  obtain ⟨c0, c1, c2, c3, c4, c5, c6, c7, c8, c9, rfl⟩ := list10 cs hc
  obtain ⟨x0, x1, x2, x3, x4, rfl⟩ := list5' xs hl
  have g0 := hg 0 _ rfl; have g1 := hg 1 _ rfl; have g2 := hg 2 _ rfl; have g3 := hg 3 _ rfl; have g4 := hg 4 _ rfl
  simp [Try.cells3, Try.cells4, Try.cells34] at g0 g1 g2 g3 g4
  obtain ⟨n0, e0, rfl, w0⟩ := DataW.trod_int Try.underlying3 g0
  obtain ⟨a0, a1, a2, a3, a4, a5, rfl, rfl, rfl, rfl, rfl, rfl, ra⟩ := read_mac g1
  obtain ⟨n2, e2, rfl, w2⟩ := DataW.trod_int Try.underlying3 g2
  obtain ⟨n3, e3, rfl, w3⟩ := DataW.trod_int Try.underlying3 g3
  obtain ⟨b4, e4, rfl⟩ := DataW.trod_bool Try.underlying4 g4
  simp at e0 e2 e3 e4
  subst e0 e2 e3 e4
  exact ⟨⟨n0, ⟨a0, a1, a2, a3, a4, a5⟩, n2, n3, b4⟩, rfl, ra, bounds_i64 w0⟩
set_option maxRecDepth 100000 in
set_option maxHeartbeats 2000000 in
theorem read_sp {H : Type} {enc : TypeId × Value → H} {W : World} {fuel : Nat} {cs : List Value} {x : DataW H × List MemPlace}
    (hf : DataW.trod enc Try.prog W 0 (fun _ => true) true fuel 38 cs = some x) : ∃ s : Sp, cs = pcl s ∧ Eok s.x := by
  obtain ⟨xs, m, _, hx, hc, hl, hg⟩ := DataW.trod_struct Try.underlying38 hf
  rw [Try.cells38] at hc
  obtain ⟨c0, c1, c2, c3, c4, c5, c6, c7, c8, c9, c10, rfl⟩ := list11 cs hc
  obtain ⟨x0, x1, rfl⟩ := list2' xs hl
  have g0 := hg 0 _ rfl; have g1 := hg 1 _ rfl
  simp [Try.cells36, Try.cells4] at g0 g1
  obtain ⟨s, e0, h0⟩ := read_ent g0
  obtain ⟨b1, e1, rfl⟩ := DataW.trod_bool Try.underlying4 g1
  simp at e1
  subst e1
  refine ⟨⟨s, b1⟩, ?_, h0⟩
  show _ = ecl s ++ [.bool b1]
  rw [← e0]; rfl
set_option maxRecDepth 100000 in
set_option maxHeartbeats 2000000 in
theorem read_step {H : Type} {enc : TypeId × Value → H} {W : World} {fuel : Nat} {cs : List Value} {x : DataW H × List MemPlace}
    (hf : DataW.trod enc Try.prog W 0 (fun _ => true) true fuel 66 cs = some x) : ∃ s : St, cs = scl s ∧ Mok s.m := by
  obtain ⟨xs, m, _, hx, hc, hl, hg⟩ := DataW.trod_struct Try.underlying66 hf
  rw [Try.cells66] at hc
  obtain ⟨c0, c1, c2, c3, c4, c5, c6, c7, c8, c9, c10, rfl⟩ := list11 cs hc
  obtain ⟨x0, x1, x2, x3, x4, x5, rfl⟩ := list6' xs hl
  have g0 := hg 0 _ rfl; have g1 := hg 1 _ rfl; have g2 := hg 2 _ rfl; have g3 := hg 3 _ rfl; have g4 := hg 4 _ rfl; have g5 := hg 5 _ rfl
  simp [Try.cells3, Try.cells34] at g0 g1 g2 g3 g4 g5
  obtain ⟨n0, e0, rfl, w0⟩ := DataW.trod_int Try.underlying3 g0
  obtain ⟨n1, e1, rfl, w1⟩ := DataW.trod_int Try.underlying3 g1
  obtain ⟨a0, a1, a2, a3, a4, a5, rfl, rfl, rfl, rfl, rfl, rfl, ra⟩ := read_mac g2
  obtain ⟨n3, e3, rfl, w3⟩ := DataW.trod_int Try.underlying3 g3
  obtain ⟨n4, e4, rfl, w4⟩ := DataW.trod_int Try.underlying3 g4
  obtain ⟨n5, e5, rfl, w5⟩ := DataW.trod_int Try.underlying3 g5
  simp at e0 e1 e3 e4 e5
  subst e0 e1 e3 e4 e5
  exact ⟨⟨n0, n1, ⟨a0, a1, a2, a3, a4, a5⟩, n3, n4, n5⟩, rfl, ra⟩
theorem list_of {α : Type} {Q : Nat → α → Prop} : ∀ n : Nat, (∀ i, i < n → ∃ s, Q i s) → ∃ ss : List α, ss.length = n ∧ ∀ i s, ss[i]? = some s → Q i s
  | 0, _ => ⟨[], rfl, fun i s h => by simp at h⟩
  | n + 1, h => by
    obtain ⟨ss, hl, hq⟩ := list_of n (fun i hi => h i (by omega))
    obtain ⟨s, hs⟩ := h n (by omega)
    refine ⟨ss ++ [s], by simp [hl], fun i s' hi => ?_⟩
    by_cases hin : i < n
    · rw [List.getElem?_append_left (by omega)] at hi
      exact hq i s' hi
    · have hlt := (List.getElem?_eq_some_iff.1 hi).1
      simp [hl] at hlt
      obtain rfl : i = n := by omega
      rw [List.getElem?_append_right (by omega), hl] at hi
      simp at hi
      subst hi
      exact hs
set_option maxRecDepth 100000 in
theorem open_ents {H : Type} {enc : TypeId × Value → H} {W : World} {r : Reach} {b0 : Nat} {v : Value} {d : DataW H} {p : List MemPlace}
    (hv : Value.okWide Try.prog W r b0 47 v) (h : DataW.Trod enc Try.prog W 0 (fun _ => true) true 47 v d p) : ∃ (ao : Option Addr) (n c : Nat) (ss : List En), v = .slice ao n c ∧ Sl ecl 10 W W.heap.size ao n c ss ∧ ∀ s ∈ ss, Eok s := by
  obtain ⟨a, len, cap, rfl⟩ := okWide_slice Try.underlying47 hv
  obtain ⟨fuel, hf⟩ := h
  have hf' : DataW.trod enc Try.prog W 0 (fun _ => true) true fuel 47 [.slice a len cap] = some (d, p) := by simpa [Value.cells] using hf
  rcases Go.Deep.open_slice Try.underlying47 hf' with ⟨h0, _⟩ | ⟨ad, len', cap', m, n, D, Pl, h0, hb, hle, hmx, hm, _, hel⟩
  · simp at h0
    obtain ⟨rfl, rfl, rfl⟩ := h0
    exact ⟨none, 0, 0, [], rfl, sl_nil _ _ _ _, fun s hs => by simp at hs⟩
  · simp at h0
    obtain ⟨rfl, rfl, rfl⟩ := h0
    simp only [if_true] at hm
    subst hm
    obtain ⟨ss, hl, hq⟩ := list_of (Q := fun i (s : En) => Eok s ∧ W.cells? 0 (ad.add (i * 10)) 10 = some (ecl s)) len (fun i hi => by
      obtain ⟨cs', h1, h2⟩ := hel i (by omega)
      rw [Try.cells36] at h1
      obtain ⟨s, rfl, hm⟩ := read_ent h2
      exact ⟨s, hm, h1⟩)
    refine ⟨some ad, len, _, ss, rfl, ⟨hl, fun e => (by cases e), fun j s hj => ?_, hle, hmx⟩, fun s hs => ?_⟩
    · obtain ⟨hmk, hc⟩ := hq j s hj
      obtain ⟨-, hlen, hcell⟩ := World.cells?_some hc
      obtain ⟨b, o, sp⟩ := ad
      have hcl : ∀ s : En, ∃ v, (ecl s)[0]? = some v := fun s => ⟨_, rfl⟩
      obtain ⟨u0, hu0⟩ := hcl s
      have h0' := (hcell 0 (by omega)).trans hu0
      have hj0 : j < ss.length := (List.getElem?_eq_some_iff.1 hj).1
      obtain ⟨s1, hs1⟩ : ∃ s1, ss[0]? = some s1 := ⟨_, List.getElem?_eq_getElem (by omega)⟩
      obtain ⟨-, -, hcell1⟩ := World.cells?_some (hq 0 s1 hs1).2
      obtain ⟨u1, hu1⟩ := hcl s1
      have h1' := (hcell1 0 (by omega)).trans hu1
      have hsp : sp = none := by simpa [Addr.add] using World.cell?_spot h1'
      subst hsp
      rw [Addr.add_lit] at hcell
      refine ⟨b, o, rfl, ?_, fun i v hi => ?_⟩
      · rw [Addr.add_lit, Addr.add_lit] at h0'
        exact World.block_lt_of_cell? W _ h0'
      · have hi4 : i < 10 := (List.getElem?_eq_some_iff.1 hi).1
        have := hcell i hi4
        rw [Addr.add_lit] at this
        exact this.trans hi
    · obtain ⟨j, hj⟩ := List.getElem?_of_mem hs
      exact (hq j s hj).1
set_option maxRecDepth 100000 in
theorem open_sps {H : Type} {enc : TypeId × Value → H} {W : World} {r : Reach} {b0 : Nat} {v : Value} {d : DataW H} {p : List MemPlace}
    (hv : Value.okWide Try.prog W r b0 22 v) (h : DataW.Trod enc Try.prog W 0 (fun _ => true) true 22 v d p) : ∃ (ao : Option Addr) (n c : Nat) (ss : List Sp), v = .slice ao n c ∧ Sl pcl 11 W W.heap.size ao n c ss ∧ ∀ s ∈ ss, Eok s.x := by
  obtain ⟨a, len, cap, rfl⟩ := okWide_slice Try.underlying22 hv
  obtain ⟨fuel, hf⟩ := h
  have hf' : DataW.trod enc Try.prog W 0 (fun _ => true) true fuel 22 [.slice a len cap] = some (d, p) := by simpa [Value.cells] using hf
  rcases Go.Deep.open_slice Try.underlying22 hf' with ⟨h0, _⟩ | ⟨ad, len', cap', m, n, D, Pl, h0, hb, hle, hmx, hm, _, hel⟩
  · simp at h0
    obtain ⟨rfl, rfl, rfl⟩ := h0
    exact ⟨none, 0, 0, [], rfl, sl_nil _ _ _ _, fun s hs => by simp at hs⟩
  · simp at h0
    obtain ⟨rfl, rfl, rfl⟩ := h0
    simp only [if_true] at hm
    subst hm
    obtain ⟨ss, hl, hq⟩ := list_of (Q := fun i (s : Sp) => Eok s.x ∧ W.cells? 0 (ad.add (i * 11)) 11 = some (pcl s)) len (fun i hi => by
      obtain ⟨cs', h1, h2⟩ := hel i (by omega)
      rw [Try.cells38] at h1
      obtain ⟨s, rfl, hm⟩ := read_sp h2
      exact ⟨s, hm, h1⟩)
    refine ⟨some ad, len, _, ss, rfl, ⟨hl, fun e => (by cases e), fun j s hj => ?_, hle, hmx⟩, fun s hs => ?_⟩
    · obtain ⟨hmk, hc⟩ := hq j s hj
      obtain ⟨-, hlen, hcell⟩ := World.cells?_some hc
      obtain ⟨b, o, sp⟩ := ad
      have hcl : ∀ s : Sp, ∃ v, (pcl s)[0]? = some v := fun s => ⟨_, rfl⟩
      obtain ⟨u0, hu0⟩ := hcl s
      have h0' := (hcell 0 (by omega)).trans hu0
      have hj0 : j < ss.length := (List.getElem?_eq_some_iff.1 hj).1
      obtain ⟨s1, hs1⟩ : ∃ s1, ss[0]? = some s1 := ⟨_, List.getElem?_eq_getElem (by omega)⟩
      obtain ⟨-, -, hcell1⟩ := World.cells?_some (hq 0 s1 hs1).2
      obtain ⟨u1, hu1⟩ := hcl s1
      have h1' := (hcell1 0 (by omega)).trans hu1
      have hsp : sp = none := by simpa [Addr.add] using World.cell?_spot h1'
      subst hsp
      rw [Addr.add_lit] at hcell
      refine ⟨b, o, rfl, ?_, fun i v hi => ?_⟩
      · rw [Addr.add_lit, Addr.add_lit] at h0'
        exact World.block_lt_of_cell? W _ h0'
      · have hi4 : i < 11 := (List.getElem?_eq_some_iff.1 hi).1
        have := hcell i hi4
        rw [Addr.add_lit] at this
        exact this.trans hi
    · obtain ⟨j, hj⟩ := List.getElem?_of_mem hs
      exact (hq j s hj).1
set_option maxRecDepth 100000 in
theorem open_steps {H : Type} {enc : TypeId × Value → H} {W : World} {r : Reach} {b0 : Nat} {v : Value} {d : DataW H} {p : List MemPlace}
    (hv : Value.okWide Try.prog W r b0 60 v) (h : DataW.Trod enc Try.prog W 0 (fun _ => true) true 60 v d p) : ∃ (ao : Option Addr) (n c : Nat) (ss : List St), v = .slice ao n c ∧ Sl scl 11 W W.heap.size ao n c ss ∧ ∀ s ∈ ss, Mok s.m := by
  obtain ⟨a, len, cap, rfl⟩ := okWide_slice Try.underlying60 hv
  obtain ⟨fuel, hf⟩ := h
  have hf' : DataW.trod enc Try.prog W 0 (fun _ => true) true fuel 60 [.slice a len cap] = some (d, p) := by simpa [Value.cells] using hf
  rcases Go.Deep.open_slice Try.underlying60 hf' with ⟨h0, _⟩ | ⟨ad, len', cap', m, n, D, Pl, h0, hb, hle, hmx, hm, _, hel⟩
  · simp at h0
    obtain ⟨rfl, rfl, rfl⟩ := h0
    exact ⟨none, 0, 0, [], rfl, sl_nil _ _ _ _, fun s hs => by simp at hs⟩
  · simp at h0
    obtain ⟨rfl, rfl, rfl⟩ := h0
    simp only [if_true] at hm
    subst hm
    obtain ⟨ss, hl, hq⟩ := list_of (Q := fun i (s : St) => Mok s.m ∧ W.cells? 0 (ad.add (i * 11)) 11 = some (scl s)) len (fun i hi => by
      obtain ⟨cs', h1, h2⟩ := hel i (by omega)
      rw [Try.cells66] at h1
      obtain ⟨s, rfl, hm⟩ := read_step h2
      exact ⟨s, hm, h1⟩)
    refine ⟨some ad, len, _, ss, rfl, ⟨hl, fun e => (by cases e), fun j s hj => ?_, hle, hmx⟩, fun s hs => ?_⟩
    · obtain ⟨hmk, hc⟩ := hq j s hj
      obtain ⟨-, hlen, hcell⟩ := World.cells?_some hc
      obtain ⟨b, o, sp⟩ := ad
      have hcl : ∀ s : St, ∃ v, (scl s)[0]? = some v := fun s => ⟨_, rfl⟩
      obtain ⟨u0, hu0⟩ := hcl s
      have h0' := (hcell 0 (by omega)).trans hu0
      have hj0 : j < ss.length := (List.getElem?_eq_some_iff.1 hj).1
      obtain ⟨s1, hs1⟩ : ∃ s1, ss[0]? = some s1 := ⟨_, List.getElem?_eq_getElem (by omega)⟩
      obtain ⟨-, -, hcell1⟩ := World.cells?_some (hq 0 s1 hs1).2
      obtain ⟨u1, hu1⟩ := hcl s1
      have h1' := (hcell1 0 (by omega)).trans hu1
      have hsp : sp = none := by simpa [Addr.add] using World.cell?_spot h1'
      subst hsp
      rw [Addr.add_lit] at hcell
      refine ⟨b, o, rfl, ?_, fun i v hi => ?_⟩
      · rw [Addr.add_lit, Addr.add_lit] at h0'
        exact World.block_lt_of_cell? W _ h0'
      · have hi4 : i < 11 := (List.getElem?_eq_some_iff.1 hi).1
        have := hcell i hi4
        rw [Addr.add_lit] at this
        exact this.trans hi
    · obtain ⟨j, hj⟩ := List.getElem?_of_mem hs
      exact (hq j s hj).1
set_option maxRecDepth 100000 in
theorem open_two {H : Type} {enc : TypeId × Value → H} {W : World} {r : Reach} {b0 : Nat} {v : Value} {d : DataW H} {p : List MemPlace}
    (hv : Value.okWide Try.prog W r b0 52 v) (h : DataW.Trod enc Try.prog W 0 (fun _ => true) true 52 v d p) : ∃ a b : Int, v = .agg #[.int .i64 a, .int .i64 b] ∧ I64 a ∧ I64 b := by
  obtain ⟨cs, rfl, hsz, _⟩ : ∃ cs, v = .agg cs ∧ cs.size = Try.prog.cellsOf 52 ∧ Row.okWide Try.prog W r b0 52 cs := by
    simpa [Value.okWide, Try.underlying52] using hv
  rw [Try.cells52] at hsz
  obtain ⟨l⟩ := cs
  obtain ⟨c0, c1, rfl⟩ := list2' l hsz
  obtain ⟨fuel, hf⟩ := h
  obtain ⟨xs, m, _, hx, _, hl, hg⟩ := DataW.trod_array Try.underlying52 hf
  obtain ⟨x0, x1, rfl⟩ := list2' xs hl
  have g0 := hg 0 (by omega); have g1 := hg 1 (by omega)
  simp [Try.cells3, Value.cells] at g0 g1
  obtain ⟨n0, e0, rfl, w0⟩ := DataW.trod_int Try.underlying3 g0
  obtain ⟨n1, e1, rfl, w1⟩ := DataW.trod_int Try.underlying3 g1
  simp at e0 e1
  subst e0 e1
  exact ⟨n0, n1, rfl, bounds_i64 w0, bounds_i64 w1⟩
set_option maxRecDepth 100000 in
theorem open_num {H : Type} {enc : TypeId × Value → H} {W : World} {r : Reach} {b0 : Nat} {v : Value} {d : DataW H} {p : List MemPlace}
    (hv : Value.okWide Try.prog W r b0 3 v) (h : DataW.Trod enc Try.prog W 0 (fun _ => true) true 3 v d p) : ∃ a : Int, v = .int .i64 a ∧ I64 a := by
  obtain ⟨x, rfl, h1, h2, h3⟩ := open_int Try.underlying3 hv h
  exact ⟨x, rfl, bounds_i64 (by assumption)⟩
end Go.Proofs.Ytjlmheecefobaaa
