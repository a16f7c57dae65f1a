/- Steps with bytes, bytes, an int, as arguments; how long their bytes are. -/
import Derived.Test.YtmdbclhdbglppaaTw
import Derived.ProofKit
import Derived.SizedLaws
import Derived.OpenShut
import Derived.Deep.Slices
namespace Go.Proofs.Ytmdbclhdbglppaa
open Go.ChangeShapes Go.WideShapes Go.ChangeAt Go.RowKit

set_option maxRecDepth 100000 in
theorem Try.laidOut : laidOutB Try.prog = true := by kernel_rfl
set_option maxRecDepth 100000 in
theorem own : ownKnob Try.prog.godebug = none := by kernel_rfl
theorem Try.cells3 : Try.prog.cellsOf 3 = 1 := by kernel_rfl
theorem Try.cells5 : Try.prog.cellsOf 5 = 1 := by kernel_rfl
theorem Try.cells32 : Try.prog.cellsOf 32 = 1 := by kernel_rfl
theorem Try.cells34 : Try.prog.cellsOf 34 = 3 := by kernel_rfl
theorem Try.by5 : Try.prog.bytesOf 5 = 1 := by kernel_rfl
theorem list3' {α : Type} (l : List α) (h : l.length = 3) : ∃ a b c, l = [a, b, c] := by
  match l, h with
  | [a, b, c], _ => exact ⟨a, b, c, rfl⟩
def Light {H : Type} (t : TypeId) (d : DataW H) : Prop := ∀ n ∈ d.weights Try.prog t, n ≤ reachBytes
set_option maxRecDepth 100000 in
theorem read_bytes {H : Type} {enc : TypeId × Value → H} {W : World} {fuel : Nat} {v : Value} {x : DataW H × List MemPlace}
    (hf : DataW.trod enc Try.prog W 0 (fun _ => true) true fuel 32 [v] = some x) : ∃ ao n c ns, v = .slice ao n c ∧ By W (fun i => i < W.heap.size) ao n c ns ∧ (Light 32 x.1 → n ≤ 140737488355328) := by
  rcases open_ints Try.underlying32 Try.underlying5 Try.cells5 hf with ⟨hcs, hx⟩ | ⟨a, len', cap', zs, hcs, _, hl, hm, hz, hx, hcell, hwz⟩
  · simp at hcs
    exact ⟨none, 0, 0, [], hcs, ⟨Byt.nothing W, fun b o e => (by cases e)⟩, fun _ => Nat.zero_le _⟩
  · simp at hcs
    simp only [if_true] at hz
    have hB : Byt W (some a) len' cap' (zs.take len') := ⟨by simp; omega, fun e => (by cases e), fun j hj => by
      obtain ⟨b, off, rfl, hc⟩ := ints_at hcell (by omega)
      refine ⟨b, off, rfl, ?_⟩
      rw [hc j (by omega)]
      simp [List.getD, hj], hl, hm, fun n hn => bounds_u8 (hwz n (List.mem_of_mem_take hn))⟩
    refine ⟨some a, len', cap', zs.take len', hcs, ⟨hB, fun b o e hn => hB.lt b o e hn⟩, fun hw => ?_⟩
    have h := hw (((lits .u8 (zs.take len') : List (DataW H)).length + (lits .u8 (zs.drop len') : List (DataW H)).length) * Try.prog.bytesOf 5) (by
      rw [hx]; simp [DataW.weights, Try.underlying32])
    rw [Try.by5] at h
    have hr := reachBytes_lt
    simp [lits] at h
    omega
theorem open_bytes {H : Type} {enc : TypeId × Value → H} {W : World} {r : Reach} {b0 : Nat} {v : Value} {d : DataW H} {p : List MemPlace}
    (hv : Value.okWide Try.prog W r b0 32 v) (h : DataW.Trod enc Try.prog W 0 (fun _ => true) true 32 v d p) : ∃ ao n c ns, v = .slice ao n c ∧ By W (fun i => i < W.heap.size) ao n c ns := by
  obtain ⟨a, len, cap, rfl⟩ := okWide_slice Try.underlying32 hv
  obtain ⟨fuel, hf⟩ := h
  obtain ⟨ao, n, c, ns, h1, h2, _⟩ := read_bytes (by simpa [Value.cells] using hf)
  exact ⟨ao, n, c, ns, h1, h2⟩
set_option maxRecDepth 100000 in
set_option maxHeartbeats 2000000 in
theorem read_step {H : Type} {enc : TypeId × Value → H} {W : World} {fuel : Nat} {cs : List Value} {x : DataW H × List MemPlace}
    (hf : DataW.trod enc Try.prog W 0 (fun _ => true) true fuel 34 cs = some x) : ∃ (s : Sq) (ab : Option Addr) (nb cb : Nat), cs = [.int .i64 s.d, .int .i64 s.k, .slice ab nb cb] ∧ By W (fun i => i < W.heap.size) ab nb cb s.b ∧ (Light 34 x.1 → nb ≤ 140737488355328) := by
  obtain ⟨xs, m, _, hx, hc, hl, hg⟩ := DataW.trod_struct Try.underlying34 hf
  rw [Try.cells34] at hc
  obtain ⟨c0, c1, c2, rfl⟩ := list3' cs hc
  obtain ⟨x0, x1, x2, rfl⟩ := list3' xs hl
  have g0 := hg 0 _ rfl; have g1 := hg 1 _ rfl; have g2 := hg 2 _ rfl
  simp [Try.cells3, Try.cells32] at g0 g1 g2
  obtain ⟨n0, e0, rfl, w0⟩ := DataW.trod_int Try.underlying3 g0
  obtain ⟨n1, e1, rfl, w1⟩ := DataW.trod_int Try.underlying3 g1
  obtain ⟨ab, nb, cb, ns, e2, hb, hw⟩ := read_bytes g2
  simp at e0 e1
  subst e0 e1 e2
  refine ⟨⟨n0, n1, ns⟩, ab, nb, cb, rfl, hb, fun h => hw (fun n hn => h n ?_)⟩
  rw [hx]
  simp only [DataW.weights, Try.underlying34]
  exact DataW.weights_mem_each (j := 2) (t := 32) (d := x2.1) rfl rfl n hn
theorem list_of {α : Type} {Q : Nat → α → Prop} : ∀ n : Nat, (∀ i, i < n → ∃ s, Q i s) → ∃ ss : List α, ss.length = n ∧ ∀ i s, ss[i]? = some s → Q i s
  | 0, _ => ⟨[], rfl, fun i s h => by simp at h⟩
  | n + 1, h => by
    obtain ⟨ss, hl, hq⟩ := list_of n (fun i hi => h i (by omega))
    obtain ⟨s, hs⟩ := h n (by omega)
    refine ⟨ss ++ [s], by simp [hl], fun i s' hi => ?_⟩
    by_cases hin : i < n
    · rw [List.getElem?_append_left (by omega)] at hi
      exact hq i s' hi
    · have hlt := (List.getElem?_eq_some_iff.1 hi).1
      simp [hl] at hlt
      obtain rfl : i = n := by omega
      rw [List.getElem?_append_right (by omega), hl] at hi
      simp at hi
      subst hi
      exact hs
theorem weights_all {H : Type} {P : Program} {e : TypeId} {d : DataW H} : ∀ {l : List (DataW H)}, d ∈ l → ∀ n ∈ d.weights P e, n ∈ DataW.weightsAll P e l
  | x :: r, h, n, hn => by
    rw [DataW.weightsAll, List.mem_append]
    rcases List.mem_cons.1 h with rfl | h
    · exact Or.inl hn
    · exact Or.inr (weights_all h n hn)
set_option maxRecDepth 100000 in
theorem open_steps {H : Type} {enc : TypeId × Value → H} {W : World} {r : Reach} {b0 : Nat} {v : Value} {d : DataW H} {p : List MemPlace}
    (hv : Value.okWide Try.prog W r b0 22 v) (h : DataW.Trod enc Try.prog W 0 (fun _ => true) true 22 v d p) (hw : Light 22 d) : ∃ (ao : Option Addr) (n c : Nat) (ss : List Sq), v = .slice ao n c ∧ Stp W W.heap.size ao n c ss := by
  obtain ⟨a, len, cap, rfl⟩ := okWide_slice Try.underlying22 hv
  obtain ⟨fuel, hf⟩ := h
  have hf' : DataW.trod enc Try.prog W 0 (fun _ => true) true fuel 22 [.slice a len cap] = some (d, p) := by simpa [Value.cells] using hf
  rcases Go.Deep.open_slice Try.underlying22 hf' with ⟨h0, _⟩ | ⟨ad, len', cap', m, n, D, Pl, h0, hb, hle, hmx, hm, hd, hel⟩
  · simp at h0
    obtain ⟨rfl, rfl, rfl⟩ := h0
    exact ⟨none, 0, 0, [], rfl, ⟨rfl, fun j s hj => by simp at hj, Nat.le_refl _, Nat.zero_le _⟩⟩
  · simp at h0
    obtain ⟨rfl, rfl, rfl⟩ := h0
    simp only [if_true] at hm
    subst hm
    have hd1 : d = .slice ((List.range len).map D) ((List.range (m - len)).map fun j => D (len + j)) := congrArg Prod.fst hd
    obtain ⟨ss, hl, hq⟩ := list_of (Q := fun i (s : Sq) => ∃ (ab : Option Addr) (nb cb : Nat), W.cells? 0 (ad.add (i * 3)) 3 = some [.int .i64 s.d, .int .i64 s.k, .slice ab nb cb] ∧ By W (fun i => i < W.heap.size) ab nb cb s.b ∧ nb ≤ 140737488355328) len (fun i hi => by
      obtain ⟨cs', h1, h2⟩ := hel i (by omega)
      rw [Try.cells34] at h1
      obtain ⟨s, ab, nb, cb, rfl, hy, hn⟩ := read_step h2
      refine ⟨s, ab, nb, cb, h1, hy, hn (fun q hq => hw q ?_)⟩
      rw [hd1]
      simp only [DataW.weights, Try.underlying22]
      exact List.mem_cons_of_mem _ (List.mem_append.2 (Or.inl (weights_all (List.mem_map.2 ⟨i, List.mem_range.2 hi, rfl⟩) q hq))))
    refine ⟨some ad, len, _, ss, rfl, ⟨hl, fun j s hj => ?_, hle, hmx⟩⟩
    obtain ⟨ab, nb, cb, hc, hy, hn⟩ := hq j s hj
    obtain ⟨-, hlen, hcell⟩ := World.cells?_some hc
    obtain ⟨b, o, sp⟩ := ad
    have hj0 : j < ss.length := (List.getElem?_eq_some_iff.1 hj).1
    obtain ⟨s1, hs1⟩ : ∃ s1, ss[0]? = some s1 := ⟨_, List.getElem?_eq_getElem (by omega)⟩
    obtain ⟨ab1, nb1, cb1, hc1, -, -⟩ := hq 0 s1 hs1
    obtain ⟨-, -, hcell1⟩ := World.cells?_some hc1
    have h1' := (hcell1 0 (by omega)).trans (show [Value.int .i64 s1.d, .int .i64 s1.k, .slice ab1 nb1 cb1][0]? = some (.int .i64 s1.d) from rfl)
    have hsp : sp = none := by simpa [Addr.add] using World.cell?_spot h1'
    subst hsp
    have h0' := (hcell 0 (by omega)).trans (show [Value.int .i64 s.d, .int .i64 s.k, .slice ab nb cb][0]? = some (.int .i64 s.d) from rfl)
    rw [Addr.add_lit] at hcell
    refine ⟨b, o, ab, nb, cb, rfl, ?_, fun i v hi => ?_, hy, hn⟩
    · rw [Addr.add_lit, Addr.add_lit] at h0'
      exact World.block_lt_of_cell? W _ h0'
    · have hi3 : i < 3 := (List.getElem?_eq_some_iff.1 hi).1
      have := hcell i hi3
      rw [Addr.add_lit] at this
      exact this.trans hi
set_option maxRecDepth 100000 in
theorem open_num {H : Type} {enc : TypeId × Value → H} {W : World} {r : Reach} {b0 : Nat} {v : Value} {d : DataW H} {p : List MemPlace}
    (hv : Value.okWide Try.prog W r b0 3 v) (h : DataW.Trod enc Try.prog W 0 (fun _ => true) true 3 v d p) : ∃ a : Int, v = .int .i64 a ∧ I64 a := by
  obtain ⟨x, rfl, h1, h2, h3⟩ := open_int Try.underlying3 hv h
  exact ⟨x, rfl, bounds_i64 (by assumption)⟩
end Go.Proofs.Ytmdbclhdbglppaa
