/- Contract of awake. -/
import Derived.Test.YtjlmheecefobaaaJ6
namespace Go.Proofs.Ytjlmheecefobaaa
open Go.RowKit Go.PlainAid

def eV (v : Int) : En := ⟨v, zM, 0, 0, false⟩
theorem EV (v : Int) : (#[.int .i64 v, .int .u8 0, .int .u8 0, .int .u8 0, .int .u8 0, .int .u8 0, .int .u8 0, .int .i64 0, .int .i64 0, .bool false] : Array Value) = EC (eV v) := rfl
theorem ESET (v : Int) : (EC (eV 0)).setIfInBounds 0 (.int .i64 v) = EC (eV v) := rfl
theorem Mid.under {N M G : Nat} {w w1 : World} (h : Mid N M w w1) (hG : G ≤ N) (hN : G ≤ w.heap.size) : Below G w w1 :=
  ⟨h.os, h.tape, h.output, h.size, fun i hi => h.block i (by omega) (Or.inl (by omega))⟩
theorem Cts.chg {w : World} {B : Nat} {ao : Option Addr} {n c : Nat} {l : List Ch} (h : Cts w B ao n c l) {j : Nat} {x : Ch} (hj : l[j]? = some x) : ∃ b, ao = some ⟨b, 0, none⟩ ∧ B ≤ b ∧ b < w.heap.size ∧ w.rangeAt b (j * 12) (ccl x) := by
  cases ao with
  | none =>
    have := h.nil rfl
    have := h.len
    have := (List.getElem?_eq_some_iff.1 hj).1
    omega
  | some a =>
    obtain ⟨b, e1, e2, e3⟩ := h.bx a rfl
    exact ⟨b, by rw [e1], e2, e3.lt, e3.chg hj⟩
/-- Put, its number by name. -/
theorem put13q (h n : Nat) (pl cs : List Ch) (x : En) (g : Bool) (q : Int) (w : World) (H : PJ w h n pl cs) (hL : cs.length < 1073741824) (hq : q = (cs.length : Int) + 1) :
    Calls Try.prog 13 #[.pointer (some ⟨h + 1, 0, none⟩), .agg (EC x), .bool g] w fun e w' => e = .returned (.tuple #[.int .i64 q, .int .i64 0]) ∧ (∃ pl' cs', cs' = cs ++ [⟨q, x, g⟩] ∧ cs'.length = cs.length + 1 ∧ PJ w' h n pl' cs') ∧ Mid h (h + 2) w w' := by
  have := put13 h n pl cs x g w H hL
  rw [show ((cs.length + 1 : Nat) : Int) = q by omega] at this
  refine this.mono ?_
  rintro e w' ⟨rfl, ⟨pl', P⟩, M⟩
  exact ⟨rfl, ⟨pl', _, rfl, by simp, P⟩, M⟩
section
attribute [local go_sem] EV ESET
set_option maxRecDepth 100000 in
set_option maxHeartbeats 4000000 in
theorem awake10 (w : World) : Calls Try.prog 10 #[] w fun e w' => e = .returned (.bool true) ∧ Below w.heap.size w w' := by
  go_enter Try.func10, Try.ntmps10
  go_wp2_with fail
  refine (new11 2 _ (by omega) (by omega)).mono ?_
  rintro e w1 ⟨rfl, P1, B1⟩
  have HP := hide P1
  have HB := hide B1
  clear P1 B1
  generalize hh : w.heap.size = jb at *
  have HH := hide hh
  clear hh
  go_wp2_with fail
  refine (put13q jb 2 _ [] (eV 1) false 1 _ HP.out (by simp) (by simp)).mono ?_
  rintro e w2 ⟨rfl, ⟨pl2, cs2, e2, l2, P2⟩, M2⟩
  replace HP := hide P2
  replace HB := hide (HB.out.trans (M2.under (Nat.le_refl _) (by have := HB.out.size; rw [HH.out] at this; exact this)))
  have L2 := hide l2
  have E2 := hide e2
  clear P2 M2 e2 l2
  go_wp2_with fail
  refine (put13q jb 2 _ cs2 (eV 2) false 2 _ HP.out (by rw [L2.out]; simp) (by rw [L2.out]; simp)).mono ?_
  rintro e w3 ⟨rfl, ⟨pl3, cs3, e3, l3, P3⟩, M3⟩
  replace HP := hide P3
  replace HB := hide (HB.out.trans (M3.under (Nat.le_refl _) (by have := HB.out.size; rw [HH.out] at this; exact this)))
  have L3 : Hid (cs3.length = 2) := hide (by rw [l3, L2.out]; rfl)
  have E3 := hide e3
  clear P3 M3 e3 l3
  go_wp2_with fail
  refine (put13q jb 2 _ cs3 (eV 3) true 3 _ HP.out (by rw [L3.out]; simp) (by rw [L3.out]; simp)).mono ?_
  rintro e w4 ⟨rfl, ⟨pl4, cs4, e4, l4, P4⟩, M4⟩
  replace HP := hide P4
  replace HB := hide (HB.out.trans (M4.under (Nat.le_refl _) (by have := HB.out.size; rw [HH.out] at this; exact this)))
  have L4 : Hid (cs4.length = 3) := hide (by rw [l4, L3.out])
  have E4 := hide e4
  clear P4 M4 e4 l4
  go_wp2_with fail
  have q1 := since16 jb 2 _ cs4 1 _ HP.out (by rw [L4.out]; omega) (by rw [L4.out]; omega) (by rw [L4.out]; omega)
  rw [L4.out] at q1
  refine q1.mono ?_
  clear q1
  rintro e w5 ⟨ao, c, rfl, C5, B5⟩
  replace HP := hide (HP.out.on B5)
  replace HB := hide (below_more HB.out B5 (by have := HB.out.size; rw [HH.out] at this; exact this))
  have HC := hide C5
  clear B5 C5
  go_wp2_with fail
  refine (since16_no jb 2 _ cs4 0 _ HP.out (by rw [L4.out]; omega) (by rw [L4.out]; omega)).mono ?_
  rintro e w6 ⟨rfl, B6⟩
  replace HC := hide (HC.out.on B6)
  replace HB := hide (below_more HB.out B6 (by have := HB.out.size; rw [HH.out] at this; exact this))
  have hx : (cs4.drop 1)[1]? = some ⟨3, eV 3, true⟩ := by
    rw [List.getElem?_drop, E4.out, List.getElem?_append_right (by rw [L3.out]; omega), L3.out]; rfl
  obtain ⟨b, rfl, -, -, A⟩ := HC.out.chg hx
  have c11 := A 11 _ rfl
  clear A hx B6
  go_wp2
  go_ret
  exact ⟨rfl, by rw [HH.out]; exact HB.out⟩
end
end Go.Proofs.Ytjlmheecefobaaa
