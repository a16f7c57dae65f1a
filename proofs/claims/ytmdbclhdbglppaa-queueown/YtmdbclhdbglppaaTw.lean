/- The program's queue and the document's side by side; steps in memory. -/
import Derived.Test.YtmdbclhdbglppaaPq
namespace Go.Proofs.Ytmdbclhdbglppaa
open Go.RowKit Go.PlainAid

structure Tw (w0 w : World) (G : Nat) (p : Addr) (g : Nat) (S F : Nat → Prop) (n : Nat) (ao : Option Addr) (m c : Nat) (V : List Wv) (L1 L2 : List Wt) (l1 l2 : List Nat) : Prop where
  P : PQ w p S n L1 l1
  R : RQ w g F n ao m c V L2 l2
  dj : ∀ i, S i → ¬ (i = g ∨ F i)
  lo : ∀ i, S i → G ≤ i
  lg : G ≤ g
  BB : Below G w0 w
section
variable {w0 w w1 : World} {G : Nat} {p : Addr} {g : Nat} {S F : Nat → Prop} {n : Nat} {ao : Option Addr} {m c : Nat} {V : List Wv} {L1 L2 : List Wt} {l1 l2 : List Nat}
theorem Tw.sz (H : Tw w0 w G p g S F n ao m c V L1 L2 l1 l2) : G ≤ w.heap.size := by have := H.R.bx.lt; have := H.lg; omega
theorem Tw.here (H : Tw w0 w G p g S F n ao m c V L1 L2 l1 l2) : Tw w w G p g S F n ao m c V L1 L2 l1 l2 := ⟨H.P, H.R, H.dj, H.lo, H.lg, Below.refl _ _⟩
theorem Tw.back (H : Tw w w1 G p g S F n ao m c V L1 L2 l1 l2) (B : Below G w0 w) : Tw w0 w1 G p g S F n ao m c V L1 L2 l1 l2 := ⟨H.P, H.R, H.dj, H.lo, H.lg, B.trans H.BB⟩
theorem Tw.on (H : Tw w0 w G p g S F n ao m c V L1 L2 l1 l2) (C : Below w.heap.size w w1) : Tw w0 w1 G p g S F n ao m c V L1 L2 l1 l2 :=
  ⟨H.P.keep (kp_below C), H.R.on C, H.dj, H.lo, H.lg, H.BB.trans (C.mono H.sz)⟩
theorem Tw.drewN (H : Tw w0 w G p g S F n ao m c V L1 L2 l1 l2) (q : Nat) : Tw w0 (w.drewN q) G p g S F n ao m c V L1 L2 l1 l2 := H.on (belowN (Below.refl _ _) q)
theorem Tw.low (H : Tw w0 w G p g S F n ao m c V L1 L2 l1 l2) (C : Chg S w w1) : Below G w w1 := ⟨C.os, C.tape, C.output, C.size, fun i hi => C.block i (by have := H.sz; omega) (fun h => by have := H.lo i h; omega)⟩
theorem Tw.prog (H : Tw w0 w G p g S F n ao m c V L1 L2 l1 l2) (C : Chg S w w1) {S' : Nat → Prop} {L' : List Wt} {l' : List Nat} (P : PQ w1 p S' n L' l') (hS : ∀ i, S' i → S i ∨ w.heap.size ≤ i) : Tw w0 w1 G p g S' F n ao m c V L' L2 l' l2 := by
  have hg := H.R.bx.lt
  refine ⟨P, H.R.keep ⟨C.size, fun i hi hl => C.block i hl (fun h => H.dj i h hi)⟩, fun i hi hf => ?_, fun i hi => ?_, H.lg, H.BB.trans (H.low C)⟩
  · rcases hS i hi with h | h
    · exact H.dj i h hf
    · rcases hf with hf | hf
      · omega
      · have := (H.R.ng i hf).2; omega
  · rcases hS i hi with h | h
    · exact H.lo i h
    · have := H.sz; omega
theorem Tw.ref (H : Tw w0 w G p g S F n ao m c V L1 L2 l1 l2) (M : Mid g (g + 1) w w1) {F' : Nat → Prop} {ao' : Option Addr} {m' c' : Nat} {V' : List Wv} {L' : List Wt} {l' : List Nat} (R : RQ w1 g F' n ao' m' c' V' L' l') (hF : ∀ i, F' i → F i ∨ w.heap.size ≤ i) : Tw w0 w1 G p g S F' n ao' m' c' V' L1 L' l1 l' := by
  refine ⟨H.P.keep (kp_mid M (fun i hi => by have := H.dj i hi; by_cases e : i = g; exact absurd (Or.inl e) this; omega)), R, fun i hi hf => ?_, H.lo, H.lg, H.BB.trans (M.below (by have := H.R.bx.lt; omega) |>.mono H.lg)⟩
  rcases hf with hf | hf
  · exact H.dj i hi (Or.inl hf)
  · rcases hF i hf with h | h
    · exact H.dj i hi (Or.inr h)
    · have := H.P.sz i hi; omega
end
/-- A step: what to do, its class, its bytes. -/
structure Sq where
  d : Int
  k : Int
  b : List Int
/-- Steps in memory, all below G. -/
structure Stp (w : World) (G : Nat) (ao : Option Addr) (n c : Nat) (ss : List Sq) : Prop where
  len : ss.length = n
  cell : ∀ j s, ss[j]? = some s → ∃ b o ab nb cb, ao = some ⟨b, o, none⟩ ∧ b < G ∧ w.rangeAt b (o + j * 3) [.int .i64 s.d, .int .i64 s.k, .slice ab nb cb] ∧ By w (fun i => i < G) ab nb cb s.b ∧ nb ≤ 140737488355328
  le : n ≤ c
  mx : c ≤ maxLen
theorem By.low {w w1 : World} {G : Nat} {ao : Option Addr} {n c : Nat} {l : List Int} (h : By w (fun i => i < G) ao n c l) (C : Below G w w1) : By w1 (fun i => i < G) ao n c l := h.keep ⟨C.size, fun i hi _ => C.block i hi⟩
theorem Stp.below {w w1 : World} {G : Nat} {ao : Option Addr} {n c : Nat} {ss : List Sq} (h : Stp w G ao n c ss) (C : Below G w w1) : Stp w1 G ao n c ss :=
  ⟨h.len, fun j s hj => by
    obtain ⟨b, o, ab, nb, cb, e, hb, hr, hy, hn⟩ := h.cell j s hj
    exact ⟨b, o, ab, nb, cb, e, hb, range_keep hr (C.block b hb), hy.low C, hn⟩, h.le, h.mx⟩
def gL (L : List Wt) : List Wt := match bi L L.length with
  | none => L
  | some j => L.eraseIdx j
def nL (n : Nat) (L : List Wt) (s : Sq) : List Wt := if s.d = 0 then pL n L s.k s.b else if s.d = 1 then gL L else []
def nG (n : Nat) (L : List Wt) (ls : List Nat) (s : Sq) : List Nat := if s.d = 0 then pG n L ls s.k else ls
theorem gL_le (L : List Wt) : (gL L).length ≤ L.length := by
  unfold gL
  split
  · exact Nat.le_refl _
  · rw [List.length_eraseIdx]; split <;> omega
theorem pL_le (n : Nat) (L : List Wt) (k : Int) (b : List Int) : (pL n L k b).length ≤ L.length + 1 := by
  unfold pL
  split <;> simp
theorem nL_le (n : Nat) (L : List Wt) (s : Sq) : (nL n L s).length ≤ L.length + 1 := by
  unfold nL
  split
  · exact pL_le n L _ _
  · split
    · have := gL_le L; omega
    · simp
theorem up1_le {ls : List Nat} {q : Nat} (h : ∀ k : Nat, ls[k]?.getD 0 ≤ q) (k j : Nat) : (up1 ls j)[k]?.getD 0 ≤ q + 1 := by
  unfold up1
  rw [List.getElem?_set]
  split
  · split
    · have := h j; simp; omega
    · simp
  · have := h k; omega
theorem nG_le {n : Nat} {L : List Wt} {ls : List Nat} {q : Nat} (h : ∀ k : Nat, ls[k]?.getD 0 ≤ q) (s : Sq) (k : Nat) : (nG n L ls s)[k]?.getD 0 ≤ q + 1 := by
  unfold nG pG
  split
  · split
    · exact up1_le h k _
    · have := h k; omega
  · have := h k; omega
end Go.Proofs.Ytmdbclhdbglppaa
