/- Contracts of New and Last of the program's journal, of New of the document's. -/
import Derived.Test.YtjlmheecefobaaaJ1
namespace Go.Proofs.Ytjlmheecefobaaa
open Go.RowKit Go.PlainAid

theorem chs_at4 {l : List Ch} {i c : Nat} {x : Ch} (h : l[i]? = some x) (hc : c < 12) : (chs l)[i * 12 + c]? = (ccl x)[c]? := by
  rw [chs_parts h, List.getElem?_append_right (by rw [chs_take_len h]; omega), chs_take_len h, show i * 12 + c - i * 12 = c by omega, List.getElem?_append_left (by rw [ccl_length]; exact hc)]
theorem get_some4 {cs : List Value} {c : Nat} (h : c < cs.length) : cs[c]? = some cs[c]! := by
  rw [List.getElem?_eq_getElem h, List.getElem!_eq_getElem?_getD, List.getElem?_eq_getElem h]; rfl
theorem made_chs (c : Nat) : (madeCells (CC zC) (c * 12)).toList = chs (List.replicate c zC) := by
  apply List.ext_getElem?
  intro j
  by_cases hj : j < c * 12
  · have hi : (List.replicate c zC)[j / 12]? = some zC := by rw [List.getElem?_replicate, if_pos (by omega)]
    have e := chs_at4 hi (show j % 12 < 12 by omega)
    rw [show j / 12 * 12 + j % 12 = j by omega] at e
    rw [e, get_some4 (cs := ccl zC) (by rw [ccl_length]; omega)]
    simp only [madeCells, Array.getElem?_toList]
    rw [Array.getElem?_map, Array.getElem?_range, if_pos hj]
    show some ((ccl zC).toArray[j % 12]!) = some (ccl zC)[j % 12]!
    rw [List.getElem!_toArray]
  · rw [List.getElem?_eq_none (by simp [madeCells]; omega), List.getElem?_eq_none (by rw [chs_length]; simp; omega)]
theorem made_boxC (w : World) (c : Nat) : Box (w.alloc (.cells (madeCells (CC zC) (c * 12)) 54)) w.heap.size (chs (List.replicate c zC)) := by
  have := Box.new w (chs (List.replicate c zC)) 54
  rw [← made_chs] at this
  rw [Array.toArray_toList, made_chs] at this
  exact this
set_option maxRecDepth 100000 in
set_option maxHeartbeats 1000000 in
theorem new11_no (n : Int) (w : World) (h : ¬ (1 ≤ n ∧ n ≤ 1000)) : Calls Try.prog 11 #[.int .i64 n] w fun e w' => e = .returned (.tuple #[.pointer none, .int .i64 1]) ∧ w' = w := by
  by_cases h1 : n < 1
  · clear h
    go_enter Try.func11, Try.ntmps11
    go_wp2
    go_ret2
    exact ⟨rfl, rfl⟩
  · have h2 : 1000 < n := by omega
    clear h
    go_enter Try.func11, Try.ntmps11
    go_wp2
    go_ret2
    exact ⟨rfl, rfl⟩
set_option maxRecDepth 100000 in
set_option maxHeartbeats 1000000 in
theorem newr12_no (n : Int) (w : World) (h : ¬ (1 ≤ n ∧ n ≤ 1000)) : Calls Try.prog 12 #[.int .i64 n] w fun e w' => e = .returned (.tuple #[.pointer none, .int .i64 1]) ∧ w' = w := by
  by_cases h1 : n < 1
  · clear h
    go_enter Try.func12, Try.ntmps12
    go_wp2
    go_ret2
    exact ⟨rfl, rfl⟩
  · have h2 : 1000 < n := by omega
    clear h
    go_enter Try.func12, Try.ntmps12
    go_wp2
    go_ret2
    exact ⟨rfl, rfl⟩
set_option maxRecDepth 100000 in
set_option maxHeartbeats 1000000 in
theorem new11 (n : Nat) (w : World) (h1 : 1 ≤ n) (h2 : n ≤ 1000) : Calls Try.prog 11 #[.int .i64 n] w fun e w' => e = .returned (.tuple #[.pointer (some ⟨w.heap.size + 1, 0, none⟩), .int .i64 0]) ∧ PJ w' w.heap.size n (List.replicate n zC) [] ∧ Below w.heap.size w w' := by
  obtain ⟨i0, hi, hz0, hz1, hz2⟩ := info_parts Try.info54
  have hmk := run_make (P := Try.prog) w 40 54 i0 (.agg (CC zC)) Try.underlying40 hi hz0 .i64 .i64 (n : Int) (n : Int) (by omega) (by omega) (by rw [hz2]; omega) (by omega)
  rw [hz1, show (n : Int).toNat = n by omega, show (Value.agg (CC zC)).cells = CC zC from rfl] at hmk
  have L0 := made_boxC w n
  have B0 := below_alloc w (.cells (madeCells (CC zC) (n * 12)) 54)
  have hs0 : (w.alloc (.cells (madeCells (CC zC) (n * 12)) 54)).heap.size = w.heap.size + 1 := by simp
  generalize w.alloc (.cells (madeCells (CC zC) (n * 12)) 54) = w1 at *
  have R : Hid (PJ (w1.alloc (.cells #[.slice (some ⟨w.heap.size, 0, none⟩) n n, .int .i64 0] 74)) w.heap.size n (List.replicate n zC) []) := by
    refine hide ⟨?_, L0.alloc _, jw_zero n h1 h2⟩
    have := Box.new w1 (jcl w.heap.size n 0) 74
    rw [hs0] at this
    exact this
  have B := hide (belowOn B0 (below_alloc w1 (.cells #[.slice (some ⟨w.heap.size, 0, none⟩) n n, .int .i64 0] 74)))
  have a1 : ¬ (n : Int) < 1 := by omega
  have a2 : ¬ (1000 : Int) < n := by omega
  have HS := hide hs0
  clear L0 B0 hz0 hz1 hz2 hi
  go_enter Try.func11, Try.ntmps11
  go_wp2
  go_ret2
  first | exact ⟨rfl, R.out, B.out⟩ | (simp only [HS.out]; exact ⟨rfl, R.out, B.out⟩)
set_option maxRecDepth 100000 in
set_option maxHeartbeats 1000000 in
theorem last15 (h n s : Nat) (w : World) (H : Box w (h + 1) (jcl h n s)) :
    Calls Try.prog 15 #[.pointer (some ⟨h + 1, 0, none⟩)] w fun e w' => e = .returned (.int .i64 s) ∧ w' = w := by
  have c1 := H.cell 1 _ rfl
  clear H
  go_enter Try.func15, Try.ntmps15
  go_wp2
  go_ret
  exact ⟨rfl, rfl⟩
/-- The document's journal: itself in block g, its last changes in a block behind. -/
def rcl (n s : Nat) (lv : Value) : List Value := [.int .i64 n, .int .i64 s, lv]
def tl (n : Nat) (cs : List Ch) : List Ch := cs.drop (cs.length - n)
/-- A slice of changes, in a block from B on. -/
structure Cta (w : World) (B : Nat) (ao : Option Addr) (n c : Nat) (l : List Ch) : Prop where
  len : l.length = n
  nil : ao = none → n = 0 ∧ c = 0
  bx : ∀ a, ao = some a → ∃ b o, a = ⟨b, o, none⟩ ∧ B ≤ b ∧ b < w.heap.size ∧ w.rangeAt b o (chs l)
  le : n ≤ c
  mx : c ≤ maxLen
theorem Cta.keep {w w1 : World} {B : Nat} {ao : Option Addr} {n c : Nat} {l : List Ch} (h : Cta w B ao n c l) (hb : ∀ b, B ≤ b → b < w.heap.size → w1.heap[b]? = w.heap[b]?) (hs : w.heap.size ≤ w1.heap.size) : Cta w1 B ao n c l :=
  ⟨h.len, h.nil, fun a e => by
    obtain ⟨b, o, e1, e2, e3, e4⟩ := h.bx a e
    exact ⟨b, o, e1, e2, by omega, fun j v hj => by rw [World.cell?_of_block (a := ⟨b, o + j, none⟩) (hb b e2 e3)]; exact e4 j v hj⟩, h.le, h.mx⟩
theorem Cta.mono {w : World} {B B' : Nat} {ao : Option Addr} {n c : Nat} {l : List Ch} (h : Cta w B ao n c l) (hB : B' ≤ B) : Cta w B' ao n c l :=
  ⟨h.len, h.nil, fun a e => by obtain ⟨b, o, e1, e2, e3⟩ := h.bx a e; exact ⟨b, o, e1, by omega, e3⟩, h.le, h.mx⟩
structure RJ (w : World) (g n : Nat) (ao : Option Addr) (m c : Nat) (cs : List Ch) : Prop where
  bx : Box w g (rcl n cs.length (.slice ao m c))
  sl : Cta w (g + 1) ao m c (tl n cs)
  n1 : 1 ≤ n
  n2 : n ≤ 1000
theorem RJ.lt {w : World} {g n m c : Nat} {ao : Option Addr} {cs : List Ch} (H : RJ w g n ao m c cs) : g + 1 ≤ w.heap.size := by have := H.bx.lt; omega
theorem RJ.mid {w w1 : World} {N M g n m c : Nat} {ao : Option Addr} {cs : List Ch} (H : RJ w g n ao m c cs) (hb : Mid N M w w1) (hM : M ≤ g) : RJ w1 g n ao m c cs := by
  have hl := H.lt
  exact ⟨H.bx.block (hb.block _ (by omega) (Or.inr (by omega))), H.sl.keep (fun b h1 h2 => hb.block b h2 (Or.inr (by omega))) hb.size, H.n1, H.n2⟩
theorem RJ.on {w w1 : World} {g n m c : Nat} {ao : Option Addr} {cs : List Ch} (H : RJ w g n ao m c cs) (hb : Below w.heap.size w w1) : RJ w1 g n ao m c cs := H.mid (mid_of_below hb g) (Nat.le_refl _)
set_option maxRecDepth 100000 in
set_option maxHeartbeats 1000000 in
theorem newr12 (n : Nat) (w : World) (h1 : 1 ≤ n) (h2 : n ≤ 1000) : Calls Try.prog 12 #[.int .i64 n] w fun e w' => e = .returned (.tuple #[.pointer (some ⟨w.heap.size, 0, none⟩), .int .i64 0]) ∧ RJ w' w.heap.size n none 0 0 [] ∧ Below w.heap.size w w' := by
  have R : Hid (RJ (w.alloc (.cells #[.int .i64 n, .int .i64 0, .slice none 0 0] 42)) w.heap.size n none 0 0 []) := hide ⟨Box.new w (rcl n 0 (.slice none 0 0)) 42, ⟨by simp [tl], fun _ => ⟨rfl, rfl⟩, fun a e => (by cases e), Nat.le_refl _, Nat.zero_le _⟩, h1, h2⟩
  have B := hide (below_alloc w (.cells #[.int .i64 n, .int .i64 0, .slice none 0 0] 42))
  have a1 : ¬ (n : Int) < 1 := by omega
  have a2 : ¬ (1000 : Int) < n := by omega
  go_enter Try.func12, Try.ntmps12
  go_wp2
  go_ret2
  exact ⟨rfl, R.out, B.out⟩
end Go.Proofs.Ytjlmheecefobaaa
