/- Contract of Since of the program's journal. -/
import Derived.Test.YtjlmheecefobaaaJ4
import Derived.Sort.QuietIn
import Derived.RangeFuncNested
namespace Go.Proofs.Ytjlmheecefobaaa
open Go.RowKit Go.Shelf
attribute [local go_sem] Oper.semAt_some

theorem cells_of_cell {w : World} {k j : Nat} {v : Value} (h : w.cell? ⟨k, j, none⟩ = some v) : ∀ o, w.heap[k]? = some o → o.isCells = true := by
  intro o ho
  unfold World.cell? at h
  simp only [ho] at h
  cases o <;> simp_all [Obj.isCells]
theorem grown_cells {A B : World} {row : Option Nat} {k j : Nat} {v : Value} (h : A.cell? ⟨k, j, none⟩ = some v) (g : A.grownBy B row) (hr : ∀ r, row = some r → ∃ o : Obj, A.heap[r]? = some o ∧ o.isCells = false) : B.heap[k]? = A.heap[k]? := by
  refine g.block k (World.block_lt_of_cell? A _ h) (fun e => ?_)
  obtain ⟨o, ho, hc⟩ := hr k e.symm
  rw [cells_of_cell h o ho] at hc
  cases hc
theorem keepsFrom_of {B : Nat} {W W' : World} (h : Below W.heap.size W W') : KeepsFrom B W W' := ⟨h.size, fun k o _ ho _ => by rw [h.block k (Array.getElem?_eq_some_iff.1 ho).1]; exact ho⟩
set_option maxRecDepth 100000 in
set_option maxHeartbeats 2000000 in
theorem behind32_in (F : Fence) (n : Nat) (h32 : F.fn 32) (hro : F.round = none) (p : Option Addr) (q : Int) (w : World) :
    CallsIn F n Try.prog 32 #[.pointer p, .int .i64 q] w fun e w' => e = .returned (.func (.func 48) #[] #[.pointer (some ⟨w.heap.size + 1, 0, none⟩), .pointer (some ⟨w.heap.size, 0, none⟩)]) ∧ w' = (w.alloc (.cells #[.pointer p] 24)).alloc (.cells #[.int .i64 q] 3) := by
  refine callsIn_of_wp Try.func32 rfl h32 ?_ hro
  simp only [Try.ntmps32, List.size_toArray, List.length_cons, List.length_nil, Nat.reduceAdd, Nat.reduceSub, Array.replicate_succ, Array.replicate_zero, List.push_toArray, List.append_toArray, List.nil_append, List.cons_append]
  gi_wp2
  go_ret
  exact ⟨by simp, rfl⟩
set_option maxRecDepth 100000 in
set_option maxHeartbeats 2000000 in
theorem since16_no (h n : Nat) (pl cs : List Ch) (q : Int) (w : World) (H : PJ w h n pl cs) (hL : cs.length ≤ 1073741823) (hn : q < 0 ∨ (cs.length : Int) < q ∨ (n : Int) < cs.length - q) :
    Calls Try.prog 16 #[.pointer (some ⟨h + 1, 0, none⟩), .int .i64 q] w fun e w' => e = .returned (.tuple #[.slice none 0 0, .bool false]) ∧ Below w.heap.size w w' := by
  have n2 := H.wf.n2
  have c0 := H.bx.cell 0 _ rfl
  have c1 := H.bx.cell 1 _ rfl
  refine (callsIn_wide (n := 6)).1 ?_
  refine callsIn_of_wp_marks Try.func16 rfl trivial ?_ rfl
  simp only [Try.ntmps16, List.size_toArray, List.length_cons, List.length_nil, Nat.reduceAdd, Nat.reduceSub, Array.replicate_succ, Array.replicate_zero, List.push_toArray, List.append_toArray, List.nil_append, List.cons_append]
  clear H
  by_cases h1 : q < 0
  · have d1 : decide (q < 0) = true := by simp [h1]
    clear hn
    gi_wp2_with fail
    gi_quiet (fail)
    gi_wp2
    exact ⟨_, results_tmp2 rfl _ _ _, rfl, ⟨rfl, rfl, rfl, Nat.le_refl _, fun _ _ => rfl⟩⟩
  · have d1 : decide (q < 0) = false := by simp; omega
    by_cases h2 : (cs.length : Int) < q
    · have d2 : decide ((cs.length : Int) < q) = true := by simp [h2]
      clear hn
      gi_wp2_with fail
      gi_quiet (fail)
      gi_wp2
      exact ⟨_, results_tmp2 rfl _ _ _, rfl, ⟨rfl, rfl, rfl, Nat.le_refl _, fun _ _ => rfl⟩⟩
    · have d2 : decide ((cs.length : Int) < q) = false := by simp; omega
      have h3 : (n : Int) < (cs.length : Int) - q := by omega
      have d3 : decide ((n : Int) < (cs.length : Int) - q) = true := by simp; omega
      have e1 : IntKind.i64.wrap ((cs.length : Int) - q) = (cs.length : Int) - q := IntWalk.i64_in _ (by omega)
      clear hn
      gi_wp2_with fail
      gi_quiet (fail)
      gi_wp2
      exact ⟨_, results_tmp2 rfl _ _ _, rfl, ⟨rfl, rfl, rfl, Nat.le_refl _, fun _ _ => rfl⟩⟩
/-- What the rounds leave as it was. -/
def Kp3 (b : Nat) (A B : World) : Prop := A.heap.size ≤ B.heap.size ∧ ∀ k, k < b + 3 → k ≠ b → B.heap[k]? = A.heap[k]?
def AxC (b : Nat) (fr : Nat → Ch → Array Value) (x : Ch) (a : Act) (W : World) : Prop := ∃ kx, a = ⟨fr kx x, []⟩ ∧ Box W kx (ccl x) ∧ b + 3 ≤ kx
def ISn (w : World) (pre : List Ch) (W : World) : Prop := (∃ v, Boxed W w.heap.size 40 v ∧ W.ownsRow (w.heap.size + 3) 54 12 v pre.length (chs pre) ∧ True) ∧ Below w.heap.size w W ∧ w.heap.size + 3 ≤ W.heap.size
theorem isn_own (w : World) (B : Nat) (hB : w.heap.size ≤ B) : OwnFrom B (ISn w) := by
  rintro s W W' row ⟨⟨v, h1, h2, _⟩, h3, h4⟩ g hr
  refine ⟨?_, h3.grown g h3.size (fun k e => Nat.le_trans hB (hr k e).1), Nat.le_trans h4 g.size⟩
  exact Own.from (holdsRow_own (w.heap.size + 3) w.heap.size 40 54 12 (fun pre : List Ch => pre.length) (fun pre => chs pre) (fun _ _ => True)) B s W W' row ⟨v, h1, h2, trivial⟩ g hr
theorem isn_on {w W W' : World} {pre : List Ch} (h : ISn w pre W) (hb : Below W.heap.size W W') : ISn w pre W' := by
  obtain ⟨⟨v, h1, h2, _⟩, h3, h4⟩ := h
  exact ⟨⟨v, (hb.block _ h1.lt).trans h1, row_on54 h2 hb, trivial⟩, h3.trans (hb.mono h3.size), Nat.le_trans h4 hb.size⟩
theorem axC_own (b B : Nat) (fr : Nat → Ch → Array Value) (x : Ch) (a : Act) : OwnFrom B (fun (_ : Unit) W => AxC b fr x a W) := by
  rintro _ W W' row ⟨kx, h1, h2, h3⟩ g hr
  exact ⟨kx, h1, h2.block (grown_cells (h2.cell 0 _ rfl) g (fun r e => (hr r e).2)), h3⟩
theorem kp3_of {b : Nat} {W W' : World} (h : Below W.heap.size W W') (hs : b + 3 ≤ W.heap.size) : Kp3 b W W' := ⟨h.size, fun k hk _ => h.block k (by omega)⟩
end Go.Proofs.Ytjlmheecefobaaa
