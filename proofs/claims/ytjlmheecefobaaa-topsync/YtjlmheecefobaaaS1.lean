/- Memory: changes and steps as cells; a slice of things in a row. -/
import Derived.Test.YtjlmheecefobaaaPj
import Derived.Test.YtjlmheecefobaaaA2
import Derived.Test.YtjlmheecefobaaaD3
namespace Go.Proofs.Ytjlmheecefobaaa
open Go.RowKit

theorem Try.cells54 : Try.prog.cellsOf 54 = 12 := by kernel_rfl
theorem Try.cells38 : Try.prog.cellsOf 38 = 11 := by kernel_rfl
theorem Try.size54 : (Try.prog.info? 54).map (·.size) = some 12 := by kernel_rfl
theorem Try.size38 : (Try.prog.info? 38).map (·.size) = some 11 := by kernel_rfl
/-- The cells of a change, of a step. -/
def ccl (c : Ch) : List Value := .int .i64 c.q :: (ecl c.x ++ [.bool c.g])
def CC (c : Ch) : Array Value := (ccl c).toArray
structure Sp where
  x : En
  g : Bool
def pcl (p : Sp) : List Value := ecl p.x ++ [.bool p.g]
def PC (p : Sp) : Array Value := (pcl p).toArray
theorem ccl_length (x : Ch) : (ccl x).length = 12 := rfl
theorem pcl_length (x : Sp) : (pcl x).length = 11 := rfl
theorem CC_size (x : Ch) : (CC x).size = 12 := rfl
theorem CC0 (x : Ch) : (CC x)[0]? = some (.int .i64 x.q) := rfl
theorem CC11 (x : Ch) : (CC x)[11]? = some (.bool x.g) := rfl
theorem ZC : (#[.int .i64 0, .int .i64 0, .int .u8 0, .int .u8 0, .int .u8 0, .int .u8 0, .int .u8 0, .int .u8 0, .int .i64 0, .int .i64 0, .bool false, .bool false] : Array Value) = CC zC := rfl
theorem one_ccl (x : Ch) : ∀ v ∈ ccl x, v.oneCell' = true := by
  intro v hv
  rcases List.mem_cons.1 hv with rfl | hv
  · rfl
  · rcases List.mem_append.1 hv with hv | hv
    · exact one_ecl _ v hv
    · rw [List.mem_singleton.1 hv]; rfl
theorem one_CC (x : Ch) : (CC x).all (·.oneCell') = true := all_oneCell_toArray (one_ccl x)
theorem chg_ent {w : World} {k o : Nat} {c : Ch} (h : w.rangeAt k o (ccl c)) : w.rangeAt k (o + 1) (ecl c.x) :=
  rangeAt_left (rangeAt_right (A := [.int .i64 c.q]) (B := ecl c.x ++ [.bool c.g]) h rfl)
theorem stp_ent {w : World} {k o : Nat} {c : Sp} (h : w.rangeAt k o (pcl c)) : w.rangeAt k o (ecl c.x) := rangeAt_left h
theorem rng_cell {w : World} {k o j : Nat} {cs : List Value} {v : Value} (h : w.rangeAt k o cs) (hj : cs[j]? = some v) : w.cell? ⟨k, o + j, none⟩ = some v := h j v hj
theorem wpl_chg {ops : Array Oper} {rest : List Oper} {op : Oper} {a : Act} {w : World} {Q : Exit → Act → World → Prop} {k o : Nat} {i : Ch} (x : Operand) (ho : op.op = .load 54 x) (hA : w.rangeAt k o (ccl i)) (hw : Region.wanted op (yielded ops a.tmps) = true) (hx : a.eval x = .pointer (some ⟨k, o, none⟩))
    (h : wpList Try.prog ops Q rest (a.put op.dst (.agg (CC i))) w) : wpList Try.prog ops Q (op :: rest) a w :=
  wpl_load 54 x ho k o _ _ hA Try.underlying54 rfl Try.size54 hw hx h
/-- A change is stored into a variable of its own. -/
theorem wpl_putC {ops : Array Oper} {rest : List Oper} {op : Oper} {a : Act} {w : World} {Q : Exit → Act → World → Prop} {k : Nat} (p m : Ch) (x y : Operand) (ho : op.op = .store 54 x y) (ht : Box w k (ccl m)) (hw : Region.wanted op (yielded ops a.tmps) = true) (hx : a.eval x = .pointer (some ⟨k, 0, none⟩)) (hy : a.eval y = .agg (CC p))
    (h : ∀ w', Box w' k (ccl p) → w.grownBy w' (some k) → wpList Try.prog ops Q rest (a.put op.dst undef) w') : wpList Try.prog ops Q (op :: rest) a w :=
  wpList_step fun K hK => by
    rw [if_pos hw]
    exact wp_store_mid 54 x y ho k 0 (CC p) hx hy ht.th Try.size54 (one_CC p) (hK _ _ (h _ (ht.self rfl) (setCells_grown k _ 0 w)))
theorem box_c (w : World) (x : Ch) : Box (w.alloc (.cells (CC x) 54)) w.heap.size (ccl x) := Box.new w (ccl x) 54
/-- A slice of things in a row, in blocks below G. -/
structure Sl {α : Type} (cl : α → List Value) (k : Nat) (w : World) (G : Nat) (ao : Option Addr) (n c : Nat) (l : List α) : Prop where
  len : l.length = n
  nil : ao = none → n = 0
  cell : ∀ j s, l[j]? = some s → ∃ b o, ao = some ⟨b, o, none⟩ ∧ b < G ∧ w.rangeAt b (o + j * k) (cl s)
  le : n ≤ c
  mx : c ≤ maxLen
theorem Sl.below {α : Type} {cl : α → List Value} {k : Nat} {w w1 : World} {G : Nat} {ao : Option Addr} {n c : Nat} {l : List α} (h : Sl cl k w G ao n c l) (hb : Below G w w1) : Sl cl k w1 G ao n c l :=
  ⟨h.len, h.nil, fun j s hj => by
    obtain ⟨b, o, e, hG, hc⟩ := h.cell j s hj
    exact ⟨b, o, e, hG, fun i v hi => (hb.cell (p := ⟨b, o + j * k + i, none⟩) hG).trans (hc i v hi)⟩, h.le, h.mx⟩
theorem Sl.up {α : Type} {cl : α → List Value} {k : Nat} {w : World} {G G' : Nat} {ao : Option Addr} {n c : Nat} {l : List α} (h : Sl cl k w G ao n c l) (hG : G ≤ G') : Sl cl k w G' ao n c l :=
  ⟨h.len, h.nil, fun j s hj => by
    obtain ⟨b, o, e, hb, hc⟩ := h.cell j s hj
    exact ⟨b, o, e, by omega, hc⟩, h.le, h.mx⟩
theorem Sl.on {α : Type} {cl : α → List Value} {k : Nat} {w w1 : World} {ao : Option Addr} {n c : Nat} {l : List α} (h : Sl cl k w w.heap.size ao n c l) (hb : Below w.heap.size w w1) : Sl cl k w1 w1.heap.size ao n c l :=
  (h.below hb).up hb.size
theorem Sl.drew {α : Type} {cl : α → List Value} {k : Nat} {w : World} {G : Nat} {ao : Option Addr} {n c : Nat} {l : List α} (h : Sl cl k w G ao n c l) : Sl cl k w.drew G ao n c l := ⟨h.len, h.nil, h.cell, h.le, h.mx⟩
theorem sl_nil {α : Type} (cl : α → List Value) (k : Nat) (w : World) (G : Nat) : Sl cl k w G none 0 0 [] := ⟨rfl, fun _ => rfl, fun j s hj => by simp at hj, Nat.le_refl _, Nat.zero_le _⟩
theorem Ets.sl {w : World} {B : Nat} {ao : Option Addr} {n c : Nat} {l : List En} (h : Ets w B ao n c l) : Sl ecl 10 w w.heap.size ao n c l :=
  ⟨h.len, h.nil, fun j s hj => by
    obtain ⟨b, e, _, hl, hr⟩ := h.at hj
    exact ⟨b, 0, e, hl, by rw [Nat.zero_add]; exact hr⟩, h.le, h.mx⟩
end Go.Proofs.Ytjlmheecefobaaa
