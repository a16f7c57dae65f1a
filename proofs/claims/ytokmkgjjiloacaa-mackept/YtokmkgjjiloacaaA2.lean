/- The contracts of Text. -/
import Derived.Test.YtokmkgjjiloacaaA1
import Derived.Laws.BytesArg
namespace Go.Proofs.Ytokmkgjjiloacaa
open Go.RowKit

/-- A figure's byte. -/
def hex (n : Int) : Int := if n < 10 then 48 + n else 87 + n

theorem hexIndex (n : Int) (h0 : 0 ≤ n) (h1 : n < 16) : ∀ (w : World),
    (Instr.index 9 (.string ⟨#[48, 49, 50, 51, 52, 53, 54, 55, 56, 57, 97, 98, 99, 100, 101, 102]⟩) (.int .u8 n)).run Try.prog w = .ok (.int .u8 (hex n)) w := by
  have hk : n = 0 ∨ n = 1 ∨ n = 2 ∨ n = 3 ∨ n = 4 ∨ n = 5 ∨ n = 6 ∨ n = 7 ∨ n = 8 ∨ n = 9 ∨ n = 10 ∨ n = 11 ∨ n = 12 ∨ n = 13 ∨ n = 14 ∨ n = 15 := by omega
  intro w
  rcases hk with e | e | e | e | e | e | e | e | e | e | e | e | e | e | e | e <;> (subst e; clear h0 h1; show _ = _; kernel_rfl)

theorem make17 (W : World) : (Instr.makeSlice 39 (.int .i64 0) (.int .i64 17)).run Try.prog W = .ok (.slice (some ⟨W.heap.size, 0, none⟩) 0 17) (W.alloc (.cells #[.int .u8 0, .int .u8 0, .int .u8 0, .int .u8 0, .int .u8 0, .int .u8 0, .int .u8 0, .int .u8 0, .int .u8 0, .int .u8 0, .int .u8 0, .int .u8 0, .int .u8 0, .int .u8 0, .int .u8 0, .int .u8 0, .int .u8 0] 5)) := by
  kernel_rfl


/-- The text's bytes, as numbers. -/
def textL (a0 a1 a2 a3 a4 a5 : Int) : List Int := [hex (a0 / 16), hex (a0 % 16), 58, hex (a1 / 16), hex (a1 % 16), 58, hex (a2 / 16), hex (a2 % 16), 58, hex (a3 / 16), hex (a3 % 16), 58, hex (a4 / 16), hex (a4 % 16), 58, hex (a5 / 16), hex (a5 % 16)]

/-- The bytes of a list of numbers, as a string's. -/
def bs (ns : List Int) : ByteArray := ⟨(ns.map fun n => UInt8.ofNat n.toNat).toArray⟩

/-- A conversion of a []byte whose cells are known. -/
theorem bytesString (wr : World) (b cap : Nat) (ns : List Int) (h : ∀ j, j < ns.length → wr.cell? ⟨b, j, none⟩ = some (.int .u8 (ns.getD j 0))) :
    (convert 39 9 (.slice (some ⟨b, 0, none⟩) ns.length cap)).run Try.prog wr = .ok (.string (bs ns)) wr := by
  rw [run_convert_bytes_string wr 39 9 5 _ _ _ Try.underlying39 Try.underlying5 Try.underlying9]
  have hl : (loadCells ⟨b, 0, none⟩ ns.length).run Try.prog wr = .ok (ns.map (Value.int .u8)).toArray wr := by
    have h1 := run_loadCells_list (P := Try.prog) wr ⟨b, 0, none⟩ (ns.map (Value.int .u8)) (fun j v hv => by
      rw [List.getElem?_map, Option.map_eq_some_iff] at hv
      obtain ⟨x, hx, rfl⟩ := hv
      have hj : j < ns.length := (List.getElem?_eq_some_iff.1 hx).1
      have := h j hj
      rw [List.getD_eq_getElem?_getD, hx] at this
      rw [Addr.add_lit]; simpa using this)
    simpa using h1
  rw [run_bytesToString wr _ _ _ ns hl, foldl_push_bytes]
  simp [bs]

/-- What holds at the loop's head once m bytes of the text stand. -/
structure TI (w wr : World) (a0 a1 a2 a3 a4 a5 : Int) (m : Nat) : Prop where
  below : Below w.heap.size w wr
  size : w.heap.size + 1 < wr.heap.size
  c0 : wr.cell? ⟨w.heap.size, 0, none⟩ = some (.int .u8 a0)
  c1 : wr.cell? ⟨w.heap.size, 1, none⟩ = some (.int .u8 a1)
  c2 : wr.cell? ⟨w.heap.size, 2, none⟩ = some (.int .u8 a2)
  c3 : wr.cell? ⟨w.heap.size, 3, none⟩ = some (.int .u8 a3)
  c4 : wr.cell? ⟨w.heap.size, 4, none⟩ = some (.int .u8 a4)
  c5 : wr.cell? ⟨w.heap.size, 5, none⟩ = some (.int .u8 a5)
  text : ∀ j, j < m → wr.cell? ⟨w.heap.size + 1, j, none⟩ = some (.int .u8 ((textL a0 a1 a2 a3 a4 a5).getD j 0))
  room : ∀ j, j < 17 → ∃ v, wr.cell? ⟨w.heap.size + 1, j, none⟩ = some v
  free : ∀ j, j < 17 → wr.frozen? ⟨w.heap.size + 1, j, none⟩ = false

theorem TI.drew {w wr : World} {a0 a1 a2 a3 a4 a5 : Int} {m : Nat} (h : TI w wr a0 a1 a2 a3 a4 a5 m) : TI w wr.drew a0 a1 a2 a3 a4 a5 m :=
  ⟨h.below.drew, h.size, h.c0, h.c1, h.c2, h.c3, h.c4, h.c5, h.text, h.room, h.free⟩

theorem TI.alloc {w wr : World} {a0 a1 a2 a3 a4 a5 : Int} {m : Nat} (h : TI w wr a0 a1 a2 a3 a4 a5 m) (o : Obj) : TI w (wr.alloc o) a0 a1 a2 a3 a4 a5 m := by
  have s := h.size
  have e0 : ∀ i, (wr.alloc o).cell? ⟨w.heap.size, i, none⟩ = wr.cell? ⟨w.heap.size, i, none⟩ := fun i => World.cell?_alloc_past o _ i (by omega)
  have e1 : ∀ i, (wr.alloc o).cell? ⟨w.heap.size + 1, i, none⟩ = wr.cell? ⟨w.heap.size + 1, i, none⟩ := fun i => World.cell?_alloc_past o _ i (by omega)
  have e2 : ∀ i, (wr.alloc o).frozen? ⟨w.heap.size + 1, i, none⟩ = wr.frozen? ⟨w.heap.size + 1, i, none⟩ := fun i => World.frozen?_alloc_past o _ i (by omega)
  refine ⟨h.below.alloc (by omega) o, by simp; omega, ?_, ?_, ?_, ?_, ?_, ?_, ?_, ?_, ?_⟩
  · rw [e0]; exact h.c0
  · rw [e0]; exact h.c1
  · rw [e0]; exact h.c2
  · rw [e0]; exact h.c3
  · rw [e0]; exact h.c4
  · rw [e0]; exact h.c5
  · intro j hj; rw [e1]; exact h.text j hj
  · intro j hj; rw [e1]; exact h.room j hj
  · intro j hj; rw [e2]; exact h.free j hj

theorem TI.set {w wr : World} {a0 a1 a2 a3 a4 a5 : Int} {m : Nat} (h : TI w wr a0 a1 a2 a3 a4 a5 m) (hm : m < 17) {v : Int} (hv : (textL a0 a1 a2 a3 a4 a5).getD m 0 = v) :
    TI w (wr.setCell ⟨w.heap.size + 1, m, none⟩ (.int .u8 v)) a0 a1 a2 a3 a4 a5 (m + 1) := by
  have s := h.size
  have e0 : ∀ i, (wr.setCell ⟨w.heap.size + 1, m, none⟩ (.int .u8 v)).cell? ⟨w.heap.size, i, none⟩ = wr.cell? ⟨w.heap.size, i, none⟩ := fun i => World.cell?_setCell_other _ _ _ _ (by simp)
  have e1 : ∀ i, i ≠ m → (wr.setCell ⟨w.heap.size + 1, m, none⟩ (.int .u8 v)).cell? ⟨w.heap.size + 1, i, none⟩ = wr.cell? ⟨w.heap.size + 1, i, none⟩ := fun i hi => World.cell?_setCell_other _ _ _ _ (fun e => hi (congrArg Addr.off e).symm)
  obtain ⟨u, hu⟩ := h.room m hm
  have e2 : (wr.setCell ⟨w.heap.size + 1, m, none⟩ (.int .u8 v)).cell? ⟨w.heap.size + 1, m, none⟩ = some (.int .u8 v) := World.cell?_setCell_same _ _ _ hu
  refine ⟨h.below.setCell (by simp) _, by simpa [World.setCell] using s, ?_, ?_, ?_, ?_, ?_, ?_, ?_, ?_, ?_⟩
  · rw [e0]; exact h.c0
  · rw [e0]; exact h.c1
  · rw [e0]; exact h.c2
  · rw [e0]; exact h.c3
  · rw [e0]; exact h.c4
  · rw [e0]; exact h.c5
  · intro j hj
    by_cases e : j = m
    · subst e; rw [e2, hv]
    · rw [e1 j e]; exact h.text j (by omega)
  · intro j hj
    by_cases e : j = m
    · subst e; exact ⟨_, e2⟩
    · rw [e1 j e]; exact h.room j hj
  · intro j hj; rw [World.frozen?_setCell]; exact h.free j hj

end Go.Proofs.Ytokmkgjjiloacaa
