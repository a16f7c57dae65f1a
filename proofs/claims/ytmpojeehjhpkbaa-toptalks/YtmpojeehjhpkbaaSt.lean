/- Ints in memory: more. -/
import Derived.Test.YtmpojeehjhpkbaaAw
namespace Go.Proofs.Ytmpojeehjhpkbaa
open Go.RowKit Go.PlainAid

theorem Its.low {w w1 : World} {G : Nat} {ao : Option Addr} {n c : Nat} {ns : List Int} (h : Its w 0 ao n c ns) (hb : ∀ b o, ao = some ⟨b, o, none⟩ → 0 < n → b < G) (B : Below G w w1) : Its w1 0 ao n c ns :=
  ⟨h.len, h.nil, fun j hj => by
    obtain ⟨b, o, e, h0, hc⟩ := h.cell j hj
    exact ⟨b, o, e, h0, (B.cell (p := ⟨b, o + j, none⟩) (hb b o e (by omega))).trans hc⟩, h.le, h.mx⟩
theorem Its.blk {w : World} {ao : Option Addr} {n c : Nat} {ns : List Int} (h : Its w 0 ao n c ns) : ∀ b o, ao = some ⟨b, o, none⟩ → 0 < n → b < w.heap.size := fun b o e hn => by
  obtain ⟨b', o', e', _, hc⟩ := h.at hn
  rw [e] at e'
  injection Option.some.inj e' with h1 h2
  omega
theorem irow0 (w : World) (base : Nat) (hb : base ≤ w.heap.size) : IRow (w.alloc (.cells #[] 3)) base (.slice (some ⟨w.heap.size, 0, none⟩) 0 0) 0 [] := by
  unfold IRow
  exact World.ownsRow_lit (e := 3) (size := 1) w #[] (n := 0) hb (by unfold maxLen; omega) (by simp)
theorem isr_one (w : World) (x : Int) : Isr (w.alloc (.cells #[.int .i64 x] 3)) (some ⟨w.heap.size, 0, none⟩) 1 1 [x] := (its_lit (cs := #[.int .i64 x]) (ns := [x]) (n := 1) rfl rfl (by omega)).isr
def oth (o : Int) (l : List Int) : List Int := l.filter (fun x => x != o)
theorem oth_take {o : Int} {l : List Int} {q : Nat} {m : Int} (hm : l[q]? = some m) : oth o (l.take (q + 1)) = if m = o then oth o (l.take q) else oth o (l.take q) ++ [m] := by
  unfold oth
  rw [List.take_add_one, hm, Option.toList_some, List.filter_append]
  by_cases h : m = o
  · rw [if_pos h]; simp [h]
  · rw [if_neg h]; simp [h]
theorem oth_le (o : Int) (l : List Int) (q : Nat) : (oth o (l.take q)).length ≤ q := by
  have h := List.length_filter_le (fun x => x != o) (l.take q)
  rw [List.length_take] at h
  unfold oth; omega
theorem its_of_row {w : World} {base : Nat} {v : Value} {n : Nat} {ns : List Int} (h : IRow w base v n ns) : ∃ ao c, v = .slice ao n c ∧ Its w 0 ao n c ns := by
  obtain ⟨ao, c, e, hI⟩ := h.its
  exact ⟨ao, c, e, hI.mono (Nat.zero_le _)⟩
end Go.Proofs.Ytmpojeehjhpkbaa
