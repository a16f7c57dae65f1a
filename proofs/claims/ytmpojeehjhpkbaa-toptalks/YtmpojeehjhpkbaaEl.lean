/- Contract of readFrame. -/
import Derived.Test.YtmpojeehjhpkbaaEk
import Derived.Test.YtmpojeehjhpkbaaEg
namespace Go.Proofs.Ytmpojeehjhpkbaa
open Go.RowKit

theorem macX (x0 x1 x2 x3 x4 x5 : Int) (q : List Int) (r : Nat) (ao : Option Addr) (n c : Nat) (w : World) (h : Rd w r ao n c (x0 :: x1 :: x2 :: x3 :: x4 :: x5 :: q)) :
    Calls Try.prog 35 #[.pointer (some ⟨r, 0, none⟩)] w fun e w' => e = .returned (.agg #[.int .u8 x0, .int .u8 x1, .int .u8 x2, .int .u8 x3, .int .u8 x4, .int .u8 x5]) ∧ ∃ ao', Rd w' r ao' (n - 6) (c - 6) q ∧ (∀ b' o', ao' = some ⟨b', o', none⟩ → ∃ o2, ao = some ⟨b', o2, none⟩) ∧ w.grownBy w' (some r) :=
  mac27_yes r ao n c _ w h (by have e := h.byt.len; simp at e; omega)
theorem pairX (x0 x1 : Int) (q : List Int) (r : Nat) (ao : Option Addr) (n c : Nat) (w : World) (h : Rd w r ao n c (x0 :: x1 :: q)) :
    Calls Try.prog 36 #[.pointer (some ⟨r, 0, none⟩)] w fun e w' => e = .returned (.int .i64 (x0 * 256 + x1)) ∧ ∃ ao', Rd w' r ao' (n - 2) (c - 2) q ∧ (∀ b' o', ao' = some ⟨b', o', none⟩ → ∃ o2, ao = some ⟨b', o2, none⟩) ∧ w.grownBy w' (some r) :=
  pair28_yes r ao n c _ w h (by have e := h.byt.len; simp at e; omega)
def link (ao ao' : Option Addr) : Prop := ∀ b' o', ao' = some ⟨b', o', none⟩ → ∃ o2, ao = some ⟨b', o2, none⟩
theorem link.trans {a b c : Option Addr} (h : link a b) (k : link b c) : link a c := fun b' o' e => by
  obtain ⟨o2, e2⟩ := k b' o' e
  exact h b' o2 e2
theorem put_below {w w1 : World} {o : Obj} (hg : (w.alloc o).grownBy w1 (some w.heap.size)) : Below w.heap.size w w1 := below_grown (below_alloc w o) hg (Nat.le_refl _) (by simp)
theorem put_grown {w w1 : World} {row : Option Nat} {o : Obj} (hg : (w.alloc o).grownBy w1 (some w.heap.size)) : w.grownBy w1 row := grown_new (World.grownBy_alloc w o row) hg (Nat.le_refl _)
theorem Rd.kept' {w w1 : World} {r k : Nat} {ao : Option Addr} {n c : Nat} {ns : List Int} (h : Rd w r ao n c ns) (hk : r ≠ k) (hl : ∀ b o, ao = some ⟨b, o, none⟩ → b < k) (hg : w.grownBy w1 (some k)) : Rd w1 r ao n c ns := h.kept hk (fun b o e => by have := hl b o e; omega) hg
theorem AtF.set12 {w : World} {k : Nat} {f : Fd} {b : Value} (h : AtF w k f b) (v : Bool) : AtF (w.setCell ⟨k, 12, none⟩ (.bool v)) k { f with tg := v } b := by
  have e : ∀ i, i ≠ 12 → (w.setCell ⟨k, 12, none⟩ (.bool v)).cell? ⟨k, i, none⟩ = w.cell? ⟨k, i, none⟩ := fun i hi => World.cell?_setCell_other _ _ _ _ (fun e => hi (congrArg Addr.off e).symm)
  exact ⟨by simpa [World.setCell] using h.lt, by rw [e 0 (by omega)]; exact h.c0, by rw [e 1 (by omega)]; exact h.c1, by rw [e 2 (by omega)]; exact h.c2, by rw [e 3 (by omega)]; exact h.c3, by rw [e 4 (by omega)]; exact h.c4, by rw [e 5 (by omega)]; exact h.c5, by rw [e 6 (by omega)]; exact h.c6, by rw [e 7 (by omega)]; exact h.c7, by rw [e 8 (by omega)]; exact h.c8, by rw [e 9 (by omega)]; exact h.c9, by rw [e 10 (by omega)]; exact h.c10, by rw [e 11 (by omega)]; exact h.c11, World.cell?_setCell_same _ _ _ h.c12, by rw [e 13 (by omega)]; exact h.c13, by rw [e 14 (by omega)]; exact h.c14, by rw [e 15 (by omega)]; exact h.c15, by rw [e 16 (by omega)]; exact h.c16⟩
theorem AtF.set13 {w : World} {k : Nat} {f : Fd} {b : Value} (h : AtF w k f b) (v : Int) : AtF (w.setCell ⟨k, 13, none⟩ (.int .i64 v)) k { f with vl := v } b := by
  have e : ∀ i, i ≠ 13 → (w.setCell ⟨k, 13, none⟩ (.int .i64 v)).cell? ⟨k, i, none⟩ = w.cell? ⟨k, i, none⟩ := fun i hi => World.cell?_setCell_other _ _ _ _ (fun e => hi (congrArg Addr.off e).symm)
  exact ⟨by simpa [World.setCell] using h.lt, by rw [e 0 (by omega)]; exact h.c0, by rw [e 1 (by omega)]; exact h.c1, by rw [e 2 (by omega)]; exact h.c2, by rw [e 3 (by omega)]; exact h.c3, by rw [e 4 (by omega)]; exact h.c4, by rw [e 5 (by omega)]; exact h.c5, by rw [e 6 (by omega)]; exact h.c6, by rw [e 7 (by omega)]; exact h.c7, by rw [e 8 (by omega)]; exact h.c8, by rw [e 9 (by omega)]; exact h.c9, by rw [e 10 (by omega)]; exact h.c10, by rw [e 11 (by omega)]; exact h.c11, by rw [e 12 (by omega)]; exact h.c12, World.cell?_setCell_same _ _ _ h.c13, by rw [e 14 (by omega)]; exact h.c14, by rw [e 15 (by omega)]; exact h.c15, by rw [e 16 (by omega)]; exact h.c16⟩
theorem AtF.set14 {w : World} {k : Nat} {f : Fd} {b : Value} (h : AtF w k f b) (v : Int) : AtF (w.setCell ⟨k, 14, none⟩ (.int .i64 v)) k { f with pr := v } b := by
  have e : ∀ i, i ≠ 14 → (w.setCell ⟨k, 14, none⟩ (.int .i64 v)).cell? ⟨k, i, none⟩ = w.cell? ⟨k, i, none⟩ := fun i hi => World.cell?_setCell_other _ _ _ _ (fun e => hi (congrArg Addr.off e).symm)
  exact ⟨by simpa [World.setCell] using h.lt, by rw [e 0 (by omega)]; exact h.c0, by rw [e 1 (by omega)]; exact h.c1, by rw [e 2 (by omega)]; exact h.c2, by rw [e 3 (by omega)]; exact h.c3, by rw [e 4 (by omega)]; exact h.c4, by rw [e 5 (by omega)]; exact h.c5, by rw [e 6 (by omega)]; exact h.c6, by rw [e 7 (by omega)]; exact h.c7, by rw [e 8 (by omega)]; exact h.c8, by rw [e 9 (by omega)]; exact h.c9, by rw [e 10 (by omega)]; exact h.c10, by rw [e 11 (by omega)]; exact h.c11, by rw [e 12 (by omega)]; exact h.c12, by rw [e 13 (by omega)]; exact h.c13, World.cell?_setCell_same _ _ _ h.c14, by rw [e 15 (by omega)]; exact h.c15, by rw [e 16 (by omega)]; exact h.c16⟩
theorem AtF.set15 {w : World} {k : Nat} {f : Fd} {b : Value} (h : AtF w k f b) (v : Int) : AtF (w.setCell ⟨k, 15, none⟩ (.int .i64 v)) k { f with ty := v } b := by
  have e : ∀ i, i ≠ 15 → (w.setCell ⟨k, 15, none⟩ (.int .i64 v)).cell? ⟨k, i, none⟩ = w.cell? ⟨k, i, none⟩ := fun i hi => World.cell?_setCell_other _ _ _ _ (fun e => hi (congrArg Addr.off e).symm)
  exact ⟨by simpa [World.setCell] using h.lt, by rw [e 0 (by omega)]; exact h.c0, by rw [e 1 (by omega)]; exact h.c1, by rw [e 2 (by omega)]; exact h.c2, by rw [e 3 (by omega)]; exact h.c3, by rw [e 4 (by omega)]; exact h.c4, by rw [e 5 (by omega)]; exact h.c5, by rw [e 6 (by omega)]; exact h.c6, by rw [e 7 (by omega)]; exact h.c7, by rw [e 8 (by omega)]; exact h.c8, by rw [e 9 (by omega)]; exact h.c9, by rw [e 10 (by omega)]; exact h.c10, by rw [e 11 (by omega)]; exact h.c11, by rw [e 12 (by omega)]; exact h.c12, by rw [e 13 (by omega)]; exact h.c13, by rw [e 14 (by omega)]; exact h.c14, World.cell?_setCell_same _ _ _ h.c15, by rw [e 16 (by omega)]; exact h.c16⟩
set_option maxRecDepth 100000 in
set_option maxHeartbeats 2000000 in
theorem rf_no6 (q : List Int) (r : Nat) (ao : Option Addr) (n c : Nat) (w : World) (h : Rd w r ao n c q) (hn : n < 6) :
    Calls Try.prog 30 #[.pointer (some ⟨r, 0, none⟩)] w fun e w' => e = .panicked pan ∧ w.grownBy w' (some r) := by
  have W0 : w.grownBy (w.alloc (.cells #[.int .u8 0, .int .u8 0, .int .u8 0, .int .u8 0, .int .u8 0, .int .u8 0, .int .u8 0, .int .u8 0, .int .u8 0, .int .u8 0, .int .u8 0, .int .u8 0, .bool false, .int .i64 0, .int .i64 0, .int .i64 0, .slice none 0 0] 26)) (some r) := World.grownBy_alloc w _ _
  have hrl : r < w.heap.size := h.lt
  have R0 := h.on (below_alloc w (.cells #[.int .u8 0, .int .u8 0, .int .u8 0, .int .u8 0, .int .u8 0, .int .u8 0, .int .u8 0, .int .u8 0, .int .u8 0, .int .u8 0, .int .u8 0, .int .u8 0, .bool false, .int .i64 0, .int .i64 0, .int .i64 0, .slice none 0 0] 26))
  have HLT : Hid (∀ b o, ao = some ⟨b, o, none⟩ → 0 < n → b < w.heap.size) := hide h.byt.lt
  have T0 : (w.alloc (.cells #[.int .u8 0, .int .u8 0, .int .u8 0, .int .u8 0, .int .u8 0, .int .u8 0, .int .u8 0, .int .u8 0, .int .u8 0, .int .u8 0, .int .u8 0, .int .u8 0, .bool false, .int .i64 0, .int .i64 0, .int .i64 0, .slice none 0 0] 26)).there w.heap.size 0 17 := there_new w #[.int .u8 0, .int .u8 0, .int .u8 0, .int .u8 0, .int .u8 0, .int .u8 0, .int .u8 0, .int .u8 0, .int .u8 0, .int .u8 0, .int .u8 0, .int .u8 0, .bool false, .int .i64 0, .int .i64 0, .int .i64 0, .slice none 0 0] 26
  have L0 : w.heap.size < (w.alloc (.cells #[.int .u8 0, .int .u8 0, .int .u8 0, .int .u8 0, .int .u8 0, .int .u8 0, .int .u8 0, .int .u8 0, .int .u8 0, .int .u8 0, .int .u8 0, .int .u8 0, .bool false, .int .i64 0, .int .i64 0, .int .i64 0, .slice none 0 0] 26)).heap.size := by simp
  have hne : w.heap.size ≠ r := by omega
  have K0 : link ao ao := fun b' o' e => ⟨o', e⟩
  clear h
  go_enter Try.func30, Try.ntmps30
  go_wp2_with fail
  refine (mac27_no r ao n c q _ R0 hn).mono ?_
  rintro e w1 ⟨rfl, G1⟩
  go_wp2
  exact ⟨rfl, rfl, grown_trans W0 G1⟩

set_option maxRecDepth 100000 in
set_option maxHeartbeats 2000000 in
theorem rf_no12 (x0 x1 x2 x3 x4 x5 : Int) (q : List Int) (r : Nat) (ao : Option Addr) (n c : Nat) (w : World) (h : Rd w r ao n c (x0 :: x1 :: x2 :: x3 :: x4 :: x5 :: q)) (hn : n - 6 < 6) :
    Calls Try.prog 30 #[.pointer (some ⟨r, 0, none⟩)] w fun e w' => e = .panicked pan ∧ w.grownBy w' (some r) := by
  have W0 : w.grownBy (w.alloc (.cells #[.int .u8 0, .int .u8 0, .int .u8 0, .int .u8 0, .int .u8 0, .int .u8 0, .int .u8 0, .int .u8 0, .int .u8 0, .int .u8 0, .int .u8 0, .int .u8 0, .bool false, .int .i64 0, .int .i64 0, .int .i64 0, .slice none 0 0] 26)) (some r) := World.grownBy_alloc w _ _
  have hrl : r < w.heap.size := h.lt
  have R0 := h.on (below_alloc w (.cells #[.int .u8 0, .int .u8 0, .int .u8 0, .int .u8 0, .int .u8 0, .int .u8 0, .int .u8 0, .int .u8 0, .int .u8 0, .int .u8 0, .int .u8 0, .int .u8 0, .bool false, .int .i64 0, .int .i64 0, .int .i64 0, .slice none 0 0] 26))
  have HLT : Hid (∀ b o, ao = some ⟨b, o, none⟩ → 0 < n → b < w.heap.size) := hide h.byt.lt
  have T0 : (w.alloc (.cells #[.int .u8 0, .int .u8 0, .int .u8 0, .int .u8 0, .int .u8 0, .int .u8 0, .int .u8 0, .int .u8 0, .int .u8 0, .int .u8 0, .int .u8 0, .int .u8 0, .bool false, .int .i64 0, .int .i64 0, .int .i64 0, .slice none 0 0] 26)).there w.heap.size 0 17 := there_new w #[.int .u8 0, .int .u8 0, .int .u8 0, .int .u8 0, .int .u8 0, .int .u8 0, .int .u8 0, .int .u8 0, .int .u8 0, .int .u8 0, .int .u8 0, .int .u8 0, .bool false, .int .i64 0, .int .i64 0, .int .i64 0, .slice none 0 0] 26
  have L0 : w.heap.size < (w.alloc (.cells #[.int .u8 0, .int .u8 0, .int .u8 0, .int .u8 0, .int .u8 0, .int .u8 0, .int .u8 0, .int .u8 0, .int .u8 0, .int .u8 0, .int .u8 0, .int .u8 0, .bool false, .int .i64 0, .int .i64 0, .int .i64 0, .slice none 0 0] 26)).heap.size := by simp
  have hne : w.heap.size ≠ r := by omega
  have K0 : link ao ao := fun b' o' e => ⟨o', e⟩
  clear h
  go_enter Try.func30, Try.ntmps30
  go_wp2_with fail
  refine (macX x0 x1 x2 x3 x4 x5 _ r ao n c _ R0).mono ?_
  rintro e w1 ⟨rfl, a1, R1, k1, G1⟩
  replace T0 := there_kept T0 L0 hne G1
  replace L0 : w.heap.size < w1.heap.size := Nat.lt_of_lt_of_le L0 G1.size
  replace W0 := grown_trans W0 G1
  replace K0 := K0.trans k1
  clear G1 k1 R0
  go_wp2_with fail
  refine (mac27_no r a1 (n - 6) (c - 6) q _ R1 hn).mono ?_
  rintro e w2 ⟨rfl, G2⟩
  go_wp2
  exact ⟨rfl, rfl, grown_trans W0 G2⟩

set_option maxRecDepth 100000 in
set_option maxHeartbeats 2000000 in
theorem rf_no14 (x0 x1 x2 x3 x4 x5 x6 x7 x8 x9 x10 x11 : Int) (q : List Int) (r : Nat) (ao : Option Addr) (n c : Nat) (w : World) (h : Rd w r ao n c (x0 :: x1 :: x2 :: x3 :: x4 :: x5 :: x6 :: x7 :: x8 :: x9 :: x10 :: x11 :: q)) (hn : n - 6 - 6 < 2) :
    Calls Try.prog 30 #[.pointer (some ⟨r, 0, none⟩)] w fun e w' => e = .panicked pan ∧ w.grownBy w' (some r) := by
  have W0 : w.grownBy (w.alloc (.cells #[.int .u8 0, .int .u8 0, .int .u8 0, .int .u8 0, .int .u8 0, .int .u8 0, .int .u8 0, .int .u8 0, .int .u8 0, .int .u8 0, .int .u8 0, .int .u8 0, .bool false, .int .i64 0, .int .i64 0, .int .i64 0, .slice none 0 0] 26)) (some r) := World.grownBy_alloc w _ _
  have hrl : r < w.heap.size := h.lt
  have R0 := h.on (below_alloc w (.cells #[.int .u8 0, .int .u8 0, .int .u8 0, .int .u8 0, .int .u8 0, .int .u8 0, .int .u8 0, .int .u8 0, .int .u8 0, .int .u8 0, .int .u8 0, .int .u8 0, .bool false, .int .i64 0, .int .i64 0, .int .i64 0, .slice none 0 0] 26))
  have HLT : Hid (∀ b o, ao = some ⟨b, o, none⟩ → 0 < n → b < w.heap.size) := hide h.byt.lt
  have T0 : (w.alloc (.cells #[.int .u8 0, .int .u8 0, .int .u8 0, .int .u8 0, .int .u8 0, .int .u8 0, .int .u8 0, .int .u8 0, .int .u8 0, .int .u8 0, .int .u8 0, .int .u8 0, .bool false, .int .i64 0, .int .i64 0, .int .i64 0, .slice none 0 0] 26)).there w.heap.size 0 17 := there_new w #[.int .u8 0, .int .u8 0, .int .u8 0, .int .u8 0, .int .u8 0, .int .u8 0, .int .u8 0, .int .u8 0, .int .u8 0, .int .u8 0, .int .u8 0, .int .u8 0, .bool false, .int .i64 0, .int .i64 0, .int .i64 0, .slice none 0 0] 26
  have L0 : w.heap.size < (w.alloc (.cells #[.int .u8 0, .int .u8 0, .int .u8 0, .int .u8 0, .int .u8 0, .int .u8 0, .int .u8 0, .int .u8 0, .int .u8 0, .int .u8 0, .int .u8 0, .int .u8 0, .bool false, .int .i64 0, .int .i64 0, .int .i64 0, .slice none 0 0] 26)).heap.size := by simp
  have hne : w.heap.size ≠ r := by omega
  have K0 : link ao ao := fun b' o' e => ⟨o', e⟩
  clear h
  go_enter Try.func30, Try.ntmps30
  go_wp2_with fail
  refine (macX x0 x1 x2 x3 x4 x5 _ r ao n c _ R0).mono ?_
  rintro e w1 ⟨rfl, a1, R1, k1, G1⟩
  replace T0 := there_kept T0 L0 hne G1
  replace L0 : w.heap.size < w1.heap.size := Nat.lt_of_lt_of_le L0 G1.size
  replace W0 := grown_trans W0 G1
  replace K0 := K0.trans k1
  clear G1 k1 R0
  go_wp2_with fail
  refine (macX x6 x7 x8 x9 x10 x11 _ r a1 (n - 6) (c - 6) _ R1).mono ?_
  rintro e w2 ⟨rfl, a2, R2, k1, G2⟩
  replace T0 := there_kept T0 L0 hne G2
  replace L0 : w.heap.size < w2.heap.size := Nat.lt_of_lt_of_le L0 G2.size
  replace W0 := grown_trans W0 G2
  replace K0 := K0.trans k1
  clear G2 k1 R1
  go_wp2_with fail
  refine (pair28_no r a2 (n - 6 - 6) (c - 6 - 6) q _ R2 hn).mono ?_
  rintro e w3 ⟨rfl, G3⟩
  go_wp2
  exact ⟨rfl, rfl, grown_trans W0 G3⟩

end Go.Proofs.Ytmpojeehjhpkbaa
