/- Contract of readFrame. · Contract of readFrame: bytes that are too few behind a tag. · Contract of readFrame: a frame without a tag. · Contract of readFrame: a frame with a tag. · Contract of readFrame, whichever bytes there are; of the deferred function. · Contract of Decode, as the program has it. -/
import Derived.Test.YtgpdjfaklcmoiaaDoorM14
import Derived.Recover
/- Contract of readFrame. -/
namespace Go.Proofs.YtgpdjfaklcmoiaaDoor.Eth
open Go.RowKit

theorem macX (x0 x1 x2 x3 x4 x5 : Int) (q : List Int) (r : Nat) (ao : Option Addr) (n c : Nat) (w : World) (h : Rd w r ao n c (x0 :: x1 :: x2 :: x3 :: x4 :: x5 :: q)) :
    Calls Tryd.prog 50 #[.pointer (some ⟨r, 0, none⟩)] w fun e w' => e = .returned (.agg #[.int .u8 x0, .int .u8 x1, .int .u8 x2, .int .u8 x3, .int .u8 x4, .int .u8 x5]) ∧ ∃ ao', Rd w' r ao' (n - 6) (c - 6) q ∧ (∀ b' o', ao' = some ⟨b', o', none⟩ → ∃ o2, ao = some ⟨b', o2, none⟩) ∧ w.grownBy w' (some r) :=
  mac27_yes r ao n c _ w h (by have e := h.byt.len; simp at e; omega)
theorem pairX (x0 x1 : Int) (q : List Int) (r : Nat) (ao : Option Addr) (n c : Nat) (w : World) (h : Rd w r ao n c (x0 :: x1 :: q)) :
    Calls Tryd.prog 51 #[.pointer (some ⟨r, 0, none⟩)] w fun e w' => e = .returned (.int .i64 (x0 * 256 + x1)) ∧ ∃ ao', Rd w' r ao' (n - 2) (c - 2) q ∧ (∀ b' o', ao' = some ⟨b', o', none⟩ → ∃ o2, ao = some ⟨b', o2, none⟩) ∧ w.grownBy w' (some r) :=
  pair28_yes r ao n c _ w h (by have e := h.byt.len; simp at e; omega)
def link (ao ao' : Option Addr) : Prop := ∀ b' o', ao' = some ⟨b', o', none⟩ → ∃ o2, ao = some ⟨b', o2, none⟩
theorem link.trans {a b c : Option Addr} (h : link a b) (k : link b c) : link a c := fun b' o' e => by
  obtain ⟨o2, e2⟩ := k b' o' e
  exact h b' o2 e2
theorem put_below {w w1 : World} {o : Obj} (hg : (w.alloc o).grownBy w1 (some w.heap.size)) : Below w.heap.size w w1 := below_grown (below_alloc w o) hg (Nat.le_refl _) (by simp)
theorem put_grown {w w1 : World} {row : Option Nat} {o : Obj} (hg : (w.alloc o).grownBy w1 (some w.heap.size)) : w.grownBy w1 row := grown_new (World.grownBy_alloc w o row) hg (Nat.le_refl _)
theorem Rd.kept' {w w1 : World} {r k : Nat} {ao : Option Addr} {n c : Nat} {ns : List Int} (h : Rd w r ao n c ns) (hk : r ≠ k) (hl : ∀ b o, ao = some ⟨b, o, none⟩ → b < k) (hg : w.grownBy w1 (some k)) : Rd w1 r ao n c ns := h.kept hk (fun b o e => by have := hl b o e; omega) hg
theorem AtF.set12 {w : World} {k : Nat} {f : Fd} {b : Value} (h : AtF w k f b) (v : Bool) : AtF (w.setCell ⟨k, 12, none⟩ (.bool v)) k { f with tg := v } b := by
  have e : ∀ i, i ≠ 12 → (w.setCell ⟨k, 12, none⟩ (.bool v)).cell? ⟨k, i, none⟩ = w.cell? ⟨k, i, none⟩ := fun i hi => World.cell?_setCell_other _ _ _ _ (fun e => hi (congrArg Addr.off e).symm)
  exact ⟨by simpa [World.setCell] using h.lt, by rw [e 0 (by omega)]; exact h.c0, by rw [e 1 (by omega)]; exact h.c1, by rw [e 2 (by omega)]; exact h.c2, by rw [e 3 (by omega)]; exact h.c3, by rw [e 4 (by omega)]; exact h.c4, by rw [e 5 (by omega)]; exact h.c5, by rw [e 6 (by omega)]; exact h.c6, by rw [e 7 (by omega)]; exact h.c7, by rw [e 8 (by omega)]; exact h.c8, by rw [e 9 (by omega)]; exact h.c9, by rw [e 10 (by omega)]; exact h.c10, by rw [e 11 (by omega)]; exact h.c11, World.cell?_setCell_same _ _ _ h.c12, by rw [e 13 (by omega)]; exact h.c13, by rw [e 14 (by omega)]; exact h.c14, by rw [e 15 (by omega)]; exact h.c15, by rw [e 16 (by omega)]; exact h.c16⟩
theorem AtF.set13 {w : World} {k : Nat} {f : Fd} {b : Value} (h : AtF w k f b) (v : Int) : AtF (w.setCell ⟨k, 13, none⟩ (.int .i64 v)) k { f with vl := v } b := by
  have e : ∀ i, i ≠ 13 → (w.setCell ⟨k, 13, none⟩ (.int .i64 v)).cell? ⟨k, i, none⟩ = w.cell? ⟨k, i, none⟩ := fun i hi => World.cell?_setCell_other _ _ _ _ (fun e => hi (congrArg Addr.off e).symm)
  exact ⟨by simpa [World.setCell] using h.lt, by rw [e 0 (by omega)]; exact h.c0, by rw [e 1 (by omega)]; exact h.c1, by rw [e 2 (by omega)]; exact h.c2, by rw [e 3 (by omega)]; exact h.c3, by rw [e 4 (by omega)]; exact h.c4, by rw [e 5 (by omega)]; exact h.c5, by rw [e 6 (by omega)]; exact h.c6, by rw [e 7 (by omega)]; exact h.c7, by rw [e 8 (by omega)]; exact h.c8, by rw [e 9 (by omega)]; exact h.c9, by rw [e 10 (by omega)]; exact h.c10, by rw [e 11 (by omega)]; exact h.c11, by rw [e 12 (by omega)]; exact h.c12, World.cell?_setCell_same _ _ _ h.c13, by rw [e 14 (by omega)]; exact h.c14, by rw [e 15 (by omega)]; exact h.c15, by rw [e 16 (by omega)]; exact h.c16⟩
theorem AtF.set14 {w : World} {k : Nat} {f : Fd} {b : Value} (h : AtF w k f b) (v : Int) : AtF (w.setCell ⟨k, 14, none⟩ (.int .i64 v)) k { f with pr := v } b := by
  have e : ∀ i, i ≠ 14 → (w.setCell ⟨k, 14, none⟩ (.int .i64 v)).cell? ⟨k, i, none⟩ = w.cell? ⟨k, i, none⟩ := fun i hi => World.cell?_setCell_other _ _ _ _ (fun e => hi (congrArg Addr.off e).symm)
  exact ⟨by simpa [World.setCell] using h.lt, by rw [e 0 (by omega)]; exact h.c0, by rw [e 1 (by omega)]; exact h.c1, by rw [e 2 (by omega)]; exact h.c2, by rw [e 3 (by omega)]; exact h.c3, by rw [e 4 (by omega)]; exact h.c4, by rw [e 5 (by omega)]; exact h.c5, by rw [e 6 (by omega)]; exact h.c6, by rw [e 7 (by omega)]; exact h.c7, by rw [e 8 (by omega)]; exact h.c8, by rw [e 9 (by omega)]; exact h.c9, by rw [e 10 (by omega)]; exact h.c10, by rw [e 11 (by omega)]; exact h.c11, by rw [e 12 (by omega)]; exact h.c12, by rw [e 13 (by omega)]; exact h.c13, World.cell?_setCell_same _ _ _ h.c14, by rw [e 15 (by omega)]; exact h.c15, by rw [e 16 (by omega)]; exact h.c16⟩
theorem AtF.set15 {w : World} {k : Nat} {f : Fd} {b : Value} (h : AtF w k f b) (v : Int) : AtF (w.setCell ⟨k, 15, none⟩ (.int .i64 v)) k { f with ty := v } b := by
  have e : ∀ i, i ≠ 15 → (w.setCell ⟨k, 15, none⟩ (.int .i64 v)).cell? ⟨k, i, none⟩ = w.cell? ⟨k, i, none⟩ := fun i hi => World.cell?_setCell_other _ _ _ _ (fun e => hi (congrArg Addr.off e).symm)
  exact ⟨by simpa [World.setCell] using h.lt, by rw [e 0 (by omega)]; exact h.c0, by rw [e 1 (by omega)]; exact h.c1, by rw [e 2 (by omega)]; exact h.c2, by rw [e 3 (by omega)]; exact h.c3, by rw [e 4 (by omega)]; exact h.c4, by rw [e 5 (by omega)]; exact h.c5, by rw [e 6 (by omega)]; exact h.c6, by rw [e 7 (by omega)]; exact h.c7, by rw [e 8 (by omega)]; exact h.c8, by rw [e 9 (by omega)]; exact h.c9, by rw [e 10 (by omega)]; exact h.c10, by rw [e 11 (by omega)]; exact h.c11, by rw [e 12 (by omega)]; exact h.c12, by rw [e 13 (by omega)]; exact h.c13, by rw [e 14 (by omega)]; exact h.c14, World.cell?_setCell_same _ _ _ h.c15, by rw [e 16 (by omega)]; exact h.c16⟩
set_option maxRecDepth 100000 in
set_option maxHeartbeats 2000000 in
theorem rf_no6 (q : List Int) (r : Nat) (ao : Option Addr) (n c : Nat) (w : World) (h : Rd w r ao n c q) (hn : n < 6) :
    Calls Tryd.prog 34 #[.pointer (some ⟨r, 0, none⟩)] w fun e w' => e = .panicked pan ∧ w.grownBy w' (some r) := by
  have W0 : w.grownBy (w.alloc (.cells #[.int .u8 0, .int .u8 0, .int .u8 0, .int .u8 0, .int .u8 0, .int .u8 0, .int .u8 0, .int .u8 0, .int .u8 0, .int .u8 0, .int .u8 0, .int .u8 0, .bool false, .int .i64 0, .int .i64 0, .int .i64 0, .slice none 0 0] 26)) (some r) := World.grownBy_alloc w _ _
  have hrl : r < w.heap.size := h.lt
  have R0 := h.on (below_alloc w (.cells #[.int .u8 0, .int .u8 0, .int .u8 0, .int .u8 0, .int .u8 0, .int .u8 0, .int .u8 0, .int .u8 0, .int .u8 0, .int .u8 0, .int .u8 0, .int .u8 0, .bool false, .int .i64 0, .int .i64 0, .int .i64 0, .slice none 0 0] 26))
  have HLT : Hid (∀ b o, ao = some ⟨b, o, none⟩ → 0 < n → b < w.heap.size) := hide h.byt.lt
  have T0 : (w.alloc (.cells #[.int .u8 0, .int .u8 0, .int .u8 0, .int .u8 0, .int .u8 0, .int .u8 0, .int .u8 0, .int .u8 0, .int .u8 0, .int .u8 0, .int .u8 0, .int .u8 0, .bool false, .int .i64 0, .int .i64 0, .int .i64 0, .slice none 0 0] 26)).there w.heap.size 0 17 := there_new w #[.int .u8 0, .int .u8 0, .int .u8 0, .int .u8 0, .int .u8 0, .int .u8 0, .int .u8 0, .int .u8 0, .int .u8 0, .int .u8 0, .int .u8 0, .int .u8 0, .bool false, .int .i64 0, .int .i64 0, .int .i64 0, .slice none 0 0] 26
  have L0 : w.heap.size < (w.alloc (.cells #[.int .u8 0, .int .u8 0, .int .u8 0, .int .u8 0, .int .u8 0, .int .u8 0, .int .u8 0, .int .u8 0, .int .u8 0, .int .u8 0, .int .u8 0, .int .u8 0, .bool false, .int .i64 0, .int .i64 0, .int .i64 0, .slice none 0 0] 26)).heap.size := by simp
  have hne : w.heap.size ≠ r := by omega
  have K0 : link ao ao := fun b' o' e => ⟨o', e⟩
  clear h
  go_enter Tryd.func34, Tryd.ntmps34
  go_wp2_with fail
  refine (mac27_no r ao n c q _ R0 hn).mono ?_
  rintro e w1 ⟨rfl, G1⟩
  go_wp2
  exact ⟨rfl, rfl, grown_trans W0 G1⟩

set_option maxRecDepth 100000 in
set_option maxHeartbeats 2000000 in
theorem rf_no12 (x0 x1 x2 x3 x4 x5 : Int) (q : List Int) (r : Nat) (ao : Option Addr) (n c : Nat) (w : World) (h : Rd w r ao n c (x0 :: x1 :: x2 :: x3 :: x4 :: x5 :: q)) (hn : n - 6 < 6) :
    Calls Tryd.prog 34 #[.pointer (some ⟨r, 0, none⟩)] w fun e w' => e = .panicked pan ∧ w.grownBy w' (some r) := by
  have W0 : w.grownBy (w.alloc (.cells #[.int .u8 0, .int .u8 0, .int .u8 0, .int .u8 0, .int .u8 0, .int .u8 0, .int .u8 0, .int .u8 0, .int .u8 0, .int .u8 0, .int .u8 0, .int .u8 0, .bool false, .int .i64 0, .int .i64 0, .int .i64 0, .slice none 0 0] 26)) (some r) := World.grownBy_alloc w _ _
  have hrl : r < w.heap.size := h.lt
  have R0 := h.on (below_alloc w (.cells #[.int .u8 0, .int .u8 0, .int .u8 0, .int .u8 0, .int .u8 0, .int .u8 0, .int .u8 0, .int .u8 0, .int .u8 0, .int .u8 0, .int .u8 0, .int .u8 0, .bool false, .int .i64 0, .int .i64 0, .int .i64 0, .slice none 0 0] 26))
  have HLT : Hid (∀ b o, ao = some ⟨b, o, none⟩ → 0 < n → b < w.heap.size) := hide h.byt.lt
  have T0 : (w.alloc (.cells #[.int .u8 0, .int .u8 0, .int .u8 0, .int .u8 0, .int .u8 0, .int .u8 0, .int .u8 0, .int .u8 0, .int .u8 0, .int .u8 0, .int .u8 0, .int .u8 0, .bool false, .int .i64 0, .int .i64 0, .int .i64 0, .slice none 0 0] 26)).there w.heap.size 0 17 := there_new w #[.int .u8 0, .int .u8 0, .int .u8 0, .int .u8 0, .int .u8 0, .int .u8 0, .int .u8 0, .int .u8 0, .int .u8 0, .int .u8 0, .int .u8 0, .int .u8 0, .bool false, .int .i64 0, .int .i64 0, .int .i64 0, .slice none 0 0] 26
  have L0 : w.heap.size < (w.alloc (.cells #[.int .u8 0, .int .u8 0, .int .u8 0, .int .u8 0, .int .u8 0, .int .u8 0, .int .u8 0, .int .u8 0, .int .u8 0, .int .u8 0, .int .u8 0, .int .u8 0, .bool false, .int .i64 0, .int .i64 0, .int .i64 0, .slice none 0 0] 26)).heap.size := by simp
  have hne : w.heap.size ≠ r := by omega
  have K0 : link ao ao := fun b' o' e => ⟨o', e⟩
  clear h
  go_enter Tryd.func34, Tryd.ntmps34
  go_wp2_with fail
  refine (macX x0 x1 x2 x3 x4 x5 _ r ao n c _ R0).mono ?_
  rintro e w1 ⟨rfl, a1, R1, k1, G1⟩
  replace T0 := there_kept T0 L0 hne G1
  replace L0 : w.heap.size < w1.heap.size := Nat.lt_of_lt_of_le L0 G1.size
  replace W0 := grown_trans W0 G1
  replace K0 := K0.trans k1
  clear G1 k1 R0
  go_wp2_with fail
  refine (mac27_no r a1 (n - 6) (c - 6) q _ R1 hn).mono ?_
  rintro e w2 ⟨rfl, G2⟩
  go_wp2
  exact ⟨rfl, rfl, grown_trans W0 G2⟩

set_option maxRecDepth 100000 in
set_option maxHeartbeats 2000000 in
theorem rf_no14 (x0 x1 x2 x3 x4 x5 x6 x7 x8 x9 x10 x11 : Int) (q : List Int) (r : Nat) (ao : Option Addr) (n c : Nat) (w : World) (h : Rd w r ao n c (x0 :: x1 :: x2 :: x3 :: x4 :: x5 :: x6 :: x7 :: x8 :: x9 :: x10 :: x11 :: q)) (hn : n - 6 - 6 < 2) :
    Calls Tryd.prog 34 #[.pointer (some ⟨r, 0, none⟩)] w fun e w' => e = .panicked pan ∧ w.grownBy w' (some r) := by
  have W0 : w.grownBy (w.alloc (.cells #[.int .u8 0, .int .u8 0, .int .u8 0, .int .u8 0, .int .u8 0, .int .u8 0, .int .u8 0, .int .u8 0, .int .u8 0, .int .u8 0, .int .u8 0, .int .u8 0, .bool false, .int .i64 0, .int .i64 0, .int .i64 0, .slice none 0 0] 26)) (some r) := World.grownBy_alloc w _ _
  have hrl : r < w.heap.size := h.lt
  have R0 := h.on (below_alloc w (.cells #[.int .u8 0, .int .u8 0, .int .u8 0, .int .u8 0, .int .u8 0, .int .u8 0, .int .u8 0, .int .u8 0, .int .u8 0, .int .u8 0, .int .u8 0, .int .u8 0, .bool false, .int .i64 0, .int .i64 0, .int .i64 0, .slice none 0 0] 26))
  have HLT : Hid (∀ b o, ao = some ⟨b, o, none⟩ → 0 < n → b < w.heap.size) := hide h.byt.lt
  have T0 : (w.alloc (.cells #[.int .u8 0, .int .u8 0, .int .u8 0, .int .u8 0, .int .u8 0, .int .u8 0, .int .u8 0, .int .u8 0, .int .u8 0, .int .u8 0, .int .u8 0, .int .u8 0, .bool false, .int .i64 0, .int .i64 0, .int .i64 0, .slice none 0 0] 26)).there w.heap.size 0 17 := there_new w #[.int .u8 0, .int .u8 0, .int .u8 0, .int .u8 0, .int .u8 0, .int .u8 0, .int .u8 0, .int .u8 0, .int .u8 0, .int .u8 0, .int .u8 0, .int .u8 0, .bool false, .int .i64 0, .int .i64 0, .int .i64 0, .slice none 0 0] 26
  have L0 : w.heap.size < (w.alloc (.cells #[.int .u8 0, .int .u8 0, .int .u8 0, .int .u8 0, .int .u8 0, .int .u8 0, .int .u8 0, .int .u8 0, .int .u8 0, .int .u8 0, .int .u8 0, .int .u8 0, .bool false, .int .i64 0, .int .i64 0, .int .i64 0, .slice none 0 0] 26)).heap.size := by simp
  have hne : w.heap.size ≠ r := by omega
  have K0 : link ao ao := fun b' o' e => ⟨o', e⟩
  clear h
  go_enter Tryd.func34, Tryd.ntmps34
  go_wp2_with fail
  refine (macX x0 x1 x2 x3 x4 x5 _ r ao n c _ R0).mono ?_
  rintro e w1 ⟨rfl, a1, R1, k1, G1⟩
  replace T0 := there_kept T0 L0 hne G1
  replace L0 : w.heap.size < w1.heap.size := Nat.lt_of_lt_of_le L0 G1.size
  replace W0 := grown_trans W0 G1
  replace K0 := K0.trans k1
  clear G1 k1 R0
  go_wp2_with fail
  refine (macX x6 x7 x8 x9 x10 x11 _ r a1 (n - 6) (c - 6) _ R1).mono ?_
  rintro e w2 ⟨rfl, a2, R2, k1, G2⟩
  replace T0 := there_kept T0 L0 hne G2
  replace L0 : w.heap.size < w2.heap.size := Nat.lt_of_lt_of_le L0 G2.size
  replace W0 := grown_trans W0 G2
  replace K0 := K0.trans k1
  clear G2 k1 R1
  go_wp2_with fail
  refine (pair28_no r a2 (n - 6 - 6) (c - 6 - 6) q _ R2 hn).mono ?_
  rintro e w3 ⟨rfl, G3⟩
  go_wp2
  exact ⟨rfl, rfl, grown_trans W0 G3⟩

end Go.Proofs.YtgpdjfaklcmoiaaDoor.Eth
/- Contract of readFrame: bytes that are too few behind a tag. -/
namespace Go.Proofs.YtgpdjfaklcmoiaaDoor.Eth
open Go.RowKit

set_option maxRecDepth 100000 in
set_option maxHeartbeats 4000000 in
theorem rf_no16 (x0 x1 x2 x3 x4 x5 x6 x7 x8 x9 x10 x11 x12 x13 : Int) (q : List Int) (r : Nat) (ao : Option Addr) (n c : Nat) (w : World) (h : Rd w r ao n c (x0 :: x1 :: x2 :: x3 :: x4 :: x5 :: x6 :: x7 :: x8 :: x9 :: x10 :: x11 :: x12 :: x13 :: q)) (ht : x12 * 256 + x13 = 33024) (hn : n - 6 - 6 - 2 < 2) :
    Calls Tryd.prog 34 #[.pointer (some ⟨r, 0, none⟩)] w fun e w' => e = .panicked pan ∧ w.grownBy w' (some r) := by
  have hq : (x12 * 256 + x13 == 33024) = true := by simp [ht]
  clear ht
  have W0 : w.grownBy (w.alloc (.cells #[.int .u8 0, .int .u8 0, .int .u8 0, .int .u8 0, .int .u8 0, .int .u8 0, .int .u8 0, .int .u8 0, .int .u8 0, .int .u8 0, .int .u8 0, .int .u8 0, .bool false, .int .i64 0, .int .i64 0, .int .i64 0, .slice none 0 0] 26)) (some r) := World.grownBy_alloc w _ _
  have hrl : r < w.heap.size := h.lt
  have R0 := h.on (below_alloc w (.cells #[.int .u8 0, .int .u8 0, .int .u8 0, .int .u8 0, .int .u8 0, .int .u8 0, .int .u8 0, .int .u8 0, .int .u8 0, .int .u8 0, .int .u8 0, .int .u8 0, .bool false, .int .i64 0, .int .i64 0, .int .i64 0, .slice none 0 0] 26))
  have HLT : Hid (∀ b o, ao = some ⟨b, o, none⟩ → 0 < n → b < w.heap.size) := hide h.byt.lt
  have T0 : (w.alloc (.cells #[.int .u8 0, .int .u8 0, .int .u8 0, .int .u8 0, .int .u8 0, .int .u8 0, .int .u8 0, .int .u8 0, .int .u8 0, .int .u8 0, .int .u8 0, .int .u8 0, .bool false, .int .i64 0, .int .i64 0, .int .i64 0, .slice none 0 0] 26)).there w.heap.size 0 17 := there_new w #[.int .u8 0, .int .u8 0, .int .u8 0, .int .u8 0, .int .u8 0, .int .u8 0, .int .u8 0, .int .u8 0, .int .u8 0, .int .u8 0, .int .u8 0, .int .u8 0, .bool false, .int .i64 0, .int .i64 0, .int .i64 0, .slice none 0 0] 26
  have L0 : w.heap.size < (w.alloc (.cells #[.int .u8 0, .int .u8 0, .int .u8 0, .int .u8 0, .int .u8 0, .int .u8 0, .int .u8 0, .int .u8 0, .int .u8 0, .int .u8 0, .int .u8 0, .int .u8 0, .bool false, .int .i64 0, .int .i64 0, .int .i64 0, .slice none 0 0] 26)).heap.size := by simp
  have hne : w.heap.size ≠ r := by omega
  have K0 : link ao ao := fun b' o' e => ⟨o', e⟩
  clear h
  go_enter Tryd.func34, Tryd.ntmps34
  go_wp2_with fail
  refine (macX x0 x1 x2 x3 x4 x5 _ r ao n c _ R0).mono ?_
  rintro e w1 ⟨rfl, a1, R1, k1, G1⟩
  replace T0 := there_kept T0 L0 hne G1
  replace L0 : w.heap.size < w1.heap.size := Nat.lt_of_lt_of_le L0 G1.size
  replace W0 := grown_trans W0 G1
  replace K0 := K0.trans k1
  clear G1 k1 R0
  go_wp2_with fail
  refine (macX x6 x7 x8 x9 x10 x11 _ r a1 (n - 6) (c - 6) _ R1).mono ?_
  rintro e w2 ⟨rfl, a2, R2, k1, G2⟩
  replace T0 := there_kept T0 L0 hne G2
  replace L0 : w.heap.size < w2.heap.size := Nat.lt_of_lt_of_le L0 G2.size
  replace W0 := grown_trans W0 G2
  replace K0 := K0.trans k1
  clear G2 k1 R1
  go_wp2_with fail
  refine (pairX x12 x13 _ r a2 (n - 6 - 6) (c - 6 - 6) _ R2).mono ?_
  rintro e w3 ⟨rfl, a3, R3, k1, G3⟩
  replace T0 := there_kept T0 L0 hne G3
  replace L0 : w.heap.size < w3.heap.size := Nat.lt_of_lt_of_le L0 G3.size
  replace W0 := grown_trans W0 G3
  replace K0 := K0.trans k1
  clear G3 k1 R2
  have T1 : (w3.alloc (.cells #[.int .u8 0, .int .u8 0, .int .u8 0, .int .u8 0, .int .u8 0, .int .u8 0, .int .u8 0, .int .u8 0, .int .u8 0, .int .u8 0, .int .u8 0, .int .u8 0, .bool false, .int .i64 0, .int .i64 0, .int .i64 0, .slice none 0 0] 26)).there w3.heap.size 0 17 := there_new w3 #[.int .u8 0, .int .u8 0, .int .u8 0, .int .u8 0, .int .u8 0, .int .u8 0, .int .u8 0, .int .u8 0, .int .u8 0, .int .u8 0, .int .u8 0, .int .u8 0, .bool false, .int .i64 0, .int .i64 0, .int .i64 0, .slice none 0 0] 26
  have tk1 : True := trivial
  have hzz : w.heap.size < w3.heap.size := L0
  go_wp2_with (first | (have _t := tk1; refine wpl_put ⟨x0, x1, x2, x3, x4, x5, x6, x7, x8, x9, x10, x11, false, 0, 0, x12 * 256 + x13, []⟩ none 0 0 (.tmp 3) (.tmp 11) rfl T1 ?_ ?_ ?_ ?_; rfl; rfl; rfl; clear tk1; intro w4 A4 T4 G4; have hK : w3.heap.size ≠ r := (by omega); have hK' : r ≠ w3.heap.size := (by omega); have G34 : w3.grownBy w4 (some r) := put_grown G4; have B4 := put_below G4; have R4 := R3.on B4; replace T0 := there_on T0 L0 B4; replace L0 : w.heap.size < w4.heap.size := Nat.lt_of_lt_of_le L0 B4.size; replace W0 := grown_trans W0 G34; have L4 : w3.heap.size < w4.heap.size := A4.lt; have p15 := A4.c15; clear T1 G4 G34 B4 R3))
  refine (pair28_no r a3 (n - 6 - 6 - 2) (c - 6 - 6 - 2) q _ R4 hn).mono ?_
  rintro e w5 ⟨rfl, G5⟩
  go_wp2
  exact ⟨rfl, rfl, grown_trans W0 G5⟩

set_option maxRecDepth 100000 in
set_option maxHeartbeats 4000000 in
theorem rf_no18 (x0 x1 x2 x3 x4 x5 x6 x7 x8 x9 x10 x11 x12 x13 x14 x15 : Int) (q : List Int) (r : Nat) (ao : Option Addr) (n c : Nat) (w : World) (h : Rd w r ao n c (x0 :: x1 :: x2 :: x3 :: x4 :: x5 :: x6 :: x7 :: x8 :: x9 :: x10 :: x11 :: x12 :: x13 :: x14 :: x15 :: q)) (ht : x12 * 256 + x13 = 33024) (hn : n - 6 - 6 - 2 - 2 < 2) :
    Calls Tryd.prog 34 #[.pointer (some ⟨r, 0, none⟩)] w fun e w' => e = .panicked pan ∧ w.grownBy w' (some r) := by
  have hq : (x12 * 256 + x13 == 33024) = true := by simp [ht]
  clear ht
  have hpos : 0 < n := by have := h.byt.len; simp at this; omega
  obtain ⟨g0, g1⟩ := h.byt.rng x14 (by simp)
  obtain ⟨g2, g3⟩ := h.byt.rng x15 (by simp)
  have W0 : w.grownBy (w.alloc (.cells #[.int .u8 0, .int .u8 0, .int .u8 0, .int .u8 0, .int .u8 0, .int .u8 0, .int .u8 0, .int .u8 0, .int .u8 0, .int .u8 0, .int .u8 0, .int .u8 0, .bool false, .int .i64 0, .int .i64 0, .int .i64 0, .slice none 0 0] 26)) (some r) := World.grownBy_alloc w _ _
  have hrl : r < w.heap.size := h.lt
  have R0 := h.on (below_alloc w (.cells #[.int .u8 0, .int .u8 0, .int .u8 0, .int .u8 0, .int .u8 0, .int .u8 0, .int .u8 0, .int .u8 0, .int .u8 0, .int .u8 0, .int .u8 0, .int .u8 0, .bool false, .int .i64 0, .int .i64 0, .int .i64 0, .slice none 0 0] 26))
  have HLT : Hid (∀ b o, ao = some ⟨b, o, none⟩ → 0 < n → b < w.heap.size) := hide h.byt.lt
  have T0 : (w.alloc (.cells #[.int .u8 0, .int .u8 0, .int .u8 0, .int .u8 0, .int .u8 0, .int .u8 0, .int .u8 0, .int .u8 0, .int .u8 0, .int .u8 0, .int .u8 0, .int .u8 0, .bool false, .int .i64 0, .int .i64 0, .int .i64 0, .slice none 0 0] 26)).there w.heap.size 0 17 := there_new w #[.int .u8 0, .int .u8 0, .int .u8 0, .int .u8 0, .int .u8 0, .int .u8 0, .int .u8 0, .int .u8 0, .int .u8 0, .int .u8 0, .int .u8 0, .int .u8 0, .bool false, .int .i64 0, .int .i64 0, .int .i64 0, .slice none 0 0] 26
  have L0 : w.heap.size < (w.alloc (.cells #[.int .u8 0, .int .u8 0, .int .u8 0, .int .u8 0, .int .u8 0, .int .u8 0, .int .u8 0, .int .u8 0, .int .u8 0, .int .u8 0, .int .u8 0, .int .u8 0, .bool false, .int .i64 0, .int .i64 0, .int .i64 0, .slice none 0 0] 26)).heap.size := by simp
  have hne : w.heap.size ≠ r := by omega
  have K0 : link ao ao := fun b' o' e => ⟨o', e⟩
  clear h
  go_enter Tryd.func34, Tryd.ntmps34
  go_wp2_with fail
  refine (macX x0 x1 x2 x3 x4 x5 _ r ao n c _ R0).mono ?_
  rintro e w1 ⟨rfl, a1, R1, k1, G1⟩
  replace T0 := there_kept T0 L0 hne G1
  replace L0 : w.heap.size < w1.heap.size := Nat.lt_of_lt_of_le L0 G1.size
  replace W0 := grown_trans W0 G1
  replace K0 := K0.trans k1
  clear G1 k1 R0
  go_wp2_with fail
  refine (macX x6 x7 x8 x9 x10 x11 _ r a1 (n - 6) (c - 6) _ R1).mono ?_
  rintro e w2 ⟨rfl, a2, R2, k1, G2⟩
  replace T0 := there_kept T0 L0 hne G2
  replace L0 : w.heap.size < w2.heap.size := Nat.lt_of_lt_of_le L0 G2.size
  replace W0 := grown_trans W0 G2
  replace K0 := K0.trans k1
  clear G2 k1 R1
  go_wp2_with fail
  refine (pairX x12 x13 _ r a2 (n - 6 - 6) (c - 6 - 6) _ R2).mono ?_
  rintro e w3 ⟨rfl, a3, R3, k1, G3⟩
  replace T0 := there_kept T0 L0 hne G3
  replace L0 : w.heap.size < w3.heap.size := Nat.lt_of_lt_of_le L0 G3.size
  replace W0 := grown_trans W0 G3
  replace K0 := K0.trans k1
  clear G3 k1 R2
  have T1 : (w3.alloc (.cells #[.int .u8 0, .int .u8 0, .int .u8 0, .int .u8 0, .int .u8 0, .int .u8 0, .int .u8 0, .int .u8 0, .int .u8 0, .int .u8 0, .int .u8 0, .int .u8 0, .bool false, .int .i64 0, .int .i64 0, .int .i64 0, .slice none 0 0] 26)).there w3.heap.size 0 17 := there_new w3 #[.int .u8 0, .int .u8 0, .int .u8 0, .int .u8 0, .int .u8 0, .int .u8 0, .int .u8 0, .int .u8 0, .int .u8 0, .int .u8 0, .int .u8 0, .int .u8 0, .bool false, .int .i64 0, .int .i64 0, .int .i64 0, .slice none 0 0] 26
  have tk1 : True := trivial
  have hzz : w.heap.size < w3.heap.size := L0
  go_wp2_with (first | (have _t := tk1; refine wpl_put ⟨x0, x1, x2, x3, x4, x5, x6, x7, x8, x9, x10, x11, false, 0, 0, x12 * 256 + x13, []⟩ none 0 0 (.tmp 3) (.tmp 11) rfl T1 ?_ ?_ ?_ ?_; rfl; rfl; rfl; clear tk1; intro w4 A4 T4 G4; have hK : w3.heap.size ≠ r := (by omega); have hK' : r ≠ w3.heap.size := (by omega); have G34 : w3.grownBy w4 (some r) := put_grown G4; have B4 := put_below G4; have R4 := R3.on B4; replace T0 := there_on T0 L0 B4; replace L0 : w.heap.size < w4.heap.size := Nat.lt_of_lt_of_le L0 B4.size; replace W0 := grown_trans W0 G34; have L4 : w3.heap.size < w4.heap.size := A4.lt; have p15 := A4.c15; clear T1 G4 G34 B4 R3))
  refine (pairX x14 x15 _ r a3 (n - 6 - 6 - 2) (c - 6 - 6 - 2) _ R4).mono ?_
  rintro e w5 ⟨rfl, a5, R5, k1, G5⟩
  have A5 := A4.kept hK G5
  have T5 := there_kept T4 L4 hK G5
  replace T0 := there_kept T0 L0 hne G5
  replace W0 := grown_trans W0 G5
  replace K0 := K0.trans k1
  have hl5 : ∀ b o, a5 = some ⟨b, o, none⟩ → b < w.heap.size := fun b o e => by
    obtain ⟨o2, e2⟩ := K0 b o e
    exact HLT.out b o2 e2 hpos
  have HL5 := hide hl5
  have q12 := A5.c12
  have q13 := A5.c13
  have q14 := A5.c14
  have f12 : w5.frozen? ⟨w3.heap.size, 12, none⟩ = false := (T5 12 (by omega)).2
  have f13 : w5.frozen? ⟨w3.heap.size, 13, none⟩ = false := (T5 13 (by omega)).2
  have f14 : w5.frozen? ⟨w3.heap.size, 14, none⟩ = false := (T5 14 (by omega)).2
  have G6 : w5.grownBy (((w5.setCell ⟨w3.heap.size, 12, none⟩ (.bool true)).setCell ⟨w3.heap.size, 14, none⟩ (.int .i64 ((x14 * 256 + x15) / 8192))).setCell ⟨w3.heap.size, 13, none⟩ (.int .i64 ((x14 * 256 + x15) % 8192))) (some w3.heap.size) := grown_trans (grown_trans (setCell_grown _ _ _ _) (setCell_grown _ _ _ _)) (setCell_grown _ _ _ _)
  have R6 := R5.kept hK' (fun b o e => by have := hl5 b o e; omega) G6
  have L5 : w.heap.size < w5.heap.size := Nat.lt_of_lt_of_le L0 G5.size
  have L5' : w3.heap.size < w5.heap.size := Nat.lt_of_lt_of_le L4 G5.size
  have HG := hide G6
  clear A4 T4 R4 R5 G5 k1 L0 L4 p15 G6 hl5
  go_wp2_with fail
  refine (pair28_no r a5 (n - 6 - 6 - 2 - 2) (c - 6 - 6 - 2 - 2) q _ R6 hn).mono ?_
  rintro e w7 ⟨rfl, G7⟩
  go_wp2
  exact ⟨rfl, rfl, grown_trans (grown_new W0 HG.out (by omega)) G7⟩

end Go.Proofs.YtgpdjfaklcmoiaaDoor.Eth
/- Contract of readFrame: a frame without a tag. -/
namespace Go.Proofs.YtgpdjfaklcmoiaaDoor.Eth
open Go.RowKit

set_option maxRecDepth 100000 in
set_option maxHeartbeats 4000000 in
theorem rf_plain (x0 x1 x2 x3 x4 x5 x6 x7 x8 x9 x10 x11 x12 x13 : Int) (q : List Int) (r : Nat) (ao : Option Addr) (n c : Nat) (w : World) (h : Rd w r ao n c (x0 :: x1 :: x2 :: x3 :: x4 :: x5 :: x6 :: x7 :: x8 :: x9 :: x10 :: x11 :: x12 :: x13 :: q)) (ht : ¬ x12 * 256 + x13 = 33024) :
    Calls Tryd.prog 34 #[.pointer (some ⟨r, 0, none⟩)] w fun e w' => ∃ ao' n' c', e = .returned (.agg #[.int .u8 (⟨x0, x1, x2, x3, x4, x5, x6, x7, x8, x9, x10, x11, false, 0, 0, x12 * 256 + x13, q⟩ : Fd).d0, .int .u8 (⟨x0, x1, x2, x3, x4, x5, x6, x7, x8, x9, x10, x11, false, 0, 0, x12 * 256 + x13, q⟩ : Fd).d1, .int .u8 (⟨x0, x1, x2, x3, x4, x5, x6, x7, x8, x9, x10, x11, false, 0, 0, x12 * 256 + x13, q⟩ : Fd).d2, .int .u8 (⟨x0, x1, x2, x3, x4, x5, x6, x7, x8, x9, x10, x11, false, 0, 0, x12 * 256 + x13, q⟩ : Fd).d3, .int .u8 (⟨x0, x1, x2, x3, x4, x5, x6, x7, x8, x9, x10, x11, false, 0, 0, x12 * 256 + x13, q⟩ : Fd).d4, .int .u8 (⟨x0, x1, x2, x3, x4, x5, x6, x7, x8, x9, x10, x11, false, 0, 0, x12 * 256 + x13, q⟩ : Fd).d5, .int .u8 (⟨x0, x1, x2, x3, x4, x5, x6, x7, x8, x9, x10, x11, false, 0, 0, x12 * 256 + x13, q⟩ : Fd).s0, .int .u8 (⟨x0, x1, x2, x3, x4, x5, x6, x7, x8, x9, x10, x11, false, 0, 0, x12 * 256 + x13, q⟩ : Fd).s1, .int .u8 (⟨x0, x1, x2, x3, x4, x5, x6, x7, x8, x9, x10, x11, false, 0, 0, x12 * 256 + x13, q⟩ : Fd).s2, .int .u8 (⟨x0, x1, x2, x3, x4, x5, x6, x7, x8, x9, x10, x11, false, 0, 0, x12 * 256 + x13, q⟩ : Fd).s3, .int .u8 (⟨x0, x1, x2, x3, x4, x5, x6, x7, x8, x9, x10, x11, false, 0, 0, x12 * 256 + x13, q⟩ : Fd).s4, .int .u8 (⟨x0, x1, x2, x3, x4, x5, x6, x7, x8, x9, x10, x11, false, 0, 0, x12 * 256 + x13, q⟩ : Fd).s5, .bool (⟨x0, x1, x2, x3, x4, x5, x6, x7, x8, x9, x10, x11, false, 0, 0, x12 * 256 + x13, q⟩ : Fd).tg, .int .i64 (⟨x0, x1, x2, x3, x4, x5, x6, x7, x8, x9, x10, x11, false, 0, 0, x12 * 256 + x13, q⟩ : Fd).vl, .int .i64 (⟨x0, x1, x2, x3, x4, x5, x6, x7, x8, x9, x10, x11, false, 0, 0, x12 * 256 + x13, q⟩ : Fd).pr, .int .i64 (⟨x0, x1, x2, x3, x4, x5, x6, x7, x8, x9, x10, x11, false, 0, 0, x12 * 256 + x13, q⟩ : Fd).ty, (.slice ao' n' c')]) ∧ Byt w' ao' n' c' q ∧ link ao ao' ∧ w.grownBy w' (some r) := by
  have hq : (x12 * 256 + x13 == 33024) = false := by simp [ht]
  clear ht
  have hpos : 0 < n := by have := h.byt.len; simp at this; omega
  have W0 : w.grownBy (w.alloc (.cells #[.int .u8 0, .int .u8 0, .int .u8 0, .int .u8 0, .int .u8 0, .int .u8 0, .int .u8 0, .int .u8 0, .int .u8 0, .int .u8 0, .int .u8 0, .int .u8 0, .bool false, .int .i64 0, .int .i64 0, .int .i64 0, .slice none 0 0] 26)) (some r) := World.grownBy_alloc w _ _
  have hrl : r < w.heap.size := h.lt
  have R0 := h.on (below_alloc w (.cells #[.int .u8 0, .int .u8 0, .int .u8 0, .int .u8 0, .int .u8 0, .int .u8 0, .int .u8 0, .int .u8 0, .int .u8 0, .int .u8 0, .int .u8 0, .int .u8 0, .bool false, .int .i64 0, .int .i64 0, .int .i64 0, .slice none 0 0] 26))
  have HLT : Hid (∀ b o, ao = some ⟨b, o, none⟩ → 0 < n → b < w.heap.size) := hide h.byt.lt
  have T0 : (w.alloc (.cells #[.int .u8 0, .int .u8 0, .int .u8 0, .int .u8 0, .int .u8 0, .int .u8 0, .int .u8 0, .int .u8 0, .int .u8 0, .int .u8 0, .int .u8 0, .int .u8 0, .bool false, .int .i64 0, .int .i64 0, .int .i64 0, .slice none 0 0] 26)).there w.heap.size 0 17 := there_new w #[.int .u8 0, .int .u8 0, .int .u8 0, .int .u8 0, .int .u8 0, .int .u8 0, .int .u8 0, .int .u8 0, .int .u8 0, .int .u8 0, .int .u8 0, .int .u8 0, .bool false, .int .i64 0, .int .i64 0, .int .i64 0, .slice none 0 0] 26
  have L0 : w.heap.size < (w.alloc (.cells #[.int .u8 0, .int .u8 0, .int .u8 0, .int .u8 0, .int .u8 0, .int .u8 0, .int .u8 0, .int .u8 0, .int .u8 0, .int .u8 0, .int .u8 0, .int .u8 0, .bool false, .int .i64 0, .int .i64 0, .int .i64 0, .slice none 0 0] 26)).heap.size := by simp
  have hne : w.heap.size ≠ r := by omega
  have K0 : link ao ao := fun b' o' e => ⟨o', e⟩
  clear h
  go_enter Tryd.func34, Tryd.ntmps34
  go_wp2_with fail
  refine (macX x0 x1 x2 x3 x4 x5 _ r ao n c _ R0).mono ?_
  rintro e w1 ⟨rfl, a1, R1, k1, G1⟩
  replace T0 := there_kept T0 L0 hne G1
  replace L0 : w.heap.size < w1.heap.size := Nat.lt_of_lt_of_le L0 G1.size
  replace W0 := grown_trans W0 G1
  replace K0 := K0.trans k1
  clear G1 k1 R0
  go_wp2_with fail
  refine (macX x6 x7 x8 x9 x10 x11 _ r a1 (n - 6) (c - 6) _ R1).mono ?_
  rintro e w2 ⟨rfl, a2, R2, k1, G2⟩
  replace T0 := there_kept T0 L0 hne G2
  replace L0 : w.heap.size < w2.heap.size := Nat.lt_of_lt_of_le L0 G2.size
  replace W0 := grown_trans W0 G2
  replace K0 := K0.trans k1
  clear G2 k1 R1
  go_wp2_with fail
  refine (pairX x12 x13 _ r a2 (n - 6 - 6) (c - 6 - 6) _ R2).mono ?_
  rintro e w3 ⟨rfl, a3, R3, k1, G3⟩
  replace T0 := there_kept T0 L0 hne G3
  replace L0 : w.heap.size < w3.heap.size := Nat.lt_of_lt_of_le L0 G3.size
  replace W0 := grown_trans W0 G3
  replace K0 := K0.trans k1
  clear G3 k1 R2
  have T1 : (w3.alloc (.cells #[.int .u8 0, .int .u8 0, .int .u8 0, .int .u8 0, .int .u8 0, .int .u8 0, .int .u8 0, .int .u8 0, .int .u8 0, .int .u8 0, .int .u8 0, .int .u8 0, .bool false, .int .i64 0, .int .i64 0, .int .i64 0, .slice none 0 0] 26)).there w3.heap.size 0 17 := there_new w3 #[.int .u8 0, .int .u8 0, .int .u8 0, .int .u8 0, .int .u8 0, .int .u8 0, .int .u8 0, .int .u8 0, .int .u8 0, .int .u8 0, .int .u8 0, .int .u8 0, .bool false, .int .i64 0, .int .i64 0, .int .i64 0, .slice none 0 0] 26
  have tk1 : True := trivial
  have hzz : w.heap.size < w3.heap.size := L0
  have tk2 : True := trivial
  have tk3 : True := trivial
  go_wp2_with (first | (have _t := tk1; refine wpl_put ⟨x0, x1, x2, x3, x4, x5, x6, x7, x8, x9, x10, x11, false, 0, 0, x12 * 256 + x13, []⟩ none 0 0 (.tmp 3) (.tmp 11) rfl T1 ?_ ?_ ?_ ?_; rfl; rfl; rfl; clear tk1; intro w4 A4 T4 G4; have hK : w3.heap.size ≠ r := (by omega); have hK' : r ≠ w3.heap.size := (by omega); have G34 : w3.grownBy w4 (some r) := put_grown G4; have B4 := put_below G4; have R4 := R3.on B4; replace T0 := there_on T0 L0 B4; replace L0 : w.heap.size < w4.heap.size := Nat.lt_of_lt_of_le L0 B4.size; replace W0 := grown_trans W0 G34; have L4 : w3.heap.size < w4.heap.size := A4.lt; have p15 := A4.c15; clear T1 G4 G34 B4 R3; have hl3 : ∀ b o, a3 = some ⟨b, o, none⟩ → b < w.heap.size := fun b o e => (by obtain ⟨o2, e2⟩ := K0 b o e; exact HLT.out b o2 e2 hpos); have HL3 := hide hl3; have p16 := A4.c16; have f16 : w4.frozen? ⟨w3.heap.size, 16, none⟩ = false := (T4 16 (by omega)).2; have pr := R4.at_; have A5 := A4.set16 (.slice a3 (n - 6 - 6 - 2) (c - 6 - 6 - 2)); have G5 := setCell_grown w4 w3.heap.size 16 (.slice a3 (n - 6 - 6 - 2) (c - 6 - 6 - 2)); have Y5 := R4.byt.kept (k := w3.heap.size) (fun b o e => by have := hl3 b o e; omega) G5; have T5 := there_kept T0 L0 (by omega) G5; have W5 := grown_new W0 G5 (by omega); clear A4 T4 R4 hl3 G5 T0 W0) | (have _t := tk2; refine wpl_frame (.tmp 3) rfl A5 ?_ ?_ ?_; rfl; rfl; clear tk2) | (have _t := tk3; refine wpl_put (⟨x0, x1, x2, x3, x4, x5, x6, x7, x8, x9, x10, x11, false, 0, 0, x12 * 256 + x13, q⟩ : Fd) a3 (n - 6 - 6 - 2) (c - 6 - 6 - 2) (.tmp 2) (.tmp 32) rfl T5 ?_ ?_ ?_ ?_; rfl; rfl; rfl; clear tk3; intro w6 A6 T6 G6))
  refine bodyPost_ret (res_frame rfl rfl A6) rfl ⟨a3, n - 6 - 6 - 2, c - 6 - 6 - 2, rfl, Y5.kept (fun b o e => by have := HL3.out b o e; omega) G6, K0, grown_new W5 G6 (Nat.le_refl _)⟩

end Go.Proofs.YtgpdjfaklcmoiaaDoor.Eth
/- Contract of readFrame: a frame with a tag. -/
namespace Go.Proofs.YtgpdjfaklcmoiaaDoor.Eth
open Go.RowKit

set_option maxRecDepth 100000 in
set_option maxHeartbeats 4000000 in
theorem rf_tag (x0 x1 x2 x3 x4 x5 x6 x7 x8 x9 x10 x11 x12 x13 x14 x15 x16 x17 : Int) (q : List Int) (r : Nat) (ao : Option Addr) (n c : Nat) (w : World) (h : Rd w r ao n c (x0 :: x1 :: x2 :: x3 :: x4 :: x5 :: x6 :: x7 :: x8 :: x9 :: x10 :: x11 :: x12 :: x13 :: x14 :: x15 :: x16 :: x17 :: q)) (ht : x12 * 256 + x13 = 33024) :
    Calls Tryd.prog 34 #[.pointer (some ⟨r, 0, none⟩)] w fun e w' => ∃ ao' n' c', e = .returned (.agg #[.int .u8 (⟨x0, x1, x2, x3, x4, x5, x6, x7, x8, x9, x10, x11, true, (x14 * 256 + x15) % 8192, (x14 * 256 + x15) / 8192, x16 * 256 + x17, q⟩ : Fd).d0, .int .u8 (⟨x0, x1, x2, x3, x4, x5, x6, x7, x8, x9, x10, x11, true, (x14 * 256 + x15) % 8192, (x14 * 256 + x15) / 8192, x16 * 256 + x17, q⟩ : Fd).d1, .int .u8 (⟨x0, x1, x2, x3, x4, x5, x6, x7, x8, x9, x10, x11, true, (x14 * 256 + x15) % 8192, (x14 * 256 + x15) / 8192, x16 * 256 + x17, q⟩ : Fd).d2, .int .u8 (⟨x0, x1, x2, x3, x4, x5, x6, x7, x8, x9, x10, x11, true, (x14 * 256 + x15) % 8192, (x14 * 256 + x15) / 8192, x16 * 256 + x17, q⟩ : Fd).d3, .int .u8 (⟨x0, x1, x2, x3, x4, x5, x6, x7, x8, x9, x10, x11, true, (x14 * 256 + x15) % 8192, (x14 * 256 + x15) / 8192, x16 * 256 + x17, q⟩ : Fd).d4, .int .u8 (⟨x0, x1, x2, x3, x4, x5, x6, x7, x8, x9, x10, x11, true, (x14 * 256 + x15) % 8192, (x14 * 256 + x15) / 8192, x16 * 256 + x17, q⟩ : Fd).d5, .int .u8 (⟨x0, x1, x2, x3, x4, x5, x6, x7, x8, x9, x10, x11, true, (x14 * 256 + x15) % 8192, (x14 * 256 + x15) / 8192, x16 * 256 + x17, q⟩ : Fd).s0, .int .u8 (⟨x0, x1, x2, x3, x4, x5, x6, x7, x8, x9, x10, x11, true, (x14 * 256 + x15) % 8192, (x14 * 256 + x15) / 8192, x16 * 256 + x17, q⟩ : Fd).s1, .int .u8 (⟨x0, x1, x2, x3, x4, x5, x6, x7, x8, x9, x10, x11, true, (x14 * 256 + x15) % 8192, (x14 * 256 + x15) / 8192, x16 * 256 + x17, q⟩ : Fd).s2, .int .u8 (⟨x0, x1, x2, x3, x4, x5, x6, x7, x8, x9, x10, x11, true, (x14 * 256 + x15) % 8192, (x14 * 256 + x15) / 8192, x16 * 256 + x17, q⟩ : Fd).s3, .int .u8 (⟨x0, x1, x2, x3, x4, x5, x6, x7, x8, x9, x10, x11, true, (x14 * 256 + x15) % 8192, (x14 * 256 + x15) / 8192, x16 * 256 + x17, q⟩ : Fd).s4, .int .u8 (⟨x0, x1, x2, x3, x4, x5, x6, x7, x8, x9, x10, x11, true, (x14 * 256 + x15) % 8192, (x14 * 256 + x15) / 8192, x16 * 256 + x17, q⟩ : Fd).s5, .bool (⟨x0, x1, x2, x3, x4, x5, x6, x7, x8, x9, x10, x11, true, (x14 * 256 + x15) % 8192, (x14 * 256 + x15) / 8192, x16 * 256 + x17, q⟩ : Fd).tg, .int .i64 (⟨x0, x1, x2, x3, x4, x5, x6, x7, x8, x9, x10, x11, true, (x14 * 256 + x15) % 8192, (x14 * 256 + x15) / 8192, x16 * 256 + x17, q⟩ : Fd).vl, .int .i64 (⟨x0, x1, x2, x3, x4, x5, x6, x7, x8, x9, x10, x11, true, (x14 * 256 + x15) % 8192, (x14 * 256 + x15) / 8192, x16 * 256 + x17, q⟩ : Fd).pr, .int .i64 (⟨x0, x1, x2, x3, x4, x5, x6, x7, x8, x9, x10, x11, true, (x14 * 256 + x15) % 8192, (x14 * 256 + x15) / 8192, x16 * 256 + x17, q⟩ : Fd).ty, (.slice ao' n' c')]) ∧ Byt w' ao' n' c' q ∧ link ao ao' ∧ w.grownBy w' (some r) := by
  have hq : (x12 * 256 + x13 == 33024) = true := by simp [ht]
  clear ht
  have hpos : 0 < n := by have := h.byt.len; simp at this; omega
  obtain ⟨g0, g1⟩ := h.byt.rng x14 (by simp)
  obtain ⟨g2, g3⟩ := h.byt.rng x15 (by simp)
  have W0 : w.grownBy (w.alloc (.cells #[.int .u8 0, .int .u8 0, .int .u8 0, .int .u8 0, .int .u8 0, .int .u8 0, .int .u8 0, .int .u8 0, .int .u8 0, .int .u8 0, .int .u8 0, .int .u8 0, .bool false, .int .i64 0, .int .i64 0, .int .i64 0, .slice none 0 0] 26)) (some r) := World.grownBy_alloc w _ _
  have hrl : r < w.heap.size := h.lt
  have R0 := h.on (below_alloc w (.cells #[.int .u8 0, .int .u8 0, .int .u8 0, .int .u8 0, .int .u8 0, .int .u8 0, .int .u8 0, .int .u8 0, .int .u8 0, .int .u8 0, .int .u8 0, .int .u8 0, .bool false, .int .i64 0, .int .i64 0, .int .i64 0, .slice none 0 0] 26))
  have HLT : Hid (∀ b o, ao = some ⟨b, o, none⟩ → 0 < n → b < w.heap.size) := hide h.byt.lt
  have T0 : (w.alloc (.cells #[.int .u8 0, .int .u8 0, .int .u8 0, .int .u8 0, .int .u8 0, .int .u8 0, .int .u8 0, .int .u8 0, .int .u8 0, .int .u8 0, .int .u8 0, .int .u8 0, .bool false, .int .i64 0, .int .i64 0, .int .i64 0, .slice none 0 0] 26)).there w.heap.size 0 17 := there_new w #[.int .u8 0, .int .u8 0, .int .u8 0, .int .u8 0, .int .u8 0, .int .u8 0, .int .u8 0, .int .u8 0, .int .u8 0, .int .u8 0, .int .u8 0, .int .u8 0, .bool false, .int .i64 0, .int .i64 0, .int .i64 0, .slice none 0 0] 26
  have L0 : w.heap.size < (w.alloc (.cells #[.int .u8 0, .int .u8 0, .int .u8 0, .int .u8 0, .int .u8 0, .int .u8 0, .int .u8 0, .int .u8 0, .int .u8 0, .int .u8 0, .int .u8 0, .int .u8 0, .bool false, .int .i64 0, .int .i64 0, .int .i64 0, .slice none 0 0] 26)).heap.size := by simp
  have hne : w.heap.size ≠ r := by omega
  have K0 : link ao ao := fun b' o' e => ⟨o', e⟩
  clear h
  go_enter Tryd.func34, Tryd.ntmps34
  go_wp2_with fail
  refine (macX x0 x1 x2 x3 x4 x5 _ r ao n c _ R0).mono ?_
  rintro e w1 ⟨rfl, a1, R1, k1, G1⟩
  replace T0 := there_kept T0 L0 hne G1
  replace L0 : w.heap.size < w1.heap.size := Nat.lt_of_lt_of_le L0 G1.size
  replace W0 := grown_trans W0 G1
  replace K0 := K0.trans k1
  clear G1 k1 R0
  go_wp2_with fail
  refine (macX x6 x7 x8 x9 x10 x11 _ r a1 (n - 6) (c - 6) _ R1).mono ?_
  rintro e w2 ⟨rfl, a2, R2, k1, G2⟩
  replace T0 := there_kept T0 L0 hne G2
  replace L0 : w.heap.size < w2.heap.size := Nat.lt_of_lt_of_le L0 G2.size
  replace W0 := grown_trans W0 G2
  replace K0 := K0.trans k1
  clear G2 k1 R1
  go_wp2_with fail
  refine (pairX x12 x13 _ r a2 (n - 6 - 6) (c - 6 - 6) _ R2).mono ?_
  rintro e w3 ⟨rfl, a3, R3, k1, G3⟩
  replace T0 := there_kept T0 L0 hne G3
  replace L0 : w.heap.size < w3.heap.size := Nat.lt_of_lt_of_le L0 G3.size
  replace W0 := grown_trans W0 G3
  replace K0 := K0.trans k1
  clear G3 k1 R2
  have T1 : (w3.alloc (.cells #[.int .u8 0, .int .u8 0, .int .u8 0, .int .u8 0, .int .u8 0, .int .u8 0, .int .u8 0, .int .u8 0, .int .u8 0, .int .u8 0, .int .u8 0, .int .u8 0, .bool false, .int .i64 0, .int .i64 0, .int .i64 0, .slice none 0 0] 26)).there w3.heap.size 0 17 := there_new w3 #[.int .u8 0, .int .u8 0, .int .u8 0, .int .u8 0, .int .u8 0, .int .u8 0, .int .u8 0, .int .u8 0, .int .u8 0, .int .u8 0, .int .u8 0, .int .u8 0, .bool false, .int .i64 0, .int .i64 0, .int .i64 0, .slice none 0 0] 26
  have tk1 : True := trivial
  have hzz : w.heap.size < w3.heap.size := L0
  go_wp2_with (first | (have _t := tk1; refine wpl_put ⟨x0, x1, x2, x3, x4, x5, x6, x7, x8, x9, x10, x11, false, 0, 0, x12 * 256 + x13, []⟩ none 0 0 (.tmp 3) (.tmp 11) rfl T1 ?_ ?_ ?_ ?_; rfl; rfl; rfl; clear tk1; intro w4 A4 T4 G4; have hK : w3.heap.size ≠ r := (by omega); have hK' : r ≠ w3.heap.size := (by omega); have G34 : w3.grownBy w4 (some r) := put_grown G4; have B4 := put_below G4; have R4 := R3.on B4; replace T0 := there_on T0 L0 B4; replace L0 : w.heap.size < w4.heap.size := Nat.lt_of_lt_of_le L0 B4.size; replace W0 := grown_trans W0 G34; have L4 : w3.heap.size < w4.heap.size := A4.lt; have p15 := A4.c15; clear T1 G4 G34 B4 R3))
  refine (pairX x14 x15 _ r a3 (n - 6 - 6 - 2) (c - 6 - 6 - 2) _ R4).mono ?_
  rintro e w5 ⟨rfl, a5, R5, k1, G5⟩
  have A5 := A4.kept hK G5
  have T5 := there_kept T4 L4 hK G5
  replace T0 := there_kept T0 L0 hne G5
  replace W0 := grown_trans W0 G5
  replace K0 := K0.trans k1
  have hl5 : ∀ b o, a5 = some ⟨b, o, none⟩ → b < w.heap.size := fun b o e => by
    obtain ⟨o2, e2⟩ := K0 b o e
    exact HLT.out b o2 e2 hpos
  have HL5 := hide hl5
  have q12 := A5.c12
  have q13 := A5.c13
  have q14 := A5.c14
  have f12 : w5.frozen? ⟨w3.heap.size, 12, none⟩ = false := (T5 12 (by omega)).2
  have f13 : w5.frozen? ⟨w3.heap.size, 13, none⟩ = false := (T5 13 (by omega)).2
  have f14 : w5.frozen? ⟨w3.heap.size, 14, none⟩ = false := (T5 14 (by omega)).2
  have G6 : w5.grownBy (((w5.setCell ⟨w3.heap.size, 12, none⟩ (.bool true)).setCell ⟨w3.heap.size, 14, none⟩ (.int .i64 ((x14 * 256 + x15) / 8192))).setCell ⟨w3.heap.size, 13, none⟩ (.int .i64 ((x14 * 256 + x15) % 8192))) (some w3.heap.size) := grown_trans (grown_trans (setCell_grown _ _ _ _) (setCell_grown _ _ _ _)) (setCell_grown _ _ _ _)
  have R6 := R5.kept hK' (fun b o e => by have := hl5 b o e; omega) G6
  have L5 : w.heap.size < w5.heap.size := Nat.lt_of_lt_of_le L0 G5.size
  have L5' : w3.heap.size < w5.heap.size := Nat.lt_of_lt_of_le L4 G5.size
  have HG := hide G6
  clear A4 T4 R4 R5 G5 k1 L0 L4 p15 G6 hl5
  go_wp2_with fail
  refine (pairX x16 x17 _ r a5 (n - 6 - 6 - 2 - 2) (c - 6 - 6 - 2 - 2) _ R6).mono ?_
  rintro e w7 ⟨rfl, a7, R7, k1, G7⟩
  have A7 := (((A5.set12 true).set14 ((x14 * 256 + x15) / 8192)).set13 ((x14 * 256 + x15) % 8192)).kept hK G7
  have T6 : World.there (((w5.setCell ⟨w3.heap.size, 12, none⟩ (.bool true)).setCell ⟨w3.heap.size, 14, none⟩ (.int .i64 ((x14 * 256 + x15) / 8192))).setCell ⟨w3.heap.size, 13, none⟩ (.int .i64 ((x14 * 256 + x15) % 8192))) w3.heap.size 0 17 := World.there_setCells (World.there_setCells (World.there_setCells T5 w3.heap.size 12 [.bool true]) w3.heap.size 14 [.int .i64 ((x14 * 256 + x15) / 8192)]) w3.heap.size 13 [.int .i64 ((x14 * 256 + x15) % 8192)]
  have T7 := there_kept T6 (Nat.lt_of_lt_of_le L5' HG.out.size) hK G7
  have U6 := there_kept T0 L5 (by omega) HG.out
  have U7 := there_kept U6 (Nat.lt_of_lt_of_le L5 HG.out.size) hne G7
  have V7 := grown_trans (grown_new W0 HG.out (by omega)) G7
  have L7 : w.heap.size < w7.heap.size := Nat.lt_of_lt_of_le (Nat.lt_of_lt_of_le L5 HG.out.size) G7.size
  replace K0 := K0.trans k1
  have hl7 : ∀ b o, a7 = some ⟨b, o, none⟩ → b < w.heap.size := fun b o e => by
    obtain ⟨o2, e2⟩ := K0 b o e
    exact HLT.out b o2 e2 hpos
  have q15 := A7.c15
  have q16 := A7.c16
  have f15 : w7.frozen? ⟨w3.heap.size, 15, none⟩ = false := (T7 15 (by omega)).2
  have f16 : w7.frozen? ⟨w3.heap.size, 16, none⟩ = false := (T7 16 (by omega)).2
  have pr := R7.at_
  have A8 := (A7.set15 (x16 * 256 + x17)).set16 (.slice a7 (n - 6 - 6 - 2 - 2 - 2) (c - 6 - 6 - 2 - 2 - 2))
  have G8 : w7.grownBy ((w7.setCell ⟨w3.heap.size, 15, none⟩ (.int .i64 (x16 * 256 + x17))).setCell ⟨w3.heap.size, 16, none⟩ (.slice a7 (n - 6 - 6 - 2 - 2 - 2) (c - 6 - 6 - 2 - 2 - 2))) (some w3.heap.size) := grown_trans (setCell_grown _ _ _ _) (setCell_grown _ _ _ _)
  have Y8 := R7.byt.kept (k := w3.heap.size) (fun b o e => by have := hl7 b o e; omega) G8
  have T8 := there_kept U7 L7 (by omega) G8
  have V8 := grown_new V7 G8 (by omega)
  have HL7 := hide hl7
  have tk2 : True := trivial
  have tk3 : True := trivial
  clear A5 A7 T5 T6 T7 U6 U7 V7 T0 W0 R6 R7 k1 G7 G8 hl7 q12 q13 q14 f12 f13 f14 HG
  go_wp2_with (first | (have _t := tk2; refine wpl_frame (.tmp 3) rfl A8 ?_ ?_ ?_; rfl; rfl; clear tk2) | (have _t := tk3; refine wpl_put (⟨x0, x1, x2, x3, x4, x5, x6, x7, x8, x9, x10, x11, true, (x14 * 256 + x15) % 8192, (x14 * 256 + x15) / 8192, x16 * 256 + x17, q⟩ : Fd) a7 (n - 6 - 6 - 2 - 2 - 2) (c - 6 - 6 - 2 - 2 - 2) (.tmp 2) (.tmp 32) rfl T8 ?_ ?_ ?_ ?_; rfl; rfl; rfl; clear tk3; intro w9 A9 T9 G9))
  refine bodyPost_ret (res_frame rfl rfl A9) rfl ⟨a7, n - 6 - 6 - 2 - 2 - 2, c - 6 - 6 - 2 - 2 - 2, rfl, Y8.kept (fun b o e => by have := HL7.out b o e; omega) G9, K0, grown_new V8 G9 (Nat.le_refl _)⟩

end Go.Proofs.YtgpdjfaklcmoiaaDoor.Eth
/- Contract of readFrame, whichever bytes there are; of the deferred function. -/
namespace Go.Proofs.YtgpdjfaklcmoiaaDoor.Eth
open Go.RowKit

theorem listC6 {α : Type} (l : List α) (h : 6 ≤ l.length) : ∃ y0 y1 y2 y3 y4 y5 r, l = y0 :: y1 :: y2 :: y3 :: y4 :: y5 :: r := by
  match l, h with
  | y0 :: y1 :: y2 :: y3 :: y4 :: y5 :: r, _ => exact ⟨y0, y1, y2, y3, y4, y5, r, rfl⟩
theorem listC2 {α : Type} (l : List α) (h : 2 ≤ l.length) : ∃ y0 y1 r, l = y0 :: y1 :: r := by
  match l, h with
  | y0 :: y1 :: r, _ => exact ⟨y0, y1, r, rfl⟩
theorem rf_none (r : Nat) (ao : Option Addr) (n c : Nat) (ns : List Int) (w : World) (h : Rd w r ao n c ns) (hr : raw ns = none) :
    Calls Tryd.prog 34 #[.pointer (some ⟨r, 0, none⟩)] w fun e w' => e = .panicked pan ∧ w.grownBy w' (some r) := by
  have hl := h.byt.len
  by_cases h6 : n < 6
  · exact rf_no6 ns r ao n c w h h6
  obtain ⟨x0, x1, x2, x3, x4, x5, q, rfl⟩ := listC6 ns (by omega)
  by_cases h12 : n - 6 < 6
  · exact rf_no12 x0 x1 x2 x3 x4 x5 q r ao n c w h h12
  simp only [List.length_cons] at hl
  obtain ⟨x6, x7, x8, x9, x10, x11, q, rfl⟩ := listC6 q (by omega)
  by_cases h14 : n - 6 - 6 < 2
  · exact rf_no14 x0 x1 x2 x3 x4 x5 x6 x7 x8 x9 x10 x11 q r ao n c w h h14
  simp only [List.length_cons] at hl
  obtain ⟨x12, x13, q, rfl⟩ := listC2 q (by omega)
  by_cases ht : x12 * 256 + x13 = 33024
  · simp only [List.length_cons] at hl
    by_cases h16 : n - 6 - 6 - 2 < 2
    · exact rf_no16 x0 x1 x2 x3 x4 x5 x6 x7 x8 x9 x10 x11 x12 x13 q r ao n c w h ht h16
    obtain ⟨x14, x15, q, rfl⟩ := listC2 q (by omega)
    simp only [List.length_cons] at hl
    by_cases h18 : n - 6 - 6 - 2 - 2 < 2
    · exact rf_no18 x0 x1 x2 x3 x4 x5 x6 x7 x8 x9 x10 x11 x12 x13 x14 x15 q r ao n c w h ht h18
    obtain ⟨x16, x17, q, rfl⟩ := listC2 q (by omega)
    rw [raw_tagged _ _ _ _ _ _ _ _ _ _ _ _ _ _ _ _ _ _ _ ht] at hr
    cases hr
  · rw [raw_plain _ _ _ _ _ _ _ _ _ _ _ _ _ _ _ ht] at hr
    cases hr
theorem rf_some (r : Nat) (ao : Option Addr) (n c : Nat) (ns : List Int) (f : Fd) (w : World) (h : Rd w r ao n c ns) (hr : raw ns = some f) :
    Calls Tryd.prog 34 #[.pointer (some ⟨r, 0, none⟩)] w fun e w' => ∃ ao' n' c', e = .returned (.agg #[.int .u8 f.d0, .int .u8 f.d1, .int .u8 f.d2, .int .u8 f.d3, .int .u8 f.d4, .int .u8 f.d5, .int .u8 f.s0, .int .u8 f.s1, .int .u8 f.s2, .int .u8 f.s3, .int .u8 f.s4, .int .u8 f.s5, .bool f.tg, .int .i64 f.vl, .int .i64 f.pr, .int .i64 f.ty, (.slice ao' n' c')]) ∧ Byt w' ao' n' c' f.bs ∧ link ao ao' ∧ w.grownBy w' (some r) := by
  by_cases hl : ns.length < 14
  · rw [raw_short hl] at hr; cases hr
  obtain ⟨x0, x1, x2, x3, x4, x5, x6, x7, x8, x9, x10, x11, x12, x13, q, rfl⟩ := list14 ns (by omega)
  by_cases ht : x12 * 256 + x13 = 33024
  · by_cases hq : q.length < 4
    · rw [raw_cut _ _ _ _ _ _ _ _ _ _ _ _ _ _ _ ht hq] at hr; cases hr
    obtain ⟨x14, x15, x16, x17, q, rfl⟩ := list4 q (by omega)
    rw [raw_tagged _ _ _ _ _ _ _ _ _ _ _ _ _ _ _ _ _ _ _ ht] at hr
    obtain rfl := Option.some.inj hr
    exact rf_tag x0 x1 x2 x3 x4 x5 x6 x7 x8 x9 x10 x11 x12 x13 x14 x15 x16 x17 q r ao n c w h ht
  · rw [raw_plain _ _ _ _ _ _ _ _ _ _ _ _ _ _ _ ht] at hr
    obtain rfl := Option.some.inj hr
    exact rf_plain x0 x1 x2 x3 x4 x5 x6 x7 x8 x9 x10 x11 x12 x13 q r ao n c w h ht
theorem res_frame_cell {fn : Func} {p u : Tmp} (h : fn.results = #[.cell p 26, .cell u 29]) {tmps : Array Value} {w : World} {k j : Nat} {f : Fd} {b : Value} {x : Int} (hp : tmps.getD p undef = .pointer (some ⟨k, 0, none⟩)) (hu : tmps.getD u undef = .pointer (some ⟨j, 0, none⟩)) (hA : AtF w k f b) (he : w.cell? ⟨j, 0, none⟩ = some (.int .i64 x)) :
    (results fn tmps).run Tryd.prog w = .ok (.tuple #[.agg #[.int .u8 f.d0, .int .u8 f.d1, .int .u8 f.d2, .int .u8 f.d3, .int .u8 f.d4, .int .u8 f.d5, .int .u8 f.s0, .int .u8 f.s1, .int .u8 f.s2, .int .u8 f.s3, .int .u8 f.s4, .int .u8 f.s5, .bool f.tg, .int .i64 f.vl, .int .i64 f.pr, .int .i64 f.ty, b], .int .i64 x]) w := by
  have hl := run_loadVar_mid (P := Tryd.prog) w k 0 26 _ _ hA.all Tryd.underlying26 rfl Tryd.size26
  have hp' : tmps[p]?.getD undef = .pointer (some ⟨k, 0, none⟩) := by simpa using hp
  have hu' : tmps[u]?.getD undef = .pointer (some ⟨j, 0, none⟩) := by simpa using hu
  have h2 : (loadVar 29 ⟨j, 0, none⟩).run Tryd.prog w = .ok (.int .i64 x) w := by simp [go_sem, he]
  simp only [results, h]
  simp [hp', hu', asAddr, hl, h2]
set_option maxRecDepth 100000 in
set_option maxHeartbeats 1000000 in
theorem catch_panicking (B : Nat) (e0 : Int) (w : World) (T : w.there B 0 17) (ce : w.cell? ⟨B + 1, 0, none⟩ = some (.int .i64 e0)) (fe : w.frozen? ⟨B + 1, 0, none⟩ = false) :
    CallsD Tryd.prog 33 #[.pointer (some ⟨B, 0, none⟩), .pointer (some ⟨B + 1, 0, none⟩)] (.panicking pan) w fun e u' w' =>
      e = .returned (.tuple #[]) ∧ u' = .panicking [{ v := .iface 29 (.int .i64 2), recovered := true }] ∧ AtF w' B zero (.slice none 0 0) ∧ w'.cell? ⟨B + 1, 0, none⟩ = some (.int .i64 2) ∧ Below B w w' := by
  refine callsD_of_wpS Tryd.func33 rfl fun c₀ cs hu => ?_
  unfold pan at hu
  apply wpS_seq
  apply wpS_region
  simp [wpOpsS, go_sem, recoverD, hu, Tryd.ntmps33, Exit.thenS]
  refine wpS_cond (t := true) (by simp [Act.eval, Array.replicate]) ?_
  simp only [if_true]
  refine wpS_of_wp ?_
  have tk1 : True := trivial
  show Code.wp Tryd.prog _ _ { tmps := #[.pointer (some ⟨B, 0, none⟩), .pointer (some ⟨B + 1, 0, none⟩), .iface 29 (.int .i64 2), .bool true, undef], defers := [] } w
  go_wp2_with (have _t := tk1; refine wpl_put zero none 0 0 (.tmp 0) (.tmp 4) rfl T ?_ ?_ ?_ ?_; rfl; rfl; rfl; clear tk1; intro w2 A2 T2 G2; have ce2 := G2.cell ce (by simp); have fe2 : w2.frozen? ⟨B + 1, 0, none⟩ = false := (World.frozen?_of_block (a := ⟨B + 1, 0, none⟩) (G2.block (B + 1) (World.block_lt_of_cell? w _ ce) (by simp))).trans fe)
  have hBl : B < w.heap.size := by
    obtain ⟨u, hu2⟩ := Option.isSome_iff_exists.1 (T 0 (by omega)).1
    exact World.block_lt_of_cell? w _ hu2
  have G3 := setCell_grown w2 (B + 1) 0 (.int .i64 2)
  have A3 := A2.kept (by omega) G3
  have c3 := World.cell?_setCell_same w2 ⟨B + 1, 0, none⟩ (.int .i64 2) ce2
  have B2 : Below B w w2 := below_grown (Below.refl _ _) G2 (Nat.le_refl _) (by omega)
  have B3 : Below B w _ := below_grown B2 G3 (by omega) (Nat.le_trans (Nat.le_of_lt hBl) G2.size)
  simp [bodyPostS, results, Tryd.results33]
  exact ⟨A3, c3, B3⟩

set_option maxRecDepth 100000 in
set_option maxHeartbeats 1000000 in
theorem catch_idle (B : Nat) (w : World) :
    CallsD Tryd.prog 33 #[.pointer (some ⟨B, 0, none⟩), .pointer (some ⟨B + 1, 0, none⟩)] .returning w fun e u' w' => e = .returned (.tuple #[]) ∧ u' = .returning ∧ w' = w := by
  refine callsD_of_wpS Tryd.func33 rfl fun c₀ cs hu => ?_
  apply wpS_seq
  apply wpS_region
  simp [wpOpsS, go_sem, recoverD, hu, Tryd.ntmps33, Exit.thenS]
  refine wpS_cond (t := false) (by simp [Act.eval, Array.replicate]) ?_
  simp only [Bool.false_eq_true, if_false]
  refine wpS_of_wp (wp_skip ?_)
  cases c₀
  simp_all [bodyPostS, results, Tryd.results33]
end Go.Proofs.YtgpdjfaklcmoiaaDoor.Eth
/- Contract of Decode, as the program has it. -/
namespace Go.Proofs.YtgpdjfaklcmoiaaDoor.Eth
open Go.RowKit

theorem new_cell (w : World) (v : Value) (e : TypeId) : (w.alloc (.cells #[v] e)).cell? ⟨w.heap.size, 0, none⟩ = some v := by simp
theorem new_free (w : World) (cs : Array Value) (e : TypeId) (h : 0 < cs.size) : (w.alloc (.cells cs e)).frozen? ⟨w.heap.size, 0, none⟩ = false := (there_new w cs e 0 h).2
theorem W3_rd (ao : Option Addr) (n c : Nat) (ns : List Int) (w : World) (h : Byt w ao n c ns) : Rd (((w.alloc (.cells #[.int .u8 0, .int .u8 0, .int .u8 0, .int .u8 0, .int .u8 0, .int .u8 0, .int .u8 0, .int .u8 0, .int .u8 0, .int .u8 0, .int .u8 0, .int .u8 0, .bool false, .int .i64 0, .int .i64 0, .int .i64 0, .slice none 0 0] 26)).alloc (.cells #[.int .i64 0] 29)).alloc (.cells #[.slice ao n c] 91)) (w.heap.size + 2) ao n c ns := by
  have e1 := new_cell ((w.alloc (.cells #[.int .u8 0, .int .u8 0, .int .u8 0, .int .u8 0, .int .u8 0, .int .u8 0, .int .u8 0, .int .u8 0, .int .u8 0, .int .u8 0, .int .u8 0, .int .u8 0, .bool false, .int .i64 0, .int .i64 0, .int .i64 0, .slice none 0 0] 26)).alloc (.cells #[.int .i64 0] 29)) (.slice ao n c) 91
  have e2 := new_free ((w.alloc (.cells #[.int .u8 0, .int .u8 0, .int .u8 0, .int .u8 0, .int .u8 0, .int .u8 0, .int .u8 0, .int .u8 0, .int .u8 0, .int .u8 0, .int .u8 0, .int .u8 0, .bool false, .int .i64 0, .int .i64 0, .int .i64 0, .slice none 0 0] 26)).alloc (.cells #[.int .i64 0] 29)) #[.slice ao n c] 91 (by simp)
  rw [World.size_alloc, World.size_alloc] at e1 e2
  exact ⟨e1, e2, ((h.alloc _).alloc _).alloc _, fun b o e hp => by have := h.lt b o e hp; omega⟩
theorem W3_there (ao : Option Addr) (n c : Nat) (w : World) : World.there (((w.alloc (.cells #[.int .u8 0, .int .u8 0, .int .u8 0, .int .u8 0, .int .u8 0, .int .u8 0, .int .u8 0, .int .u8 0, .int .u8 0, .int .u8 0, .int .u8 0, .int .u8 0, .bool false, .int .i64 0, .int .i64 0, .int .i64 0, .slice none 0 0] 26)).alloc (.cells #[.int .i64 0] 29)).alloc (.cells #[.slice ao n c] 91)) w.heap.size 0 17 :=
  World.there_alloc (World.there_alloc (there_new w #[.int .u8 0, .int .u8 0, .int .u8 0, .int .u8 0, .int .u8 0, .int .u8 0, .int .u8 0, .int .u8 0, .int .u8 0, .int .u8 0, .int .u8 0, .int .u8 0, .bool false, .int .i64 0, .int .i64 0, .int .i64 0, .slice none 0 0] 26) _) _
theorem W3_cell (ao : Option Addr) (n c : Nat) (w : World) : World.cell? (((w.alloc (.cells #[.int .u8 0, .int .u8 0, .int .u8 0, .int .u8 0, .int .u8 0, .int .u8 0, .int .u8 0, .int .u8 0, .int .u8 0, .int .u8 0, .int .u8 0, .int .u8 0, .bool false, .int .i64 0, .int .i64 0, .int .i64 0, .slice none 0 0] 26)).alloc (.cells #[.int .i64 0] 29)).alloc (.cells #[.slice ao n c] 91)) ⟨w.heap.size + 1, 0, none⟩ = some (.int .i64 0) := by
  have h := new_cell (w.alloc (.cells #[.int .u8 0, .int .u8 0, .int .u8 0, .int .u8 0, .int .u8 0, .int .u8 0, .int .u8 0, .int .u8 0, .int .u8 0, .int .u8 0, .int .u8 0, .int .u8 0, .bool false, .int .i64 0, .int .i64 0, .int .i64 0, .slice none 0 0] 26)) (.int .i64 0) 29
  rw [World.size_alloc] at h
  rw [World.cell?_alloc_past _ _ _ (by simp)]
  exact h
theorem W3_free (ao : Option Addr) (n c : Nat) (w : World) : World.frozen? (((w.alloc (.cells #[.int .u8 0, .int .u8 0, .int .u8 0, .int .u8 0, .int .u8 0, .int .u8 0, .int .u8 0, .int .u8 0, .int .u8 0, .int .u8 0, .int .u8 0, .int .u8 0, .bool false, .int .i64 0, .int .i64 0, .int .i64 0, .slice none 0 0] 26)).alloc (.cells #[.int .i64 0] 29)).alloc (.cells #[.slice ao n c] 91)) ⟨w.heap.size + 1, 0, none⟩ = false := by
  have h := new_free (w.alloc (.cells #[.int .u8 0, .int .u8 0, .int .u8 0, .int .u8 0, .int .u8 0, .int .u8 0, .int .u8 0, .int .u8 0, .int .u8 0, .int .u8 0, .int .u8 0, .int .u8 0, .bool false, .int .i64 0, .int .i64 0, .int .i64 0, .slice none 0 0] 26)) #[.int .i64 0] 29 (by simp)
  rw [World.size_alloc] at h
  rw [World.frozen?_alloc_past _ _ _ (by simp)]
  exact h
set_option maxRecDepth 100000 in
set_option maxHeartbeats 2000000 in
theorem dec14_none (ao : Option Addr) (n c : Nat) (ns : List Int) (w : World) (hb : Byt w ao n c ns) (hr : raw ns = none) :
    Calls Tryd.prog 13 #[.slice ao n c] w fun e w' => e = .returned (.tuple #[.agg #[.int .u8 zero.d0, .int .u8 zero.d1, .int .u8 zero.d2, .int .u8 zero.d3, .int .u8 zero.d4, .int .u8 zero.d5, .int .u8 zero.s0, .int .u8 zero.s1, .int .u8 zero.s2, .int .u8 zero.s3, .int .u8 zero.s4, .int .u8 zero.s5, .bool zero.tg, .int .i64 zero.vl, .int .i64 zero.pr, .int .i64 zero.ty, (.slice none 0 0)], .int .i64 2]) ∧ Below w.heap.size w w' := by
  have R0 := W3_rd ao n c ns w hb
  have T0 := W3_there ao n c w
  have c0 := W3_cell ao n c w
  have e0 := W3_free ao n c w
  have L0 : w.heap.size + 2 < ((((w.alloc (.cells #[.int .u8 0, .int .u8 0, .int .u8 0, .int .u8 0, .int .u8 0, .int .u8 0, .int .u8 0, .int .u8 0, .int .u8 0, .int .u8 0, .int .u8 0, .int .u8 0, .bool false, .int .i64 0, .int .i64 0, .int .i64 0, .slice none 0 0] 26)).alloc (.cells #[.int .i64 0] 29)).alloc (.cells #[.slice ao n c] 91))).heap.size := by simp
  have W0 : Below w.heap.size w (((w.alloc (.cells #[.int .u8 0, .int .u8 0, .int .u8 0, .int .u8 0, .int .u8 0, .int .u8 0, .int .u8 0, .int .u8 0, .int .u8 0, .int .u8 0, .int .u8 0, .int .u8 0, .bool false, .int .i64 0, .int .i64 0, .int .i64 0, .slice none 0 0] 26)).alloc (.cells #[.int .i64 0] 29)).alloc (.cells #[.slice ao n c] 91)) := by go_grown
  have HLT := hide hb.lt
  have HC := hide c0
  have HE := hide e0
  clear hb c0 e0
  have hmf : ∀ (fn : Fn) (first cap : Array Value) (w : World), (Instr.makeFunc fn first cap).run Tryd.prog w = .ok (.func fn first cap) w := fun _ _ _ _ => rfl
  go_enter_defers Tryd.func13, Tryd.ntmps13
  go_wp2_with fail
  refine (rf_none (w.heap.size + 2) ao n c ns _ R0 hr).mono ?_
  rintro e w1 ⟨rfl, G1⟩
  have T1 := there_kept T0 (by omega) (by omega) G1
  have c1 := G1.cell HC.out (by simp)
  have e1 : w1.frozen? ⟨w.heap.size + 1, 0, none⟩ = false := (World.frozen?_of_block (a := ⟨w.heap.size + 1, 0, none⟩) (G1.block (w.heap.size + 1) (by omega) (by simp))).trans HE.out
  have W1 := below_grown W0 G1 (by omega) (by omega)
  have L1 : w.heap.size ≤ w1.heap.size := by have := G1.size; omega
  clear R0 T0 W0 G1 HC HE L0
  go_wp2
  refine leaves_cons (f := 33) (args := #[.pointer (some ⟨w.heap.size, 0, none⟩), .pointer (some ⟨w.heap.size + 1, 0, none⟩)]) (by simp) (by simp [go_sem]) ?_
  refine (catch_panicking w.heap.size 0 _ T1 c1 e1).mono ?_
  rintro e u' w2 ⟨rfl, rfl, A2, c2, B2⟩
  exact ⟨_, res_frame_cell rfl rfl rfl A2 c2, rfl, W1.trans B2⟩

set_option maxRecDepth 100000 in
set_option maxHeartbeats 2000000 in
theorem dec14_bad (ao : Option Addr) (n c : Nat) (ns : List Int) (f : Fd) (w : World) (hb : Byt w ao n c ns) (hr : raw ns = some f) (hk : rt f = false) :
    Calls Tryd.prog 13 #[.slice ao n c] w fun e w' => e = .returned (.tuple #[.agg #[.int .u8 zero.d0, .int .u8 zero.d1, .int .u8 zero.d2, .int .u8 zero.d3, .int .u8 zero.d4, .int .u8 zero.d5, .int .u8 zero.s0, .int .u8 zero.s1, .int .u8 zero.s2, .int .u8 zero.s3, .int .u8 zero.s4, .int .u8 zero.s5, .bool zero.tg, .int .i64 zero.vl, .int .i64 zero.pr, .int .i64 zero.ty, (.slice none 0 0)], .int .i64 2]) ∧ Below w.heap.size w w' := by
  have hpos : 0 < n := by
    have h1 := hb.len
    rcases Nat.eq_zero_or_pos n with h0 | h0
    · have : ns = [] := List.eq_nil_of_length_eq_zero (by omega)
      rw [this] at hr; cases hr
    · exact h0
  have R0 := W3_rd ao n c ns w hb
  have T0 := W3_there ao n c w
  have c0 := W3_cell ao n c w
  have e0 := W3_free ao n c w
  have L0 : w.heap.size + 2 < ((((w.alloc (.cells #[.int .u8 0, .int .u8 0, .int .u8 0, .int .u8 0, .int .u8 0, .int .u8 0, .int .u8 0, .int .u8 0, .int .u8 0, .int .u8 0, .int .u8 0, .int .u8 0, .bool false, .int .i64 0, .int .i64 0, .int .i64 0, .slice none 0 0] 26)).alloc (.cells #[.int .i64 0] 29)).alloc (.cells #[.slice ao n c] 91))).heap.size := by simp
  have W0 : Below w.heap.size w (((w.alloc (.cells #[.int .u8 0, .int .u8 0, .int .u8 0, .int .u8 0, .int .u8 0, .int .u8 0, .int .u8 0, .int .u8 0, .int .u8 0, .int .u8 0, .int .u8 0, .int .u8 0, .bool false, .int .i64 0, .int .i64 0, .int .i64 0, .slice none 0 0] 26)).alloc (.cells #[.int .i64 0] 29)).alloc (.cells #[.slice ao n c] 91)) := by go_grown
  have HLT := hide hb.lt
  have HC := hide c0
  have HE := hide e0
  clear hb c0 e0
  have hmf : ∀ (fn : Fn) (first cap : Array Value) (w : World), (Instr.makeFunc fn first cap).run Tryd.prog w = .ok (.func fn first cap) w := fun _ _ _ _ => rfl
  go_enter_defers Tryd.func13, Tryd.ntmps13
  go_wp2_with fail
  refine (rf_some (w.heap.size + 2) ao n c ns f _ R0 hr).mono ?_
  rintro e w1 ⟨a1, n1, c1, rfl, Y1, k1, G1⟩
  have T1 := there_kept T0 (by omega) (by omega) G1
  have e1 := G1.cell HC.out (by simp)
  have f1 : w1.frozen? ⟨w.heap.size + 1, 0, none⟩ = false := (World.frozen?_of_block (a := ⟨w.heap.size + 1, 0, none⟩) (G1.block (w.heap.size + 1) (by omega) (by simp))).trans HE.out
  have W1 := below_grown W0 G1 (by omega) (by omega)
  have L1 : w.heap.size + 2 < w1.heap.size := by have := G1.size; omega
  have hl1 : ∀ b o, a1 = some ⟨b, o, none⟩ → b < w.heap.size := fun b o e => by
    obtain ⟨o2, e2⟩ := k1 b o e
    exact HLT.out b o2 e2 hpos
  have HL1 := hide hl1
  have tk1 : True := trivial
  have tk2 : True := trivial
  clear R0 T0 W0 G1 HC HE L0 k1 hl1
  go_wp2_with (first | (have _t := tk1; refine wpl_put f a1 n1 c1 (.tmp 2) (.tmp 8) rfl T1 ?_ ?_ ?_ ?_; rfl; rfl; rfl; clear tk1; intro w2 A2 T2 G2) | (have _t := tk2; refine wpl_frame (.tmp 2) rfl A2 ?_ ?_ ?_; rfl; rfl; clear tk2))
  have Y2 := Y1.kept (k := w.heap.size) (fun b o e => by have := HL1.out b o e; omega) G2
  have e2 := G2.cell e1 (by simp)
  have f2 : w2.frozen? ⟨w.heap.size + 1, 0, none⟩ = false := (World.frozen?_of_block (a := ⟨w.heap.size + 1, 0, none⟩) (G2.block (w.heap.size + 1) (by omega) (by simp))).trans f1
  have W2 := below_grown W1 G2 (Nat.le_refl _) (by omega)
  have L2 : w.heap.size + 2 < w2.heap.size := Nat.lt_of_lt_of_le L1 G2.size
  have HN := hide Y2.len
  clear T1 Y1 e1 f1 W1 L1 G2
  refine (right12 f a1 n1 c1 _ HN.out).mono ?_
  rintro e w3 ⟨rfl, hb3⟩
  replace A2 := A2.on hb3; replace T2 := there_on T2 (by omega) hb3; replace Y2 := Y2.on hb3
  replace e2 := (hb3.cell (p := ⟨w.heap.size + 1, 0, none⟩) (show w.heap.size + 1 < w2.heap.size by omega)).trans e2
  replace f2 := (hb3.frozen (p := ⟨w.heap.size + 1, 0, none⟩) (show w.heap.size + 1 < w2.heap.size by omega)).trans f2
  replace W2 := belowOn W2 hb3
  replace L2 : w.heap.size + 2 < w3.heap.size := Nat.lt_of_lt_of_le L2 hb3.size
  clear hb3
  have tk3 : True := trivial
  go_wp2_with (have _t := tk3; refine wpl_put zero none 0 0 (.tmp 2) (.tmp 12) rfl T2 ?_ ?_ ?_ ?_; rfl; rfl; rfl; clear tk3; intro w4 A4 T4 G4; have e4 := G4.cell e2 (by simp); have f4 : w4.frozen? ⟨w.heap.size + 1, 0, none⟩ = false := (World.frozen?_of_block (a := ⟨w.heap.size + 1, 0, none⟩) (G4.block (w.heap.size + 1) (by omega) (by simp))).trans f2)
  have W4 := below_grown W2 G4 (Nat.le_refl _) (by omega)
  have G5 := setCell_grown w4 (w.heap.size + 1) 0 (.int .i64 2)
  have A5 := A4.kept (by omega) G5
  have e5 := World.cell?_setCell_same w4 ⟨w.heap.size + 1, 0, none⟩ (.int .i64 2) e4
  have W5 := below_grown W4 G5 (by omega) (Nat.le_trans (by omega) G4.size)
  refine leaves_cons (f := 33) (args := #[.pointer (some ⟨w.heap.size, 0, none⟩), .pointer (some ⟨w.heap.size + 1, 0, none⟩)]) (by simp) (by simp [go_sem]) ?_
  refine (catch_idle w.heap.size _).mono ?_
  rintro e u' w6 ⟨rfl, rfl, rfl⟩
  exact ⟨_, res_frame_cell rfl rfl rfl A5 e5, rfl, W5⟩

set_option maxRecDepth 100000 in
set_option maxHeartbeats 4000000 in
theorem dec14_good (ao : Option Addr) (n c : Nat) (ns : List Int) (f : Fd) (w : World) (hb : Byt w ao n c ns) (hr : raw ns = some f) (hk : rt f = true) :
    Calls Tryd.prog 13 #[.slice ao n c] w fun e w' => ∃ ao' n' c', e = .returned (.tuple #[.agg #[.int .u8 f.d0, .int .u8 f.d1, .int .u8 f.d2, .int .u8 f.d3, .int .u8 f.d4, .int .u8 f.d5, .int .u8 f.s0, .int .u8 f.s1, .int .u8 f.s2, .int .u8 f.s3, .int .u8 f.s4, .int .u8 f.s5, .bool f.tg, .int .i64 f.vl, .int .i64 f.pr, .int .i64 f.ty, (.slice ao' n' c')], .int .i64 0]) ∧ Byt w' ao' n' c' f.bs ∧ Below w.heap.size w w' := by
  have hpos : 0 < n := by
    have h1 := hb.len
    rcases Nat.eq_zero_or_pos n with h0 | h0
    · have : ns = [] := List.eq_nil_of_length_eq_zero (by omega)
      rw [this] at hr; cases hr
    · exact h0
  have HK : Hid (f.bs.length ≤ 1500) := hide (rt_and hk).2.2.2.1
  have R0 := W3_rd ao n c ns w hb
  have T0 := W3_there ao n c w
  have c0 := W3_cell ao n c w
  have e0 := W3_free ao n c w
  have L0 : w.heap.size + 2 < ((((w.alloc (.cells #[.int .u8 0, .int .u8 0, .int .u8 0, .int .u8 0, .int .u8 0, .int .u8 0, .int .u8 0, .int .u8 0, .int .u8 0, .int .u8 0, .int .u8 0, .int .u8 0, .bool false, .int .i64 0, .int .i64 0, .int .i64 0, .slice none 0 0] 26)).alloc (.cells #[.int .i64 0] 29)).alloc (.cells #[.slice ao n c] 91))).heap.size := by simp
  have W0 : Below w.heap.size w (((w.alloc (.cells #[.int .u8 0, .int .u8 0, .int .u8 0, .int .u8 0, .int .u8 0, .int .u8 0, .int .u8 0, .int .u8 0, .int .u8 0, .int .u8 0, .int .u8 0, .int .u8 0, .bool false, .int .i64 0, .int .i64 0, .int .i64 0, .slice none 0 0] 26)).alloc (.cells #[.int .i64 0] 29)).alloc (.cells #[.slice ao n c] 91)) := by go_grown
  have HLT := hide hb.lt
  have HC := hide c0
  have HE := hide e0
  clear hb c0 e0
  have hmf : ∀ (fn : Fn) (first cap : Array Value) (w : World), (Instr.makeFunc fn first cap).run Tryd.prog w = .ok (.func fn first cap) w := fun _ _ _ _ => rfl
  go_enter_defers Tryd.func13, Tryd.ntmps13
  go_wp2_with fail
  refine (rf_some (w.heap.size + 2) ao n c ns f _ R0 hr).mono ?_
  rintro e w1 ⟨a1, n1, c1, rfl, Y1, k1, G1⟩
  have T1 := there_kept T0 (by omega) (by omega) G1
  have e1 := G1.cell HC.out (by simp)
  have f1 : w1.frozen? ⟨w.heap.size + 1, 0, none⟩ = false := (World.frozen?_of_block (a := ⟨w.heap.size + 1, 0, none⟩) (G1.block (w.heap.size + 1) (by omega) (by simp))).trans HE.out
  have W1 := below_grown W0 G1 (by omega) (by omega)
  have L1 : w.heap.size + 2 < w1.heap.size := by have := G1.size; omega
  have hl1 : ∀ b o, a1 = some ⟨b, o, none⟩ → b < w.heap.size := fun b o e => by
    obtain ⟨o2, e2⟩ := k1 b o e
    exact HLT.out b o2 e2 hpos
  have HL1 := hide hl1
  have tk1 : True := trivial
  have tk2 : True := trivial
  clear R0 T0 W0 G1 HC HE L0 k1 hl1
  go_wp2_with (first | (have _t := tk1; refine wpl_put f a1 n1 c1 (.tmp 2) (.tmp 8) rfl T1 ?_ ?_ ?_ ?_; rfl; rfl; rfl; clear tk1; intro w2 A2 T2 G2) | (have _t := tk2; refine wpl_frame (.tmp 2) rfl A2 ?_ ?_ ?_; rfl; rfl; clear tk2))
  have Y2 := Y1.kept (k := w.heap.size) (fun b o e => by have := HL1.out b o e; omega) G2
  have e2 := G2.cell e1 (by simp)
  have f2 : w2.frozen? ⟨w.heap.size + 1, 0, none⟩ = false := (World.frozen?_of_block (a := ⟨w.heap.size + 1, 0, none⟩) (G2.block (w.heap.size + 1) (by omega) (by simp))).trans f1
  have W2 := below_grown W1 G2 (Nat.le_refl _) (by omega)
  have L2 : w.heap.size + 2 < w2.heap.size := Nat.lt_of_lt_of_le L1 G2.size
  have HN := hide Y2.len
  clear T1 Y1 e1 f1 W1 L1 G2
  refine (right12 f a1 n1 c1 _ HN.out).mono ?_
  rintro e w3 ⟨rfl, hb3⟩
  replace A2 := A2.on hb3; replace T2 := there_on T2 (by omega) hb3; replace Y2 := Y2.on hb3
  replace e2 := (hb3.cell (p := ⟨w.heap.size + 1, 0, none⟩) (show w.heap.size + 1 < w2.heap.size by omega)).trans e2
  replace f2 := (hb3.frozen (p := ⟨w.heap.size + 1, 0, none⟩) (show w.heap.size + 1 < w2.heap.size by omega)).trans f2
  replace W2 := belowOn W2 hb3
  replace L2 : w.heap.size + 2 < w3.heap.size := Nat.lt_of_lt_of_le L2 hb3.size
  clear hb3
  have p16 := A2.c16
  go_wp2_with fail
  refine (cloneF a1 n1 c1 f.bs _ Y2 (by have := HK.out; have := HN.out; omega)).mono ?_
  rintro e w4 ⟨a4, c4, rfl, Y4, hfr, hb4⟩
  have A4 := A2.on hb4
  have T4 := there_on T2 (by omega) hb4
  have e4 := (hb4.cell (p := ⟨w.heap.size + 1, 0, none⟩) (show w.heap.size + 1 < w3.heap.size by omega)).trans e2
  have f4 := (hb4.frozen (p := ⟨w.heap.size + 1, 0, none⟩) (show w.heap.size + 1 < w3.heap.size by omega)).trans f2
  have W4 := belowOn W2 hb4
  have L4 : w.heap.size + 2 < w4.heap.size := Nat.lt_of_lt_of_le L2 hb4.size
  replace hfr : ∀ b o, a4 = some ⟨b, o, none⟩ → w.heap.size + 2 < b := fun b o e => Nat.lt_of_lt_of_le L2 (hfr b o e)
  have q16 := A4.c16
  have g16 : w4.frozen? ⟨w.heap.size, 16, none⟩ = false := (T4 16 (by omega)).2
  have G5 := setCell_grown w4 w.heap.size 16 (.slice a4 n1 c4)
  have A5 := A4.set16 (.slice a4 n1 c4)
  have T5 : World.there (w4.setCell ⟨w.heap.size, 16, none⟩ (.slice a4 n1 c4)) w.heap.size 0 17 := World.there_setCells T4 w.heap.size 16 [.slice a4 n1 c4]
  have Y5 := Y4.kept (k := w.heap.size) (fun b o e => by have := hfr b o e; omega) G5
  have e5 := G5.cell e4 (by simp)
  have f5 : (w4.setCell ⟨w.heap.size, 16, none⟩ (.slice a4 n1 c4)).frozen? ⟨w.heap.size + 1, 0, none⟩ = false := by rw [World.frozen?_setCell]; exact f4
  have W5 := below_grown W4 G5 (Nat.le_refl _) (by omega)
  have L5 : w.heap.size + 2 < (w4.setCell ⟨w.heap.size, 16, none⟩ (.slice a4 n1 c4)).heap.size := Nat.lt_of_lt_of_le L4 G5.size
  have HF := hide hfr
  have tk3 : True := trivial
  have tk4 : True := trivial
  clear A2 T2 Y2 e2 f2 W2 L2 p16 hb4 A4 T4 Y4 G5 hfr
  go_wp2_with (first | (have _t := tk3; refine wpl_frame (.tmp 2) rfl A5 ?_ ?_ ?_; rfl; rfl; clear tk3) | (have _t := tk4; refine wpl_put f a4 n1 c4 (.tmp 2) (.tmp 17) rfl T5 ?_ ?_ ?_ ?_; rfl; rfl; rfl; clear tk4; intro w6 A6 T6 G6; have e6 := G6.cell e5 (by simp); have f6 : w6.frozen? ⟨w.heap.size + 1, 0, none⟩ = false := (World.frozen?_of_block (a := ⟨w.heap.size + 1, 0, none⟩) (G6.block (w.heap.size + 1) (by omega) (by simp))).trans f5))
  have W6 := below_grown W5 G6 (Nat.le_refl _) (by omega)
  have G7 := setCell_grown w6 (w.heap.size + 1) 0 (.int .i64 0)
  have A7 := A6.kept (by omega) G7
  have e7 := World.cell?_setCell_same w6 ⟨w.heap.size + 1, 0, none⟩ (.int .i64 0) e6
  have W7 := below_grown W6 G7 (by omega) (Nat.le_trans (by omega) G6.size)
  have Y7 := (Y5.kept (k := w.heap.size) (fun b o e => by have := HF.out b o e; omega) G6).kept (k := w.heap.size + 1) (fun b o e => by have := HF.out b o e; omega) G7
  refine leaves_cons (f := 33) (args := #[.pointer (some ⟨w.heap.size, 0, none⟩), .pointer (some ⟨w.heap.size + 1, 0, none⟩)]) (by simp) (by simp [go_sem]) ?_
  refine (catch_idle w.heap.size _).mono ?_
  rintro e u' w8 ⟨rfl, rfl, rfl⟩
  exact ⟨_, res_frame_cell rfl rfl rfl A7 e7, a4, n1, c4, rfl, Y7, W7⟩

theorem decode14 (ao : Option Addr) (n c : Nat) (ns : List Int) (w : World) (hb : Byt w ao n c ns) :
    Calls Tryd.prog 13 #[.slice ao n c] w fun e w' => ∃ ao' n' c', e = .returned (.tuple #[.agg #[.int .u8 (dec ns).1.d0, .int .u8 (dec ns).1.d1, .int .u8 (dec ns).1.d2, .int .u8 (dec ns).1.d3, .int .u8 (dec ns).1.d4, .int .u8 (dec ns).1.d5, .int .u8 (dec ns).1.s0, .int .u8 (dec ns).1.s1, .int .u8 (dec ns).1.s2, .int .u8 (dec ns).1.s3, .int .u8 (dec ns).1.s4, .int .u8 (dec ns).1.s5, .bool (dec ns).1.tg, .int .i64 (dec ns).1.vl, .int .i64 (dec ns).1.pr, .int .i64 (dec ns).1.ty, (.slice ao' n' c')], .int .i64 (dec ns).2]) ∧ Byt w' ao' n' c' (dec ns).1.bs ∧ Below w.heap.size w w' := by
  cases hr : raw ns with
  | none =>
    rw [dec_none hr]
    exact (dec14_none ao n c ns w hb hr).mono fun e w' ⟨he, hB⟩ => ⟨none, 0, 0, he, Byt.nothing w', hB⟩
  | some f =>
    cases hk : rt f
    · rw [dec_bad hr hk]
      exact (dec14_bad ao n c ns f w hb hr hk).mono fun e w' ⟨he, hB⟩ => ⟨none, 0, 0, he, Byt.nothing w', hB⟩
    · rw [dec_good hr hk]
      exact dec14_good ao n c ns f w hb hr hk
end Go.Proofs.YtgpdjfaklcmoiaaDoor.Eth
