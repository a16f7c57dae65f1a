/- Contract of readField: one field of a note, as the reader has it. -/
import Derived.Test.YtijfcfpoimknmaaDoorD1
namespace Go.Proofs.YtijfcfpoimknmaaDoor
open Go.RowKit

theorem res_note_cell {fn : Func} {p : Tmp} (h : fn.results = #[.cell p 26]) {tmps : Array Value} {w : World} {k : Nat} {x : Nt} {s : Value} (hp : tmps.getD p undef = .pointer (some ⟨k, 0, none⟩)) (hA : Box w k (ncl x s)) :
    (results fn tmps).run Tryd.prog w = .ok (.agg (NC x s)) w := by
  have hl := run_loadVar_mid (P := Tryd.prog) w k 0 26 _ _ hA.at_ Tryd.underlying26 rfl Tryd.size26
  have hp' : tmps[p]?.getD undef = .pointer (some ⟨k, 0, none⟩) := by simpa using hp
  simp only [results, h]
  simp [hp', asAddr, hl, NC]
/-- What a step of the reader answers. -/
structure RF (w w' : World) (R : Nat) (x : Nt × Rs) (a0 : Option Addr) (m0 : Nat) (a : Option Addr) (m c : Nat) : Prop where
  byt : Byt w' a m c x.1.b
  nw : ∀ b o, a = some ⟨b, o, none⟩ → 0 < m → (a = a0 ∧ m = m0) ∨ w.heap.size ≤ b
  rd : RdE R x.2 w'
  gr : w.grownBy w' (some R)
section
attribute [local go_sem] ZN
set_option maxRecDepth 100000 in
set_option maxHeartbeats 4000000 in
theorem read48_1 (n : Nt) (a : Option Addr) (m c R : Nat) (r : Rs) (w : World) (hY : Byt w a m c n.b) (hne : ∀ b o, a = some ⟨b, o, none⟩ → 0 < m → b ≠ R) (hR : RdE R r w) :
    Calls Tryd.prog 48 #[.pointer (some ⟨R, 0, none⟩), .agg (NC n (.slice a m c)), .int .i64 1] w fun e w' => ∃ a' m' c', e = .returned (.agg (NC (rf 1 (n, r)).1 (.slice a' m' c'))) ∧ RF w w' R (rf 1 (n, r)) a m a' m' c' := by
  have hlt := hR.lt
  have A0 : Box ((w.alloc (.cells (NC n (.slice a m c)) 26)).alloc (.cells (NC zeroN (.slice none 0 0)) 26)) w.heap.size (ncl n (.slice a m c)) := (Box.new w (ncl n (.slice a m c)) 26).alloc _
  have D0 : Box ((w.alloc (.cells (NC n (.slice a m c)) 26)).alloc (.cells (NC zeroN (.slice none 0 0)) 26)) (w.heap.size + 1) (ncl zeroN (.slice none 0 0)) := by
    have := Box.new (w.alloc (.cells (NC n (.slice a m c)) 26)) (ncl zeroN (.slice none 0 0)) 26
    rwa [World.size_alloc] at this
  have L0 : Below w.heap.size w ((w.alloc (.cells (NC n (.slice a m c)) 26)).alloc (.cells (NC zeroN (.slice none 0 0)) 26)) := by go_grown
  have G0 : w.grownBy ((w.alloc (.cells (NC n (.slice a m c)) 26)).alloc (.cells (NC zeroN (.slice none 0 0)) 26)) (some R) := grown_alloc (grown_alloc (World.grownBy.refl _ _) _) _
  have R0 := hR.on L0
  have Y0 := hY.on L0
  have HN := hide hne
  have HBB := hide hY.lt
  clear hY hne hR L0
  go_enter Tryd.func48, Tryd.ntmps48
  go_wp2_with fail
  refine (number45 R 2 r _ R0 (by omega)).mono ?_
  rintro e w1 ⟨rfl, R1, g1⟩
  have A1 := A0.kept (by omega) g1
  have D1 := D0.kept (by omega) g1
  have Y1 := Y0.kept HN.out g1
  replace G0 := grown_trans G0 g1
  have c1 := A1.cell 1 _ rfl
  have f1 := A1.free 1 (by rw [ncl_length]; omega)
  have g2 := setCell_grown w1 w.heap.size 1 (.int .i64 (nr r 2))
  have A2 : Box (w1.setCell ⟨w.heap.size, 1, none⟩ (.int .i64 (nr r 2))) w.heap.size (ncl { n with v := nr r 2 } (.slice a m c)) := Box.set (A := [.int .i64 n.k]) (C := (mcl n ++ [.int .i64 n.p, .int .i64 n.s, .slice a m c])) A1 rfl
  have A3 := A2.at_
  have D2 : Box (w1.setCell ⟨w.heap.size, 1, none⟩ (.int .i64 (nr r 2))) (w.heap.size + 1) ([] ++ ncl zeroN (.slice none 0 0)) := D1.kept (by omega) g2
  have R2 := R1.kept (by omega) g2
  have Y2 := Y1.kept (fun b o e hp => by have := HBB.out b o e hp; omega) g2
  have G2 := grown_new G0 g2 (Nat.le_refl _)
  clear A0 D0 R0 Y0 A1 D1 Y1 R1 g1 g2 G0 A2
  have tk2 : True := trivial
  have tk3 : True := trivial
  go_wp2_with (first | (have _t := tk2; refine wpl_note (.tmp 4) rfl A3 ?_ ?_ ?_; rfl; rfl; clear tk2) | (have _t := tk3; refine wpl_putN { n with v := nr r 2 } (.slice a m c) [] zeroN (.slice none 0 0) rfl (.tmp 6) (.tmp 38) rfl D2 rfl ?_ ?_ ?_ ?_; rfl; rfl; rfl; clear tk3; intro w6 D4 g4))
  have R4 := R2.kept (by omega) g4
  have Y4 := Y2.kept (fun b o e hp => by have := HBB.out b o e hp; omega) g4
  have G4 := grown_new G2 g4 (by omega)
  have D5 : Box w6 (w.heap.size + 1) (ncl { n with v := nr r 2 } (.slice a m c)) := D4
  exact bodyPost_ret (v := .agg (NC { n with v := nr r 2 } (.slice a m c))) (res_note_cell rfl rfl D5) rfl ⟨_, _, _, rfl, ⟨Y4, fun _ _ _ _ => Or.inl ⟨rfl, rfl⟩, R4, G4⟩⟩
set_option maxRecDepth 100000 in
set_option maxHeartbeats 4000000 in
theorem read48_4 (n : Nt) (a : Option Addr) (m c R : Nat) (r : Rs) (w : World) (hY : Byt w a m c n.b) (hne : ∀ b o, a = some ⟨b, o, none⟩ → 0 < m → b ≠ R) (hR : RdE R r w) :
    Calls Tryd.prog 48 #[.pointer (some ⟨R, 0, none⟩), .agg (NC n (.slice a m c)), .int .i64 4] w fun e w' => ∃ a' m' c', e = .returned (.agg (NC (rf 4 (n, r)).1 (.slice a' m' c'))) ∧ RF w w' R (rf 4 (n, r)) a m a' m' c' := by
  have hlt := hR.lt
  have A0 : Box ((w.alloc (.cells (NC n (.slice a m c)) 26)).alloc (.cells (NC zeroN (.slice none 0 0)) 26)) w.heap.size (ncl n (.slice a m c)) := (Box.new w (ncl n (.slice a m c)) 26).alloc _
  have D0 : Box ((w.alloc (.cells (NC n (.slice a m c)) 26)).alloc (.cells (NC zeroN (.slice none 0 0)) 26)) (w.heap.size + 1) (ncl zeroN (.slice none 0 0)) := by
    have := Box.new (w.alloc (.cells (NC n (.slice a m c)) 26)) (ncl zeroN (.slice none 0 0)) 26
    rwa [World.size_alloc] at this
  have L0 : Below w.heap.size w ((w.alloc (.cells (NC n (.slice a m c)) 26)).alloc (.cells (NC zeroN (.slice none 0 0)) 26)) := by go_grown
  have G0 : w.grownBy ((w.alloc (.cells (NC n (.slice a m c)) 26)).alloc (.cells (NC zeroN (.slice none 0 0)) 26)) (some R) := grown_alloc (grown_alloc (World.grownBy.refl _ _) _) _
  have R0 := hR.on L0
  have Y0 := hY.on L0
  have HN := hide hne
  have HBB := hide hY.lt
  clear hY hne hR L0
  go_enter Tryd.func48, Tryd.ntmps48
  go_wp2_with fail
  refine (number45 R 2 r _ R0 (by omega)).mono ?_
  rintro e w1 ⟨rfl, R1, g1⟩
  have A1 := A0.kept (by omega) g1
  have D1 := D0.kept (by omega) g1
  have Y1 := Y0.kept HN.out g1
  replace G0 := grown_trans G0 g1
  have c1 := A1.cell 8 _ rfl
  have f1 := A1.free 8 (by rw [ncl_length]; omega)
  have g2 := setCell_grown w1 w.heap.size 8 (.int .i64 (nr r 2))
  have A2 : Box (w1.setCell ⟨w.heap.size, 8, none⟩ (.int .i64 (nr r 2))) w.heap.size (ncl { n with p := nr r 2 } (.slice a m c)) := Box.set (A := (.int .i64 n.k :: .int .i64 n.v :: mcl n)) (C := [.int .i64 n.s, .slice a m c]) A1 rfl
  have A3 := A2.at_
  have D2 : Box (w1.setCell ⟨w.heap.size, 8, none⟩ (.int .i64 (nr r 2))) (w.heap.size + 1) ([] ++ ncl zeroN (.slice none 0 0)) := D1.kept (by omega) g2
  have R2 := R1.kept (by omega) g2
  have Y2 := Y1.kept (fun b o e hp => by have := HBB.out b o e hp; omega) g2
  have G2 := grown_new G0 g2 (Nat.le_refl _)
  clear A0 D0 R0 Y0 A1 D1 Y1 R1 g1 g2 G0 A2
  have tk2 : True := trivial
  have tk3 : True := trivial
  go_wp2_with (first | (have _t := tk2; refine wpl_note (.tmp 4) rfl A3 ?_ ?_ ?_; rfl; rfl; clear tk2) | (have _t := tk3; refine wpl_putN { n with p := nr r 2 } (.slice a m c) [] zeroN (.slice none 0 0) rfl (.tmp 6) (.tmp 38) rfl D2 rfl ?_ ?_ ?_ ?_; rfl; rfl; rfl; clear tk3; intro w6 D4 g4))
  have R4 := R2.kept (by omega) g4
  have Y4 := Y2.kept (fun b o e hp => by have := HBB.out b o e hp; omega) g4
  have G4 := grown_new G2 g4 (by omega)
  have D5 : Box w6 (w.heap.size + 1) (ncl { n with p := nr r 2 } (.slice a m c)) := D4
  exact bodyPost_ret (v := .agg (NC { n with p := nr r 2 } (.slice a m c))) (res_note_cell rfl rfl D5) rfl ⟨_, _, _, rfl, ⟨Y4, fun _ _ _ _ => Or.inl ⟨rfl, rfl⟩, R4, G4⟩⟩
set_option maxRecDepth 100000 in
set_option maxHeartbeats 4000000 in
theorem read48_8 (n : Nt) (a : Option Addr) (m c R : Nat) (r : Rs) (w : World) (hY : Byt w a m c n.b) (hne : ∀ b o, a = some ⟨b, o, none⟩ → 0 < m → b ≠ R) (hR : RdE R r w) :
    Calls Tryd.prog 48 #[.pointer (some ⟨R, 0, none⟩), .agg (NC n (.slice a m c)), .int .i64 8] w fun e w' => ∃ a' m' c', e = .returned (.agg (NC (rf 8 (n, r)).1 (.slice a' m' c'))) ∧ RF w w' R (rf 8 (n, r)) a m a' m' c' := by
  have hlt := hR.lt
  have A0 : Box ((w.alloc (.cells (NC n (.slice a m c)) 26)).alloc (.cells (NC zeroN (.slice none 0 0)) 26)) w.heap.size (ncl n (.slice a m c)) := (Box.new w (ncl n (.slice a m c)) 26).alloc _
  have D0 : Box ((w.alloc (.cells (NC n (.slice a m c)) 26)).alloc (.cells (NC zeroN (.slice none 0 0)) 26)) (w.heap.size + 1) (ncl zeroN (.slice none 0 0)) := by
    have := Box.new (w.alloc (.cells (NC n (.slice a m c)) 26)) (ncl zeroN (.slice none 0 0)) 26
    rwa [World.size_alloc] at this
  have L0 : Below w.heap.size w ((w.alloc (.cells (NC n (.slice a m c)) 26)).alloc (.cells (NC zeroN (.slice none 0 0)) 26)) := by go_grown
  have G0 : w.grownBy ((w.alloc (.cells (NC n (.slice a m c)) 26)).alloc (.cells (NC zeroN (.slice none 0 0)) 26)) (some R) := grown_alloc (grown_alloc (World.grownBy.refl _ _) _) _
  have R0 := hR.on L0
  have Y0 := hY.on L0
  have HN := hide hne
  have HBB := hide hY.lt
  clear hY hne hR L0
  go_enter Tryd.func48, Tryd.ntmps48
  go_wp2_with fail
  refine (number45 R 1 r _ R0 (by omega)).mono ?_
  rintro e w1 ⟨rfl, R1, g1⟩
  have A1 := A0.kept (by omega) g1
  have D1 := D0.kept (by omega) g1
  have Y1 := Y0.kept HN.out g1
  replace G0 := grown_trans G0 g1
  have c1 := A1.cell 9 _ rfl
  have f1 := A1.free 9 (by rw [ncl_length]; omega)
  have g2 := setCell_grown w1 w.heap.size 9 (.int .i64 (nr r 1))
  have A2 : Box (w1.setCell ⟨w.heap.size, 9, none⟩ (.int .i64 (nr r 1))) w.heap.size (ncl { n with s := nr r 1 } (.slice a m c)) := Box.set (A := (.int .i64 n.k :: .int .i64 n.v :: (mcl n ++ [.int .i64 n.p]))) (C := [.slice a m c]) A1 rfl
  have A3 := A2.at_
  have D2 : Box (w1.setCell ⟨w.heap.size, 9, none⟩ (.int .i64 (nr r 1))) (w.heap.size + 1) ([] ++ ncl zeroN (.slice none 0 0)) := D1.kept (by omega) g2
  have R2 := R1.kept (by omega) g2
  have Y2 := Y1.kept (fun b o e hp => by have := HBB.out b o e hp; omega) g2
  have G2 := grown_new G0 g2 (Nat.le_refl _)
  clear A0 D0 R0 Y0 A1 D1 Y1 R1 g1 g2 G0 A2
  have tk2 : True := trivial
  have tk3 : True := trivial
  go_wp2_with (first | (have _t := tk2; refine wpl_note (.tmp 4) rfl A3 ?_ ?_ ?_; rfl; rfl; clear tk2) | (have _t := tk3; refine wpl_putN { n with s := nr r 1 } (.slice a m c) [] zeroN (.slice none 0 0) rfl (.tmp 6) (.tmp 38) rfl D2 rfl ?_ ?_ ?_ ?_; rfl; rfl; rfl; clear tk3; intro w6 D4 g4))
  have R4 := R2.kept (by omega) g4
  have Y4 := Y2.kept (fun b o e hp => by have := HBB.out b o e hp; omega) g4
  have G4 := grown_new G2 g4 (by omega)
  have D5 : Box w6 (w.heap.size + 1) (ncl { n with s := nr r 1 } (.slice a m c)) := D4
  exact bodyPost_ret (v := .agg (NC { n with s := nr r 1 } (.slice a m c))) (res_note_cell rfl rfl D5) rfl ⟨_, _, _, rfl, ⟨Y4, fun _ _ _ _ => Or.inl ⟨rfl, rfl⟩, R4, G4⟩⟩
end
end Go.Proofs.YtijfcfpoimknmaaDoor
