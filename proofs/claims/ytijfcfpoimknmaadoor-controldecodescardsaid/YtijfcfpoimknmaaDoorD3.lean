/- Contract of readField: its Mac, its Body; then any of its fields. -/
import Derived.Test.YtijfcfpoimknmaaDoorD2
import Derived.Laws.IdiomCopy
namespace Go.Proofs.YtijfcfpoimknmaaDoor
open Go.RowKit

theorem Tryd.size5 : (Tryd.prog.info? 5).map (·.size) = some 1 := by kernel_rfl
theorem RdE.drew {w : World} {R : Nat} {r : Rs} (h : RdE R r w) : RdE R r w.drew := by
  obtain ⟨ao, n, c, h⟩ := h
  exact ⟨ao, n, c, h.bx.drew, h.byt.drew, h.ne⟩
theorem tk6 (r : Rs) : (tk r 6).length = 6 ∨ tk r 6 = [] := by
  unfold tk
  split
  · exact Or.inr rfl
  · exact Or.inl (by rw [List.length_take]; omega)
theorem copyM {w1 : World} {N : Nat} {x : Nt} {s : Value} (A : Box w1 N (ncl x s)) {ao : Option Addr} {m c : Nat} {l : List Int} (Y : Byt w1 ao m c l) (hl : l.length = 6 ∨ l = []) :
    ∃ w2 q, (∀ ty, (Builtin.copy_ #[24, 24] ty #[.slice (some ⟨N, 2, none⟩) 6 6, .slice ao m c]).run Tryd.prog w1 = .ok q w2) ∧ Box w2 N (ncl (setm x l) s) ∧ w1.grownBy w2 (some N) := by
  have hlen := Y.len
  rcases hl with h6 | rfl
  · obtain ⟨b, o, rfl, -, -⟩ := Y.at (by omega)
    match l, h6, Y, hlen with
    | [a0, a1, a2, a3, a4, a5], _, Y, hlen =>
      obtain rfl : 6 = m := hlen
      refine ⟨_, _, fun ty => run_copy_cells w1 24 24 ty 5 N 2 6 6 ⟨b, o, none⟩ 6 c ([a0, a1, a2, a3, a4, a5].map (Value.int .u8)) Tryd.underlying24 Tryd.size5 rfl Y.src (fun j hj => ?_) (fun j hj => ?_) (one_u8 _), ?_, setCells_grown N _ 2 w1⟩
      · have := (A.th (2 + j) (by simp at hj; rw [ncl_length]; omega)).1
        rwa [Nat.zero_add] at this
      · have := (A.th (2 + j) (by simp at hj; rw [ncl_length]; omega)).2
        rwa [Nat.zero_add] at this
      · exact Box.put (A := [.int .i64 x.k, .int .i64 x.v]) (B := mcl x) (C := [.int .i64 x.p, .int .i64 x.s, s]) (B' := [.int .u8 a0, .int .u8 a1, .int .u8 a2, .int .u8 a3, .int .u8 a4, .int .u8 a5]) A rfl rfl
  · obtain rfl : m = 0 := by simpa using hlen.symm
    exact ⟨_, _, fun ty => run_copy_none w1 24 24 ty 5 _ ao 6 6 0 c Tryd.underlying24 Tryd.size5 rfl, A, World.grownBy.refl _ _⟩
section
attribute [local go_sem] ZN
set_option maxRecDepth 100000 in
set_option maxHeartbeats 4000000 in
theorem read48_2 (n : Nt) (a : Option Addr) (m c R : Nat) (r : Rs) (w : World) (hY : Byt w a m c n.b) (hne : ∀ b o, a = some ⟨b, o, none⟩ → 0 < m → b ≠ R) (hR : RdE R r w) :
    Calls Tryd.prog 48 #[.pointer (some ⟨R, 0, none⟩), .agg (NC n (.slice a m c)), .int .i64 2] w fun e w' => ∃ a' m' c', e = .returned (.agg (NC (rf 2 (n, r)).1 (.slice a' m' c'))) ∧ RF w w' R (rf 2 (n, r)) a m a' m' c' := by
  have hlt := hR.lt
  have A0 : Box ((w.alloc (.cells (NC n (.slice a m c)) 26)).alloc (.cells (NC zeroN (.slice none 0 0)) 26)) w.heap.size (ncl n (.slice a m c)) := (Box.new w (ncl n (.slice a m c)) 26).alloc _
  have D0 : Box ((w.alloc (.cells (NC n (.slice a m c)) 26)).alloc (.cells (NC zeroN (.slice none 0 0)) 26)) (w.heap.size + 1) (ncl zeroN (.slice none 0 0)) := by
    have := Box.new (w.alloc (.cells (NC n (.slice a m c)) 26)) (ncl zeroN (.slice none 0 0)) 26
    rwa [World.size_alloc] at this
  have L0 : Below w.heap.size w ((w.alloc (.cells (NC n (.slice a m c)) 26)).alloc (.cells (NC zeroN (.slice none 0 0)) 26)) := by go_grown
  have G0 : w.grownBy ((w.alloc (.cells (NC n (.slice a m c)) 26)).alloc (.cells (NC zeroN (.slice none 0 0)) 26)) (some R) := grown_alloc (grown_alloc (World.grownBy.refl _ _) _) _
  have R0 := hR.on L0
  have Y0 := hY.on L0
  have HN := hide hne
  have HBB := hide hY.lt
  clear hY hne hR L0
  have hN0 : w.heap.size ≠ R := by omega
  have T := take49 R 6 r _ R0.drew
  have A00 := A0.drew
  have HG := hide (grown_drew G0)
  go_enter Tryd.func48, Tryd.ntmps48
  go_wp2_with fail
  go_region_with (first | (go_at_call 49; refine T.mono ?_; rintro e w1 ⟨ao, q, cc, rfl, T1⟩; obtain ⟨w2, qq, hcp, A2, g2⟩ := copyM (A00.kept hN0 T1.gr) T1.byt (tk6 r)))
  have D2 : Box w2 (w.heap.size + 1) ([] ++ ncl zeroN (.slice none 0 0)) := (D0.drew.kept (by omega) T1.gr).kept (by omega) g2
  have R2 := T1.rd.kept (by omega) g2
  have Y2 := (Y0.drew.kept HN.out T1.gr).kept (fun b o e hp => by have := HBB.out b o e hp; omega) g2
  have G2 := grown_new (grown_trans HG.out T1.gr) g2 (Nat.le_refl _)
  have A3 := A2.at_
  have YS : Hid (Byt w2 a m c (setm n (tk r 6)).b) := by
    have e : (setm n (tk r 6)).b = n.b := by unfold setm; split <;> rfl
    rw [e]
    exact hide Y2
  clear T A00 HG A0 D0 R0 Y0 T1 g2 hcp A2 G0
  have tk2 : True := trivial
  have tk3 : True := trivial
  go_wp2_with (first | (have _t := tk2; refine wpl_note (.tmp 4) rfl A3 ?_ ?_ ?_; rfl; rfl; clear tk2) | (have _t := tk3; refine wpl_putN (setm n (tk r 6)) (.slice a m c) [] zeroN (.slice none 0 0) rfl (.tmp 6) (.tmp 38) rfl D2 rfl ?_ ?_ ?_ ?_; rfl; rfl; rfl; clear tk3; intro w6 D4 g4))
  have R4 := R2.kept (by omega) g4
  have Y4 := YS.out.kept (fun b o e hp => by have := HBB.out b o e hp; omega) g4
  have G4 := grown_new G2 g4 (by omega)
  have D5 : Box w6 (w.heap.size + 1) (ncl (setm n (tk r 6)) (.slice a m c)) := D4
  exact bodyPost_ret (v := .agg (NC (setm n (tk r 6)) (.slice a m c))) (res_note_cell rfl rfl D5) rfl ⟨_, _, _, rfl, ⟨Y4, fun _ _ _ _ => Or.inl ⟨rfl, rfl⟩, R4, G4⟩⟩
set_option maxRecDepth 100000 in
set_option maxHeartbeats 4000000 in
theorem read48_16 (n : Nt) (a : Option Addr) (m c R : Nat) (r : Rs) (w : World) (hY : Byt w a m c n.b) (hne : ∀ b o, a = some ⟨b, o, none⟩ → 0 < m → b ≠ R) (hR : RdE R r w) :
    Calls Tryd.prog 48 #[.pointer (some ⟨R, 0, none⟩), .agg (NC n (.slice a m c)), .int .i64 16] w fun e w' => ∃ a' m' c', e = .returned (.agg (NC (rf 16 (n, r)).1 (.slice a' m' c'))) ∧ RF w w' R (rf 16 (n, r)) a m a' m' c' := by
  have hlt := hR.lt
  have A0 : Box ((w.alloc (.cells (NC n (.slice a m c)) 26)).alloc (.cells (NC zeroN (.slice none 0 0)) 26)) w.heap.size (ncl n (.slice a m c)) := (Box.new w (ncl n (.slice a m c)) 26).alloc _
  have D0 : Box ((w.alloc (.cells (NC n (.slice a m c)) 26)).alloc (.cells (NC zeroN (.slice none 0 0)) 26)) (w.heap.size + 1) (ncl zeroN (.slice none 0 0)) := by
    have := Box.new (w.alloc (.cells (NC n (.slice a m c)) 26)) (ncl zeroN (.slice none 0 0)) 26
    rwa [World.size_alloc] at this
  have L0 : Below w.heap.size w ((w.alloc (.cells (NC n (.slice a m c)) 26)).alloc (.cells (NC zeroN (.slice none 0 0)) 26)) := by go_grown
  have G0 : w.grownBy ((w.alloc (.cells (NC n (.slice a m c)) 26)).alloc (.cells (NC zeroN (.slice none 0 0)) 26)) (some R) := grown_alloc (grown_alloc (World.grownBy.refl _ _) _) _
  have R0 := hR.on L0
  have Y0 := hY.on L0
  have HN := hide hne
  have HBB := hide hY.lt
  clear hY hne hR L0
  have hq0 := tk_rng 2 R0.rng
  have hql := tk_le r 2
  have hqr : 0 ≤ nr r 2 ∧ nr r 2 < 65536 := by
    have h1 := nb_fit _ (tk r 2) rfl hq0
    refine ⟨h1.1, ?_⟩
    have h2 := h1.2
    unfold nr
    rcases (show (tk r 2).length = 0 ∨ (tk r 2).length = 1 ∨ (tk r 2).length = 2 by omega) with e | e | e <;> rw [e] at h2 <;> omega
  obtain ⟨q, hq⟩ := Int.eq_ofNat_of_zero_le hqr.1
  have HX : Hid (rf 16 (n, r) = ({ n with b := tk (tr r 2) q }, tr (tr r 2) q)) := hide (by show ({ n with b := tk (tr r 2) (nr r 2).toNat }, tr (tr r 2) (nr r 2).toNat) = _; rw [hq]; rfl)
  have hq2 : q ≤ 65535 := by omega
  rw [HX.out]
  clear HX hq0 hql hqr Y0
  go_enter Tryd.func48, Tryd.ntmps48
  go_wp2_with fail
  refine (number45 R 2 r _ R0 (by omega)).mono ?_
  rw [hq]
  rintro e w1 ⟨rfl, R1, g1⟩
  have A1 := A0.kept (by omega) g1
  have D1 := D0.kept (by omega) g1
  replace G0 := grown_trans G0 g1
  clear A0 D0 R0 g1 hq
  go_wp2_with fail
  refine (take49 R q (tr r 2) _ R1).mono ?_
  rintro e w2 ⟨ao, m2, c2, rfl, T⟩
  replace A1 := A1.kept (by omega) T.gr
  replace D1 := D1.kept (by omega) T.gr
  replace G0 := grown_trans G0 T.gr
  have hm2 : m2 ≤ 70000 := by have := T.byt.len; have := tk_le (tr r 2) q; omega
  have hS2 := D1.lt
  have RT := T.rd
  have YT := T.byt
  clear T R1
  go_wp2_with fail
  refine (clone50 ao m2 c2 _ _ YT hm2).mono ?_
  rintro e w3 ⟨a3, c3, rfl, Y3, hnew, B3⟩
  replace A1 := A1.on B3
  replace D1 := D1.on B3
  replace RT := RT.on B3
  have hRl := RT.lt
  have hNE : Hid (∀ b o, a3 = some ⟨b, o, none⟩ → 0 < m2 → w.heap.size ≤ b ∧ b ≠ w.heap.size ∧ b ≠ w.heap.size + 1) := hide (fun b o e _ => by have h1 := hnew b o e; omega)
  replace G0 := grown_below G0 B3
  have c1 := A1.cell 10 _ rfl
  have f1 := A1.free 10 (by rw [ncl_length]; omega)
  have g2 := setCell_grown w3 w.heap.size 10 (.slice a3 m2 c3)
  have A2 : Box (w3.setCell ⟨w.heap.size, 10, none⟩ (.slice a3 m2 c3)) w.heap.size (ncl { n with b := tk (tr r 2) q } (.slice a3 m2 c3)) := Box.set (A := .int .i64 n.k :: .int .i64 n.v :: (mcl n ++ [.int .i64 n.p, .int .i64 n.s])) (C := []) A1 rfl
  have A3 := A2.at_
  have D2 : Box (w3.setCell ⟨w.heap.size, 10, none⟩ (.slice a3 m2 c3)) (w.heap.size + 1) ([] ++ ncl zeroN (.slice none 0 0)) := D1.kept (by omega) g2
  have R2 := RT.kept (by omega) g2
  have Y2 := Y3.kept (fun b o e hp => (hNE.out b o e hp).2.1) g2
  have G2 := grown_new G0 g2 (Nat.le_refl _)
  clear A1 D1 RT Y3 YT B3 g2 G0 A2 hnew hRl hS2
  have tk2 : True := trivial
  have tk3 : True := trivial
  go_wp2_with (first | (have _t := tk2; refine wpl_note (.tmp 4) rfl A3 ?_ ?_ ?_; rfl; rfl; clear tk2) | (have _t := tk3; refine wpl_putN { n with b := tk (tr r 2) q } (.slice a3 m2 c3) [] zeroN (.slice none 0 0) rfl (.tmp 6) (.tmp 38) rfl D2 rfl ?_ ?_ ?_ ?_; rfl; rfl; rfl; clear tk3; intro w6 D4 g4))
  have R4 := R2.kept (by omega) g4
  have Y4 := Y2.kept (fun b o e hp => (hNE.out b o e hp).2.2) g4
  have G4 := grown_new G2 g4 (by omega)
  have D5 : Box w6 (w.heap.size + 1) (ncl { n with b := tk (tr r 2) q } (.slice a3 m2 c3)) := D4
  exact bodyPost_ret (v := .agg (NC { n with b := tk (tr r 2) q } (.slice a3 m2 c3))) (res_note_cell rfl rfl D5) rfl ⟨_, _, _, rfl, ⟨Y4, fun b o e hp => Or.inr (hNE.out b o e hp).1, R4, G4⟩⟩
end
theorem read48 (n : Nt) (a : Option Addr) (m c R : Nat) (r : Rs) (j : Nat) (hj : J5 j) (w : World) (hY : Byt w a m c n.b) (hne : ∀ b o, a = some ⟨b, o, none⟩ → 0 < m → b ≠ R) (hR : RdE R r w) :
    Calls Tryd.prog 48 #[.pointer (some ⟨R, 0, none⟩), .agg (NC n (.slice a m c)), .int .i64 j] w fun e w' => ∃ a' m' c', e = .returned (.agg (NC (rf j (n, r)).1 (.slice a' m' c'))) ∧ RF w w' R (rf j (n, r)) a m a' m' c' := by
  rcases hj with rfl | rfl | rfl | rfl | rfl
  · exact read48_1 n a m c R r w hY hne hR
  · exact read48_2 n a m c R r w hY hne hR
  · exact read48_4 n a m c R r w hY hne hR
  · exact read48_8 n a m c R r w hY hne hR
  · exact read48_16 n a m c R r w hY hne hR
end Go.Proofs.YtijfcfpoimknmaaDoor
