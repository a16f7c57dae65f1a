/- Contracts of what the document takes out of bytes: a number, an id. -/
import Derived.Test.YtdaglmimfkcmeaaA7
import Derived.Test.YtdaglmimfkcmeaaA3
import Derived.Test.YtdaglmimfkcmeaaWk
namespace Go.Proofs.Ytdaglmimfkcmeaa
open Go.RowKit

theorem take_snoc' (ns : List Int) (m : Nat) (h : m < ns.length) : ns.take (m + 1) = ns.take m ++ [ns.getD m 0] := by
  rw [List.take_add_one, List.getD_eq_getElem?_getD, List.getElem?_eq_getElem h]
  rfl
theorem nb_le' {l : List Int} (h : l.length ≤ 5) (hr : Rng l) : 0 ≤ nb l ∧ nb l < 1099511627776 := by
  have := nb_fit l.length l rfl hr
  refine ⟨this.1, ?_⟩
  have h2 := this.2
  rcases (show l.length = 0 ∨ l.length = 1 ∨ l.length = 2 ∨ l.length = 3 ∨ l.length = 4 ∨ l.length = 5 by omega) with e | e | e | e | e | e <;> rw [e] at h2 <;> omega
set_option maxRecDepth 100000 in
set_option maxHeartbeats 4000000 in
theorem of30 (ao : Option Addr) (n c : Nat) (ns : List Int) (w : World) (h : Byt w ao n c ns) (hn0 : 0 < n) (hn : n ≤ 5) :
    Calls Try.prog 30 #[.slice ao n c] w fun e w' => e = .returned (.int .i64 (nb ns)) ∧ w' = w := by
  have HL := hide h.len
  have HR := hide h.rng
  obtain ⟨b, o, rfl, hc, -⟩ := h.at hn0
  have HC := hide hc
  clear h hc
  go_enter Try.func30, Try.ntmps30
  go_wp2
  go_loop [3, 4] (fun x i => ∃ m : Nat, m ≤ n ∧ i = .int .i64 m ∧ x = .int .i64 (nb (ns.take m))) (fun _ i => n - (intOf i).toNat)
  case atStart => exact ⟨0, by omega, rfl, rfl⟩
  case round =>
    obtain ⟨m, hm, rfl, rfl⟩ := hrel
    by_cases hlt : m < n
    · have hc := HC.out m (by omega)
      have hx := rng_getD HR.out m
      have hs := hide (take_snoc' ns m (by have := HL.out; omega))
      have hn := nb_le' (l := ns.take m) (by rw [List.length_take]; omega) (rng_take HR.out m)
      have hs2 := hide (nb_snoc (ns.take m) (ns.getD m 0))
      generalize nb (ns.take m) = x at *
      generalize ns.getD m 0 = y at *
      have b1 : IntKind.i64.wrap y = y := IntWalk.i64_in _ (by omega)
      have b2 : IntKind.i64.wrap (x * 256) = x * 256 := IntWalk.i64_in _ (by omega)
      have b3 : IntKind.i64.wrap (x * 256 + y) = x * 256 + y := IntWalk.i64_in _ (by omega)
      have l1 : (m : Int) < n := by omega
      go_wp2
      go_round
      case rel => exact ⟨m + 1, by omega, by go_num, by rw [hs.out, hs2.out]⟩
      case measure => simp [intOf]; omega
    · obtain rfl : m = n := by omega
      have e : Hid (ns.take m = ns) := hide (List.take_of_length_le (Nat.le_of_eq HL.out))
      go_wp2
      go_ret
      exact ⟨ret_int (by rw [e.out]), rfl⟩
/-- An id some of whose bytes are there yet. -/
def tl (p : Int) (ys : List Int) (m : Nat) : List Value := .int .i64 p :: ((List.range 6).map fun j => .int .u8 (if j < m then ys.getD j 0 else 0))
theorem tl0 (p : Int) (ys : List Int) : tl p ys 0 = icl ⟨p, 0, 0, 0, 0, 0, 0⟩ := rfl
theorem tl6 (p : Int) (ys : List Int) : tl p ys 6 = icl ⟨p, ys.getD 0 0, ys.getD 1 0, ys.getD 2 0, ys.getD 3 0, ys.getD 4 0, ys.getD 5 0⟩ := rfl
theorem IC_pr (n : Int) : (IC zeroI).setIfInBounds 0 (.int .i64 n) = IC ⟨n, 0, 0, 0, 0, 0, 0⟩ := rfl
section
attribute [local go_sem] ZI IC_pr
set_option maxRecDepth 100000 in
set_option maxHeartbeats 4000000 in
theorem told29 (ao : Option Addr) (c : Nat) (ns : List Int) (w : World) (h : Byt w ao 8 c ns) :
    Calls Try.prog 29 #[.slice ao 8 c] w fun e w' => e = .returned (.agg (IC (idt ns))) ∧ Below w.heap.size w w' := by
  have Y0 := h.alloc (.cells (IC zeroI) 25)
  have D0 : Box (w.alloc (.cells (IC zeroI) 25)) w.heap.size (icl zeroI) := Box.new w (icl zeroI) 25
  have W0 := below_alloc w (.cells (IC zeroI) 25)
  have hle := h.le
  have hle1 : (8 : Int) ≤ c := by omega
  have hmx := h.mx
  unfold maxLen at hmx
  obtain ⟨b, o, rfl, hc, hb⟩ := Y0.at (by omega)
  have T : Byt (w.alloc (.cells (IC zeroI) 25)) (some ⟨b, o, none⟩) 2 c (ns.take 2) := ⟨by rw [List.length_take, h.len]; omega, fun e => (by cases e), fun j hj => ⟨b, o, rfl, by rw [hc j (by omega)]; simp [List.getD_eq_getElem?_getD, hj]⟩, by omega, h.mx, rng_take h.rng 2⟩
  have HT := hide T
  have HC := hide h
  have HR := hide h.rng
  clear hc T Y0 hb h
  go_enter Try.func29, Try.ntmps29
  go_wp2_with fail
  refine (of30 _ 2 c _ _ HT.out (by omega) (by omega)).mono ?_
  rintro e w1 ⟨rfl, rfl⟩
  have hlt := hide (HC.out.lt b o rfl (by omega))
  generalize hp : nb (ns.take 2) = pr at *
  have HP := hide hp
  have A0 : Box ((w.alloc (.cells (IC zeroI) 25)).alloc (.cells (IC zeroI) 25)) (w.heap.size + 1) ([] ++ (icl zeroI ++ [])) := by
    have := Box.new (w.alloc (.cells (IC zeroI) 25)) (icl zeroI) 25
    rw [World.size_alloc] at this
    exact this
  replace D0 := D0.alloc (.cells (IC zeroI) 25)
  replace W0 := belowOn W0 (below_alloc (w.alloc (.cells (IC zeroI) 25)) (.cells (IC zeroI) 25))
  have S0 : w.heap.size + 1 < ((w.alloc (.cells (IC zeroI) 25)).alloc (.cells (IC zeroI) 25)).heap.size := A0.lt
  have HS := hide S0
  clear HT hp S0
  have tk1 : True := trivial
  go_wp2_with (have _t := tk1; refine wpl_putI ⟨pr, 0, 0, 0, 0, 0, 0⟩ [] [] zeroI (.tmp 3) (.tmp 8) rfl A0 rfl ?_ ?_ ?_ ?_; rfl; rfl; rfl; clear tk1; intro w2 A1 g1)
  replace D0 := D0.kept (by omega) g1
  replace W0 := below_grown W0 g1 (by omega) (by have := HS.out; omega)
  have A2 : Box w2 (w.heap.size + 1) (tl pr (ns.drop 2) 0) := A1
  clear A0 A1 g1 HS
  go_loopw [4] (fun i wr => ∃ k : Nat, k ≤ 6 ∧ i = .int .i64 k ∧ Box wr (w.heap.size + 1) (tl pr (ns.drop 2) k) ∧ Box wr w.heap.size (icl zeroI) ∧ Below w.heap.size w wr) (fun i _ => 6 - (intOf i).toNat)
  case atStart => exact ⟨0, by omega, rfl, A2, D0, W0⟩
  case round =>
    clear A2 D0 W0
    obtain ⟨k, hk, rfl, A, D, W⟩ := hrel
    have Y := HC.out.on W
    obtain ⟨b', o', e, hc, -⟩ := Y.at (by omega)
    injection Option.some.inj e with e1 e2
    subst e1 e2
    clear e
    have hk7 : k = 0 ∨ k = 1 ∨ k = 2 ∨ k = 3 ∨ k = 4 ∨ k = 5 ∨ k = 6 := by omega
    rcases hk7 with e | e | e | e | e | e | e <;> subst e
    · have hy := hc 2 (by omega)
      have ey : ns.getD 2 0 = (ns.drop 2).getD 0 0 := by simp [List.getD_eq_getElem?_getD]
      rw [ey] at hy
      have c1 := A.cell 1 (.int .u8 0) rfl
      have f1 := A.free 1 (by show 1 < 7; omega)
      have A' : Box wr (w.heap.size + 1) ((.int .i64 pr :: []) ++ (.int .u8 0 :: [.int .u8 0, .int .u8 0, .int .u8 0, .int .u8 0, .int .u8 0])) := A
      have A2 := A'.set (v' := .int .u8 ((ns.drop 2).getD 0 0)) (o := 1) rfl
      have g := setCell_grown wr (w.heap.size + 1) 1 (.int .u8 ((ns.drop 2).getD 0 0))
      have D2 := D.kept (by omega) g
      have W2 := below_grown W g (by omega) (Nat.le_of_lt D.lt)
      have H1 := hide (show Box _ (w.heap.size + 1) (tl pr (ns.drop 2) 1) from A2)
      clear A A' A2 hc Y D W g ey
      generalize (ns.drop 2).getD 0 0 = y at *
      go_wp2
      go_roundw
      case rel => exact ⟨1, by omega, rfl, H1.out, D2, W2⟩
      case measure => simp [intOf]
    · have hy := hc 3 (by omega)
      have ey : ns.getD 3 0 = (ns.drop 2).getD 1 0 := by simp [List.getD_eq_getElem?_getD]
      rw [ey] at hy
      have c1 := A.cell 2 (.int .u8 0) rfl
      have f1 := A.free 2 (by show 2 < 7; omega)
      have A' : Box wr (w.heap.size + 1) ((.int .i64 pr :: .int .u8 ((ns.drop 2).getD 0 0) :: []) ++ (.int .u8 0 :: [.int .u8 0, .int .u8 0, .int .u8 0, .int .u8 0])) := A
      have A2 := A'.set (v' := .int .u8 ((ns.drop 2).getD 1 0)) (o := 2) rfl
      have g := setCell_grown wr (w.heap.size + 1) 2 (.int .u8 ((ns.drop 2).getD 1 0))
      have D2 := D.kept (by omega) g
      have W2 := below_grown W g (by omega) (Nat.le_of_lt D.lt)
      have H1 := hide (show Box _ (w.heap.size + 1) (tl pr (ns.drop 2) 2) from A2)
      clear A A' A2 hc Y D W g ey
      generalize (ns.drop 2).getD 1 0 = y at *
      go_wp2
      go_roundw
      case rel => exact ⟨2, by omega, rfl, H1.out, D2, W2⟩
      case measure => simp [intOf]
    · have hy := hc 4 (by omega)
      have ey : ns.getD 4 0 = (ns.drop 2).getD 2 0 := by simp [List.getD_eq_getElem?_getD]
      rw [ey] at hy
      have c1 := A.cell 3 (.int .u8 0) rfl
      have f1 := A.free 3 (by show 3 < 7; omega)
      have A' : Box wr (w.heap.size + 1) ((.int .i64 pr :: .int .u8 ((ns.drop 2).getD 0 0) :: .int .u8 ((ns.drop 2).getD 1 0) :: []) ++ (.int .u8 0 :: [.int .u8 0, .int .u8 0, .int .u8 0])) := A
      have A2 := A'.set (v' := .int .u8 ((ns.drop 2).getD 2 0)) (o := 3) rfl
      have g := setCell_grown wr (w.heap.size + 1) 3 (.int .u8 ((ns.drop 2).getD 2 0))
      have D2 := D.kept (by omega) g
      have W2 := below_grown W g (by omega) (Nat.le_of_lt D.lt)
      have H1 := hide (show Box _ (w.heap.size + 1) (tl pr (ns.drop 2) 3) from A2)
      clear A A' A2 hc Y D W g ey
      generalize (ns.drop 2).getD 2 0 = y at *
      go_wp2
      go_roundw
      case rel => exact ⟨3, by omega, rfl, H1.out, D2, W2⟩
      case measure => simp [intOf]
    · have hy := hc 5 (by omega)
      have ey : ns.getD 5 0 = (ns.drop 2).getD 3 0 := by simp [List.getD_eq_getElem?_getD]
      rw [ey] at hy
      have c1 := A.cell 4 (.int .u8 0) rfl
      have f1 := A.free 4 (by show 4 < 7; omega)
      have A' : Box wr (w.heap.size + 1) ((.int .i64 pr :: .int .u8 ((ns.drop 2).getD 0 0) :: .int .u8 ((ns.drop 2).getD 1 0) :: .int .u8 ((ns.drop 2).getD 2 0) :: []) ++ (.int .u8 0 :: [.int .u8 0, .int .u8 0])) := A
      have A2 := A'.set (v' := .int .u8 ((ns.drop 2).getD 3 0)) (o := 4) rfl
      have g := setCell_grown wr (w.heap.size + 1) 4 (.int .u8 ((ns.drop 2).getD 3 0))
      have D2 := D.kept (by omega) g
      have W2 := below_grown W g (by omega) (Nat.le_of_lt D.lt)
      have H1 := hide (show Box _ (w.heap.size + 1) (tl pr (ns.drop 2) 4) from A2)
      clear A A' A2 hc Y D W g ey
      generalize (ns.drop 2).getD 3 0 = y at *
      go_wp2
      go_roundw
      case rel => exact ⟨4, by omega, rfl, H1.out, D2, W2⟩
      case measure => simp [intOf]
    · have hy := hc 6 (by omega)
      have ey : ns.getD 6 0 = (ns.drop 2).getD 4 0 := by simp [List.getD_eq_getElem?_getD]
      rw [ey] at hy
      have c1 := A.cell 5 (.int .u8 0) rfl
      have f1 := A.free 5 (by show 5 < 7; omega)
      have A' : Box wr (w.heap.size + 1) ((.int .i64 pr :: .int .u8 ((ns.drop 2).getD 0 0) :: .int .u8 ((ns.drop 2).getD 1 0) :: .int .u8 ((ns.drop 2).getD 2 0) :: .int .u8 ((ns.drop 2).getD 3 0) :: []) ++ (.int .u8 0 :: [.int .u8 0])) := A
      have A2 := A'.set (v' := .int .u8 ((ns.drop 2).getD 4 0)) (o := 5) rfl
      have g := setCell_grown wr (w.heap.size + 1) 5 (.int .u8 ((ns.drop 2).getD 4 0))
      have D2 := D.kept (by omega) g
      have W2 := below_grown W g (by omega) (Nat.le_of_lt D.lt)
      have H1 := hide (show Box _ (w.heap.size + 1) (tl pr (ns.drop 2) 5) from A2)
      clear A A' A2 hc Y D W g ey
      generalize (ns.drop 2).getD 4 0 = y at *
      go_wp2
      go_roundw
      case rel => exact ⟨5, by omega, rfl, H1.out, D2, W2⟩
      case measure => simp [intOf]
    · have hy := hc 7 (by omega)
      have ey : ns.getD 7 0 = (ns.drop 2).getD 5 0 := by simp [List.getD_eq_getElem?_getD]
      rw [ey] at hy
      have c1 := A.cell 6 (.int .u8 0) rfl
      have f1 := A.free 6 (by show 6 < 7; omega)
      have A' : Box wr (w.heap.size + 1) ((.int .i64 pr :: .int .u8 ((ns.drop 2).getD 0 0) :: .int .u8 ((ns.drop 2).getD 1 0) :: .int .u8 ((ns.drop 2).getD 2 0) :: .int .u8 ((ns.drop 2).getD 3 0) :: .int .u8 ((ns.drop 2).getD 4 0) :: []) ++ (.int .u8 0 :: [])) := A
      have A2 := A'.set (v' := .int .u8 ((ns.drop 2).getD 5 0)) (o := 6) rfl
      have g := setCell_grown wr (w.heap.size + 1) 6 (.int .u8 ((ns.drop 2).getD 5 0))
      have D2 := D.kept (by omega) g
      have W2 := below_grown W g (by omega) (Nat.le_of_lt D.lt)
      have H1 := hide (show Box _ (w.heap.size + 1) (tl pr (ns.drop 2) 6) from A2)
      clear A A' A2 hc Y D W g ey
      generalize (ns.drop 2).getD 5 0 = y at *
      go_wp2
      go_roundw
      case rel => exact ⟨6, by omega, rfl, H1.out, D2, W2⟩
      case measure => simp [intOf]
    · clear hc Y
      have A3 : Box wr (w.heap.size + 1) (icl (idt ns)) := by
        have e : tl pr (ns.drop 2) 6 = icl (idt ns) := by
          rw [tl6, ← HP.out]
          simp [idt, List.getD_eq_getElem?_getD]
        rw [← e]
        exact A
      have a3 := A3.at_
      have D2 : Box wr w.heap.size ([] ++ (icl zeroI ++ [])) := D
      have tk1 : True := trivial
      have tk2 : True := trivial
      clear A D
      go_wp2_with (first | (have _t := tk1; refine wpl_id (.tmp 3) rfl a3 ?_ ?_ ?_; rfl; rfl; clear tk1) | (have _t := tk2; refine wpl_putI (idt ns) [] [] zeroI (.tmp 2) (.tmp 21) rfl D2 rfl ?_ ?_ ?_ ?_; rfl; rfl; rfl; clear tk2; intro w6 D4 g4))
      have W2 := below_grown W g4 (Nat.le_refl _) (Nat.le_of_lt D2.lt)
      have D5 : Box w6 w.heap.size (icl (idt ns)) := D4
      exact bodyPost_ret (v := .agg (IC (idt ns))) (res_id_cell rfl rfl D5) rfl ⟨rfl, W2⟩
end
end Go.Proofs.Ytdaglmimfkcmeaa
