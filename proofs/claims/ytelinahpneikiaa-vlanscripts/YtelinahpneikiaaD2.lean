/- Contracts: the document's Members; SameInts. -/
import Derived.Test.YtelinahpneikiaaD1
namespace Go.Proofs.Ytelinahpneikiaa
open Go.RowKit Go.PlainAid

set_option maxRecDepth 100000 in
set_option maxHeartbeats 4000000 in
theorem members14 (g : Nat) (lv : Value) (T : Tb) (v : Int) (w : World) (R : RT w g lv T) :
    Calls Try.prog 14 #[.pointer (some ⟨g + 1, 0, none⟩), .int .i64 v] w fun e w' => ∃ ao c, e = .returned (.slice ao (mbs T.l v T.n).length c) ∧ Its w' w.heap.size ao (mbs T.l v T.n).length c (mbs T.l v T.n) ∧ Below w.heap.size w w' := by
  have hn := R.wf.n64
  have HR := hide R
  clear R
  go_enter Try.func14, Try.ntmps14
  go_wp2
  go_loopw [5, 6] (fun s i wr => ∃ k : Nat, k ≤ T.n ∧ i = .int .i64 k ∧ Ms w wr s (mbs T.l v k)) (fun _ i _ => T.n - (intOf i).toNat)
  case atStart => exact ⟨0, Nat.zero_le _, rfl, ⟨IRow.nil _ _, Below.refl _ _⟩⟩
  case round =>
    obtain ⟨k, hk, rfl, M⟩ := hrel
    have RW := hide (HR.out.on M.B)
    have c0 := RW.out.bx.cell 0 _ rfl
    by_cases hlt : k < T.n
    · have hlt' : (k : Int) < T.n := by omega
      have HM := hide M
      have hle := mbs_len T.l v k
      have q := fun w H => find29 g lv T v k w H
      clear M
      rcases Bool.eq_false_or_eq_true (hs T.l v k) with hm | hm
      · have e1 := hide (mbs_yes hm)
        have hfx : fx T.l v k = (ix T.l v k : Int) := by rw [fx, hm]; rfl
        rw [hfx] at q
        clear hm hfx
        generalize mbs T.l v k = xs at *
        generalize ix T.l v k = q0 at *
        have R2 := hide (HM.out.row.alloc (.cells #[.int .i64 k] 3))
        have B2 := hide (belowOn HM.out.B (below_alloc wr (.cells #[.int .i64 k] 3)))
        have hs2 : Hid (w.heap.size ≤ (wr.alloc (.cells #[.int .i64 k] 3)).heap.size) := hide B2.out.size
        have C2 : Hid ((wr.alloc (.cells #[.int .i64 k] 3)).cell? ⟨wr.heap.size, 0, none⟩ = some (.int .i64 k)) := hide (by rw [World.cell?_alloc_at _ _ _ _ rfl]; rfl)
        have hl1 : Hid (xs.length + 1 ≤ 100000) := hide (by omega)
        have hq : ((0 : Int) ≤ q0) := by omega
        clear HM
        have tk1 : True := trivial
        go_wp2_with (first | (go_at_call 29; refine (q _ RW.out).mono ?_; rintro e w' ⟨rfl, rfl⟩) | (have _t := tk1; at_builtin; refine wpl_iapp rfl (.tmp 20) (.tmp 22) rfl w.heap.size _ _ _ rfl R2.out _ k rfl C2.out hl1.out hs2.out ?_; clear tk1))
        intro v3 w3 R3 B3 _
        obtain ⟨ao3, c3, rfl, -⟩ := R3.its
        have M3 : Hid (Ms w w3 (.slice ao3 (xs.length + 1) c3) (xs ++ [(k : Int)])) := hide ⟨by simpa using R3, B2.out.trans B3⟩
        clear R3 B3 R2 B2 C2 hs2 c0
        go_wp2
        go_roundw
        case rel => exact ⟨k + 1, by omega, by go_num, by rw [e1.out]; exact M3.out⟩
        case measure => simp [intOf]; omega
      · have e1 := hide (mbs_no hm)
        have hfx : fx T.l v k = -1 := by rw [fx, hm]; rfl
        rw [hfx] at q
        clear hm hfx
        go_wp2_with (first | (go_at_call 29; refine (q _ RW.out).mono ?_; rintro e w' ⟨rfl, rfl⟩))
        go_roundw
        case rel => exact ⟨k + 1, by omega, by go_num, by rw [e1.out]; exact HM.out⟩
        case measure => simp [intOf]; omega
    · obtain rfl : k = T.n := by omega
      obtain ⟨ao, c, rfl, hI⟩ := M.row.its
      have HI := hide hI
      have HB := hide M.B
      clear M hI
      go_wp2
      go_ret
      exact ⟨ao, c, rfl, HI.out, HB.out⟩
theorem drewB {N : Nat} {w w1 : World} (h : Below N w w1) (q : Nat) : Below N w (w1.drewN q) := by
  induction q with
  | zero => exact h
  | succ q ih => exact ih.drew
theorem eq_of_all {xs ys : List Int} {n : Nat} (h1 : xs.length = n) (h2 : ys.length = n) (h : ∀ j, j < n → xs.getD j 0 = ys.getD j 0) : xs = ys := by
  apply List.ext_getElem?
  intro j
  by_cases hj : j < n
  · have := h j hj
    rw [List.getD_eq_getElem?_getD, List.getD_eq_getElem?_getD, List.getElem?_eq_getElem (by omega), List.getElem?_eq_getElem (by omega)] at this
    rw [List.getElem?_eq_getElem (by omega), List.getElem?_eq_getElem (by omega)]
    simpa using this
  · rw [List.getElem?_eq_none (by omega), List.getElem?_eq_none (by omega)]
set_option maxRecDepth 100000 in
set_option maxHeartbeats 4000000 in
theorem same12 (A B : Nat) (ao bo : Option Addr) (n m c d : Nat) (xs ys : List Int) (w : World) (hx : Its w A ao n c xs) (hy : Its w B bo m d ys) :
    Calls Try.prog 12 #[.slice ao n c, .slice bo m d] w fun e w' => e = .returned (.bool (decide (xs = ys))) ∧ Below w.heap.size w w' := by
  have lx := hx.len
  have ly := hy.len
  have mx := hx.le
  have mx' := hx.mx
  have my := hy.le
  have my' := hy.mx
  unfold maxLen at mx' my'
  have HX := hide hx
  have HY := hide hy
  clear hx hy
  by_cases hnm : n = m
  · subst hnm
    go_enter Try.func12, Try.ntmps12
    go_wp2
    go_loopw [5] (fun i wr => ∃ k : Nat, k ≤ n ∧ i = .int .i64 k ∧ (∀ j, j < k → xs.getD j 0 = ys.getD j 0) ∧ Below w.heap.size w wr) (fun i _ => n - (intOf i).toNat)
    case atStart => exact ⟨0, Nat.zero_le _, rfl, fun j hj => by omega, Below.refl _ _⟩
    case round =>
      obtain ⟨k, hk, rfl, hE, hB⟩ := hrel
      by_cases hlt : k < n
      · have hlt' : (k : Int) < n := by omega
        have X := HX.out.on hB
        have Y := HY.out.on hB
        obtain ⟨b1, o1, rfl, hc1, -⟩ := X.at (by omega)
        obtain ⟨b2, o2, rfl, hc2, -⟩ := Y.at (by omega)
        have x1 := hc1 k hlt
        have y1 := hc2 k hlt
        have HE := hide hE
        have HB := hide hB
        clear hc1 hc2 X Y hE hB
        by_cases hxy : xs.getD k 0 = ys.getD k 0
        · have HK := hide hxy
          rw [hxy] at x1
          clear hxy
          generalize ys.getD k 0 = y at x1 y1
          have e9 : (y != y) = false := by simp
          go_wp2
          go_quiet (fail)
          go_wp2
          go_roundw
          case rel => exact ⟨k + 1, by omega, by go_num, fun j hj => by
            by_cases hjk : j = k
            · subst hjk; exact HK.out
            · exact HE.out j (by omega), drewB HB.out _⟩
          case measure => simp [intOf]; omega
        · have HK : Hid (¬ xs = ys) := hide (fun e => hxy (by rw [e]))
          have e9 : (xs.getD k 0 != ys.getD k 0) = true := by simpa using hxy
          clear hxy
          generalize ys.getD k 0 = y at *
          generalize xs.getD k 0 = x at *
          go_wp2
          go_quiet (fail)
          go_wp2
          go_ret
          exact ⟨ret_bool (by simp [HK.out]), drewB HB.out _⟩
      · have HK : Hid (xs = ys) := hide (eq_of_all lx ly (fun j hj => hE j (by omega)))
        have HB := hide hB
        clear hE hB
        go_wp2
        go_ret
        exact ⟨ret_bool (by simp [HK.out]), HB.out⟩
  · have HK : Hid (¬ xs = ys) := hide (fun e => hnm (by rw [← lx, ← ly, e]))
    have h9 : ((n : Int) != m) = true := by simp; omega
    clear hnm
    go_enter Try.func12, Try.ntmps12
    go_wp2
    go_ret
    exact ⟨ret_bool (by simp [HK.out]), Below.refl _ _⟩
end Go.Proofs.Ytelinahpneikiaa
