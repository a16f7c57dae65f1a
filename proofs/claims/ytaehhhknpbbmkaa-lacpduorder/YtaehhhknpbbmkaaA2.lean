/- Contracts of Right, as the program and as the document has it. -/
import Derived.Test.YtaehhhknpbbmkaaA1
namespace Go.Proofs.Ytaehhhknpbbmkaa
open Go.RowKit

set_option maxRecDepth 100000 in
set_option maxHeartbeats 400000 in
theorem within28 (n m : Int) (w : World) :
    Calls Try.prog 28 #[.int .i64 n, .int .i64 m] w fun e w' => e = .returned (.bool (decide (0 ≤ n ∧ n ≤ m))) ∧ w' = w := by
  by_cases h1 : 0 ≤ n
  · by_cases h2 : n ≤ m
    all_goals
      go_enter Try.func28, Try.ntmps28
      go_wp2
      go_ret
      exact ⟨ret_bool (by simp [h1, h2]), rfl⟩
  · go_enter Try.func28, Try.ntmps28
    go_wp2
    go_ret
    exact ⟨ret_bool (by simp; omega), rfl⟩

section
attribute [local go_sem] IC0 IC7 IC8 IC9 IC10 LC22
set_option maxRecDepth 100000 in
set_option maxHeartbeats 1000000 in
theorem info27 (x : Inf) (w : World) :
    Calls Try.prog 27 #[.agg (IC x)] w fun e w' => e = .returned (.bool (irt x)) ∧ Below w.heap.size w w' := by
  go_enter Try.func27, Try.ntmps27
  go_wp2_with (go_at_call 28; refine (within28 _ _ _).mono ?_; rintro e w' ⟨rfl, rfl⟩)
  all_goals
    go_ret
    exact ⟨ret_bool (by rw [Bool.eq_iff_iff]; simp [irt]; omega), below_alloc _ _⟩
theorem lrt_1 {l : Lac} (h : irt l.a = false) : lrt l = false := by simp [lrt, h]
theorem lrt_2 {l : Lac} (h : irt l.a = true) (k : irt l.p = false) : lrt l = false := by simp [lrt, h, k]
theorem lrt_3 {l : Lac} (h : irt l.a = true) (k : irt l.p = true) : lrt l = w16 l.dl := by simp [lrt, h, k]
set_option maxRecDepth 100000 in
set_option maxHeartbeats 1000000 in
theorem right13 (l : Lac) (w : World) :
    Calls Try.prog 13 #[.agg (LC l)] w fun e w' => e = .returned (.bool (lrt l)) ∧ Below w.heap.size w w' := by
  have A0 : Box (w.alloc (.cells (LC l) 27)) w.heap.size (lcl l) := Box.new w (lcl l) 27
  have B0 := below_alloc w (.cells (LC l) 27)
  cases h1 : irt l.a
  · rw [lrt_1 h1]
    have a0 := A0.act
    clear A0
    go_enter Try.func13, Try.ntmps13
    go_wp2_with (refine wpl_info (.tmp 3) rfl a0 ?_ ?_ ?_; rfl; rfl)
    refine (info27 _ _).mono ?_
    rintro e w1 ⟨rfl, hb⟩
    clear a0
    go_wp2
    go_ret
    exact ⟨rfl, belowOn B0 hb⟩
  · cases h2 : irt l.p
    · rw [lrt_2 h1 h2]
      have a0 := A0.act
      go_enter Try.func13, Try.ntmps13
      go_wp2_with (refine wpl_info (.tmp 3) rfl a0 ?_ ?_ ?_; rfl; rfl)
      refine (info27 _ _).mono ?_
      rintro e w1 ⟨rfl, hb⟩
      have p0 := (A0.on hb).par
      replace B0 := belowOn B0 hb
      clear a0 A0 hb
      go_wp2_with (refine wpl_info (.tmp 7) rfl p0 ?_ ?_ ?_; rfl; rfl)
      refine (info27 _ _).mono ?_
      rintro e w2 ⟨rfl, hb⟩
      replace B0 := belowOn B0 hb
      clear p0 hb
      go_wp2
      go_ret
      exact ⟨rfl, B0⟩
    · rw [lrt_3 h1 h2]
      have a0 := A0.act
      go_enter Try.func13, Try.ntmps13
      go_wp2_with (refine wpl_info (.tmp 3) rfl a0 ?_ ?_ ?_; rfl; rfl)
      refine (info27 _ _).mono ?_
      rintro e w1 ⟨rfl, hb⟩
      replace A0 := A0.on hb
      have p0 := A0.par
      replace B0 := belowOn B0 hb
      clear a0 hb
      go_wp2_with (refine wpl_info (.tmp 7) rfl p0 ?_ ?_ ?_; rfl; rfl)
      refine (info27 _ _).mono ?_
      rintro e w2 ⟨rfl, hb⟩
      have c0 := (A0.on hb).cell 22 (.int .i64 l.dl) rfl
      replace B0 := belowOn B0 hb
      clear p0 hb A0
      go_wp2_with (go_at_call 28; refine (within28 _ _ _).mono ?_; rintro e w' ⟨rfl, rfl⟩)
      go_ret
      exact ⟨ret_bool (by rw [Bool.eq_iff_iff]; simp [w16]), B0⟩

/-- Are all numbers from 0 to another one? -/
def allIn (m : Int) (zs : List Int) : Bool := zs.all fun z => decide (0 ≤ z ∧ z ≤ m)
theorem allIn_no {m : Int} {zs : List Int} {k : Nat} (hk : k < zs.length) (h : ¬ (0 ≤ zs.getD k 0 ∧ zs.getD k 0 ≤ m)) : allIn m zs = false := by
  rw [Bool.eq_false_iff]
  intro e
  simp only [allIn, List.all_eq_true, decide_eq_true_eq] at e
  refine h ?_
  rw [List.getD_eq_getElem?_getD, List.getElem?_eq_getElem hk]
  exact e _ (List.getElem_mem hk)
theorem allIn_yes {m : Int} {zs : List Int} {n : Nat} (hn : zs.length = n) (h : ∀ j, j < n → 0 ≤ zs.getD j 0 ∧ zs.getD j 0 ≤ m) : allIn m zs = true := by
  simp only [allIn, List.all_eq_true, decide_eq_true_eq]
  intro x hx
  obtain ⟨j, hj, rfl⟩ := List.getElem_of_mem hx
  have := h j (by omega)
  rw [List.getD_eq_getElem?_getD, List.getElem?_eq_getElem hj] at this
  exact this
set_option maxRecDepth 100000 in
set_option maxHeartbeats 1000000 in
theorem within26 (m : Int) (zs : List Int) (b n : Nat) (w : World) (hn : zs.length = n) (hs : n ≤ 100) (hc : ∀ j, j < n → w.cell? ⟨b, j, none⟩ = some (.int .i64 (zs.getD j 0))) :
    Calls Try.prog 26 #[.int .i64 m, .slice (some ⟨b, 0, none⟩) n n] w fun e w' => e = .returned (.bool (allIn m zs)) ∧ w' = w := by
  have HN := hide hn
  have HC := hide hc
  clear hn hc
  go_enter Try.func26, Try.ntmps26
  go_wp2
  go_loop [9] (fun i => ∃ k : Nat, k ≤ n ∧ i = .int .i64 k ∧ ∀ j, j < k → 0 ≤ zs.getD j 0 ∧ zs.getD j 0 ≤ m) (fun i => n - (intOf i).toNat)
  case atStart => exact ⟨0, Nat.zero_le _, rfl, fun j hj => by omega⟩
  case round =>
    obtain ⟨k, hk, rfl, hall⟩ := hrel
    have HA := hide hall
    clear hall
    by_cases hlt : k < n
    · have hc := HC.out k hlt
      have hkl : k < zs.length := by rw [HN.out]; exact hlt
      have HNO : Hid (¬ (0 ≤ zs.getD k 0 ∧ zs.getD k 0 ≤ m) → allIn m zs = false) := hide (fun h => allIn_no hkl h)
      have HYES : Hid (∀ x, x = zs.getD k 0 → 0 ≤ x → x ≤ m → ∀ j, j < k + 1 → 0 ≤ zs.getD j 0 ∧ zs.getD j 0 ≤ m) := hide (fun x hx h0 h1 j hj => by
        by_cases e : j = k
        · subst e; subst hx; exact ⟨h0, h1⟩
        · exact HA.out j (by omega))
      generalize hz : zs.getD k 0 = z at hc HNO HYES
      clear hz hkl
      by_cases h0 : 0 ≤ z
      · by_cases h1 : z ≤ m
        · have HY := hide (HYES.out z rfl h0 h1)
          clear HYES HNO
          go_wp2
          go_round
          case rel => exact ⟨k + 1, by omega, by go_num, HY.out⟩
          case measure => simp [intOf]; omega
        · have h1' : m < z := by omega
          have hf := hide (HNO.out (fun h => h1 h.2))
          clear h1 HYES HNO
          go_wp2
          go_ret
          exact ⟨ret_bool hf.out.symm, rfl⟩
      · have hf := hide (HNO.out (fun h => h0 h.1))
        clear HYES HNO
        go_wp2
        go_ret
        exact ⟨ret_bool hf.out.symm, rfl⟩
    · have hy := hide (allIn_yes (m := m) HN.out (fun j hj => HA.out j (by omega)))
      go_wp2
      go_ret
      exact ⟨ret_bool hy.out.symm, rfl⟩
theorem cells4 (w : World) (q : Nat) (hq : q = w.heap.size) (a b c d : Int) : ∀ j, j < 4 → (w.alloc (.cells #[.int .i64 a, .int .i64 b, .int .i64 c, .int .i64 d] 3)).cell? ⟨q, j, none⟩ = some (.int .i64 ([a, b, c, d].getD j 0)) := by
  intro j hj
  rw [World.cell?_alloc_at _ _ _ _ hq]
  rcases (show j = 0 ∨ j = 1 ∨ j = 2 ∨ j = 3 by omega) with rfl | rfl | rfl | rfl <;> rfl
theorem cells1 (w : World) (q : Nat) (hq : q = w.heap.size) (a : Int) : ∀ j, j < 1 → (w.alloc (.cells #[.int .i64 a] 3)).cell? ⟨q, j, none⟩ = some (.int .i64 ([a].getD j 0)) := by
  intro j hj
  obtain rfl : j = 0 := by omega
  rw [World.cell?_alloc_at _ _ _ _ hq]
  rfl
theorem irt_split (x : Inf) : irt x = (allIn 65535 [x.sp, x.ky, x.pp, x.po] && allIn 255 [x.st]) := by
  rw [Bool.eq_iff_iff]
  simp only [irt, allIn, List.all_cons, List.all_nil, Bool.and_true, Bool.and_eq_true, decide_eq_true_eq]
  omega
theorem w16_all (n : Int) : allIn 65535 [n] = w16 n := by simp [allIn, w16]
set_option maxRecDepth 100000 in
set_option maxHeartbeats 1000000 in
theorem info25 (x : Inf) (w : World) :
    Calls Try.prog 25 #[.agg (IC x)] w fun e w' => e = .returned (.bool (irt x)) ∧ Below w.heap.size w w' := by
  have C4 := hide (cells4 (w.alloc (.cells (IC x) 25)) (w.heap.size + 1) (by simp) x.sp x.ky x.pp x.po)
  have C1 := hide (cells1 ((w.alloc (.cells (IC x) 25)).alloc (.cells #[.int .i64 x.sp, .int .i64 x.ky, .int .i64 x.pp, .int .i64 x.po] 3)) (w.heap.size + 1 + 1) (by simp) x.st)
  rw [irt_split]
  cases h1 : allIn 65535 [x.sp, x.ky, x.pp, x.po]
  · go_enter Try.func25, Try.ntmps25
    go_wp2_with fail
    refine (within26 65535 [x.sp, x.ky, x.pp, x.po] _ 4 _ rfl (by omega) C4.out).mono ?_
    rintro e w1 ⟨rfl, rfl⟩
    go_wp2
    go_ret
    exact ⟨rfl, by go_grown⟩
  · go_enter Try.func25, Try.ntmps25
    go_wp2_with fail
    refine (within26 65535 [x.sp, x.ky, x.pp, x.po] _ 4 _ rfl (by omega) C4.out).mono ?_
    rintro e w1 ⟨rfl, rfl⟩
    go_wp2_with fail
    refine (within26 255 [x.st] _ 1 _ rfl (by omega) C1.out).mono ?_
    rintro e w1 ⟨rfl, rfl⟩
    go_wp2
    go_ret
    exact ⟨rfl, by go_grown⟩
set_option maxRecDepth 100000 in
set_option maxHeartbeats 1000000 in
theorem right12 (l : Lac) (w : World) :
    Calls Try.prog 12 #[.agg (LC l)] w fun e w' => e = .returned (.bool (lrt l)) ∧ Below w.heap.size w w' := by
  have A0 : Box (w.alloc (.cells (LC l) 27)) w.heap.size (lcl l) := Box.new w (lcl l) 27
  have B0 := below_alloc w (.cells (LC l) 27)
  cases h1 : irt l.a
  · rw [lrt_1 h1]
    have a0 := A0.act
    clear A0
    go_enter Try.func12, Try.ntmps12
    go_wp2_with (refine wpl_info (.tmp 3) rfl a0 ?_ ?_ ?_; rfl; rfl)
    refine (info25 _ _).mono ?_
    rintro e w1 ⟨rfl, hb⟩
    clear a0
    go_wp2
    go_ret
    exact ⟨rfl, belowOn B0 hb⟩
  · cases h2 : irt l.p
    · rw [lrt_2 h1 h2]
      have a0 := A0.act
      go_enter Try.func12, Try.ntmps12
      go_wp2_with (refine wpl_info (.tmp 3) rfl a0 ?_ ?_ ?_; rfl; rfl)
      refine (info25 _ _).mono ?_
      rintro e w1 ⟨rfl, hb⟩
      have p0 := (A0.on hb).par
      replace B0 := belowOn B0 hb
      clear a0 A0 hb
      go_wp2_with (refine wpl_info (.tmp 7) rfl p0 ?_ ?_ ?_; rfl; rfl)
      refine (info25 _ _).mono ?_
      rintro e w2 ⟨rfl, hb⟩
      replace B0 := belowOn B0 hb
      clear p0 hb
      go_wp2
      go_ret
      exact ⟨rfl, B0⟩
    · rw [lrt_3 h1 h2, ← w16_all]
      have a0 := A0.act
      go_enter Try.func12, Try.ntmps12
      go_wp2_with (refine wpl_info (.tmp 3) rfl a0 ?_ ?_ ?_; rfl; rfl)
      refine (info25 _ _).mono ?_
      rintro e w1 ⟨rfl, hb⟩
      replace A0 := A0.on hb
      have p0 := A0.par
      replace B0 := belowOn B0 hb
      clear a0 hb
      go_wp2_with (refine wpl_info (.tmp 7) rfl p0 ?_ ?_ ?_; rfl; rfl)
      refine (info25 _ _).mono ?_
      rintro e w2 ⟨rfl, hb⟩
      have c0 := (A0.on hb).cell 22 (.int .i64 l.dl) rfl
      replace B0 := belowOn B0 hb
      have C1 := hide (cells1 w2 w2.heap.size rfl l.dl)
      clear p0 hb A0
      go_wp2_with fail
      refine (within26 65535 [l.dl] _ 1 _ rfl (by omega) C1.out).mono ?_
      rintro e w3 ⟨rfl, rfl⟩
      go_wp2
      go_ret
      exact ⟨rfl, belowOn B0 (below_alloc _ _)⟩
end
end Go.Proofs.Ytaehhhknpbbmkaa
