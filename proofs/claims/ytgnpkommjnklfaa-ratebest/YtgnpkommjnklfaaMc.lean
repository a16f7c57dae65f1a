/- Contract of the program's Best. -/
import Derived.Test.YtgnpkommjnklfaaMa
import Derived.Test.YtgnpkommjnklfaaA2
namespace Go.Proofs.Ytgnpkommjnklfaa
open Go.RowKit

theorem gt_zero {x : Nat} (h : nn x) : (FloatKind.f64.format.order x 0 == some .gt) = decide (0 < vl x) := by
  have := gt_eq (x := x) (y := 0) h (by decide)
  rwa [c0_vl] at this
theorem pos_cases (x : Nat) : (posB x = true ∧ nanB x = false ∧ (FloatKind.f64.format.order x 0 == some .gt) = true) ∨ (posB x = false ∧ nanB x = false ∧ (FloatKind.f64.format.order x 0 == some .gt) = false) ∨ (posB x = false ∧ nanB x = true ∧ (FloatKind.f64.format.order x 0 == some .gt) = false) := by
  unfold posB
  by_cases h : nn x
  · by_cases p : 0 < vl x
    · exact Or.inl ⟨by simp [h, p], nanB_f h, by rw [gt_zero h]; simp [p]⟩
    · exact Or.inr (Or.inl ⟨by simp [p], nanB_f h, by rw [gt_zero h]; simp; omega⟩)
  · exact Or.inr (Or.inr ⟨by simp [h], nanB_t h, nan_gt h 0⟩)

/-- is it better than the best so far? -/
def btB (xs : List Nat) (b : Int) (x : Nat) : Bool := decide (posB x = true ∧ (b < 0 ∨ 0 < cmp3 (key x) (key (xs.getD b.toNat 0))))

/-- the best so far and the list, in memory -/
structure Bs (w : World) (N bb bl : Nat) (b : Int) (v : Value) : Prop where
  cb : w.cell? ⟨bb, 0, none⟩ = some (.int .i64 b)
  cl : w.cell? ⟨bl, 0, none⟩ = some v
  fb : w.frozen? ⟨bb, 0, none⟩ = false
  lb : N ≤ bb
  ll : N ≤ bl
  ne : bb ≠ bl

set_option maxHeartbeats 1000000 in
theorem bet30 (x : Nat) (xs : List Nat) (ao : Option Addr) (n c N bb bl : Nat) (b : Int) (w : World) (hF : Flt w N ao n c xs) (hB : Bs w N bb bl b (.slice ao n c)) (hb : b < 0 ∨ (0 ≤ b ∧ b < n)) :
    Calls Try.prog 30 #[.float .f64 x, .pointer (some ⟨bb, 0, none⟩), .pointer (some ⟨bl, 0, none⟩)] w fun e w' => e = .returned (.bool (btB xs b x)) ∧ w' = w := by
  obtain ⟨c1, c2, -, -, -, -⟩ := hB
  have hl := hF.len
  rcases pos_cases x with ⟨p, na, hg⟩ | ⟨p, na, hg⟩ | ⟨p, na, hg⟩
  · rcases hb with h | ⟨h0, h1⟩
    · have e : btB xs b x = true := by unfold btB; simp [p, h]
      rw [e]
      clear e p hF
      go_enter Try.func30, Try.ntmps30
      go_wp2_with (first | (go_at_call 20; refine (isNaN20 _ _).mono ?_; rintro e w1 ⟨rfl, rfl⟩))
      all_goals (go_ret; exact ⟨rfl, rfl⟩)
    · obtain ⟨k, rfl⟩ := Int.eq_ofNat_of_zero_le h0
      obtain ⟨bq, o, rfl, hbN, hc⟩ := hF.at (by omega)
      have hx := hc k (by omega)
      have hm := hF.mx
      have hle := hF.le
      unfold maxLen at hm
      have e : btB xs (k : Int) x = decide (0 < cmp3 (key x) (key (xs.getD k 0))) := by
        unfold btB
        rw [Int.toNat_natCast]
        have : ¬ ((k : Int) < 0) := by omega
        simp [p, this]
      rw [e]
      clear e p hF hc
      generalize xs.getD k 0 = y at *
      go_enter Try.func30, Try.ntmps30
      go_wp2_with (first | (go_at_call 20; refine (isNaN20 _ _).mono ?_; rintro e w1 ⟨rfl, rfl⟩) | (go_at_call 19; refine (cmp19 _ _ _).mono ?_; rintro e w1 ⟨rfl, rfl⟩))
      all_goals (go_ret; exact ⟨rfl, rfl⟩)
  all_goals
    have e : btB xs b x = false := by unfold btB; simp [p]
    rw [e]
    clear e p hF
    go_enter Try.func30, Try.ntmps30
    go_wp2_with (first | (go_at_call 20; refine (isNaN20 _ _).mono ?_; rintro e w1 ⟨rfl, rfl⟩))
    all_goals (go_ret; exact ⟨rfl, rfl⟩)

theorem set31 (i : Int) (x : Nat) (v : Value) (N bb bl : Nat) (b : Int) (w : World) (hB : Bs w N bb bl b v) :
    Calls Try.prog 31 #[.int .i64 i, .float .f64 x, .pointer (some ⟨bb, 0, none⟩)] w fun e w' => e = .returned (.tuple #[]) ∧ Bs w' N bb bl i v ∧ Below N w w' := by
  obtain ⟨c1, c2, f1, l1, l2, ne⟩ := hB
  go_enter Try.func31, Try.ntmps31
  go_wp2
  go_end0
  have ne1 : (⟨bb, 0, none⟩ : Addr) ≠ ⟨bl, 0, none⟩ := fun h => ne (by injection h)
  refine ⟨rfl, ⟨World.cell?_setCell_same _ _ _ c1, ?_, by simp [f1], l1, l2, ne⟩, (Below.refl N w).setCell l1 _⟩
  rw [World.cell?_setCell_other _ _ _ _ ne1]
  exact c2

theorem bst_range (xs : List Nat) (k : Nat) : bstF xs k < 0 ∨ (0 ≤ bstF xs k ∧ bstF xs k < k) := by
  rcases bst_is xs k with ⟨h, -⟩ | ⟨h1, h2, -, -⟩
  · left; omega
  · right; omega
theorem bst_yes {xs : List Nat} {k : Nat} (h : btB xs (bstF xs k) (xs.getD k 0) = true) : bstF xs (k + 1) = k := by
  unfold btB at h
  simp only [decide_eq_true_eq] at h
  show bstep xs (bstF xs k) k = k
  unfold bstep
  rw [if_pos h]
theorem bst_no {xs : List Nat} {k : Nat} (h : btB xs (bstF xs k) (xs.getD k 0) = false) : bstF xs (k + 1) = bstF xs k := by
  unfold btB at h
  simp only [decide_eq_false_iff_not] at h
  show bstep xs (bstF xs k) k = _
  unfold bstep
  rw [if_neg h]

set_option maxHeartbeats 1000000 in
theorem each27b (N bb bl : Nat) (ao : Option Addr) (n c : Nat) (xs : List Nat) (w : World) (hF : Flt w N ao n c xs) (hT : Bs w N bb bl (-1) (.slice ao n c)) (hn : n ≤ 1000) :
    Calls Try.prog 27 #[.slice ao n c, .func (.func 30) #[] #[.pointer (some ⟨bb, 0, none⟩), .pointer (some ⟨bl, 0, none⟩)], .func (.func 31) #[] #[.pointer (some ⟨bb, 0, none⟩)]] w fun e w' => e = .returned (.tuple #[]) ∧ Bs w' N bb bl (bstF xs n) (.slice ao n c) ∧ Below N w w' := by
  have hl := hF.len
  go_enter Try.func27, Try.ntmps27
  go_wp2
  go_loopw [10] (fun i wr => ∃ k : Nat, k ≤ n ∧ i = .int .i64 k ∧ Bs wr N bb bl (bstF xs k) (.slice ao n c) ∧ Below N w wr) (fun i _ => n - (intOf i).toNat)
  case atStart => exact ⟨0, Nat.zero_le _, rfl, hT, Below.refl _ _⟩
  case round =>
    obtain ⟨k, hk, rfl, T, hB⟩ := hrel
    by_cases hlt : k < n
    · have F := hF.on hB
      have ba := bst_range xs k
      have ba' : bstF xs k < 0 ∨ (0 ≤ bstF xs k ∧ bstF xs k < n) := by omega
      clear ba
      obtain ⟨b, o, e, hbN, hc⟩ := F.at (by omega)
      have hx := hc k hlt
      rcases Bool.eq_false_or_eq_true (btB xs (bstF xs k) (xs.getD k 0)) with f | f
      · have S := hide (bst_yes f)
        have call := fun w1 F1 B1 => bet30 (xs.getD k 0) xs ao n c N bb bl (bstF xs k) w1 F1 B1 ba'
        rw [f] at call
        clear hc f
        subst e
        generalize xs.getD k 0 = x at *
        go_wp2_with (first | (go_at_call 30; refine (call _ F T).mono ?_; rintro e w1 ⟨rfl, rfl⟩) | (go_at_call 31; refine (set31 _ _ _ _ _ _ _ _ T).mono ?_; rintro e w1 ⟨rfl, T1, hB1⟩))
        go_roundw
        case rel => exact ⟨k + 1, by omega, by go_num, by rw [S.out]; exact T1, hB.trans hB1⟩
        case measure => simp [intOf]; omega
      · have S := hide (bst_no f)
        have call := fun w1 F1 B1 => bet30 (xs.getD k 0) xs ao n c N bb bl (bstF xs k) w1 F1 B1 ba'
        rw [f] at call
        clear hc f
        subst e
        generalize xs.getD k 0 = x at *
        go_wp2_with (first | (go_at_call 30; refine (call _ F T).mono ?_; rintro e w1 ⟨rfl, rfl⟩))
        go_roundw
        case rel => exact ⟨k + 1, by omega, by go_num, by rw [S.out]; exact T, hB⟩
        case measure => simp [intOf]; omega
    · go_wp2
      go_end0
      have e : k = n := by omega
      rw [e] at T
      exact ⟨rfl, T, hB⟩

set_option maxHeartbeats 1000000 in
theorem best17 (ao : Option Addr) (n c : Nat) (xs : List Nat) (w : World) (hF : Flt w w.heap.size ao n c xs) (hn : n ≤ 1000) :
    Calls Try.prog 17 #[.slice ao n c] w fun e w' => e = .returned (.int .i64 (bstF xs n)) ∧ Below w.heap.size w w' := by
  have hmf : ∀ (fn : Fn) (first cap : Array Value) (w : World), (Instr.makeFunc fn first cap).run Try.prog w = .ok (.func fn first cap) w := fun _ _ _ _ => rfl
  have hB0 : Below w.heap.size w ((w.alloc (.cells #[.slice ao n c] 28)).alloc (.cells #[.int .i64 (-1)] 3)) := ((Below.refl _ _).alloc (Nat.le_refl _) _).alloc (by simp) _
  go_enter Try.func17, Try.ntmps17
  go_wp2_with fail
  refine (each27b w.heap.size (w.heap.size + 1) w.heap.size ao n c xs _ (hF.on hB0) ⟨by simp, by simp, by simp, by omega, Nat.le_refl _, by omega⟩ hn).mono ?_
  rintro e w1 ⟨rfl, T, hB⟩
  replace hB := hB0.trans hB
  obtain ⟨c1, -, -, -, -, -⟩ := T
  clear hB0 hmf hF
  go_wp2
  go_ret
  exact ⟨rfl, hB⟩

end Go.Proofs.Ytgnpkommjnklfaa
