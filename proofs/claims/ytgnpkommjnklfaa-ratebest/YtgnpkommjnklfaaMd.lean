/- Contract of the document's Best. -/
import Derived.Test.YtgnpkommjnklfaaMc
import Derived.Test.YtgnpkommjnklfaaA3
import Derived.Deep.QuietTactic
import Derived.BigQuiet
namespace Go.Proofs.Ytgnpkommjnklfaa
open Go.RowKit

theorem pos_le (x : Nat) : (posB x = true ∧ nanB x = false ∧ (FloatKind.f64.format.order x 0 == some .lt || FloatKind.f64.format.order x 0 == some .eq) = false) ∨ (posB x = false ∧ nanB x = false ∧ (FloatKind.f64.format.order x 0 == some .lt || FloatKind.f64.format.order x 0 == some .eq) = true) ∨ (posB x = false ∧ nanB x = true) := by
  unfold posB
  by_cases h : nn x
  · by_cases p : 0 < vl x
    · exact Or.inl ⟨by simp [h, p], nanB_f h, by rw [le_zero h]; simp; omega⟩
    · exact Or.inr (Or.inl ⟨by simp [p], nanB_f h, by rw [le_zero h]; simp; omega⟩)
  · exact Or.inr (Or.inr ⟨by simp [h], nanB_t h⟩)

theorem bt_neg {xs : List Nat} {b : Int} {x : Nat} (p : posB x = true) (h : b < 0) : btB xs b x = true := by unfold btB; simp [p, h]
theorem bt_no {xs : List Nat} {b : Int} {x : Nat} (p : posB x = false) : btB xs b x = false := by unfold btB; simp [p]
theorem bt_nat {xs : List Nat} {j x : Nat} (p : posB x = true) : btB xs (j : Int) x = decide (0 < cmp3 (key x) (key (xs.getD j 0))) := by
  unfold btB
  rw [Int.toNat_natCast]
  generalize xs.getD j 0 = y
  have : ¬ ((j : Int) < 0) := by omega
  simp [p, this]

theorem drewB {N : Nat} {w w1 : World} (h : Below N w w1) (q : Nat) : Below N w (w1.drewN q) := by
  induction q with
  | zero => exact h
  | succ q ih => exact ih.drew

set_option maxHeartbeats 2000000 in
theorem best18 (ao : Option Addr) (n c : Nat) (xs : List Nat) (w : World) (hF : Flt w w.heap.size ao n c xs) (hn : n ≤ 1000) :
    Calls Try.prog 18 #[.slice ao n c] w fun e w' => e = .returned (.int .i64 (bstF xs n)) ∧ Below w.heap.size w w' := by
  have hl := hF.len
  go_enter Try.func18, Try.ntmps18
  go_wp2
  go_loopw [3, 4] (fun b i wr => ∃ k : Nat, k ≤ n ∧ i = .int .i64 k ∧ b = .int .i64 (bstF xs k) ∧ Below w.heap.size w wr) (fun _ i _ => n - (intOf i).toNat)
  case atStart => exact ⟨0, Nat.zero_le _, rfl, rfl, Below.refl _ _⟩
  case round =>
    obtain ⟨k, hk, rfl, rfl, hB⟩ := hrel
    by_cases hlt : k < n
    · have F := hF.on hB
      have ba := bst_range xs k
      obtain ⟨b, o, e, hbN, hc⟩ := F.at (by omega)
      have hx := hc k hlt
      subst e
      rcases pos_le (xs.getD k 0) with ⟨p, na, hg⟩ | ⟨p, na, hg⟩ | ⟨p, na⟩
      · rcases Bool.eq_false_or_eq_true (btB xs (bstF xs k) (xs.getD k 0)) with f | f
        · have S := hide (bst_yes f)
          rcases ba with l | ⟨l0, l1⟩
          · clear hc f p hF F
            generalize xs.getD k 0 = x at *
            generalize bstF xs k = q at *
            go_wp2_with (first | (go_at_call 20; refine (isNaN20 _ _).mono ?_; rintro e w1 ⟨rfl, rfl⟩))
            go_quiet ((go_at_call 21; exact Calls.quiet_of_same (cmp21 _ _ _)))
            go_wp2
            go_roundw
            case rel => exact ⟨k + 1, by omega, by go_num, by rw [S.out], drewB hB nq⟩
            case measure => simp [intOf]; omega
          · obtain ⟨j, ej⟩ := Int.eq_ofNat_of_zero_le l0
            have hy := hc j (by omega)
            have d : decide (0 < cmp3 (key (xs.getD k 0)) (key (xs.getD j 0))) = true := by
              rw [ej] at f
              rw [← bt_nat p]
              exact f
            have jn : ¬ ((j : Int) < 0) := by omega
            have jm : (j : Int) < n := by omega
            have call := cmp21 (xs.getD k 0) (xs.getD j 0)
            rw [ej]
            clear hc f p hF F ej l0 l1
            generalize xs.getD k 0 = x at *
            generalize xs.getD j 0 = y at *
            generalize cmp3 (key x) (key y) = v at *
            go_wp2_with (first | (go_at_call 20; refine (isNaN20 _ _).mono ?_; rintro e w1 ⟨rfl, rfl⟩))
            go_quiet ((go_at_call 21; exact Calls.quiet_of_same (call _)))
            go_wp2
            go_roundw
            case rel => exact ⟨k + 1, by omega, by go_num, by rw [S.out], drewB hB nq⟩
            case measure => simp [intOf]; omega
        · have S := hide (bst_no f)
          rcases ba with l | ⟨l0, l1⟩
          · rw [bt_neg p l] at f
            cases f
          · obtain ⟨j, ej⟩ := Int.eq_ofNat_of_zero_le l0
            have hy := hc j (by omega)
            have d : decide (0 < cmp3 (key (xs.getD k 0)) (key (xs.getD j 0))) = false := by
              rw [ej] at f
              rw [← bt_nat p]
              exact f
            have jn : ¬ ((j : Int) < 0) := by omega
            have jm : (j : Int) < n := by omega
            have call := cmp21 (xs.getD k 0) (xs.getD j 0)
            rw [ej]
            have E := hide ej
            clear hc f p hF F ej l0 l1
            generalize xs.getD k 0 = x at *
            generalize xs.getD j 0 = y at *
            generalize cmp3 (key x) (key y) = v at *
            go_wp2_with (first | (go_at_call 20; refine (isNaN20 _ _).mono ?_; rintro e w1 ⟨rfl, rfl⟩))
            go_quiet ((go_at_call 21; exact Calls.quiet_of_same (call _)))
            go_wp2
            go_roundw
            case rel => exact ⟨k + 1, by omega, by go_num, by rw [S.out, E.out], drewB hB nq⟩
            case measure => simp [intOf]; omega
      all_goals
        have S : Hid (bstF xs (k + 1) = bstF xs k) := hide (bst_no (bt_no p))
        clear hc p hF F ba
        generalize xs.getD k 0 = x at *
        generalize bstF xs k = q at *
        go_wp2_with (first | (go_at_call 20; refine (isNaN20 _ _).mono ?_; rintro e w1 ⟨rfl, rfl⟩))
        go_roundw
        case rel => exact ⟨k + 1, by omega, by go_num, by rw [S.out], hB⟩
        case measure => simp [intOf]; omega
    · have e : k = n := by omega
      subst e
      go_wp2
      go_ret
      exact ⟨rfl, hB⟩

end Go.Proofs.Ytgnpkommjnklfaa
