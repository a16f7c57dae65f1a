/- The walk of RateBest. -/
import Derived.Test.YtgnpkommjnklfaaBe
namespace Go.Proofs.Ytgnpkommjnklfaa
open Go.RowKit

theorem zero_eq : (FloatKind.f64.format.order 0 0 == some .eq) = true := by
  change (Ieee.double.order 0 0 == some .eq) = true
  rw [order_vl (by decide) (by decide), cmp_def, if_neg (by omega), if_pos rfl]
  rfl

theorem pos_is {x : Nat} (h : posB x = true) : nn x ∧ 0 < vl x := by unfold posB at h; simpa using h
theorem best_end (xs : List Nat) (n : Nat) : bstF xs n = -1 ∨ ∃ j : Nat, bstF xs n = j ∧ j < n ∧ (FloatKind.f64.format.order (xs.getD j 0) 0 == some .gt) = true := by
  rcases bst_is xs n with ⟨h, -⟩ | ⟨h1, h2, h3, -⟩
  · exact Or.inl h
  · right
    refine ⟨(bstF xs n).toNat, by omega, by omega, ?_⟩
    have p := pos_is h3
    rw [gt_zero p.1]
    exact decide_eq_true p.2
theorem best_at {xs : List Nat} {n k : Nat} (_h : k ≤ n) (hk : k < n) (p : posB (xs.getD k 0) = true) : ∃ j : Nat, bstF xs n = j ∧ j < n ∧ (FloatKind.f64.format.order (xs.getD j 0) 0 == some .gt) = true ∧
    decide (cmp3 (key (xs.getD j 0)) (key (xs.getD k 0)) < 0) = false ∧ cst (xs.getD j 0) ≤ cst (xs.getD k 0) := by
  rcases bst_is xs n with ⟨-, h⟩ | ⟨h1, h2, h3, h4⟩
  · rw [h k hk] at p; cases p
  · have q := pos_is h3
    have le := h4 k hk p
    refine ⟨(bstF xs n).toNat, by omega, by omega, by rw [gt_zero q.1]; exact decide_eq_true q.2, ?_, cst_mono (pos_is p).1 q.1 (vl_of_key (pos_is p).1 q.1 le)⟩
    generalize key (xs.getD (bstF xs n).toNat 0) = Y at *
    generalize key (xs.getD k 0) = X at *
    unfold cmp3
    rw [if_neg (by omega)]
    split <;> decide

set_option maxRecDepth 100000 in
set_option maxHeartbeats 4000000 in
theorem bestWalk (ao : Option Addr) (n c : Nat) (xs : List Nat) (w : World) (hF : Flt w w.heap.size ao n c xs) :
    Calls Try.prog 8 #[.slice ao n c] w fun e w' => e = .returned (.bool true) ∧ Below w.heap.size w w' := by
  have hl := hF.len
  have hm := hF.mx
  have hle := hF.le
  unfold maxLen at hm
  by_cases hn : n ≤ 300
  · have hn' : ¬ ((300 : Int) < n) := by omega
    have cn := cnt_le' xs
    go_enter Try.func8, Try.ntmps8
    go_wp2_with (go_at_call 9; refine (awake9 _).mono ?_; rintro e w0 ⟨rfl, rfl⟩)
    go_wp2_with fail
    refine (best17 ao n c xs _ hF (by omega)).mono ?_
    rintro e w1 ⟨rfl, B1⟩
    have F1 : Flt w1 w1.heap.size ao n c xs := (hF.on B1).up B1.size
    go_wp2_with fail
    refine (mean14 ao n c xs _ F1 (by omega)).mono ?_
    rintro e w2 ⟨rfl, B2⟩
    replace B2 := B1.trans (B2.mono B1.size)
    clear F1 B1
    go_wp2_with fail
    refine (inf22p _).mono ?_
    rintro e w3 ⟨rfl, rfl⟩
    go_wp2_with fail
    refine (inf22n _).mono ?_
    rintro e w4 ⟨rfl, rfl⟩
    go_wp2
    go_loopw [7, 8, 9] (fun a b i wr => ∃ k lo hi : Nat, k ≤ n ∧ a = .float .f64 lo ∧ b = .float .f64 hi ∧ i = .int .i64 k ∧ LH xs k lo hi ∧ Below w0.heap.size w0 wr) (fun _ _ i _ => n - (intOf i).toNat)
    case atStart => exact ⟨0, _, _, Nat.zero_le _, rfl, rfl, rfl, LH.start xs, B2⟩
    case round =>
      obtain ⟨k, lo, hi, hk, rfl, rfl, rfl, H, hB⟩ := hrel
      by_cases hlt : k < n
      · have F := hF.on hB
        obtain ⟨b, o, e, hbN, hc⟩ := F.at (by omega)
        have hx := hc k hlt
        subst e
        rcases Bool.eq_false_or_eq_true (posB (xs.getD k 0)) with p | p
        · obtain ⟨j, eb, jn, gy, d1, m⟩ := best_at (by omega) hlt p
          rw [eb]
          have hy := hc j (by omega)
          have hg : (FloatKind.f64.format.order (xs.getD k 0) 0 == some .gt) = true := by
            rcases pos_cases (xs.getD k 0) with ⟨-, -, q⟩ | ⟨q, -, -⟩ | ⟨q, -, -⟩
            · exact q
            · rw [p] at q; cases q
            · rw [p] at q; cases q
          have j0 : ¬ ((j : Int) < 0) := by omega
          have jn' : (j : Int) < n := by omega
          have d2 : decide (cst (xs.getD k 0) < cst (xs.getD j 0)) = false := by simp only [decide_eq_false_iff_not]; omega
          have c1 := cmp19 (xs.getD j 0) (xs.getD k 0)
          have c2 := cost10 (xs.getD j 0)
          have c3 := cost10 (xs.getD k 0)
          rcases Bool.eq_false_or_eq_true (finB (xs.getD k 0)) with f | f
          · obtain ⟨lo', l1, l2, l3⟩ := min_any (a := lo) (b := xs.getD k 0) H.nl (by have := finB_t f; unfold nn; omega)
            obtain ⟨hi', h1, h2, h3⟩ := max_any (a := hi) (b := xs.getD k 0) H.nh (by have := finB_t f; unfold nn; omega)
            have S := hide (H.step (by omega) f (hF.rng k) l1 l2 h1 h2)
            have sb := less_self f
            have ze := zero_eq
            clear p hc F H l1 l2 h1 h2 f m gy eb
            generalize xs.getD k 0 = x at *
            generalize xs.getD j 0 = y at *
            generalize cmp3 (key y) (key x) = v at *
            go_wp2
            go_quiet ((first | (go_at_call 19; exact Calls.quiet_of_same (c1 _)) | (go_at_call 10; exact Calls.quiet_of_same (cost10 _ _))))
            go_wp2
            go_quiet (fail)
            go_wp2
            go_roundw
            case rel => exact ⟨k + 1, lo', hi', by omega, rfl, rfl, by go_num, S.out, by first | exact drewB hB _ | exact drewB (drewB hB _) _⟩
            case measure => simp [intOf]; omega
          · obtain ⟨nv, sb, sn⟩ := nan_self f
            have S := hide (H.skip (by omega) f)
            clear p hc F H f m gy eb
            generalize xs.getD k 0 = x at *
            generalize xs.getD j 0 = y at *
            generalize cmp3 (key y) (key x) = v at *
            go_wp2
            go_quiet ((first | (go_at_call 19; exact Calls.quiet_of_same (c1 _)) | (go_at_call 10; exact Calls.quiet_of_same (cost10 _ _))))
            go_wp2
            go_region_held (fun w' => w'.cell? ⟨b, o + k, none⟩ = some (.float .f64 x)) (first | exact hx | (simp; exact hx)) (fail)
            go_wp2
            go_roundw
            case rel => exact ⟨k + 1, lo, hi, by omega, rfl, rfl, by go_num, S.out, drewB hB _⟩
            case measure => simp [intOf]; omega
        · have hg : (FloatKind.f64.format.order (xs.getD k 0) 0 == some .gt) = false := by
            rcases pos_cases (xs.getD k 0) with ⟨q, -, -⟩ | ⟨-, -, q⟩ | ⟨-, -, q⟩
            · rw [p] at q; cases q
            · exact q
            · exact q
          rcases Bool.eq_false_or_eq_true (finB (xs.getD k 0)) with f | f
          · obtain ⟨lo', l1, l2, l3⟩ := min_any (a := lo) (b := xs.getD k 0) H.nl (by have := finB_t f; unfold nn; omega)
            obtain ⟨hi', h1, h2, h3⟩ := max_any (a := hi) (b := xs.getD k 0) H.nh (by have := finB_t f; unfold nn; omega)
            have S := hide (H.step (by omega) f (hF.rng k) l1 l2 h1 h2)
            have sb := less_self f
            have ze := zero_eq
            clear p hc F H l1 l2 h1 h2 f
            generalize xs.getD k 0 = x at *
            generalize bstF xs n = q at *
            go_wp2
            go_quiet (fail)
            go_wp2
            go_quiet (fail)
            go_wp2
            go_roundw
            case rel => exact ⟨k + 1, lo', hi', by omega, rfl, rfl, by go_num, S.out, by first | exact drewB hB _ | exact drewB (drewB hB _) _⟩
            case measure => simp [intOf]; omega
          · obtain ⟨nv, sb, sn⟩ := nan_self f
            have S := hide (H.skip (by omega) f)
            clear p hc F H f
            generalize xs.getD k 0 = x at *
            generalize bstF xs n = q at *
            go_wp2
            go_quiet (fail)
            go_wp2
            go_region_held (fun w' => w'.cell? ⟨b, o + k, none⟩ = some (.float .f64 x)) (first | exact hx | (simp; exact hx)) (fail)
            go_wp2
            go_roundw
            case rel => exact ⟨k + 1, lo, hi, by omega, rfl, rfl, by go_num, S.out, drewB hB _⟩
            case measure => simp [intOf]; omega
      · obtain rfl : k = n := by omega
        rw [← hl] at H
        obtain ⟨r, sl, M3, MU, cases4⟩ := close H (by omega)
        have ll := H.ll
        have lh := H.lh
        have F := hF.on hB
        rcases best_end xs k with eb | ⟨j, eb, jn, py⟩
        · rw [eb]
          clear hF F H eb
          rcases cases4 with g1 | ⟨g1, g2⟩ | ⟨g1, g2, g3⟩ | ⟨g1, g2, g3, mb, l', h', SU, AD, GE, LE⟩
          all_goals
            go_wp2_with (go_at_call 23; refine (abs23 _ _ (by first | exact ll | exact lh)).mono ?_; rintro e w5 ⟨rfl, rfl⟩)
            go_ret
            exact ⟨rfl, hB⟩
        · obtain ⟨b, o, e, hbN, hc⟩ := F.at (by omega)
          have hy := hc j jn
          rw [eb]
          subst e
          have j0 : ¬ ((j : Int) < 0) := by omega
          have j1 : (0 : Int) ≤ j := by omega
          have jn' : (j : Int) < k := by omega
          clear hF F H eb hc
          generalize xs.getD j 0 = y at *
          rcases cases4 with g1 | ⟨g1, g2⟩ | ⟨g1, g2, g3⟩ | ⟨g1, g2, g3, mb, l', h', SU, AD, GE, LE⟩
          all_goals
            go_wp2_with (go_at_call 23; refine (abs23 _ _ (by first | exact ll | exact lh)).mono ?_; rintro e w5 ⟨rfl, rfl⟩)
            go_ret
            exact ⟨rfl, hB⟩
  · have hn' : (300 : Int) < n := by omega
    go_enter Try.func8, Try.ntmps8
    go_wp2_with (go_at_call 9; refine (awake9 _).mono ?_; rintro e w' ⟨rfl, rfl⟩)
    go_ret
    exact ⟨rfl, Below.refl _ _⟩

end Go.Proofs.Ytgnpkommjnklfaa
