/- Contracts of the small functions of both: within, known, fieldsOf, rightSeq, mostStateOf, what a kind has; equality of addresses; fits and blank. -/
import Derived.Test.YtijfcfpoimknmaaDoorA1
namespace Go.Proofs.YtijfcfpoimknmaaDoor
open Go.RowKit

theorem Tryd.info5s : (Tryd.prog.info? 5).isSome = true := by kernel_rfl
theorem Tryd.info5e : ∃ i, Tryd.prog.info? 5 = some i := Option.isSome_iff_exists.1 Tryd.info5s

set_option maxRecDepth 100000 in
theorem eqMac (a0 a1 a2 a3 a4 a5 b0 b1 b2 b3 b4 b5 : Int) (w : World) :
    (Op.equalIn 10000 23 (.agg #[.int .u8 a0, .int .u8 a1, .int .u8 a2, .int .u8 a3, .int .u8 a4, .int .u8 a5]) (.agg #[.int .u8 b0, .int .u8 b1, .int .u8 b2, .int .u8 b3, .int .u8 b4, .int .u8 b5])).run Tryd.prog w = .ok (eq6 a0 a1 a2 a3 a4 a5 b0 b1 b2 b3 b4 b5) w := by
  obtain ⟨i, hi⟩ := Tryd.info5e
  rw [show (10000 : Nat) = 9999 + 1 from rfl, run_equalIn_array w 9999 _ _ Tryd.underlying23 hi, Tryd.cells5]
  have p0 : ∀ (c0 c1 c2 c3 c4 c5 : Int) (w : World), (part 5 #[.int .u8 c0, .int .u8 c1, .int .u8 c2, .int .u8 c3, .int .u8 c4, .int .u8 c5] 0).run Tryd.prog w = .ok (.int .u8 c0) w := fun _ _ _ _ _ _ _ => by kernel_rfl
  have p1 : ∀ (c0 c1 c2 c3 c4 c5 : Int) (w : World), (part 5 #[.int .u8 c0, .int .u8 c1, .int .u8 c2, .int .u8 c3, .int .u8 c4, .int .u8 c5] 1).run Tryd.prog w = .ok (.int .u8 c1) w := fun _ _ _ _ _ _ _ => by kernel_rfl
  have p2 : ∀ (c0 c1 c2 c3 c4 c5 : Int) (w : World), (part 5 #[.int .u8 c0, .int .u8 c1, .int .u8 c2, .int .u8 c3, .int .u8 c4, .int .u8 c5] 2).run Tryd.prog w = .ok (.int .u8 c2) w := fun _ _ _ _ _ _ _ => by kernel_rfl
  have p3 : ∀ (c0 c1 c2 c3 c4 c5 : Int) (w : World), (part 5 #[.int .u8 c0, .int .u8 c1, .int .u8 c2, .int .u8 c3, .int .u8 c4, .int .u8 c5] 3).run Tryd.prog w = .ok (.int .u8 c3) w := fun _ _ _ _ _ _ _ => by kernel_rfl
  have p4 : ∀ (c0 c1 c2 c3 c4 c5 : Int) (w : World), (part 5 #[.int .u8 c0, .int .u8 c1, .int .u8 c2, .int .u8 c3, .int .u8 c4, .int .u8 c5] 4).run Tryd.prog w = .ok (.int .u8 c4) w := fun _ _ _ _ _ _ _ => by kernel_rfl
  have p5 : ∀ (c0 c1 c2 c3 c4 c5 : Int) (w : World), (part 5 #[.int .u8 c0, .int .u8 c1, .int .u8 c2, .int .u8 c3, .int .u8 c4, .int .u8 c5] 5).run Tryd.prog w = .ok (.int .u8 c5) w := fun _ _ _ _ _ _ _ => by kernel_rfl
  have pe : ∀ (x y : Int) (w : World), (Op.equalIn 9999 5 (.int .u8 x) (.int .u8 y)).run Tryd.prog w = .ok (x == y) w := fun x y w => run_equalIn_int w 9998 5 _ _ x y Tryd.underlying5
  simp [Op.eqItems, show List.range 6 = [0, 1, 2, 3, 4, 5] from rfl, p0, p1, p2, p3, p4, p5, pe, eq6]
  by_cases e0 : a0 = b0
  · by_cases e1 : a1 = b1
    · by_cases e2 : a2 = b2
      · by_cases e3 : a3 = b3
        · by_cases e4 : a4 = b4
          · by_cases e5 : a5 = b5 <;> simp [e0, e1, e2, e3, e4, e5]
          · simp [e0, e1, e2, e3, e4]
        · simp [e0, e1, e2, e3]
      · simp [e0, e1, e2]
    · simp [e0, e1]
  · simp [e0]

theorem eqM (x y : Nt) (w : World) : (Op.equalIn 10000 23 (.agg (MC x)) (.agg (MC y))).run Tryd.prog w = .ok (eq6 x.m0 x.m1 x.m2 x.m3 x.m4 x.m5 y.m0 y.m1 y.m2 y.m3 y.m4 y.m5) w := eqMac _ _ _ _ _ _ _ _ _ _ _ _ w
theorem ZM : (#[.int .u8 0, .int .u8 0, .int .u8 0, .int .u8 0, .int .u8 0, .int .u8 0] : Array Value) = MC zeroN := rfl
set_option maxRecDepth 100000 in
theorem within44 (n lo hi : Int) (w : World) : Calls Tryd.prog 44 #[.int .i64 n, .int .i64 lo, .int .i64 hi] w fun e w' => e = .returned (.bool (wi n lo hi)) ∧ w' = w := by
  go_enter Tryd.func44, Tryd.ntmps44
  go_wp2
  all_goals
    go_ret
    exact ⟨ret_bool (by rw [Bool.eq_iff_iff]; simp only [wi, Bool.and_eq_true, decide_eq_true_eq]; first | omega | (simp; omega)), rfl⟩
set_option maxRecDepth 100000 in
theorem within28 (n lo hi : Int) (w : World) : Calls Tryd.prog 28 #[.int .i64 n, .int .i64 lo, .int .i64 hi] w fun e w' => e = .returned (.bool (wi n lo hi)) ∧ w' = w := by
  go_enter Tryd.func28, Tryd.ntmps28
  go_wp2
  all_goals
    go_ret
    exact ⟨ret_bool (by rw [Bool.eq_iff_iff]; simp only [wi, Bool.and_eq_true, decide_eq_true_eq]; first | omega | (simp; omega)), rfl⟩
set_option maxRecDepth 100000 in
theorem known35 (k : Int) (w : World) : Calls Tryd.prog 35 #[.int .i64 k] w fun e w' => e = .returned (.bool (wi k 0 8)) ∧ w' = w := by
  go_enter Tryd.func35, Tryd.ntmps35
  go_wp2_with (go_at_call 44; refine (within44 _ _ _ _).mono ?_; rintro e w' ⟨rfl, rfl⟩)
  go_ret
  exact ⟨rfl, rfl⟩
set_option maxRecDepth 100000 in
theorem seq43 (n : Int) (w : World) : Calls Tryd.prog 43 #[.int .i64 n] w fun e w' => e = .returned (.bool (sq n)) ∧ w' = w := by
  go_enter Tryd.func43, Tryd.ntmps43
  go_wp2_with (go_at_call 44; refine (within44 _ _ _ _).mono ?_; rintro e w' ⟨rfl, rfl⟩)
  go_ret
  exact ⟨rfl, rfl⟩
set_option maxRecDepth 100000 in
theorem most46 (k : Int) (w : World) : Calls Tryd.prog 46 #[.int .i64 k] w fun e w' => e = .returned (.int .i64 (ms k)) ∧ w' = w := by
  by_cases h6 : k = 6
  · subst h6
    go_enter Tryd.func46, Tryd.ntmps46
    go_wp2
    go_ret
    exact ⟨rfl, rfl⟩
  by_cases h8 : k = 8
  · subst h8
    go_enter Tryd.func46, Tryd.ntmps46
    go_wp2
    go_ret
    exact ⟨rfl, rfl⟩
  have e : ms k = 1 := by simp [ms, h6, h8]
  have b6 : (k == 6) = false := by simp [h6]
  have b8 : (k == 8) = false := by simp [h8]
  rw [e]
  clear e h6 h8
  go_enter Tryd.func46, Tryd.ntmps46
  go_wp2
  go_ret
  exact ⟨rfl, rfl⟩
theorem fo_tab (j : Nat) (h : j < 9) : fo (j : Int) = tab.getD j 0 := by
  rcases (show j = 0 ∨ j = 1 ∨ j = 2 ∨ j = 3 ∨ j = 4 ∨ j = 5 ∨ j = 6 ∨ j = 7 ∨ j = 8 by omega) with rfl | rfl | rfl | rfl | rfl | rfl | rfl | rfl | rfl <;> rfl
set_option maxRecDepth 100000 in
theorem fields25 (k : Int) (w : World) (hT : KT w) : Calls Tryd.prog 25 #[.int .i64 k] w fun e w' => e = .returned (.int .i64 (fo k)) ∧ w' = w := by
  cases hk : wi k 0 8
  · have e : fo k = 0 := by
      have hn : ¬ (0 ≤ k ∧ k ≤ 8) := fun h => by rw [(wi_iff k 0 8).2 h] at hk; cases hk
      unfold fo
      rw [if_neg (by omega), if_neg (by omega), if_neg (by omega), if_neg (by omega), if_neg (by omega), if_neg (by omega), if_neg (by omega), if_neg (by omega)]
    rw [e]
    clear e
    go_enter Tryd.func25, Tryd.ntmps25
    go_wp2_with (go_at_call 35; refine (known35 _ _).mono ?_; rw [hk]; rintro e w' ⟨rfl, rfl⟩)
    go_ret
    exact ⟨rfl, rfl⟩
  · have hb := (wi_iff k 0 8).1 hk
    obtain ⟨j, rfl⟩ := Int.eq_ofNat_of_zero_le hb.1
    have hj : j < 9 := by omega
    have hc := hT.cell j hj
    have l1 : (j : Int) < 9 := by omega
    rw [fo_tab j hj]
    generalize tab.getD j 0 = x at *
    clear hT hb
    go_enter Tryd.func25, Tryd.ntmps25
    go_wp2_with (go_at_call 35; refine (known35 _ _).mono ?_; rw [hk]; rintro e w' ⟨rfl, rfl⟩)
    go_ret
    exact ⟨rfl, rfl⟩
set_option maxRecDepth 100000 in
theorem has30 (k : Int) (w : World) : Calls Tryd.prog 30 #[.int .i64 k] w fun e w' => e = .returned (.bool (hv k)) ∧ w' = w := by
  go_enter Tryd.func30, Tryd.ntmps30
  go_wp2
  all_goals
    go_ret
    exact ⟨ret_bool (by rw [Bool.eq_iff_iff]; simp [hv] <;> omega), rfl⟩
set_option maxRecDepth 100000 in
theorem has31 (k : Int) (w : World) : Calls Tryd.prog 31 #[.int .i64 k] w fun e w' => e = .returned (.bool (hm k)) ∧ w' = w := by
  go_enter Tryd.func31, Tryd.ntmps31
  go_wp2
  all_goals
    go_ret
    exact ⟨ret_bool (by rw [Bool.eq_iff_iff]; simp [hm] <;> omega), rfl⟩
set_option maxRecDepth 100000 in
theorem has32 (k : Int) (w : World) : Calls Tryd.prog 32 #[.int .i64 k] w fun e w' => e = .returned (.bool (hp k)) ∧ w' = w := by
  go_enter Tryd.func32, Tryd.ntmps32
  go_wp2
  all_goals
    go_ret
    exact ⟨ret_bool (by rw [Bool.eq_iff_iff]; simp [hp] <;> omega), rfl⟩
set_option maxRecDepth 100000 in
theorem has33 (k : Int) (w : World) : Calls Tryd.prog 33 #[.int .i64 k] w fun e w' => e = .returned (.bool (hst k)) ∧ w' = w := by
  go_enter Tryd.func33, Tryd.ntmps33
  go_wp2
  all_goals
    go_ret
    exact ⟨ret_bool (by rw [Bool.eq_iff_iff]; simp [hst] <;> omega), rfl⟩
set_option maxRecDepth 100000 in
theorem has34 (k : Int) (w : World) : Calls Tryd.prog 34 #[.int .i64 k] w fun e w' => e = .returned (.bool (hb k)) ∧ w' = w := by
  go_enter Tryd.func34, Tryd.ntmps34
  go_wp2
  all_goals
    go_ret
    exact ⟨ret_bool (by rw [Bool.eq_iff_iff]; simp [hb] <;> omega), rfl⟩
end Go.Proofs.YtijfcfpoimknmaaDoor
