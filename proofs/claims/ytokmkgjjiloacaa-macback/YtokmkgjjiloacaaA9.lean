/- The contract of Parse, as the program has it. -/
import Derived.Test.YtokmkgjjiloacaaA8
namespace Go.Proofs.Ytokmkgjjiloacaa
open Go.RowKit Go.PlainAid

set_option maxRecDepth 100000 in
set_option maxHeartbeats 1000000 in
theorem parse19_len (s : ByteArray) (w : World) (hl : ((s.size : Int) != 17) = true) :
    Calls Try.prog 19 #[.string s] w fun e w' => e = .returned (.tuple #[.agg #[.int .u8 0, .int .u8 0, .int .u8 0, .int .u8 0, .int .u8 0, .int .u8 0], .int .i64 2]) ∧ Below w.heap.size w w' := by
  go_enter Try.func19, Try.ntmps19
  go_wp2
  exact bodyPost_ret (v := .tuple #[.agg #[.int .u8 0, .int .u8 0, .int .u8 0, .int .u8 0, .int .u8 0, .int .u8 0], .int .i64 2]) (by simp [results, Try.results19, go_sem]) rfl ⟨rfl, by go_grown⟩

set_option maxRecDepth 100000 in
set_option maxHeartbeats 4000000 in
theorem parse19 (s : ByteArray) (w : World) (hl : s.size = 17) :
    Calls Try.prog 19 #[.string s] w fun e w' => pRes s e ∧ Below w.heap.size w w' := by
  have hl1 : ((s.size : Int) != 17) = false := by simp [hl]
  have hl2 : (s.size : Int) = 17 := by omega
  clear hl
  go_enter Try.func19, Try.ntmps19
  go_wp2
  clear hl1
  go_loopw [14] (fun i wr => ∃ k : Nat, k ≤ 6 ∧ i = .int .i64 k ∧ (∀ m, m < k → okAt s m) ∧ PI w wr (pb s k 0) (pb s k 1) (pb s k 2) (pb s k 3) (pb s k 4) (pb s k 5)) (fun i _ => 6 - (intOf i).toNat)
  case atStart => exact ⟨0, by omega, rfl, fun m hm => by omega, PI.start w⟩
  case round =>
    obtain ⟨k, hk, rfl, hP, hI⟩ := hrel
    have HP := hide hP
    clear hP
    have hb := get_bt s
    have hk7 : k = 0 ∨ k = 1 ∨ k = 2 ∨ k = 3 ∨ k = 4 ∨ k = 5 ∨ k = 6 := by omega
    rcases hk7 with e | e | e | e | e | e | e <;> subst e
    · have g0 := bt_nonneg s 0; have g1 := bt_le s 0; have g2 := bt_nonneg s 1; have g3 := bt_le s 1
      have v0 := val_lt (bt s 0); have v1 := val_lt (bt s 1)
      have r0 := hI.r0; have r1 := hI.r1; have r2 := hI.r2; have r3 := hI.r3; have r4 := hI.r4; have r5 := hI.r5
      have fr := hI.fr; have fc := hI.fc; have ck := hI.c0
      by_cases hh : 0 ≤ val (bt s 0)
      · by_cases hv : 0 ≤ val (bt s 1)
        · have q := or4 (val (bt s 0)) (val (bt s 1)) hh v0 hv v1
          have q2 := or4' (val (bt s 0)) (val (bt s 1)) hh v0 hv v1
          go_wp2_with (first | (go_at_call_of 26 (bt s 0); refine (value26_yes _ _ g0 g1 hh).mono ?_; rintro e w1 ⟨rfl, rfl⟩) | (go_at_call_of 26 (bt s 1); refine (value26_yes _ _ g2 g3 hv).mono ?_; rintro e w1 ⟨rfl, rfl⟩))
          refine ⟨⟨1, by omega, rfl, fun m hm => ?_, hI.set0 _⟩, by simp [intOf]⟩
          by_cases e : m = 0
          · subst e; exact ⟨Or.inl rfl, hh, hv⟩
          · exact HP.out m (by omega)
        · have hv' : val (bt s 1) < 0 := by omega
          go_wp2_with (first | (go_at_call_of 26 (bt s 0); refine (value26_yes _ _ g0 g1 hh).mono ?_; rintro e w1 ⟨rfl, rfl⟩) | (go_at_call_of 26 (bt s 1); refine (value26_no _ _ g2 g3 hv').mono ?_; rintro e w1 ⟨rfl, rfl⟩))
          exact bodyPost_ret (v := .tuple #[.agg #[.int .u8 0, .int .u8 0, .int .u8 0, .int .u8 0, .int .u8 0, .int .u8 0], .int .i64 2]) (by simp [results, Try.results19, go_sem, r0, r1, r2, r3, r4, r5]) rfl ⟨Or.inr ⟨fun h => absurd (show 0 ≤ val (bt s 1) from (h.1).2.2) (by omega), rfl⟩, by have hB := hI.below; go_grown⟩
      · have hh' : val (bt s 0) < 0 := by omega
        by_cases hv : 0 ≤ val (bt s 1)
        · go_wp2_with (first | (go_at_call_of 26 (bt s 0); refine (value26_no _ _ g0 g1 hh').mono ?_; rintro e w1 ⟨rfl, rfl⟩) | (go_at_call_of 26 (bt s 1); refine (value26_yes _ _ g2 g3 hv).mono ?_; rintro e w1 ⟨rfl, rfl⟩))
          exact bodyPost_ret (v := .tuple #[.agg #[.int .u8 0, .int .u8 0, .int .u8 0, .int .u8 0, .int .u8 0, .int .u8 0], .int .i64 2]) (by simp [results, Try.results19, go_sem, r0, r1, r2, r3, r4, r5]) rfl ⟨Or.inr ⟨fun h => absurd (show 0 ≤ val (bt s 0) from (h.1).2.1) (by omega), rfl⟩, by have hB := hI.below; go_grown⟩
        · have hv' : val (bt s 1) < 0 := by omega
          go_wp2_with (first | (go_at_call_of 26 (bt s 0); refine (value26_no _ _ g0 g1 hh').mono ?_; rintro e w1 ⟨rfl, rfl⟩) | (go_at_call_of 26 (bt s 1); refine (value26_no _ _ g2 g3 hv').mono ?_; rintro e w1 ⟨rfl, rfl⟩))
          exact bodyPost_ret (v := .tuple #[.agg #[.int .u8 0, .int .u8 0, .int .u8 0, .int .u8 0, .int .u8 0, .int .u8 0], .int .i64 2]) (by simp [results, Try.results19, go_sem, r0, r1, r2, r3, r4, r5]) rfl ⟨Or.inr ⟨fun h => absurd (show 0 ≤ val (bt s 0) from (h.1).2.1) (by omega), rfl⟩, by have hB := hI.below; go_grown⟩
    · have g0 := bt_nonneg s 3; have g1 := bt_le s 3; have g2 := bt_nonneg s 4; have g3 := bt_le s 4
      have v0 := val_lt (bt s 3); have v1 := val_lt (bt s 4)
      have r0 := hI.r0; have r1 := hI.r1; have r2 := hI.r2; have r3 := hI.r3; have r4 := hI.r4; have r5 := hI.r5
      have fr := hI.fr; have fc := hI.fc; have ck := hI.c1
      by_cases hcol : ¬ bt s 2 = 58
      · have hq : (bt s 2 != 58) = true := by simp [hcol]
        have HC := hide hcol
        clear hcol
        go_wp2
        exact bodyPost_ret (v := .tuple #[.agg #[.int .u8 0, .int .u8 0, .int .u8 0, .int .u8 0, .int .u8 0, .int .u8 0], .int .i64 2]) (by simp [results, Try.results19, go_sem, r0, r1, r2, r3, r4, r5]) rfl ⟨Or.inr ⟨fun h => HC.out ((h.2.1).1.resolve_left (by omega)), rfl⟩, by have hB := hI.below; go_grown⟩
      have hq : (bt s 2 != 58) = false := by simpa using hcol
      have HC := hide hcol
      clear hcol
      by_cases hh : 0 ≤ val (bt s 3)
      · by_cases hv : 0 ≤ val (bt s 4)
        · have q := or4 (val (bt s 3)) (val (bt s 4)) hh v0 hv v1
          have q2 := or4' (val (bt s 3)) (val (bt s 4)) hh v0 hv v1
          go_wp2_with (first | (go_at_call_of 26 (bt s 3); refine (value26_yes _ _ g0 g1 hh).mono ?_; rintro e w1 ⟨rfl, rfl⟩) | (go_at_call_of 26 (bt s 4); refine (value26_yes _ _ g2 g3 hv).mono ?_; rintro e w1 ⟨rfl, rfl⟩))
          refine ⟨⟨2, by omega, rfl, fun m hm => ?_, hI.set1 _⟩, by simp [intOf]⟩
          by_cases e : m = 1
          · subst e; exact ⟨Or.inr (Decidable.of_not_not HC.out), hh, hv⟩
          · exact HP.out m (by omega)
        · have hv' : val (bt s 4) < 0 := by omega
          go_wp2_with (first | (go_at_call_of 26 (bt s 3); refine (value26_yes _ _ g0 g1 hh).mono ?_; rintro e w1 ⟨rfl, rfl⟩) | (go_at_call_of 26 (bt s 4); refine (value26_no _ _ g2 g3 hv').mono ?_; rintro e w1 ⟨rfl, rfl⟩))
          exact bodyPost_ret (v := .tuple #[.agg #[.int .u8 0, .int .u8 0, .int .u8 0, .int .u8 0, .int .u8 0, .int .u8 0], .int .i64 2]) (by simp [results, Try.results19, go_sem, r0, r1, r2, r3, r4, r5]) rfl ⟨Or.inr ⟨fun h => absurd (show 0 ≤ val (bt s 4) from (h.2.1).2.2) (by omega), rfl⟩, by have hB := hI.below; go_grown⟩
      · have hh' : val (bt s 3) < 0 := by omega
        by_cases hv : 0 ≤ val (bt s 4)
        · go_wp2_with (first | (go_at_call_of 26 (bt s 3); refine (value26_no _ _ g0 g1 hh').mono ?_; rintro e w1 ⟨rfl, rfl⟩) | (go_at_call_of 26 (bt s 4); refine (value26_yes _ _ g2 g3 hv).mono ?_; rintro e w1 ⟨rfl, rfl⟩))
          exact bodyPost_ret (v := .tuple #[.agg #[.int .u8 0, .int .u8 0, .int .u8 0, .int .u8 0, .int .u8 0, .int .u8 0], .int .i64 2]) (by simp [results, Try.results19, go_sem, r0, r1, r2, r3, r4, r5]) rfl ⟨Or.inr ⟨fun h => absurd (show 0 ≤ val (bt s 3) from (h.2.1).2.1) (by omega), rfl⟩, by have hB := hI.below; go_grown⟩
        · have hv' : val (bt s 4) < 0 := by omega
          go_wp2_with (first | (go_at_call_of 26 (bt s 3); refine (value26_no _ _ g0 g1 hh').mono ?_; rintro e w1 ⟨rfl, rfl⟩) | (go_at_call_of 26 (bt s 4); refine (value26_no _ _ g2 g3 hv').mono ?_; rintro e w1 ⟨rfl, rfl⟩))
          exact bodyPost_ret (v := .tuple #[.agg #[.int .u8 0, .int .u8 0, .int .u8 0, .int .u8 0, .int .u8 0, .int .u8 0], .int .i64 2]) (by simp [results, Try.results19, go_sem, r0, r1, r2, r3, r4, r5]) rfl ⟨Or.inr ⟨fun h => absurd (show 0 ≤ val (bt s 3) from (h.2.1).2.1) (by omega), rfl⟩, by have hB := hI.below; go_grown⟩
    · have g0 := bt_nonneg s 6; have g1 := bt_le s 6; have g2 := bt_nonneg s 7; have g3 := bt_le s 7
      have v0 := val_lt (bt s 6); have v1 := val_lt (bt s 7)
      have r0 := hI.r0; have r1 := hI.r1; have r2 := hI.r2; have r3 := hI.r3; have r4 := hI.r4; have r5 := hI.r5
      have fr := hI.fr; have fc := hI.fc; have ck := hI.c2
      by_cases hcol : ¬ bt s 5 = 58
      · have hq : (bt s 5 != 58) = true := by simp [hcol]
        have HC := hide hcol
        clear hcol
        go_wp2
        exact bodyPost_ret (v := .tuple #[.agg #[.int .u8 0, .int .u8 0, .int .u8 0, .int .u8 0, .int .u8 0, .int .u8 0], .int .i64 2]) (by simp [results, Try.results19, go_sem, r0, r1, r2, r3, r4, r5]) rfl ⟨Or.inr ⟨fun h => HC.out ((h.2.2.1).1.resolve_left (by omega)), rfl⟩, by have hB := hI.below; go_grown⟩
      have hq : (bt s 5 != 58) = false := by simpa using hcol
      have HC := hide hcol
      clear hcol
      by_cases hh : 0 ≤ val (bt s 6)
      · by_cases hv : 0 ≤ val (bt s 7)
        · have q := or4 (val (bt s 6)) (val (bt s 7)) hh v0 hv v1
          have q2 := or4' (val (bt s 6)) (val (bt s 7)) hh v0 hv v1
          go_wp2_with (first | (go_at_call_of 26 (bt s 6); refine (value26_yes _ _ g0 g1 hh).mono ?_; rintro e w1 ⟨rfl, rfl⟩) | (go_at_call_of 26 (bt s 7); refine (value26_yes _ _ g2 g3 hv).mono ?_; rintro e w1 ⟨rfl, rfl⟩))
          refine ⟨⟨3, by omega, rfl, fun m hm => ?_, hI.set2 _⟩, by simp [intOf]⟩
          by_cases e : m = 2
          · subst e; exact ⟨Or.inr (Decidable.of_not_not HC.out), hh, hv⟩
          · exact HP.out m (by omega)
        · have hv' : val (bt s 7) < 0 := by omega
          go_wp2_with (first | (go_at_call_of 26 (bt s 6); refine (value26_yes _ _ g0 g1 hh).mono ?_; rintro e w1 ⟨rfl, rfl⟩) | (go_at_call_of 26 (bt s 7); refine (value26_no _ _ g2 g3 hv').mono ?_; rintro e w1 ⟨rfl, rfl⟩))
          exact bodyPost_ret (v := .tuple #[.agg #[.int .u8 0, .int .u8 0, .int .u8 0, .int .u8 0, .int .u8 0, .int .u8 0], .int .i64 2]) (by simp [results, Try.results19, go_sem, r0, r1, r2, r3, r4, r5]) rfl ⟨Or.inr ⟨fun h => absurd (show 0 ≤ val (bt s 7) from (h.2.2.1).2.2) (by omega), rfl⟩, by have hB := hI.below; go_grown⟩
      · have hh' : val (bt s 6) < 0 := by omega
        by_cases hv : 0 ≤ val (bt s 7)
        · go_wp2_with (first | (go_at_call_of 26 (bt s 6); refine (value26_no _ _ g0 g1 hh').mono ?_; rintro e w1 ⟨rfl, rfl⟩) | (go_at_call_of 26 (bt s 7); refine (value26_yes _ _ g2 g3 hv).mono ?_; rintro e w1 ⟨rfl, rfl⟩))
          exact bodyPost_ret (v := .tuple #[.agg #[.int .u8 0, .int .u8 0, .int .u8 0, .int .u8 0, .int .u8 0, .int .u8 0], .int .i64 2]) (by simp [results, Try.results19, go_sem, r0, r1, r2, r3, r4, r5]) rfl ⟨Or.inr ⟨fun h => absurd (show 0 ≤ val (bt s 6) from (h.2.2.1).2.1) (by omega), rfl⟩, by have hB := hI.below; go_grown⟩
        · have hv' : val (bt s 7) < 0 := by omega
          go_wp2_with (first | (go_at_call_of 26 (bt s 6); refine (value26_no _ _ g0 g1 hh').mono ?_; rintro e w1 ⟨rfl, rfl⟩) | (go_at_call_of 26 (bt s 7); refine (value26_no _ _ g2 g3 hv').mono ?_; rintro e w1 ⟨rfl, rfl⟩))
          exact bodyPost_ret (v := .tuple #[.agg #[.int .u8 0, .int .u8 0, .int .u8 0, .int .u8 0, .int .u8 0, .int .u8 0], .int .i64 2]) (by simp [results, Try.results19, go_sem, r0, r1, r2, r3, r4, r5]) rfl ⟨Or.inr ⟨fun h => absurd (show 0 ≤ val (bt s 6) from (h.2.2.1).2.1) (by omega), rfl⟩, by have hB := hI.below; go_grown⟩
    · have g0 := bt_nonneg s 9; have g1 := bt_le s 9; have g2 := bt_nonneg s 10; have g3 := bt_le s 10
      have v0 := val_lt (bt s 9); have v1 := val_lt (bt s 10)
      have r0 := hI.r0; have r1 := hI.r1; have r2 := hI.r2; have r3 := hI.r3; have r4 := hI.r4; have r5 := hI.r5
      have fr := hI.fr; have fc := hI.fc; have ck := hI.c3
      by_cases hcol : ¬ bt s 8 = 58
      · have hq : (bt s 8 != 58) = true := by simp [hcol]
        have HC := hide hcol
        clear hcol
        go_wp2
        exact bodyPost_ret (v := .tuple #[.agg #[.int .u8 0, .int .u8 0, .int .u8 0, .int .u8 0, .int .u8 0, .int .u8 0], .int .i64 2]) (by simp [results, Try.results19, go_sem, r0, r1, r2, r3, r4, r5]) rfl ⟨Or.inr ⟨fun h => HC.out ((h.2.2.2.1).1.resolve_left (by omega)), rfl⟩, by have hB := hI.below; go_grown⟩
      have hq : (bt s 8 != 58) = false := by simpa using hcol
      have HC := hide hcol
      clear hcol
      by_cases hh : 0 ≤ val (bt s 9)
      · by_cases hv : 0 ≤ val (bt s 10)
        · have q := or4 (val (bt s 9)) (val (bt s 10)) hh v0 hv v1
          have q2 := or4' (val (bt s 9)) (val (bt s 10)) hh v0 hv v1
          go_wp2_with (first | (go_at_call_of 26 (bt s 9); refine (value26_yes _ _ g0 g1 hh).mono ?_; rintro e w1 ⟨rfl, rfl⟩) | (go_at_call_of 26 (bt s 10); refine (value26_yes _ _ g2 g3 hv).mono ?_; rintro e w1 ⟨rfl, rfl⟩))
          refine ⟨⟨4, by omega, rfl, fun m hm => ?_, hI.set3 _⟩, by simp [intOf]⟩
          by_cases e : m = 3
          · subst e; exact ⟨Or.inr (Decidable.of_not_not HC.out), hh, hv⟩
          · exact HP.out m (by omega)
        · have hv' : val (bt s 10) < 0 := by omega
          go_wp2_with (first | (go_at_call_of 26 (bt s 9); refine (value26_yes _ _ g0 g1 hh).mono ?_; rintro e w1 ⟨rfl, rfl⟩) | (go_at_call_of 26 (bt s 10); refine (value26_no _ _ g2 g3 hv').mono ?_; rintro e w1 ⟨rfl, rfl⟩))
          exact bodyPost_ret (v := .tuple #[.agg #[.int .u8 0, .int .u8 0, .int .u8 0, .int .u8 0, .int .u8 0, .int .u8 0], .int .i64 2]) (by simp [results, Try.results19, go_sem, r0, r1, r2, r3, r4, r5]) rfl ⟨Or.inr ⟨fun h => absurd (show 0 ≤ val (bt s 10) from (h.2.2.2.1).2.2) (by omega), rfl⟩, by have hB := hI.below; go_grown⟩
      · have hh' : val (bt s 9) < 0 := by omega
        by_cases hv : 0 ≤ val (bt s 10)
        · go_wp2_with (first | (go_at_call_of 26 (bt s 9); refine (value26_no _ _ g0 g1 hh').mono ?_; rintro e w1 ⟨rfl, rfl⟩) | (go_at_call_of 26 (bt s 10); refine (value26_yes _ _ g2 g3 hv).mono ?_; rintro e w1 ⟨rfl, rfl⟩))
          exact bodyPost_ret (v := .tuple #[.agg #[.int .u8 0, .int .u8 0, .int .u8 0, .int .u8 0, .int .u8 0, .int .u8 0], .int .i64 2]) (by simp [results, Try.results19, go_sem, r0, r1, r2, r3, r4, r5]) rfl ⟨Or.inr ⟨fun h => absurd (show 0 ≤ val (bt s 9) from (h.2.2.2.1).2.1) (by omega), rfl⟩, by have hB := hI.below; go_grown⟩
        · have hv' : val (bt s 10) < 0 := by omega
          go_wp2_with (first | (go_at_call_of 26 (bt s 9); refine (value26_no _ _ g0 g1 hh').mono ?_; rintro e w1 ⟨rfl, rfl⟩) | (go_at_call_of 26 (bt s 10); refine (value26_no _ _ g2 g3 hv').mono ?_; rintro e w1 ⟨rfl, rfl⟩))
          exact bodyPost_ret (v := .tuple #[.agg #[.int .u8 0, .int .u8 0, .int .u8 0, .int .u8 0, .int .u8 0, .int .u8 0], .int .i64 2]) (by simp [results, Try.results19, go_sem, r0, r1, r2, r3, r4, r5]) rfl ⟨Or.inr ⟨fun h => absurd (show 0 ≤ val (bt s 9) from (h.2.2.2.1).2.1) (by omega), rfl⟩, by have hB := hI.below; go_grown⟩
    · have g0 := bt_nonneg s 12; have g1 := bt_le s 12; have g2 := bt_nonneg s 13; have g3 := bt_le s 13
      have v0 := val_lt (bt s 12); have v1 := val_lt (bt s 13)
      have r0 := hI.r0; have r1 := hI.r1; have r2 := hI.r2; have r3 := hI.r3; have r4 := hI.r4; have r5 := hI.r5
      have fr := hI.fr; have fc := hI.fc; have ck := hI.c4
      by_cases hcol : ¬ bt s 11 = 58
      · have hq : (bt s 11 != 58) = true := by simp [hcol]
        have HC := hide hcol
        clear hcol
        go_wp2
        exact bodyPost_ret (v := .tuple #[.agg #[.int .u8 0, .int .u8 0, .int .u8 0, .int .u8 0, .int .u8 0, .int .u8 0], .int .i64 2]) (by simp [results, Try.results19, go_sem, r0, r1, r2, r3, r4, r5]) rfl ⟨Or.inr ⟨fun h => HC.out ((h.2.2.2.2.1).1.resolve_left (by omega)), rfl⟩, by have hB := hI.below; go_grown⟩
      have hq : (bt s 11 != 58) = false := by simpa using hcol
      have HC := hide hcol
      clear hcol
      by_cases hh : 0 ≤ val (bt s 12)
      · by_cases hv : 0 ≤ val (bt s 13)
        · have q := or4 (val (bt s 12)) (val (bt s 13)) hh v0 hv v1
          have q2 := or4' (val (bt s 12)) (val (bt s 13)) hh v0 hv v1
          go_wp2_with (first | (go_at_call_of 26 (bt s 12); refine (value26_yes _ _ g0 g1 hh).mono ?_; rintro e w1 ⟨rfl, rfl⟩) | (go_at_call_of 26 (bt s 13); refine (value26_yes _ _ g2 g3 hv).mono ?_; rintro e w1 ⟨rfl, rfl⟩))
          refine ⟨⟨5, by omega, rfl, fun m hm => ?_, hI.set4 _⟩, by simp [intOf]⟩
          by_cases e : m = 4
          · subst e; exact ⟨Or.inr (Decidable.of_not_not HC.out), hh, hv⟩
          · exact HP.out m (by omega)
        · have hv' : val (bt s 13) < 0 := by omega
          go_wp2_with (first | (go_at_call_of 26 (bt s 12); refine (value26_yes _ _ g0 g1 hh).mono ?_; rintro e w1 ⟨rfl, rfl⟩) | (go_at_call_of 26 (bt s 13); refine (value26_no _ _ g2 g3 hv').mono ?_; rintro e w1 ⟨rfl, rfl⟩))
          exact bodyPost_ret (v := .tuple #[.agg #[.int .u8 0, .int .u8 0, .int .u8 0, .int .u8 0, .int .u8 0, .int .u8 0], .int .i64 2]) (by simp [results, Try.results19, go_sem, r0, r1, r2, r3, r4, r5]) rfl ⟨Or.inr ⟨fun h => absurd (show 0 ≤ val (bt s 13) from (h.2.2.2.2.1).2.2) (by omega), rfl⟩, by have hB := hI.below; go_grown⟩
      · have hh' : val (bt s 12) < 0 := by omega
        by_cases hv : 0 ≤ val (bt s 13)
        · go_wp2_with (first | (go_at_call_of 26 (bt s 12); refine (value26_no _ _ g0 g1 hh').mono ?_; rintro e w1 ⟨rfl, rfl⟩) | (go_at_call_of 26 (bt s 13); refine (value26_yes _ _ g2 g3 hv).mono ?_; rintro e w1 ⟨rfl, rfl⟩))
          exact bodyPost_ret (v := .tuple #[.agg #[.int .u8 0, .int .u8 0, .int .u8 0, .int .u8 0, .int .u8 0, .int .u8 0], .int .i64 2]) (by simp [results, Try.results19, go_sem, r0, r1, r2, r3, r4, r5]) rfl ⟨Or.inr ⟨fun h => absurd (show 0 ≤ val (bt s 12) from (h.2.2.2.2.1).2.1) (by omega), rfl⟩, by have hB := hI.below; go_grown⟩
        · have hv' : val (bt s 13) < 0 := by omega
          go_wp2_with (first | (go_at_call_of 26 (bt s 12); refine (value26_no _ _ g0 g1 hh').mono ?_; rintro e w1 ⟨rfl, rfl⟩) | (go_at_call_of 26 (bt s 13); refine (value26_no _ _ g2 g3 hv').mono ?_; rintro e w1 ⟨rfl, rfl⟩))
          exact bodyPost_ret (v := .tuple #[.agg #[.int .u8 0, .int .u8 0, .int .u8 0, .int .u8 0, .int .u8 0, .int .u8 0], .int .i64 2]) (by simp [results, Try.results19, go_sem, r0, r1, r2, r3, r4, r5]) rfl ⟨Or.inr ⟨fun h => absurd (show 0 ≤ val (bt s 12) from (h.2.2.2.2.1).2.1) (by omega), rfl⟩, by have hB := hI.below; go_grown⟩
    · have g0 := bt_nonneg s 15; have g1 := bt_le s 15; have g2 := bt_nonneg s 16; have g3 := bt_le s 16
      have v0 := val_lt (bt s 15); have v1 := val_lt (bt s 16)
      have r0 := hI.r0; have r1 := hI.r1; have r2 := hI.r2; have r3 := hI.r3; have r4 := hI.r4; have r5 := hI.r5
      have fr := hI.fr; have fc := hI.fc; have ck := hI.c5
      by_cases hcol : ¬ bt s 14 = 58
      · have hq : (bt s 14 != 58) = true := by simp [hcol]
        have HC := hide hcol
        clear hcol
        go_wp2
        exact bodyPost_ret (v := .tuple #[.agg #[.int .u8 0, .int .u8 0, .int .u8 0, .int .u8 0, .int .u8 0, .int .u8 0], .int .i64 2]) (by simp [results, Try.results19, go_sem, r0, r1, r2, r3, r4, r5]) rfl ⟨Or.inr ⟨fun h => HC.out ((h.2.2.2.2.2).1.resolve_left (by omega)), rfl⟩, by have hB := hI.below; go_grown⟩
      have hq : (bt s 14 != 58) = false := by simpa using hcol
      have HC := hide hcol
      clear hcol
      by_cases hh : 0 ≤ val (bt s 15)
      · by_cases hv : 0 ≤ val (bt s 16)
        · have q := or4 (val (bt s 15)) (val (bt s 16)) hh v0 hv v1
          have q2 := or4' (val (bt s 15)) (val (bt s 16)) hh v0 hv v1
          go_wp2_with (first | (go_at_call_of 26 (bt s 15); refine (value26_yes _ _ g0 g1 hh).mono ?_; rintro e w1 ⟨rfl, rfl⟩) | (go_at_call_of 26 (bt s 16); refine (value26_yes _ _ g2 g3 hv).mono ?_; rintro e w1 ⟨rfl, rfl⟩))
          refine ⟨⟨6, by omega, rfl, fun m hm => ?_, hI.set5 _⟩, by simp [intOf]⟩
          by_cases e : m = 5
          · subst e; exact ⟨Or.inr (Decidable.of_not_not HC.out), hh, hv⟩
          · exact HP.out m (by omega)
        · have hv' : val (bt s 16) < 0 := by omega
          go_wp2_with (first | (go_at_call_of 26 (bt s 15); refine (value26_yes _ _ g0 g1 hh).mono ?_; rintro e w1 ⟨rfl, rfl⟩) | (go_at_call_of 26 (bt s 16); refine (value26_no _ _ g2 g3 hv').mono ?_; rintro e w1 ⟨rfl, rfl⟩))
          exact bodyPost_ret (v := .tuple #[.agg #[.int .u8 0, .int .u8 0, .int .u8 0, .int .u8 0, .int .u8 0, .int .u8 0], .int .i64 2]) (by simp [results, Try.results19, go_sem, r0, r1, r2, r3, r4, r5]) rfl ⟨Or.inr ⟨fun h => absurd (show 0 ≤ val (bt s 16) from (h.2.2.2.2.2).2.2) (by omega), rfl⟩, by have hB := hI.below; go_grown⟩
      · have hh' : val (bt s 15) < 0 := by omega
        by_cases hv : 0 ≤ val (bt s 16)
        · go_wp2_with (first | (go_at_call_of 26 (bt s 15); refine (value26_no _ _ g0 g1 hh').mono ?_; rintro e w1 ⟨rfl, rfl⟩) | (go_at_call_of 26 (bt s 16); refine (value26_yes _ _ g2 g3 hv).mono ?_; rintro e w1 ⟨rfl, rfl⟩))
          exact bodyPost_ret (v := .tuple #[.agg #[.int .u8 0, .int .u8 0, .int .u8 0, .int .u8 0, .int .u8 0, .int .u8 0], .int .i64 2]) (by simp [results, Try.results19, go_sem, r0, r1, r2, r3, r4, r5]) rfl ⟨Or.inr ⟨fun h => absurd (show 0 ≤ val (bt s 15) from (h.2.2.2.2.2).2.1) (by omega), rfl⟩, by have hB := hI.below; go_grown⟩
        · have hv' : val (bt s 16) < 0 := by omega
          go_wp2_with (first | (go_at_call_of 26 (bt s 15); refine (value26_no _ _ g0 g1 hh').mono ?_; rintro e w1 ⟨rfl, rfl⟩) | (go_at_call_of 26 (bt s 16); refine (value26_no _ _ g2 g3 hv').mono ?_; rintro e w1 ⟨rfl, rfl⟩))
          exact bodyPost_ret (v := .tuple #[.agg #[.int .u8 0, .int .u8 0, .int .u8 0, .int .u8 0, .int .u8 0, .int .u8 0], .int .i64 2]) (by simp [results, Try.results19, go_sem, r0, r1, r2, r3, r4, r5]) rfl ⟨Or.inr ⟨fun h => absurd (show 0 ≤ val (bt s 15) from (h.2.2.2.2.2).2.1) (by omega), rfl⟩, by have hB := hI.below; go_grown⟩
    · have hJ : PI w wr (byteAt s 0) (byteAt s 1) (byteAt s 2) (byteAt s 3) (byteAt s 4) (byteAt s 5) := hI
      have r0 := hI.r0; have r1 := hI.r1; have r2 := hI.r2; have r3 := hI.r3; have r4 := hI.r4; have r5 := hI.r5
      have c0 := hJ.c0; have c1 := hJ.c1; have c2 := hJ.c2; have c3 := hJ.c3; have c4 := hJ.c4; have c5 := hJ.c5
      have fr := hI.fr
      go_wp2
      exact bodyPost_ret (v := .tuple #[.agg #[.int .u8 (byteAt s 0), .int .u8 (byteAt s 1), .int .u8 (byteAt s 2), .int .u8 (byteAt s 3), .int .u8 (byteAt s 4), .int .u8 (byteAt s 5)], .int .i64 0]) (by simp [results, Try.results19, go_sem, r0, r1, r2, r3, r4, r5]) rfl ⟨Or.inl ⟨⟨HP.out 0 (by omega), HP.out 1 (by omega), HP.out 2 (by omega), HP.out 3 (by omega), HP.out 4 (by omega), HP.out 5 (by omega)⟩, rfl⟩, by have hB := hI.below; go_grown⟩
end Go.Proofs.Ytokmkgjjiloacaa
