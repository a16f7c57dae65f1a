/- Contracts of Mean, of the program and of the document. -/
import Derived.Test.YtgnpkommjnklfaaMa
import Derived.Test.YtgnpkommjnklfaaA6
namespace Go.Proofs.Ytgnpkommjnklfaa
open Go.RowKit

theorem word_small (s : Bool) {r : Nat} (h : r ≤ 9218868437227405312) : Ieee.double.word s r < 18446744073709551616 := by
  unfold Ieee.Format.word
  rw [d_sign]
  split <;> omega
theorem fadd_lt {s x : Nat} (hs : nn s) (hx : finB x = true) : fadd s x < 18446744073709551616 := by
  have fx := finB_t hx
  unfold fadd
  by_cases fs : rg s = 9218868437227405312
  · rw [add_inf fs fx]
    exact word_small _ (by omega)
  · rw [add_fin (x := s) (by unfold nn at hs; omega) fx]
    exact word_small _ (rnd_top _ _)
theorem sum_lt (xs : List Nat) (k : Nat) : sumF (xs.take k) < 18446744073709551616 := by
  induction k with
  | zero => show 0 < 18446744073709551616; omega
  | succ k ih =>
    by_cases h : k < xs.length
    · rw [take_snoc 0 xs h, sumF_snoc]
      by_cases f : finB (xs.getD k 0) = true
      · rw [if_pos f]; exact fadd_lt (nn_sum xs k) f
      · rw [if_neg f]; exact ih
    · rw [List.take_of_length_le (by omega)]
      rwa [List.take_of_length_le (by omega)] at ih
theorem sum_lt' (xs : List Nat) : sumF xs < 18446744073709551616 := by
  have := sum_lt xs xs.length
  rwa [List.take_length] at this
theorem cnt_le' (xs : List Nat) : cntF xs ≤ xs.length := by
  have := cnt_le xs xs.length
  rwa [List.take_length] at this

/-- what Mean tells -/
def mnV (xs : List Nat) : Nat := if mnB xs then mnF xs else 0
theorem mn_none {xs : List Nat} (h : cntF xs = 0 ∨ finB (sumF xs) = false) : mnB xs = false ∧ mnV xs = 0 := by
  have : mnB xs = false := by
    unfold mnB
    rcases h with h | h <;> simp [h]
  exact ⟨this, by unfold mnV; rw [this]; rfl⟩
theorem mn_some {xs : List Nat} (h : cntF xs ≠ 0) (f : finB (sumF xs) = true) : mnB xs = true ∧ mnV xs = mnF xs := by
  have : mnB xs = true := by unfold mnB; simp [h, f]
  exact ⟨this, by unfold mnV; rw [this]; rfl⟩

set_option maxHeartbeats 1000000 in
theorem mean14 (ao : Option Addr) (n c : Nat) (xs : List Nat) (w : World) (hF : Flt w w.heap.size ao n c xs) (hn : n ≤ 1000) :
    Calls Try.prog 14 #[.slice ao n c] w fun e w' => e = .returned (.tuple #[.float .f64 (mnV xs), .bool (mnB xs)]) ∧ Below w.heap.size w w' := by
  have hmf : ∀ (fn : Fn) (first cap : Array Value) (w : World), (Instr.makeFunc fn first cap).run Try.prog w = .ok (.func fn first cap) w := fun _ _ _ _ => rfl
  have hst := store_float
  have hl := hF.len
  have hc := cnt_le' xs
  have sl := sum_lt' xs
  have hB0 : Below w.heap.size w ((w.alloc (.cells #[.float .f64 0] 22)).alloc (.cells #[.int .i64 0] 3)) := ((Below.refl _ _).alloc (Nat.le_refl _) _).alloc (by simp) _
  by_cases z : cntF xs = 0
  · obtain ⟨m1, m2⟩ := mn_none (xs := xs) (Or.inl z)
    rw [m1, m2]
    clear m1 m2 hc sl
    go_enter Try.func14, Try.ntmps14
    go_wp2_with fail
    refine (each27m w.heap.size w.heap.size (w.heap.size + 1) ao n c xs _ (hF.on hB0) ⟨by simp, by simp, by simp, by simp, Nat.le_refl _, by omega, by omega⟩ hn).mono ?_
    rintro e w1 ⟨rfl, T, hB⟩
    replace hB := hB0.trans hB
    obtain ⟨c1, c2, -, -, -, -, -⟩ := T
    clear hB0 hst hmf hF
    rw [z] at c2
    go_wp2
    go_ret2
    exact ⟨rfl, hB⟩
  · have z' : ¬ ((cntF xs : Int) = 0) := by omega
    rcases Bool.eq_false_or_eq_true (finB (sumF xs)) with f | f
    · obtain ⟨m1, m2⟩ := mn_some z f
      have md := mean_div z (by omega)
      rw [m1, m2]
      have h1 := quo_run md.1
      have h2 := conv_int (c := (cntF xs : Int)) (by omega)
      rw [Int.toNat_natCast] at h2
      clear m1 m2 hc md z
      go_enter Try.func14, Try.ntmps14
      go_wp2_with fail
      refine (each27m w.heap.size w.heap.size (w.heap.size + 1) ao n c xs _ (hF.on hB0) ⟨by simp, by simp, by simp, by simp, Nat.le_refl _, by omega, by omega⟩ hn).mono ?_
      rintro e w1 ⟨rfl, T, hB⟩
      replace hB := hB0.trans hB
      obtain ⟨c1, c2, -, -, -, -, -⟩ := T
      clear hB0 hst hmf hF
      go_wp2_with (go_at_call 26; refine (fin26 _ _ sl).mono ?_; rintro e w2 ⟨rfl, rfl⟩)
      go_ret2
      exact ⟨rfl, hB⟩
    · obtain ⟨m1, m2⟩ := mn_none (xs := xs) (Or.inr f)
      rw [m1, m2]
      clear m1 m2 hc z
      go_enter Try.func14, Try.ntmps14
      go_wp2_with fail
      refine (each27m w.heap.size w.heap.size (w.heap.size + 1) ao n c xs _ (hF.on hB0) ⟨by simp, by simp, by simp, by simp, Nat.le_refl _, by omega, by omega⟩ hn).mono ?_
      rintro e w1 ⟨rfl, T, hB⟩
      replace hB := hB0.trans hB
      obtain ⟨c1, c2, -, -, -, -, -⟩ := T
      clear hB0 hst hmf hF
      go_wp2_with (go_at_call 26; refine (fin26 _ _ sl).mono ?_; rintro e w2 ⟨rfl, rfl⟩)
      go_ret2
      exact ⟨rfl, hB⟩

theorem fin_same {x : Nat} (h : rg x < 9218868437227405312) : finB x = true := by unfold finB; simpa using h

set_option maxHeartbeats 1000000 in
theorem mean15 (ao : Option Addr) (n c : Nat) (xs : List Nat) (w : World) (hF : Flt w w.heap.size ao n c xs) (hn : n ≤ 1000) :
    Calls Try.prog 15 #[.slice ao n c] w fun e w' => e = .returned (.tuple #[.float .f64 (mnV xs), .bool (mnB xs)]) ∧ w' = w := by
  have hl := hF.len
  go_enter Try.func15, Try.ntmps15
  go_wp2
  go_loop [4, 5, 6] (fun s q i => ∃ k : Nat, k ≤ n ∧ i = .int .i64 k ∧ s = .float .f64 (sumF (xs.take k)) ∧ q = .int .i64 (cntF (xs.take k))) (fun _ _ i => n - (intOf i).toNat)
  case atStart => exact ⟨0, Nat.zero_le _, rfl, rfl, rfl⟩
  case round =>
    obtain ⟨k, hk, rfl, rfl, rfl⟩ := hrel
    by_cases hlt : k < n
    · obtain ⟨b, o, rfl, hbN, hc⟩ := hF.at (by omega)
      have hx := hc k hlt
      have hr := hF.rng k
      have cn := cnt_le xs k
      have s1 := sumF_snoc (xs.take k) (xs.getD k 0)
      have s2 := cntF_snoc (xs.take k) (xs.getD k 0)
      rcases Bool.eq_false_or_eq_true (finB (xs.getD k 0)) with f | f
      · have ad := add_run (add_some (nn_sum xs k) f).1
        rw [if_pos f, ← take_snoc 0 xs (by omega)] at s1 s2
        have S1 := hide s1
        have S2 := hide s2
        clear s1 s2 hc hF
        generalize xs.getD k 0 = x at *
        generalize sumF (xs.take k) = s at *
        generalize cntF (xs.take k) = q at *
        generalize fadd s x = r at *
        go_wp2_with (go_at_call 29; refine (fin29 _ _ hr).mono ?_; rintro e w1 ⟨rfl, rfl⟩)
        go_round
        case rel => exact ⟨k + 1, by omega, by go_num, by rw [S1.out], by rw [S2.out]; go_num⟩
        case measure => simp [intOf]; omega
      · rw [if_neg (by rw [f]; exact Bool.false_ne_true), ← take_snoc 0 xs (by omega)] at s1 s2
        have S1 := hide s1
        have S2 := hide s2
        clear s1 s2 hc hF
        generalize xs.getD k 0 = x at *
        generalize sumF (xs.take k) = s at *
        generalize cntF (xs.take k) = q at *
        go_wp2_with (go_at_call 29; refine (fin29 _ _ hr).mono ?_; rintro e w1 ⟨rfl, rfl⟩)
        go_round
        case rel => exact ⟨k + 1, by omega, by go_num, by rw [S1.out], by rw [S2.out]⟩
        case measure => simp [intOf]; omega
    · have e : xs.take k = xs := List.take_of_length_le (by omega)
      rw [e]
      have hc := cnt_le' xs
      by_cases z : cntF xs = 0
      · obtain ⟨m1, m2⟩ := mn_none (xs := xs) (Or.inl z)
        have M1 := hide m1
        have M2 := hide m2
        have z' : (cntF xs : Int) = 0 := by omega
        clear m1 m2 hF
        go_wp2
        go_ret2
        exact ⟨by rw [M1.out, M2.out]; rfl, rfl⟩
      · have md := mean_div z (by omega)
        have ml : mnF xs < 18446744073709551616 := by
          have e := md.1
          unfold mnF
          have nn := nn_sum' xs
          have ri := rnd_int (n := cntF xs) (by omega)
          have rs := rg_small (q := rnd (cntF xs * K) 1) (by omega)
          by_cases fi : rg (sumF xs) = 9218868437227405312
          · rw [div_inf fi (by rw [rs]; exact ri.1)]
            exact word_small _ (by omega)
          · rw [div_fin (x := sumF xs) (by unfold Go.Proofs.Ytgnpkommjnklfaa.nn at nn; omega) (by rw [rs]; exact ri.1) (by rw [rs, ri.2]; have := Nat.mul_pos (show 0 < cntF xs by omega) K_pos; omega)]
            exact word_small _ (rnd_top _ _)
        have h1 := quo_run md.1
        have h2 := conv_int (c := (cntF xs : Int)) (by omega)
        rw [Int.toNat_natCast] at h2
        have z' : ¬ ((cntF xs : Int) = 0) := by omega
        rcases Bool.eq_false_or_eq_true (finB (sumF xs)) with f | f
        · obtain ⟨m1, m2⟩ := mn_some z f
          have fm : finB (mnF xs) = true := by rw [md.2.1]; exact f
          have M1 := hide m1
          have M2 := hide m2
          clear m1 m2 hF md z hc hn
          go_wp2_with (go_at_call 29; refine (fin29 _ _ ml).mono ?_; rintro e w1 ⟨rfl, rfl⟩)
          go_ret2
          exact ⟨by rw [M1.out, M2.out]; rfl, rfl⟩
        · obtain ⟨m1, m2⟩ := mn_none (xs := xs) (Or.inr f)
          have fm : finB (mnF xs) = false := by rw [md.2.1]; exact f
          have M1 := hide m1
          have M2 := hide m2
          clear m1 m2 hF md z hc hn
          go_wp2_with (go_at_call 29; refine (fin29 _ _ ml).mono ?_; rintro e w1 ⟨rfl, rfl⟩)
          go_ret2
          exact ⟨by rw [M1.out, M2.out]; rfl, rfl⟩

end Go.Proofs.Ytgnpkommjnklfaa
