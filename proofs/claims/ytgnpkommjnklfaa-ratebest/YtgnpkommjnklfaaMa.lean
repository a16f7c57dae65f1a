/- Which numbers are finite; the step that adds one. -/
import Derived.Test.YtgnpkommjnklfaaA5
import Derived.Test.YtgnpkommjnklfaaFd
import Derived.Test.YtgnpkommjnklfaaOp
import Derived.Laws.Unary
import Derived.Handy
namespace Go.Proofs.Ytgnpkommjnklfaa
open Go.RowKit

theorem fin_t {x : Nat} (h : finB x = true) : nanB x = false ∧ infB x = false := by
  have := finB_t h
  exact ⟨nanB_f (by unfold nn; omega), by unfold infB; simp; omega⟩
theorem fin_f {x : Nat} (h : finB x = false) : nanB x = true ∨ (nanB x = false ∧ infB x = true) := by
  unfold finB at h
  simp at h
  by_cases l : nn x
  · exact Or.inr ⟨nanB_f l, by unfold nn at l; unfold infB; simp; omega⟩
  · exact Or.inl (nanB_t l)

theorem fin26 (x : Nat) (w : World) (hx : x < 18446744073709551616) :
    Calls Try.prog 26 #[.float .f64 x] w fun e w' => e = .returned (.bool (finB x)) ∧ w' = w := by
  rcases Bool.eq_false_or_eq_true (finB x) with h | h
  · obtain ⟨h1, h2⟩ := fin_t h
    rw [h]
    go_enter Try.func26, Try.ntmps26
    go_wp2_with (first | (go_at_call 20; refine (isNaN20 _ _).mono ?_; rintro e w' ⟨rfl, rfl⟩) | (go_at_call 24; refine (isInf24z _ _ hx).mono ?_; rintro e w' ⟨rfl, rfl⟩))
    all_goals (go_ret; exact ⟨rfl, rfl⟩)
  · rw [h]
    rcases fin_f h with h1 | ⟨h1, h2⟩
    all_goals
      go_enter Try.func26, Try.ntmps26
      go_wp2_with (first | (go_at_call 20; refine (isNaN20 _ _).mono ?_; rintro e w' ⟨rfl, rfl⟩) | (go_at_call 24; refine (isInf24z _ _ hx).mono ?_; rintro e w' ⟨rfl, rfl⟩))
      all_goals (go_ret; exact ⟨rfl, rfl⟩)
theorem fin29 (x : Nat) (w : World) (hx : x < 18446744073709551616) :
    Calls Try.prog 29 #[.float .f64 x] w fun e w' => e = .returned (.bool (finB x)) ∧ w' = w := by
  rcases Bool.eq_false_or_eq_true (finB x) with h | h
  · obtain ⟨h1, h2⟩ := fin_t h
    rw [h]
    go_enter Try.func29, Try.ntmps29
    go_wp2_with (first | (go_at_call 20; refine (isNaN20 _ _).mono ?_; rintro e w' ⟨rfl, rfl⟩) | (go_at_call 24; refine (isInf24z _ _ hx).mono ?_; rintro e w' ⟨rfl, rfl⟩))
    all_goals (go_ret; exact ⟨rfl, rfl⟩)
  · rw [h]
    rcases fin_f h with h1 | ⟨h1, h2⟩
    all_goals
      go_enter Try.func29, Try.ntmps29
      go_wp2_with (first | (go_at_call 20; refine (isNaN20 _ _).mono ?_; rintro e w' ⟨rfl, rfl⟩) | (go_at_call 24; refine (isInf24z _ _ hx).mono ?_; rintro e w' ⟨rfl, rfl⟩))
      all_goals (go_ret; exact ⟨rfl, rfl⟩)

/-- the sum and the count, in memory -/
structure Two (w : World) (N bs bc : Nat) (s : Nat) (n : Int) : Prop where
  cs : w.cell? ⟨bs, 0, none⟩ = some (.float .f64 s)
  cc : w.cell? ⟨bc, 0, none⟩ = some (.int .i64 n)
  fs : w.frozen? ⟨bs, 0, none⟩ = false
  fc : w.frozen? ⟨bc, 0, none⟩ = false
  ls : N ≤ bs
  lc : N ≤ bc
  ne : bs ≠ bc

theorem store_float (a : Addr) (x : Nat) (w : World) : (store a (.float .f64 x)).run Try.prog w = stored Try.prog w a (.float .f64 x) .plain := run_store Try.prog w a _ .plain rfl

theorem add28 (i : Int) (x s r : Nat) (n : Int) (N bs bc : Nat) (w : World) (h : Two w N bs bc s n) (hs : Ieee.double.add s x = some r) (h0 : 0 ≤ n) (h1 : n ≤ 1000) :
    Calls Try.prog 28 #[.int .i64 i, .float .f64 x, .pointer (some ⟨bs, 0, none⟩), .pointer (some ⟨bc, 0, none⟩)] w fun e w' => e = .returned (.tuple #[]) ∧ Two w' N bs bc r (n + 1) ∧ Below N w w' := by
  have hst := store_float
  have h2 := add_run (a := s) (b := x) (r := r) hs
  obtain ⟨c1, c2, f1, f2, l1, l2, ne⟩ := h
  go_enter Try.func28, Try.ntmps28
  go_wp2
  go_end0
  have ne1 : (⟨bs, 0, none⟩ : Addr) ≠ ⟨bc, 0, none⟩ := fun h => ne (by injection h)
  have k1 := World.cell?_setCell_same w ⟨bs, 0, none⟩ (.float .f64 r) c1
  have k2 : (w.setCell ⟨bs, 0, none⟩ (.float .f64 r)).cell? ⟨bc, 0, none⟩ = some (.int .i64 n) := by rw [World.cell?_setCell_other _ _ _ _ ne1]; exact c2
  refine ⟨rfl, ⟨?_, World.cell?_setCell_same _ _ _ k2, by simp [f1], by simp [f2], l1, l2, ne⟩, ((Below.refl N w).setCell l1 _).setCell l2 _⟩
  rw [World.cell?_setCell_other _ _ _ _ (Ne.symm ne1)]
  exact k1

set_option maxHeartbeats 1000000 in
theorem each27m (N bs bc : Nat) (ao : Option Addr) (n c : Nat) (xs : List Nat) (w : World) (hF : Flt w N ao n c xs) (hT : Two w N bs bc 0 0) (hn : n ≤ 1000) :
    Calls Try.prog 27 #[.slice ao n c, .func (.func 26) #[] #[], .func (.func 28) #[] #[.pointer (some ⟨bs, 0, none⟩), .pointer (some ⟨bc, 0, none⟩)]] w fun e w' => e = .returned (.tuple #[]) ∧ Two w' N bs bc (sumF xs) (cntF xs) ∧ Below N w w' := by
  have hl := hF.len
  go_enter Try.func27, Try.ntmps27
  go_wp2
  go_loopw [10] (fun i wr => ∃ k : Nat, k ≤ n ∧ i = .int .i64 k ∧ Two wr N bs bc (sumF (xs.take k)) (cntF (xs.take k)) ∧ Below N w wr) (fun i _ => n - (intOf i).toNat)
  case atStart => exact ⟨0, Nat.zero_le _, rfl, hT, Below.refl _ _⟩
  case round =>
    obtain ⟨k, hk, rfl, T, hB⟩ := hrel
    by_cases hlt : k < n
    · have F := hF.on hB
      obtain ⟨b, o, rfl, hbN, hc⟩ := F.at (by omega)
      have hx := hc k hlt
      have hr := hF.rng k
      have cn := cnt_le xs k
      rcases Bool.eq_false_or_eq_true (finB (xs.getD k 0)) with f | f
      · have ad := (add_some (nn_sum xs k) f).1
        have s1 := sumF_snoc (xs.take k) (xs.getD k 0)
        have s2 := cntF_snoc (xs.take k) (xs.getD k 0)
        rw [if_pos f, ← take_snoc 0 xs (by omega)] at s1 s2
        have S1 := hide s1
        have S2 := hide s2
        clear s1 s2 hc
        generalize xs.getD k 0 = x at *
        go_wp2_with (first | (go_at_call 26; refine (fin26 _ _ hr).mono ?_; rintro e w1 ⟨rfl, rfl⟩) | (go_at_call 28; refine (add28 _ _ _ _ _ _ _ _ _ T ad (by omega) (by omega)).mono ?_; rintro e w1 ⟨rfl, T1, hB1⟩))
        go_roundw
        case rel => exact ⟨k + 1, by omega, by go_num, by rw [S1.out, S2.out]; exact T1, hB.trans hB1⟩
        case measure => simp [intOf]; omega
      · have s1 := sumF_snoc (xs.take k) (xs.getD k 0)
        have s2 := cntF_snoc (xs.take k) (xs.getD k 0)
        rw [if_neg (by rw [f]; exact Bool.false_ne_true), ← take_snoc 0 xs (by omega)] at s1 s2
        have S1 := hide s1
        have S2 := hide s2
        clear s1 s2 hc
        generalize xs.getD k 0 = x at *
        go_wp2_with (first | (go_at_call 26; refine (fin26 _ _ hr).mono ?_; rintro e w1 ⟨rfl, rfl⟩))
        go_roundw
        case rel => exact ⟨k + 1, by omega, by go_num, by rw [S1.out, S2.out]; exact T, hB⟩
        case measure => simp [intOf]; omega
    · go_wp2
      go_end0
      have e : xs.take k = xs := List.take_of_length_le (by omega)
      rw [e] at T
      exact ⟨rfl, T, hB⟩

end Go.Proofs.Ytgnpkommjnklfaa
