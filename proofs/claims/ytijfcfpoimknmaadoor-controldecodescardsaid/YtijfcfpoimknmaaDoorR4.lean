/- Contract of Right, as the document has it. -/
import Derived.Test.YtijfcfpoimknmaaDoorR2
import Derived.Deep.Cut
namespace Go.Proofs.YtijfcfpoimknmaaDoor
open Go.RowKit
section
attribute [local go_sem] NC0 ZM
set_option maxRecDepth 100000 in
set_option maxHeartbeats 8000000 in
theorem right14_in (n : Nt) (a : Option Addr) (m c : Nat) (w : World) (h1 : wi n.k 0 8 = true) :
    Calls Tryd.prog 14 #[.agg (NC n (.slice a m c))] w fun e w' => e = .returned (.bool (rr n m)) ∧ Below w.heap.size w w' := by
  have B0 := below_alloc w (.cells (NC n (.slice a m c)) 26)
  have hk8 : ∀ W, Calls Tryd.prog 28 #[.int .i64 n.k, .int .i64 0, .int .i64 8] W fun e w' => e = .returned (.bool (wi n.k 0 8)) ∧ w' = W := fun W => within28 _ _ _ W
  have qv : ∀ W, Calls Tryd.prog 28 #[.int .i64 n.v, .int .i64 1, .int .i64 4094] W fun e w' => e = .returned (.bool (wi n.v 1 4094)) ∧ w' = W := fun W => within28 _ _ _ W
  have qp : ∀ W, Calls Tryd.prog 28 #[.int .i64 n.p, .int .i64 0, .int .i64 1000] W fun e w' => e = .returned (.bool (wi n.p 0 1000)) ∧ w' = W := fun W => within28 _ _ _ W
  have qs : ∀ W, Calls Tryd.prog 28 #[.int .i64 n.s, .int .i64 0, .int .i64 (hi n.k)] W fun e w' => e = .returned (.bool (wi n.s 0 (hi n.k))) ∧ w' = W := fun W => within28 _ _ _ W
  have k30 : ∀ W, Calls Tryd.prog 30 #[.int .i64 n.k] W fun e w' => e = .returned (.bool (hv n.k)) ∧ w' = W := fun W => has30 _ W
  have k31 : ∀ W, Calls Tryd.prog 31 #[.int .i64 n.k] W fun e w' => e = .returned (.bool (hm n.k)) ∧ w' = W := fun W => has31 _ W
  have k32 : ∀ W, Calls Tryd.prog 32 #[.int .i64 n.k] W fun e w' => e = .returned (.bool (hp n.k)) ∧ w' = W := fun W => has32 _ W
  have k33 : ∀ W, Calls Tryd.prog 33 #[.int .i64 n.k] W fun e w' => e = .returned (.bool (hst n.k)) ∧ w' = W := fun W => has33 _ W
  have k34 : ∀ W, Calls Tryd.prog 34 #[.int .i64 n.k] W fun e w' => e = .returned (.bool (hb n.k)) ∧ w' = W := fun W => has34 _ W
  have he := eqM n zeroN
  have em : eq6 n.m0 n.m1 n.m2 n.m3 n.m4 n.m5 zeroN.m0 zeroN.m1 zeroN.m2 zeroN.m3 zeroN.m4 zeroN.m5 = m0 n := rfl
  rw [em] at he
  have HR : Hid (rr n m = (!(hv n.k && !wi n.v 1 4094 || !hv n.k && n.v != 0) && (!(!hm n.k && !m0 n) && (!(hp n.k && !wi n.p 0 1000 || !hp n.k && n.p != 0) && (wi n.s 0 (hi n.k) && (hb n.k && decide ((m : Int) ≤ 1600) || ((m : Int) == 0))))))) := hide (by rw [rr, h1, Bool.true_and])
  have HH : Hid (hi n.k = if (n.k == 8) = true then 250 else if (n.k == 6) = true then 2 else if hst n.k = true then 1 else 0) := hide (by simp [hi])
  rw [h1] at hk8
  generalize hv n.k = V at *
  generalize hm n.k = M at *
  generalize hp n.k = P at *
  generalize hst n.k = S at *
  generalize hb n.k = B at *
  generalize wi n.v 1 4094 = A at *
  generalize m0 n = Z at *
  generalize wi n.p 0 1000 = C at *
  generalize wi n.s 0 (hi n.k) = D at *
  generalize hi n.k = H at *
  clear em h1
  go_enter Tryd.func14, Tryd.ntmps14
  go_wp2_with fail
  refine (hk8 _).mono ?_
  rintro e w1 ⟨rfl, hw⟩
  have C0 : Box w1 w.heap.size (ncl n (.slice a m c)) := by rw [hw]; exact Box.new w (ncl n (.slice a m c)) 26
  have BW : Hid (Below w.heap.size w w1) := hide (by rw [hw]; exact B0)
  have c0 := C0.cell 0 _ rfl
  have c1 := C0.cell 1 _ rfl
  have c8 := C0.cell 8 _ rfl
  have c9 := C0.cell 9 _ rfl
  have c10 := C0.cell 10 _ rfl
  have NM := C0.mac
  clear hw C0 B0 hk8
  go_upto_region 3 with fail
  go_cut [27] from 4 (fun s w' => s = .bool (V && !A || !V && n.v != 0) ∧ w' = w1)
  case first =>
    cases V
    · go_wp2_with (first | (go_at_call 30; refine (k30 _).mono ?_; rintro e w' ⟨rfl, rfl⟩))
      go_meet
      case rel => exact ⟨by simp, rfl⟩
    · cases A
      all_goals
        go_wp2_with (first | (go_at_call 30; refine (k30 _).mono ?_; rintro e w' ⟨rfl, rfl⟩) | (go_at_call 28; refine (qv _).mono ?_; rintro e w' ⟨rfl, rfl⟩))
        go_meet
        case rel => exact ⟨by simp, rfl⟩
  case rest =>
  obtain ⟨rfl, rfl⟩ := hcut
  generalize (V && !A || !V && n.v != 0) = b1 at *
  clear k30 qv c1
  cases b1
  rotate_left
  · go_wp2
    go_ret
    exact ⟨ret_bool (by rw [HR.out]; rfl), BW.out⟩
  go_upto_region 5 with fail
  go_cut [37] from 4 (fun s w' => s = .bool (!M && !Z) ∧ w' = wc)
  case first =>
    cases M
    · have tk1 : True := trivial
      go_wp2_with (first | (go_at_call 31; refine (k31 _).mono ?_; rintro e w' ⟨rfl, rfl⟩) | (have _t := tk1; refine wpl_mac (.tmp 33) rfl NM ?_ ?_ ?_; rfl; rfl; clear tk1))
      go_meet
      case rel => exact ⟨by simp, rfl⟩
    · go_wp2_with (first | (go_at_call 31; refine (k31 _).mono ?_; rintro e w' ⟨rfl, rfl⟩))
      go_meet
      case rel => exact ⟨by simp, rfl⟩
  case rest =>
  obtain ⟨rfl, rfl⟩ := hcut
  generalize (!M && !Z) = b1 at *
  clear k31 he NM
  cases b1
  rotate_left
  · go_wp2
    go_ret
    exact ⟨ret_bool (by rw [HR.out]; rfl), BW.out⟩
  go_upto_region 7 with fail
  go_cut [57] from 4 (fun s w' => s = .bool (P && !C || !P && n.p != 0) ∧ w' = wc)
  case first =>
    cases P
    · go_wp2_with (first | (go_at_call 32; refine (k32 _).mono ?_; rintro e w' ⟨rfl, rfl⟩))
      go_meet
      case rel => exact ⟨by simp, rfl⟩
    · cases C
      all_goals
        go_wp2_with (first | (go_at_call 32; refine (k32 _).mono ?_; rintro e w' ⟨rfl, rfl⟩) | (go_at_call 28; refine (qp _).mono ?_; rintro e w' ⟨rfl, rfl⟩))
        go_meet
        case rel => exact ⟨by simp, rfl⟩
  case rest =>
  obtain ⟨rfl, rfl⟩ := hcut
  generalize (P && !C || !P && n.p != 0) = b1 at *
  clear k32 qp c8
  cases b1
  rotate_left
  · go_wp2
    go_ret
    exact ⟨ret_bool (by rw [HR.out]; rfl), BW.out⟩
  go_upto_if 60 with (first | (go_at_call 33; refine (k33 _).mono ?_; rintro e w' ⟨rfl, rfl⟩))
  go_cut [3] from 4 (fun s w'' => s = .int .i64 (if S = true then 1 else 0) ∧ w'' = w')
  case first =>
    cases S
    all_goals
      go_wp2
      go_meet
      case rel => exact ⟨by simp, rfl⟩
  case rest =>
  obtain ⟨rfl, rfl⟩ := hcut
  generalize (if S = true then (1 : Int) else 0) = h0 at *
  clear k33
  go_upto_if 63 with fail
  go_cut [3] from 4 (fun s w' => s = .int .i64 (if (n.k == 6) = true then 2 else h0) ∧ w' = wc)
  case first =>
    rcases Bool.eq_false_or_eq_true (n.k == 6) with hq | hq
    all_goals
      go_wp2
      go_meet
      case rel => exact ⟨by simp [hq], rfl⟩
  case rest =>
  obtain ⟨rfl, rfl⟩ := hcut
  generalize (if (n.k == 6) = true then (2 : Int) else h0) = h2 at *
  go_upto_if 66 with fail
  go_cut [3] from 4 (fun s w' => s = .int .i64 (if (n.k == 8) = true then 250 else h2) ∧ w' = wc)
  case first =>
    rcases Bool.eq_false_or_eq_true (n.k == 8) with hq | hq
    all_goals
      go_wp2
      go_meet
      case rel => exact ⟨by simp [hq], rfl⟩
  case rest =>
  obtain ⟨rfl, rfl⟩ := hcut
  rw [← HH.out]
  clear HH
  cases D
  · go_wp2_with (first | (go_at_call 28; refine (qs _).mono ?_; rintro e w' ⟨rfl, rfl⟩))
    go_ret
    exact ⟨ret_bool (by rw [HR.out]; rfl), BW.out⟩
  go_upto_region 18 with (first | (go_at_call 28; refine (qs _).mono ?_; rintro e w' ⟨rfl, rfl⟩))
  clear qs c9
  cases B
  · go_wp2_with (first | (go_at_call 34; refine (k34 _).mono ?_; rintro e w' ⟨rfl, rfl⟩))
    go_ret
    exact ⟨ret_bool (by rw [HR.out]; simp), BW.out⟩
  · rcases Bool.eq_false_or_eq_true (decide ((m : Int) ≤ 1600)) with hq | hq
    all_goals
      go_wp2_with (first | (go_at_call 34; refine (k34 _).mono ?_; rintro e w' ⟨rfl, rfl⟩))
      go_ret
      exact ⟨ret_bool (by rw [HR.out, hq]; simp), BW.out⟩
end
section
attribute [local go_sem] NC0
set_option maxRecDepth 100000 in
set_option maxHeartbeats 2000000 in
theorem right14_out (n : Nt) (a : Option Addr) (m c : Nat) (w : World) (h1 : wi n.k 0 8 = false) :
    Calls Tryd.prog 14 #[.agg (NC n (.slice a m c))] w fun e w' => e = .returned (.bool (rr n m)) ∧ Below w.heap.size w w' := by
  have B0 := below_alloc w (.cells (NC n (.slice a m c)) 26)
  have hk8 : ∀ W, Calls Tryd.prog 28 #[.int .i64 n.k, .int .i64 0, .int .i64 8] W fun e w' => e = .returned (.bool (wi n.k 0 8)) ∧ w' = W := fun W => within28 _ _ _ W
  rw [h1] at hk8
  have HR : Hid (rr n m = false) := hide (by rw [rr, h1, Bool.false_and])
  clear h1
  go_enter Tryd.func14, Tryd.ntmps14
  go_wp2_with (first | (go_at_call 28; refine (hk8 _).mono ?_; rintro e w' ⟨rfl, rfl⟩))
  go_ret
  exact ⟨ret_bool (by rw [HR.out]), B0⟩
end
theorem right14 (n : Nt) (a : Option Addr) (m c : Nat) (hl : n.b.length = m) (w : World) :
    Calls Tryd.prog 14 #[.agg (NC n (.slice a m c))] w fun e w' => e = .returned (.bool (rt n)) ∧ Below w.heap.size w w' := by
  rw [← rr_rt n m hl]
  cases h1 : wi n.k 0 8
  · exact right14_out n a m c w h1
  · exact right14_in n a m c w h1
end Go.Proofs.YtijfcfpoimknmaaDoor
