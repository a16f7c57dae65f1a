/- Contracts of the document's own Alive and Told. -/
import Derived.Test.YtijfcfpoimknmaaDoorR1
import Derived.Test.YtijfcfpoimknmaaDoorAm
namespace Go.Proofs.YtijfcfpoimknmaaDoor
open Go.RowKit

theorem byt_mid {w : World} {b o n c : Nat} {ns : List Int} (h : Byt w (some ⟨b, o, none⟩) n c ns) (i j : Nat) (hj : i + j ≤ n) (hi : i < n) : Byt w (some ⟨b, o + i, none⟩) j (c - i) ((ns.drop i).take j) := by
  have hle := h.le
  have h1 := byt_drop h (j := i) (by omega) (ao := some ⟨b, o + i, none⟩) (fun _ => rfl) (fun e => by omega)
  exact byt_take h1 (by omega)
set_option maxRecDepth 100000 in
set_option maxHeartbeats 2000000 in
theorem alive19_no (e p : Int) (pr : Bool) (w : World) (h : ar e p = false) :
    Calls Tryd.prog 19 #[.int .i64 e, .int .i64 p, .bool pr] w fun x w' => x = .returned (.tuple #[.slice none 0 0, .int .i64 1]) ∧ Below w.heap.size w w' := by
  unfold ar sq at h
  rcases Bool.eq_false_or_eq_true (wi e 0 1073741824) with he | he
  · rw [he, Bool.true_and] at h
    go_enter Tryd.func19, Tryd.ntmps19
    go_wp2_with (first | (go_at_call 28; refine (within28 _ _ _ _).mono ?_; rintro e w' ⟨rfl, rfl⟩))
    go_ret2
    exact ⟨rfl, Below.refl _ _⟩
  · clear h
    go_enter Tryd.func19, Tryd.ntmps19
    go_wp2_with (first | (go_at_call 28; refine (within28 _ _ _ _).mono ?_; rintro e w' ⟨rfl, rfl⟩))
    go_ret2
    exact ⟨rfl, Below.refl _ _⟩
set_option maxRecDepth 100000 in
set_option maxHeartbeats 4000000 in
theorem alive19_yes (e p : Int) (pr : Bool) (w : World) (h : ar e p = true) :
    Calls Tryd.prog 19 #[.int .i64 e, .int .i64 p, .bool pr] w fun x w' => ∃ ao c, x = .returned (.tuple #[.slice ao 8 c, .int .i64 0]) ∧ Byt w' ao 8 c (ab e p pr) ∧ Below w.heap.size w w' := by
  simp only [ar, Bool.and_eq_true] at h
  obtain ⟨he, hp⟩ := h
  have q1 : wi e 0 1073741824 = true := he
  have be1 := (sq_iff e).1 he
  have bp1 := (wi_iff p 0 65535).1 hp
  have F1 := hide (fit4 be1.1 (show e < 4294967296 by omega))
  have F2 := hide (fit2 bp1.1 (show p < 65536 by omega))
  have HR := hide (ab_rng e p pr)
  have HAB : Hid ((([75] ++ be 4 e) ++ be 2 p) ++ [af pr] = ab e p pr) := hide (by cases pr <;> simp [ab, be, af])
  have R0 : Hid (Row (w.alloc (.cells #[.int .u8 75] 5)) w.heap.size (.slice (some ⟨w.heap.size, 0, none⟩) 1 1) 1 [75]) := hide (Row.lit _ _ 1 rfl rfl (by omega) (Nat.le_refl _))
  have L0 := below_alloc w (.cells #[.int .u8 75] 5)
  clear be1 bp1 he
  go_enter Tryd.func19, Tryd.ntmps19
  go_wp2_with (first | (go_at_call 28; refine (within28 _ _ _ _).mono ?_; rintro e w' ⟨rfl, rfl⟩))
  refine (num4 e _ F1.out).mono ?_
  rintro x w1 ⟨rfl, Y1, -, B1⟩
  rw [World.size_alloc] at Y1
  have RR := hide (R0.out.on B1)
  have YY := hide Y1
  have hz1 : w'.heap.size ≤ w1.heap.size := by have := B1.size; simp at this; omega
  have L1 := belowOn L0 B1
  clear Y1 B1 R0 L0
  go_wp2_with (at_builtin; refine wpl_app rfl (.tmp 17) (.tmp 19) rfl w'.heap.size _ 1 _ rfl RR.out _ 4 4 _ rfl YY.out (by omega) hz1 ?_)
  intro v2 w2 R2 B2
  have L2 := L1.trans B2
  have hz2 := Nat.le_trans hz1 B2.size
  have RR2 := hide R2
  clear R2 B2 RR YY L1 hz1
  go_wp2_with fail
  refine (num2 p _ F2.out).mono ?_
  rintro x w3 ⟨ao, rfl, Y3, B3⟩
  have RR3 := hide (RR2.out.on B3)
  have YY := hide Y3
  have hz3 := Nat.le_trans hz2 B3.size
  have L3 := L2.trans (B3.mono hz2)
  clear Y3 B3 RR2 L2 hz2
  go_wp2_with (at_builtin; refine wpl_app rfl (.tmp 21) (.tmp 23) rfl w'.heap.size _ 5 _ rfl RR3.out _ 2 2 _ rfl YY.out (by omega) hz3 ?_)
  intro v4 w4 R4 B4
  have L4 := L3.trans B4
  have hz4 := Nat.le_trans hz3 B4.size
  have RR4 := hide R4
  clear R4 B4 RR3 YY L3 hz3
  cases pr
  · have BB := hide (byt1 w4 0 (by omega))
    go_wp2_with (at_builtin; refine wpl_app rfl (.tmp 29) (.tmp 30) rfl w'.heap.size _ 7 _ rfl (RR4.out.alloc _) _ 1 1 _ rfl BB.out (by omega) (by simp; omega) ?_)
    intro v5 w5 R5 B5
    have L5 := (L4.alloc hz4 _).trans B5
    have HO := hide R5
    clear R5 B5
    go_wp2
    go_ret2
    obtain ⟨a6, c6, e1, hb⟩ := Row.byt (ns := ab e p false) (by rw [← HAB.out]; simpa [af] using HO.out) HR.out
    exact ⟨a6, c6, by rw [e1]; rfl, hb, L5⟩
  · have BB := hide (byt1 w4 1 (by omega))
    go_wp2_with (at_builtin; refine wpl_app rfl (.tmp 26) (.tmp 27) rfl w'.heap.size _ 7 _ rfl (RR4.out.alloc _) _ 1 1 _ rfl BB.out (by omega) (by simp; omega) ?_)
    intro v5 w5 R5 B5
    have L5 := (L4.alloc hz4 _).trans B5
    have HO := hide R5
    clear R5 B5
    go_wp2
    go_ret2
    obtain ⟨a6, c6, e1, hb⟩ := Row.byt (ns := ab e p true) (by rw [← HAB.out]; simpa [af] using HO.out) HR.out
    exact ⟨a6, c6, by rw [e1]; rfl, hb, L5⟩
theorem alive19 (e p : Int) (pr : Bool) (w : World) :
    Calls Tryd.prog 19 #[.int .i64 e, .int .i64 p, .bool pr] w fun x w' => ∃ ao n c, x = .returned (.tuple #[.slice ao n c, .int .i64 (alc e p)]) ∧ Byt w' ao n c (alb e p pr) ∧ Below w.heap.size w w' := by
  cases h : ar e p
  · rw [alb, alc, h]
    exact (alive19_no e p pr w h).mono fun x w' ⟨h1, h2⟩ => ⟨none, 0, 0, h1, Byt.nothing _, h2⟩
  · rw [alb, alc, h]
    exact (alive19_yes e p pr w h).mono fun x w' ⟨ao, c, h1, h2, h3⟩ => ⟨_, _, _, h1, h2, h3⟩
end Go.Proofs.YtijfcfpoimknmaaDoor
