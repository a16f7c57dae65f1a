/- Contracts of the program's Alive and Told. -/
import Derived.Test.YtijfcfpoimknmaaDoorAl
import Derived.Test.YtijfcfpoimknmaaDoorD1
import Derived.Laws.MakeOwn
namespace Go.Proofs.YtijfcfpoimknmaaDoor
open Go.RowKit

theorem res_tmp4 {fn : Func} {p q r u : Tmp} (h : fn.results = #[.tmp p, .tmp q, .tmp r, .tmp u]) {tmps : Array Value} {w : World} :
    (results fn tmps).run Tryd.prog w = .ok (.tuple #[tmps.getD p undef, tmps.getD q undef, tmps.getD r undef, tmps.getD u undef]) w := by
  simp only [results, h]
  simp
theorem af_fit (pr : Bool) : fit 1 (af pr) = true := by cases pr <;> decide
set_option maxRecDepth 100000 in
set_option maxHeartbeats 2000000 in
theorem alive18_no (e p : Int) (pr : Bool) (w : World) (h : ar e p = false) :
    Calls Tryd.prog 18 #[.int .i64 e, .int .i64 p, .bool pr] w fun x w' => x = .returned (.tuple #[.slice none 0 0, .int .i64 1]) ∧ Below w.heap.size w w' := by
  unfold ar at h
  have q1 := fun w => seq43 e w
  have q2 := fun w => within44 p 0 65535 w
  cases he : sq e
  · rw [he] at q1
    clear h
    go_enter Tryd.func18, Tryd.ntmps18
    go_wp2_with (first | (go_at_call 43; refine (q1 _).mono ?_; rintro e w' ⟨rfl, rfl⟩))
    go_ret2
    exact ⟨rfl, Below.refl _ _⟩
  · rw [he, Bool.true_and] at h
    rw [he] at q1
    rw [h] at q2
    clear h
    go_enter Tryd.func18, Tryd.ntmps18
    go_wp2_with (first | (go_at_call 43; refine (q1 _).mono ?_; rintro e w' ⟨rfl, rfl⟩) | (go_at_call 44; refine (q2 _).mono ?_; rintro e w' ⟨rfl, rfl⟩))
    go_ret2
    exact ⟨rfl, Below.refl _ _⟩
set_option maxRecDepth 100000 in
set_option maxHeartbeats 4000000 in
theorem alive18_yes (e p : Int) (pr : Bool) (w : World) (h : ar e p = true) :
    Calls Tryd.prog 18 #[.int .i64 e, .int .i64 p, .bool pr] w fun x w' => ∃ g, x = .returned (.tuple #[.slice (some ⟨g, 0, none⟩) 8 8, .int .i64 0]) ∧ Byt w' (some ⟨g, 0, none⟩) 8 8 (ab e p pr) ∧ Below w.heap.size w w' := by
  simp only [ar, Bool.and_eq_true] at h
  obtain ⟨he, hp⟩ := h
  have q1 := fun w => seq43 e w
  have q2 := fun w => within44 p 0 65535 w
  rw [he] at q1
  rw [hp] at q2
  have be1 := (sq_iff e).1 he
  have bp1 := (wi_iff p 0 65535).1 hp
  have F1 := hide (fun G C K ns W h1 h2 => put23_1 75 rfl G C K ns W h1 h2)
  have F2 := hide (fun G C K ns W h1 h2 => put23_4 e (fit4 be1.1 (by omega)) G C K ns W h1 h2)
  have F3 := hide (fun G C K ns W h1 h2 => put23_2 p (fit2 bp1.1 (by omega)) G C K ns W h1 h2)
  have F4 := hide (fun G C K ns W h1 h2 => put23_1 (af pr) (af_fit pr) G C K ns W h1 h2)
  have HR := hide (ab_rng e p pr)
  obtain ⟨i0, hi, hz0, hz1, hz2⟩ := info_parts Tryd.info5
  have HAB : Hid (((([] ++ be 1 75) ++ be 4 e) ++ be 2 p) ++ be 1 (af pr) = ab e p pr) := hide (by simp [ab])
  clear he hp be1 bp1
  have main : ∀ f : Int, af pr = f → (pr = true ∧ f = 1 ∨ pr = false ∧ f = 0) → Calls Tryd.prog 18 #[.int .i64 e, .int .i64 p, .bool pr] w fun x w' => ∃ g, x = .returned (.tuple #[.slice (some ⟨g, 0, none⟩) 8 8, .int .i64 0]) ∧ Byt w' (some ⟨g, 0, none⟩) 8 8 (ab e p pr) ∧ Below w.heap.size w w' := by
    intro f haf hf
    rw [haf] at F4 HAB
    have HP := hide hf
    clear haf
    rcases hf with ⟨rfl, rfl⟩ | ⟨rfl, rfl⟩
    all_goals
      go_enter Tryd.func18, Tryd.ntmps18
      go_wp2_with (first | (go_at_call 43; refine (q1 _).mono ?_; rintro e w' ⟨rfl, rfl⟩) | (go_at_call 44; refine (q2 _).mono ?_; rintro e w' ⟨rfl, rfl⟩) | (at_make; refine wpList_make_own _ rfl _ _ 24 rfl _ 5 i0 (.int .u8 0) 1 Tryd.underlying24 hi hz0 hz1 .i64 .i64 _ 8 rfl rfl rfl (by rw [hz2]; omega) (by unfold maxLen; omega) (Nat.le_refl _) ?_; intro w2 hown hgrow))
      have hO : Own w2 w'.heap.size 8 0 [] := ⟨hown, (hown.lt _ rfl).2⟩
      have B2 : Below w'.heap.size w' w2 := (Below.refl _ _).grown hgrow (Nat.le_refl _) (fun k hk => by cases hk)
      have hGl := Nat.le_refl w'.heap.size
      generalize hG : w'.heap.size = G at hO hown
      have hG2 : w'.heap.size ≤ G := by omega
      have hs2 := B2.size
      clear hown hgrow hi hz0 hz1 hz2 hG hGl
      refine (F1.out G 8 0 [] _ hO (by omega)).mono ?_
      rintro x w3 ⟨rfl, O1, g1⟩
      have B3 := below_grown B2 g1 hG2 hs2
      have hs3 := B3.size
      clear hO g1 B2 hs2
      go_wp2_with fail
      refine (F2.out G 8 1 _ _ O1 (by omega)).mono ?_
      rintro x w4 ⟨rfl, O2, g1⟩
      have B4 := below_grown B3 g1 hG2 hs3
      have hs4 := B4.size
      clear O1 g1 B3 hs3
      go_wp2_with fail
      refine (F3.out G 8 5 _ _ O2 (by omega)).mono ?_
      rintro x w5 ⟨rfl, O3, g1⟩
      have B5 := below_grown B4 g1 hG2 hs4
      have hs5 := B5.size
      clear O2 g1 B4 hs4
      go_wp2_with fail
      refine (F4.out G 8 7 _ _ O3 (by omega)).mono ?_
      rintro x w6 ⟨rfl, O4, g1⟩
      have B6 := below_grown B5 g1 hG2 hs5
      rw [HAB.out] at O4
      have HO := hide O4
      clear O3 g1 B5 hs5 O4
      go_wp2
      go_ret2
      obtain ⟨ao, c', e1, hb⟩ := own_byt HO.out.row HR.out
      injection e1 with e2 e3 e4
      subst e2 e4
      exact ⟨_, rfl, hb, B6⟩
  cases pr
  · exact main 0 rfl (Or.inr ⟨rfl, rfl⟩)
  · exact main 1 rfl (Or.inl ⟨rfl, rfl⟩)
theorem alive18 (e p : Int) (pr : Bool) (w : World) :
    Calls Tryd.prog 18 #[.int .i64 e, .int .i64 p, .bool pr] w fun x w' => ∃ ao n c, x = .returned (.tuple #[.slice ao n c, .int .i64 (alc e p)]) ∧ Byt w' ao n c (alb e p pr) ∧ Below w.heap.size w w' := by
  cases h : ar e p
  · rw [alb, alc, h]
    exact (alive18_no e p pr w h).mono fun x w' ⟨h1, h2⟩ => ⟨none, 0, 0, h1, Byt.nothing _, h2⟩
  · rw [alb, alc, h]
    exact (alive18_yes e p pr w h).mono fun x w' ⟨g, h1, h2, h3⟩ => ⟨_, _, _, h1, h2, h3⟩
set_option maxRecDepth 100000 in
set_option maxHeartbeats 4000000 in
theorem told20 (ao : Option Addr) (n c : Nat) (b : List Int) (w : World) (hY : Byt w ao n c b) :
    Calls Tryd.prog 20 #[.slice ao n c] w fun x w' => x = .returned (.tuple #[.int .i64 (te b), .int .i64 (tp b), .bool (tf b), .int .i64 (tc b)]) ∧ Below w.heap.size w w' := by
  have L0 := below_alloc w (.cells #[.slice ao n c, .bool false] 58)
  have R0 : RdE w.heap.size ⟨b, false⟩ (w.alloc (.cells #[.slice ao n c, .bool false] 58)) := by
    have := Box.new w [.slice ao n c, .bool false] 58
    exact ⟨ao, n, c, this, hY.on L0, hY.lt⟩
  have HR := hide R0
  clear hY R0
  go_enter Tryd.func20, Tryd.ntmps20
  go_wp2_with fail
  refine (number45 w.heap.size 1 _ _ HR.out (by omega)).mono ?_
  rintro e w1 ⟨rfl, R1, g1⟩
  have L1 := below_grown L0 g1 (Nat.le_refl _) L0.size
  clear L0 g1 HR
  go_wp2_with fail
  refine (number45 w.heap.size 4 _ _ R1 (by omega)).mono ?_
  rintro e w2 ⟨rfl, R2, g1⟩
  have L2 := below_grown L1 g1 (Nat.le_refl _) L1.size
  clear L1 g1 R1
  go_wp2_with fail
  refine (number45 w.heap.size 2 _ _ R2 (by omega)).mono ?_
  rintro e w3 ⟨rfl, R3, g1⟩
  have L3 := below_grown L2 g1 (Nat.le_refl _) L2.size
  clear L2 g1 R2
  go_wp2_with fail
  refine (number45 w.heap.size 1 _ _ R3 (by omega)).mono ?_
  rintro e w4 ⟨rfl, R4, g1⟩
  have L4 := below_grown L3 g1 (Nat.le_refl _) L3.size
  have q0 : ∀ W, RdE w.heap.size (t4 b) W → Calls Tryd.prog 40 #[.pointer (some ⟨w.heap.size, 0, none⟩)] W fun e w' => e = .returned (.bool (wh (t4 b))) ∧ w' = W := fun W h => whole40 _ _ W h
  have R5 : RdE w.heap.size (t4 b) w4 := R4
  rw [show nr (tr ⟨b, false⟩ 1) 4 = tme b from rfl, show nr (tr (tr ⟨b, false⟩ 1) 4) 2 = tmp b from rfl, show nr (tr (tr (tr ⟨b, false⟩ 1) 4) 2) 1 = tmf b from rfl]
  have HC : tok b = (wh (t4 b) && (nr ⟨b, false⟩ 1 == 75 && (sq (tme b) && wi (tmf b) 0 1))) := rfl
  have HQ : Hid ((tok b = true → te b = tme b ∧ tp b = tmp b ∧ tf b = (tmf b == 1) ∧ tc b = 0) ∧ (tok b = false → te b = 0 ∧ tp b = 0 ∧ tf b = false ∧ tc b = 2)) := hide
    ⟨fun h => by rw [te, tp, tf, tc, h]; exact ⟨rfl, rfl, rfl, rfl⟩, fun h => by rw [te, tp, tf, tc, h]; exact ⟨rfl, rfl, rfl, rfl⟩⟩
  have q1 : ∀ W, Calls Tryd.prog 43 #[.int .i64 (tme b)] W fun e w' => e = .returned (.bool (sq (tme b))) ∧ w' = W := fun W => seq43 _ W
  have q2 : ∀ W, Calls Tryd.prog 44 #[.int .i64 (tmf b), .int .i64 0, .int .i64 1] W fun e w' => e = .returned (.bool (wi (tmf b) 0 1)) ∧ w' = W := fun W => within44 _ _ _ W
  clear L3 g1 R3 R4
  generalize hX : nr ⟨b, false⟩ 1 = X at *
  generalize wh (t4 b) = W0 at *
  generalize sq (tme b) = S0 at *
  generalize wi (tmf b) 0 1 = I0 at *
  cases hk : tok b
  · have hQ := HQ.out.2 hk
    replace HQ := hide hQ
    rw [hk] at HC
    clear hQ hk hX
    cases W0
    · clear HC
      go_wp2_with (first | (go_at_call 40; refine (q0 _ R5).mono ?_; rintro e w' ⟨rfl, rfl⟩))
      exact bodyPost_ret (res_tmp4 rfl) rfl ⟨by rw [HQ.out.1, HQ.out.2.1, HQ.out.2.2.1, HQ.out.2.2.2]; rfl, L4⟩
    · by_cases hx : X = 75
      · subst hx
        cases S0
        · clear HC
          go_wp2_with (first | (go_at_call 40; refine (q0 _ R5).mono ?_; rintro e w' ⟨rfl, rfl⟩) | (go_at_call 43; refine (q1 _).mono ?_; rintro e w' ⟨rfl, rfl⟩))
          exact bodyPost_ret (res_tmp4 rfl) rfl ⟨by rw [HQ.out.1, HQ.out.2.1, HQ.out.2.2.1, HQ.out.2.2.2]; rfl, L4⟩
        · have hi : I0 = false := by simpa using HC.symm
          subst hi
          clear HC
          go_wp2_with (first | (go_at_call 40; refine (q0 _ R5).mono ?_; rintro e w' ⟨rfl, rfl⟩) | (go_at_call 43; refine (q1 _).mono ?_; rintro e w' ⟨rfl, rfl⟩) | (go_at_call 44; refine (q2 _).mono ?_; rintro e w' ⟨rfl, rfl⟩))
          exact bodyPost_ret (res_tmp4 rfl) rfl ⟨by rw [HQ.out.1, HQ.out.2.1, HQ.out.2.2.1, HQ.out.2.2.2]; rfl, L4⟩
      · have hx' : (X != 75) = true := by simp [hx]
        clear HC hx
        go_wp2_with (first | (go_at_call 40; refine (q0 _ R5).mono ?_; rintro e w' ⟨rfl, rfl⟩))
        exact bodyPost_ret (res_tmp4 rfl) rfl ⟨by rw [HQ.out.1, HQ.out.2.1, HQ.out.2.2.1, HQ.out.2.2.2]; rfl, L4⟩
  · have hQ := HQ.out.1 hk
    replace HQ := hide hQ
    rw [hk] at HC
    clear hQ hk hX
    have hc := HC.symm
    simp only [Bool.and_eq_true, beq_iff_eq] at hc
    obtain ⟨rfl, rfl, rfl, rfl⟩ := hc
    clear HC
    go_wp2_with (first | (go_at_call 40; refine (q0 _ R5).mono ?_; rintro e w' ⟨rfl, rfl⟩) | (go_at_call 43; refine (q1 _).mono ?_; rintro e w' ⟨rfl, rfl⟩) | (go_at_call 44; refine (q2 _).mono ?_; rintro e w' ⟨rfl, rfl⟩))
    exact bodyPost_ret (res_tmp4 rfl) rfl ⟨by rw [HQ.out.1, HQ.out.2.1, HQ.out.2.2.1, HQ.out.2.2.2]; rfl, L4⟩
end Go.Proofs.YtijfcfpoimknmaaDoor
