/- FlowRelays: for all steps and any step the law answers true, and the arguments read behind the call as they read before. No condition. -/
import Derived.Test.YtgpdjfaklcmoiaaGreatLr
import Derived.Test.YtgpdjfaklcmoiaaGreatM12
import Derived.Test.YtgpdjfaklcmoiaaGreatM15
import Derived.BigQuiet
namespace Go.Proofs.YtgpdjfaklcmoiaaGreat
open Go.ChangeShapes Go.WideShapes Go.ChangeAt Go.RowKit Go.PlainAid

/-- What lies ahead of the law's second loop. -/
structure Bas (w z : World) (P : PAd) (B : Br) (s : Stp) (AJ : Nat) (al : Option Addr) (n cl : Nat) (ps : List Int) (AI : Nat) (am : Option Addr) (cm : Nat) (ms : List Int) : Prop where
  p : PB z P B
  x : Box z w.heap.size (stc s)
  j : Its z AJ al n cl ps
  i : Its z AI am ms.length cm ms
  b : Below w.heap.size w z
theorem ots_sub {w : World} {b o n c : Nat} {ys : List Ow} (h : Ots w (some ⟨b, o, none⟩) n c ys) {i : Nat} {y : Ow} (hy : ys[i]? = some y) : Ots w (some ⟨b, o + i * 18, none⟩) 1 (c - i) [y] := by
  have hl := (List.getElem?_eq_some_iff.1 hy).1
  have h1 := h.len
  have h2 := h.le
  have h3 := h.mx
  refine ⟨rfl, fun e => (by cases e), fun j x hj => ?_, by omega, by omega, fun x hx => ?_⟩
  · cases j with
    | zero =>
      obtain rfl : y = x := by simpa using hj
      obtain ⟨b2, o2, e, r⟩ := h.at_ i y hy
      injection e with e
      injection e with e1 e2
      subst e1 e2
      exact ⟨_, _, rfl, by simpa using r⟩
    | succ j => simp at hj
  · obtain rfl : x = y := by simpa using hx
    exact h.byt x (List.mem_of_getElem? hy)
set_option maxRecDepth 100000 in
set_option maxHeartbeats 8000000 in
theorem flowRelaysWalk (ao : Option Addr) (n c : Nat) (xs : List Stp) (s : Stp) (w : World) (H : StsI w ao n c xs) (G : Stq w s) :
    Calls Tryz.prog 7 #[.slice ao n c, .agg (stc s).toArray] w fun e w' => e = .returned (.bool true) ∧ Below w.heap.size w w' := by
  have b0 := below_alloc w (.cells (SPC s) 40)
  have HX := hide (show Box (w.alloc (.cells (SPC s) 40)) w.heap.size (stc s) from Box.new w (stc s) 40)
  have HB := hide b0
  have HS := hide (H.on b0)
  have HG := hide (G.on b0)
  have hsz := World.size_alloc w (.cells (SPC s) 40)
  have HZ : Hid (w.heap.size + 1 ≤ (w.alloc (.cells (SPC s) 40)).heap.size) := hide (by rw [hsz]; exact Nat.le_refl _)
  have HYL : Hid (∀ b o, s.a = some ⟨b, o, none⟩ → 0 < s.k → b < w.heap.size) := hide G.byt.lt
  clear b0 H G hsz
  go_enter Tryz.func7, Tryz.ntmps7
  go_wp2_with fail
  refine (awakeQ _).mono ?_
  rintro e w1 ⟨rfl, bb⟩
  replace HX := hide (HX.out.on bb)
  replace HS := hide (HS.out.on bb)
  replace HG := hide (HG.out.on bb)
  replace HB := hide (belowOn HB.out bb)
  replace HZ := hide (Nat.le_trans HZ.out bb.size)
  clear bb
  go_wp2_with fail
  refine (fewR ao n c xs _ HS.out.s).mono ?_
  rintro e w2 ⟨rfl, hw⟩
  obtain rfl : w1 = w2 := hw.symm
  go_wp2_with fail
  refine (madeQ ao n c xs _ HS.out).mono ?_
  rintro e w3 ⟨P, rfl, hP, hlo, bb⟩
  have HP := hide hP
  have HLO : Hid (w.heap.size + 1 ≤ P.lo) := hide (Nat.le_trans HZ.out hlo)
  replace HX := hide (HX.out.on bb)
  replace HS := hide (HS.out.on bb)
  replace HG := hide (HG.out.on bb)
  replace HB := hide (belowOn HB.out bb)
  have HW13 := hide bb.size
  clear hP hlo
  have c21 := HX.out.cell 21 _ rfl
  rcases Bool.eq_false_or_eq_true (fewB xs) with hf | hf
  rotate_left
  · rw [hf]
    go_wp2
    go_ret
    exact ⟨rfl, HB.out⟩
  rw [hf]
  clear hf
  by_cases hk : s.k ≤ 2000
  rotate_left
  · have hk2 : (2000 : Int) < (s.k : Int) := by omega
    go_wp2
    go_ret
    exact ⟨rfl, HB.out⟩
  have hk2 : ¬ (2000 : Int) < (s.k : Int) := by omega
  clear hk
  have HW0 := hide HP.out.wf
  generalize mkB xs = B1 at *
  have c1 := HX.out.cell 1 _ rfl
  have c3 := HX.out.cell 3 _ rfl
  have tk1 : True := trivial
  go_wp2_with (first | (have _t := tk1; refine wpl_sf (.tmp 50) rfl HX.out ?_ ?_ ?_; rfl; rfl; clear tk1))
  refine (relayQ P B1 s.v s.p 0 s.f s.a s.k s.c _ HP.out HG.out.byt HG.out.vi).mono ?_
  rintro e w4 ⟨ao1, ys1, cc1, rfl, hO, hM, bb, _⟩
  have HO1 := hide hO
  have HM1 := hide hM
  replace HP := hide (HP.out.on bb)
  replace HX := hide (HX.out.on bb)
  replace HG := hide (HG.out.on bb)
  replace HB := hide (belowOn HB.out bb)
  clear hO hM bb c1 c3 c21 HS HW13 HLO HYL HZ
  have c1 := HX.out.cell 1 _ rfl
  have c2 := HX.out.cell 2 _ rfl
  have c3 := HX.out.cell 3 _ rfl
  have tk2 : True := trivial
  go_wp2_with (first | (have _t := tk2; refine wpl_sf (.tmp 60) rfl HX.out ?_ ?_ ?_; rfl; rfl; clear tk2))
  refine (relayQ P B1 s.v s.p s.n s.f s.a s.k s.c _ HP.out HG.out.byt HG.out.vi).mono ?_
  rintro e w5 ⟨ao2, ys2, cc2, rfl, hO, hM, bb, _⟩
  have HO2 := hide hO
  have HM2 := hide hM
  replace HP := hide (HP.out.on bb)
  replace HX := hide (HX.out.on bb)
  replace HG := hide (HG.out.on bb)
  replace HO1 := hide (HO1.out.on bb)
  replace HB := hide (belowOn HB.out bb)
  have HLN : Hid (ys1.length ≤ 63) := hide (by have h1 := congrArg List.length HM1.out; have h2 := rly_len B1 s.v s.p 0 s.f B1.n; rw [List.length_map] at h1; have := HW0.out.n2; omega)
  clear hO hM bb c1 c2 c3
  obtain ⟨ps, hps⟩ : ∃ ps, ps = ys1.map (fun y => y.o.p) := ⟨_, rfl⟩
  have HPS := hide hps
  have HPL : Hid (ps.length = ys1.length) := hide (by rw [hps]; simp)
  clear hps
  go_wp2_with fail
  go_loopg [11, 12] ys1.length (fun r l i wr => ∃ q : Nat, q ≤ ys1.length ∧ r = ys1.length - q ∧ i = .int .i64 q ∧ IRow wr w5.heap.size l q (ps.take q) ∧ Below w5.heap.size w5 wr ∧ (s.n ≠ 0 → ∀ y ∈ ys1.take q, y.o.p ≠ s.n))
  case atStart => exact ⟨0, Nat.zero_le _, rfl, rfl, IRow.nil _ _, Below.refl _ _, fun _ y hy => by simp at hy⟩
  case round =>
    obtain ⟨q, hq, hr, rfl, hR, hW, hN⟩ := hrel
    have HRK := hide hr
    have HR := hide hR
    have HW := hide hW
    have HN := hide hN
    clear hr hR hW hN
    by_cases hc : q < ys1.length
    · obtain ⟨y, hy⟩ : ∃ y, ys1[q]? = some y := ⟨_, List.getElem?_eq_getElem hc⟩
      have HT : Hid (ps.take (q + 1) = ps.take q ++ [y.o.p]) := hide (by rw [HPS.out, List.take_add_one, List.getElem?_map, hy]; rfl)
      have HNX : Hid (y.o.p ≠ s.n → s.n ≠ 0 → ∀ z ∈ ys1.take (q + 1), z.o.p ≠ s.n) := hide (fun h1 h2 z hz => by
        rw [List.take_add_one, hy] at hz
        rcases List.mem_append.1 hz with h | h
        · exact HN.out h2 z h
        · obtain rfl : z = y := by simpa using h
          exact h1)
      obtain ⟨b, o, rfl, hra⟩ := (HO1.out.on HW.out).at_ q y hy
      have cp := ocl_port hra
      have k1 : (0 : Int) ≤ (q : Int) := by omega
      have k2 : (q : Int) < (ys1.length : Int) := by omega
      have e1 : IntKind.i64.wrap ((q : Int) + 1) = (q : Int) + 1 := IntWalk.i64_in _ (by have := HLN.out; omega)
      have HY := hide hy
      have R2 := hide (HR.out.alloc (.cells #[.int .i64 y.o.p] 3))
      have B2 := hide (belowOn HW.out (below_alloc wr (.cells #[.int .i64 y.o.p] 3)))
      have hs2 : Hid (w5.heap.size ≤ (wr.alloc (.cells #[.int .i64 y.o.p] 3)).heap.size) := hide B2.out.size
      have C2 : Hid ((wr.alloc (.cells #[.int .i64 y.o.p] 3)).cell? ⟨wr.heap.size, 0, none⟩ = some (.int .i64 y.o.p)) := hide (by rw [World.cell?_alloc_at _ _ _ _ rfl]; rfl)
      have hl1 : Hid (q + 1 ≤ 100000) := hide (by have := HLN.out; omega)
      clear hy hra
      have tk3 : True := trivial
      go_wp2_with (first | (have _t := tk3; at_builtin; refine wpl_iapp rfl (.tmp 69) (.tmp 75) rfl w5.heap.size _ _ _ rfl R2.out _ y.o.p rfl C2.out hl1.out hs2.out ?_; clear tk3))
      intro v3 w6 R3 B3 _
      have HR3 := hide R3
      have HW6 := hide (B2.out.trans B3)
      clear R3 B3 R2 B2 C2 hs2 hl1 cp HR
      have c2 := (HX.out.on HW6.out).cell 2 _ rfl
      obtain ⟨b3, o3, he3, hra⟩ := (HO1.out.on HW6.out).at_ q y HY.out
      obtain ⟨rfl, rfl⟩ : b = b3 ∧ o = o3 := by simpa using he3
      have cp := ocl_port hra
      clear hra he3
      by_cases h0 : s.n = 0
      · have g0 : (s.n != 0) = false := by simpa using h0
        go_upto_region 13 with fail
        go_quiet (fail)
        go_wp2
        go_roundg (ys1.length - (q + 1))
        case measure => rw [HRK.out]; omega
        case rel => exact ⟨q + 1, by omega, rfl, by go_num, by rw [HT.out]; exact HR3.out.on ⟨rfl, rfl, rfl, Nat.le_refl _, fun _ _ => rfl⟩, HW6.out.trans ⟨rfl, rfl, rfl, Nat.le_refl _, fun _ _ => rfl⟩, fun h => absurd h0 h⟩
      · have g0 : (s.n != 0) = true := by simpa using h0
        rcases Bool.eq_false_or_eq_true (y.o.p == s.n) with g1 | g1
        · go_upto_region 13 with fail
          go_quiet (fail)
          have h1 : ys2.map Ow.o = [y.o] := by rw [HM2.out]; exact rly_one h0 (by rw [← HM1.out, List.getElem?_map, HY.out]; rfl) (by simpa using g1)
          obtain ⟨z, rfl, hz⟩ := one_ow h1
          have hle := HO1.out.le
          have m1 : (q : Int) ≤ (q : Int) + 1 := by omega
          have m2 : (q : Int) + 1 ≤ (cc1 : Int) := by omega
          have m3 : ¬ cc1 = q := by omega
          go_wp2_with fail
          refine (sameOutsR ao2 (some ⟨b, o + q * 18, none⟩) 1 cc2 1 (cc1 - q) [z] [y] _ ?_ ?_ ?_).mono ?_
          · exact HO2.out.on (drewB HW6.out _)
          · exact ots_sub (HO1.out.on (drewB HW6.out _)) HY.out
          · simp [hz]
          rintro e w7 ⟨rfl, bb⟩
          have HB7 := hide (belowOn HB.out ((drewB HW6.out _).trans (bb.mono (drewB HW6.out _).size)))
          go_wp2
          go_ret
          exact ⟨rfl, HB7.out⟩
        · go_upto_region 13 with fail
          go_quiet (fail)
          go_wp2
          go_roundg (ys1.length - (q + 1))
          case measure => rw [HRK.out]; omega
          case rel => exact ⟨q + 1, by omega, rfl, by go_num, by rw [HT.out]; exact HR3.out.on ⟨rfl, rfl, rfl, Nat.le_refl _, fun _ _ => rfl⟩, HW6.out.trans ⟨rfl, rfl, rfl, Nat.le_refl _, fun _ _ => rfl⟩, HNX.out (by simpa using g1)⟩
    · have k2 : ¬ (q : Int) < (ys1.length : Int) := by omega
      obtain rfl : q = ys1.length := by omega
      have HR4 := HR.out
      rw [List.take_of_length_le (by rw [HPL.out]; exact Nat.le_refl _)] at HR4
      obtain ⟨al, cl, rfl, hI⟩ := HR4.its
      have HIP := hide hI
      have HNO : Hid (s.n ≠ 0 → ∀ y ∈ ys1, y.o.p ≠ s.n) := hide (fun h y hy => HN.out h y (by rw [List.take_of_length_le (Nat.le_refl _)]; exact hy))
      replace HP := hide (HP.out.on HW.out)
      replace HX := hide (HX.out.on HW.out)
      replace HB := hide (belowOn HB.out HW.out)
      clear hI HR HN HW hc hq HO1 HO2
      go_wp2_with fail
      have SS : Hid (∀ y : World, Below wr.heap.size wr y → (y.cell? ⟨w.heap.size, 3, none⟩ = some (.int .i64 s.v)) ∧ PB y P B1) := hide (fun y b => ⟨(HX.out.on b).cell 3 _ rfl, HP.out.on b⟩)
      have BW : Hid (Below wr.heap.size wr wr.drew) := hide (below_drew wr)
      have PVX := hide HP.out.pv
      obtain ⟨ms, hms⟩ : ∃ ms, ms = mbs B1.V.l s.v B1.V.n := ⟨_, rfl⟩
      have HMS := hide hms
      clear hms
      try dsimp only [Act.put]
      go_cut [14] from 15 (fun s11 w' => Below wr.heap.size wr w' ∧ ∃ A am cm, s11 = .slice am ms.length cm ∧ Its w' A am ms.length cm ms)
      case first =>
        go_wp2_with fail
        refine wp_region_held_drew (S := fun w' => w'.cell? ⟨w.heap.size, 3, none⟩ = some (.int .i64 s.v)) (by kernel_rfl) (SS.out _ BW.out).1 (fun hHeld => ?_)
        generalize wr.drew = y0 at *
        refine wpAnyH_take (i := 0) (v := .pointer (some ⟨P.g, 0, none⟩)) rfl (by kernel_rfl) (by kernel_rfl) (by kernel_rfl) (fun _ _ _ h => h) (Or.inl ⟨by rfl, ?_⟩) hHeld ?_
        · intro W hW; (try dsimp only at hW); go_simp
        change wpAnyH _ _ _ _ _ _ _ ⟨#[_,_,_,.pointer (some ⟨w.heap.size, 0, none⟩),_,_,_,.pointer (some ⟨P.g, 0, none⟩),_,_,_,_,_,_,_,_,_,_,_,_,_,_,_,_,_,_,_,_,_,_,_,_,_,_,_,_,_,_,_,_,_,_,_,_,_,_,_,_,_,_,_,_,_,_,_,_,_,_,_,_,_,_,_,_,_,_,_,_,_,_,_,_,_,_,_,_,_,_,_,_,_,_,_,_,_,_,_,_,_,_,_,_,_,_,_,_,_,_,_,_,_,_,.pointer (some ⟨P.g, 0, none⟩),_,_,_,_,_,_,_,_,_,_,_,_,_,_,_,_,_,_,_,_,_,_,_,_,_,_,_,_,_,_,_,_,_,_,_,_,_,_,_,_,_,_,_,_,_,_,_], []⟩ _
        refine wpAnyH_take (i := 2) (v := .pointer (some ⟨w.heap.size, 3, none⟩)) rfl (by kernel_rfl) (by kernel_rfl) (by kernel_rfl) (fun _ _ _ h => h) (Or.inl ⟨by rfl, ?_⟩) hHeld ?_
        · intro W hW; (try dsimp only at hW); go_simp
        change wpAnyH _ _ _ _ _ _ _ ⟨#[_,_,_,.pointer (some ⟨w.heap.size, 0, none⟩),_,_,_,.pointer (some ⟨P.g, 0, none⟩),_,_,_,_,_,_,_,_,_,_,_,_,_,_,_,_,_,_,_,_,_,_,_,_,_,_,_,_,_,_,_,_,_,_,_,_,_,_,_,_,_,_,_,_,_,_,_,_,_,_,_,_,_,_,_,_,_,_,_,_,_,_,_,_,_,_,_,_,_,_,_,_,_,_,_,_,_,_,_,_,_,_,_,_,_,_,_,_,_,_,_,_,_,_,.pointer (some ⟨P.g, 0, none⟩),_,.pointer (some ⟨w.heap.size, 3, none⟩),_,_,_,_,_,_,_,_,_,_,_,_,_,_,_,_,_,_,_,_,_,_,_,_,_,_,_,_,_,_,_,_,_,_,_,_,_,_,_,_,_,_,_,_,_], []⟩ _
        refine wpAnyH_take (i := 3) (v := .int .i64 (s.v)) rfl (by kernel_rfl) (by kernel_rfl) (by kernel_rfl) (fun _ _ _ h => h) (Or.inl ⟨by rfl, ?_⟩) hHeld ?_
        · intro W hW; (try dsimp only at hW); have hc := hW; clear hW; go_simp
        change wpAnyH _ _ _ _ _ _ _ ⟨#[_,_,_,.pointer (some ⟨w.heap.size, 0, none⟩),_,_,_,.pointer (some ⟨P.g, 0, none⟩),_,_,_,_,_,_,_,_,_,_,_,_,_,_,_,_,_,_,_,_,_,_,_,_,_,_,_,_,_,_,_,_,_,_,_,_,_,_,_,_,_,_,_,_,_,_,_,_,_,_,_,_,_,_,_,_,_,_,_,_,_,_,_,_,_,_,_,_,_,_,_,_,_,_,_,_,_,_,_,_,_,_,_,_,_,_,_,_,_,_,_,_,_,_,.pointer (some ⟨P.g, 0, none⟩),_,.pointer (some ⟨w.heap.size, 3, none⟩),.int .i64 (s.v),_,_,_,_,_,_,_,_,_,_,_,_,_,_,_,_,_,_,_,_,_,_,_,_,_,_,_,_,_,_,_,_,_,_,_,_,_,_,_,_,_,_,_,_], []⟩ _
        refine wpAnyH_ready (rs := [1]) (by kernel_rfl) (by simp) ?_
        refine AllReadyH.cons rfl (fun K hK => ?_) AllReadyH.nil
        go_simp
        refine (vlansQ P B1 _ (SS.out _ BW.out).2).mono ?_
        rintro e y1 ⟨rfl, hw⟩
        obtain rfl : y0 = y1 := hw.symm
        refine hK.out _ _ (SS.out _ BW.out).1 (fun hHeld => ?_)
        clear hK K
        change wpAnyH _ _ _ _ _ _ _ ⟨#[_,_,_,.pointer (some ⟨w.heap.size, 0, none⟩),_,_,_,.pointer (some ⟨P.g, 0, none⟩),_,_,_,_,_,_,_,_,_,_,_,_,_,_,_,_,_,_,_,_,_,_,_,_,_,_,_,_,_,_,_,_,_,_,_,_,_,_,_,_,_,_,_,_,_,_,_,_,_,_,_,_,_,_,_,_,_,_,_,_,_,_,_,_,_,_,_,_,_,_,_,_,_,_,_,_,_,_,_,_,_,_,_,_,_,_,_,_,_,_,_,_,_,_,.pointer (some ⟨P.g, 0, none⟩),.pointer (some ⟨P.h + 2, 0, none⟩),.pointer (some ⟨w.heap.size, 3, none⟩),.int .i64 (s.v),_,_,_,_,_,_,_,_,_,_,_,_,_,_,_,_,_,_,_,_,_,_,_,_,_,_,_,_,_,_,_,_,_,_,_,_,_,_,_,_,_,_,_,_], []⟩ _
        refine wpAnyH_ready (rs := [4]) (by kernel_rfl) (by simp) ?_
        refine AllReadyH.cons rfl (fun K hK => ?_) AllReadyH.nil
        go_simp
        refine (members13 P.h B1.V (s.v) _ HG.out.vi (SS.out _ BW.out).2.pv).mono ?_
        rw [← HMS.out]
        rintro e y2 ⟨am, cm, rfl, hI, b1⟩
        have HI := hide hI
        replace BW := hide (belowOn BW.out b1)
        refine hK.out _ _ (SS.out _ BW.out).1 (fun hHeld => ?_)
        clear hK K b1 hI
        change wpAnyH _ _ _ _ _ _ _ ⟨#[_,_,_,.pointer (some ⟨w.heap.size, 0, none⟩),_,_,_,.pointer (some ⟨P.g, 0, none⟩),_,_,_,_,_,_,_,_,_,_,_,_,_,_,_,_,_,_,_,_,_,_,_,_,_,_,_,_,_,_,_,_,_,_,_,_,_,_,_,_,_,_,_,_,_,_,_,_,_,_,_,_,_,_,_,_,_,_,_,_,_,_,_,_,_,_,_,_,_,_,_,_,_,_,_,_,_,_,_,_,_,_,_,_,_,_,_,_,_,_,_,_,_,_,.pointer (some ⟨P.g, 0, none⟩),.pointer (some ⟨P.h + 2, 0, none⟩),.pointer (some ⟨w.heap.size, 3, none⟩),.int .i64 (s.v),.slice am ms.length cm,_,_,_,_,_,_,_,_,_,_,_,_,_,_,_,_,_,_,_,_,_,_,_,_,_,_,_,_,_,_,_,_,_,_,_,_,_,_,_,_,_,_,_], []⟩ _
        refine wpAnyH_take (i := 5) (v := .slice am ms.length cm) rfl (by kernel_rfl) (by kernel_rfl) (by kernel_rfl) (fun _ _ _ h => h) (Or.inl ⟨by rfl, ?_⟩) hHeld ?_
        · intro W hW; (try dsimp only at hW); go_simp
        change wpAnyH _ _ _ _ _ _ _ ⟨#[_,_,_,.pointer (some ⟨w.heap.size, 0, none⟩),_,_,_,.pointer (some ⟨P.g, 0, none⟩),_,_,_,_,_,_,.slice am ms.length cm,_,_,_,_,_,_,_,_,_,_,_,_,_,_,_,_,_,_,_,_,_,_,_,_,_,_,_,_,_,_,_,_,_,_,_,_,_,_,_,_,_,_,_,_,_,_,_,_,_,_,_,_,_,_,_,_,_,_,_,_,_,_,_,_,_,_,_,_,_,_,_,_,_,_,_,_,_,_,_,_,_,_,_,_,_,_,_,.pointer (some ⟨P.g, 0, none⟩),.pointer (some ⟨P.h + 2, 0, none⟩),.pointer (some ⟨w.heap.size, 3, none⟩),.int .i64 (s.v),.slice am ms.length cm,_,_,_,_,_,_,_,_,_,_,_,_,_,_,_,_,_,_,_,_,_,_,_,_,_,_,_,_,_,_,_,_,_,_,_,_,_,_,_,_,_,_,_], []⟩ _
        refine wpAnyH_done (by kernel_rfl) ?_ _
        go_wp2_with fail
        go_meet
        case rel => exact ⟨BW.out, _, am, cm, rfl, HI.out⟩
      case rest =>
      obtain ⟨bb, AI, am, cm, rfl, hI⟩ := hcut
      have HI := hide hI
      replace HP := hide (HP.out.on bb)
      replace HX := hide (HX.out.on bb)
      replace HIP := hide (HIP.out.on bb)
      replace HB := hide (belowOn HB.out bb)
      clear hI SS BW bb PVX
      have HBAS := hide (show Bas w _ P B1 s w5.heap.size al ys1.length cl ps AI am cm ms from ⟨HP.out, HX.out, HIP.out, HI.out, HB.out⟩)
      have HLM : Hid (ms.length ≤ 64) := hide (by have h1 := mbs_len B1.V.l s.v B1.V.n; rw [← HMS.out] at h1; have := HW0.out.vn; have := HW0.out.n2; omega)
      clear HP HX HIP HI HB HG
      go_wp2_with fail
      go_loopg [13, 15] ms.length (fun r l i wr => ∃ (j : Nat) (z0 : World), j ≤ ms.length ∧ r = ms.length - j ∧ i = .int .i64 j ∧ Bas w z0 P B1 s w5.heap.size al ys1.length cl ps AI am cm ms ∧ Below z0.heap.size z0 wr ∧ IRow wr z0.heap.size l (wnt B1 s.p (ms.take j)).length (wnt B1 s.p (ms.take j)))
      case atStart => exact ⟨0, _, Nat.zero_le _, rfl, rfl, HBAS.out, Below.refl _ _, IRow.nil _ _⟩
      case round =>
        obtain ⟨j, z0, hj, hr, rfl, hbs, hW, hR⟩ := hrel
        replace HBAS := hide hbs
        have HRJ := hide hr
        have HR := hide hR
        have HW := hide hW
        clear hr hR hbs hW
        by_cases hd : j < ms.length
        · obtain ⟨b2, o2, rfl, -, cm2⟩ := (HBAS.out.i.on HW.out).cell j hd
          obtain ⟨x, hx⟩ : ∃ x, x = ms.getD j 0 := ⟨_, rfl⟩
          have hx2 : ms[j]? = some x := by rw [hx, List.getD_eq_getElem?_getD, List.getElem?_eq_getElem hd]; rfl
          have HN := hide (wnt_next (B := B1) (u := s.p) hx2)
          have hlw : Hid ((wnt B1 s.p (ms.take j)).length ≤ 64) := hide (Nat.le_trans (List.length_filter_le _ _) (by rw [List.length_take]; have := HLM.out; omega))
          rw [← hx] at cm2
          have c1 := (HBAS.out.x.on HW.out).cell 1 _ rfl
          have j1 : (0 : Int) ≤ (j : Int) := by omega
          have j2 : (j : Int) < (ms.length : Int) := by omega
          have j3 : IntKind.i64.wrap ((j : Int) + 1) = (j : Int) + 1 := IntWalk.i64_in _ (by have := HLM.out; omega)
          have HPQ := hide (HBAS.out.p.on HW.out)
          clear hx hx2
          rcases Bool.eq_false_or_eq_true (x != s.p) with g1 | g1
          rotate_left
          · rw [g1] at HN
            go_upto_region 20 with fail
            go_quiet (fail)
            go_wp2
            go_roundg (ms.length - (j + 1))
            case measure => rw [HRJ.out]; omega
            case rel => exact ⟨j + 1, z0, by omega, rfl, by go_num, HBAS.out, HW.out.trans ⟨rfl, rfl, rfl, Nat.le_refl _, fun _ _ => rfl⟩, by rw [HN.out]; exact HR.out.on ⟨rfl, rfl, rfl, Nat.le_refl _, fun _ _ => rfl⟩⟩
          · rw [g1] at HN
            rcases Bool.eq_false_or_eq_true (sta B1 x == 2) with g2 | g2
            rotate_left
            · rw [g2] at HN
              go_upto_region 20 with fail
              go_quiet ((go_at_call 22; exact Calls.quiet_of_same (stateQ P B1 x _ (HPQ.out.keep (fun _ _ _ => rfl)))))
              go_wp2
              go_roundg (ms.length - (j + 1))
              case measure => rw [HRJ.out]; omega
              case rel => exact ⟨j + 1, z0, by omega, rfl, by go_num, HBAS.out, HW.out.trans ⟨rfl, rfl, rfl, Nat.le_refl _, fun _ _ => rfl⟩, by rw [HN.out]; exact HR.out.on ⟨rfl, rfl, rfl, Nat.le_refl _, fun _ _ => rfl⟩⟩
            · rw [g2] at HN
              go_upto_region 20 with fail
              go_quiet ((go_at_call 22; exact Calls.quiet_of_same (stateQ P B1 x _ (HPQ.out.keep (fun _ _ _ => rfl)))))
              have R2 := hide ((HR.out.on (drewB (Below.refl _ _) nq)).alloc (.cells #[.int .i64 x] 3))
              have B2 := hide (belowOn (drewB HW.out nq) (below_alloc (wr.drewN nq) (.cells #[.int .i64 x] 3)))
              have hs2 : Hid (z0.heap.size ≤ ((wr.drewN nq).alloc (.cells #[.int .i64 x] 3)).heap.size) := hide B2.out.size
              have C2 : Hid (((wr.drewN nq).alloc (.cells #[.int .i64 x] 3)).cell? ⟨(wr.drewN nq).heap.size, 0, none⟩ = some (.int .i64 x)) := hide (by rw [World.cell?_alloc_at _ _ _ _ rfl]; rfl)
              have hl1 : Hid ((wnt B1 s.p (ms.take j)).length + 1 ≤ 100000) := hide (by have := hlw.out; omega)
              have tk4 : True := trivial
              go_wp2_with (first | (have _t := tk4; at_builtin; refine wpl_iapp rfl (.tmp 129) (.tmp 134) rfl z0.heap.size _ _ _ rfl R2.out _ x rfl C2.out hl1.out hs2.out ?_; clear tk4))
              intro v3 w6 R3 B3 _
              have HR3 := hide R3
              have HW6 := hide (B2.out.trans B3)
              clear R3 B3 R2 B2 C2 hs2 hl1
              go_wp2
              go_roundg (ms.length - (j + 1))
              case measure => rw [HRJ.out]; omega
              case rel => exact ⟨j + 1, z0, by omega, rfl, by go_num, HBAS.out, HW6.out, by rw [HN.out]; simpa using HR3.out⟩
        · have j2 : ¬ (j : Int) < (ms.length : Int) := by omega
          obtain rfl : j = ms.length := by omega
          have c2 := (HBAS.out.x.on HW.out).cell 2 _ rfl
          by_cases h0 : s.n = 0
          · have g0 : (s.n != 0) = false := by simpa using h0
            have hlen := congrArg List.length HM1.out
            rw [List.length_map] at hlen
            have HLE := hide hlen
            clear hlen
            by_cases h1 : ys1.length = 0
            · have g1 : ((ys1.length : Int) == 0) = true := by simpa using h1
              go_wp2
              go_ret
              exact ⟨rfl, belowOn HBAS.out.b HW.out⟩
            · have g1 : ((ys1.length : Int) == 0) = false := by simpa using h1
              have hw := rly_want HW0.out (fun h => h1 (by have hlen := HLE.out; rw [h] at hlen; simpa using hlen))
              rw [← HMS.out, ← HM1.out, List.map_map] at hw
              have HE : Hid (ps = wnt B1 s.p ms) := hide (by rw [HPS.out, ← hw]; rfl)
              have hRR := HR.out
              rw [List.take_length] at hRR
              obtain ⟨aw, cw, rfl, hJ⟩ := hRR.its
              have HJ := hide hJ
              clear hw hJ hRR HR
              go_wp2_with fail
              refine (same12 _ _ _ _ _ _ _ _ _ _ _ (HBAS.out.j.on HW.out) HJ.out).mono ?_
              rintro e w7 ⟨rfl, bb⟩
              have HB7 := hide (belowOn (belowOn HBAS.out.b HW.out) bb)
              have hd2 := decide_eq_true HE.out
              rw [hd2]
              go_wp2
              go_ret
              exact ⟨rfl, HB7.out⟩
          · have g0 : (s.n != 0) = true := by simpa using h0
            have hz := rly_zero (B := B1) (v := s.v) (u := s.p) (f := s.f) h0 (k := B1.n) (fun o ho => by
              rw [← HM1.out] at ho
              obtain ⟨y, hy, rfl⟩ := List.mem_map.1 ho
              exact HNO.out h0 y hy)
            have hlen := congrArg List.length HM2.out
            rw [hz, List.length_map] at hlen
            have g1 : ((ys2.length : Int) == 0) = true := by simpa using hlen
            clear hz hlen
            go_wp2
            go_ret
            exact ⟨rfl, belowOn HBAS.out.b HW.out⟩
set_option maxRecDepth 100000 in
set_option maxHeartbeats 2000000 in
theorem flowRelayslifted (os : Os) (started : os.Started) (H : Type) (enc : TypeId × Value → H) :
    ReturnsInHanded {} Tryz.checked os 7 .any (Rows.flowRelaysSpec.pre6 enc Tryz.prog Tryz.f7 Rows.flowRelaysRow.domain false) (Rows.flowRelaysSpec.post enc Tryz.prog Tryz.f7 false true false false) := by
  refine returnsInHanded_of_change (C := Tryz.checked) own started (by kernel_rfl) Tryz.func7
    (ChangeSpec.witness6 (enc := enc) (C := Tryz.checked) false ⟨#[], #[.slice none 0 0, .agg #[.int .i64 0, .int .i64 0, .int .i64 0, .int .i64 0, .bool false, .int .u8 0, .int .u8 0, .int .u8 0, .int .u8 0, .int .u8 0, .int .u8 0, .int .u8 0, .int .u8 0, .int .u8 0, .int .u8 0, .int .u8 0, .int .u8 0, .bool false, .int .i64 0, .int .i64 0, .int .i64 0, .slice none 0 0, .int .i64 0]], []⟩ 8 (by kernel_rfl) (by kernel_rfl) (by kernel_rfl) (by kernel_rfl)) ?_
  intro W base args ds gs before hval0 hW _ _
  have hval : ∀ (j : Nat) t v, Tryz.f7.params[j]? = some t → args[j]? = some v → Value.okWide Tryz.prog W .any base t v := hval0
  have hW' := hW
  obtain ⟨p, q, hA0, hV, rfl, _, _⟩ := hW
  have hA : DataW.TrodAll enc Tryz.prog W 0 (fun _ => true) true Tryz.f7.params.toList args.toList ds p := hA0
  rw [Tryz.params7] at hA hval
  obtain ⟨v0, vs0, d0, ds0, p0, q0, hargs, rfl, rfl, h0, r0⟩ := trodAll_cons hA
  obtain ⟨v1, vs1, d1, ds1, p1, q1, rfl, rfl, rfl, h1, r1⟩ := trodAll_cons r0
  obtain ⟨rfl, rfl, rfl⟩ := trodAll_nil r1
  obtain rfl : args = #[v0, v1] := by cases args; simp_all
  obtain ⟨rfl, rfl⟩ := trodVars_none hV
  have h0k := h0
  obtain ⟨ao0, n0, c0, ss0, rfl, hs0⟩ := open_steps (hval 0 23 v0 rfl rfl) h0
  have h1k := h1
  obtain ⟨s1, rfl, hp1⟩ := open_step (hval 1 40 v1 rfl rfl) h1
  clear hA0 hval0
  simp only [List.append_nil] at hW'
  have hlt : ∀ x ∈ p0 ++ p1, x.block < W.heap.size := fun x hx => by simpa using hW'.lt x (by simpa using hx)
  refine (flowRelaysWalk ao0 n0 c0 ss0 s1 W hs0 hp1).mono fun e W' ⟨he, hbl⟩ => ?_
  subst he
  exact ⟨_, rfl, _, _, _, [], _, [], hW', (trodAll_cons_mk (shut_bool Tryz.underlying4 _) trodAll_mk0), (trodAll_cons_mk (Below.trod Tryz.laidOut (by kernel_rfl) (of_decide_eq_true (by kernel_rfl)) h0k hbl (fun x hx => hlt x (by simp [hx]))) (trodAll_cons_mk (Below.trod Tryz.laidOut (by kernel_rfl) (of_decide_eq_true (by kernel_rfl)) h1k hbl (fun x hx => hlt x (by simp [hx]))) trodAll_mk0)), rfl, hbl.frame _, fun h => by cases h⟩

theorem flowRelays_holds : Rows.FlowRelaysSaid :=
  OpenClaim.holds_of_wide 7 Tryz.f7 rfl rfl rfl rfl rfl rfl rfl ⟨rfl, rfl, rfl, rfl, rfl⟩ rfl rfl rfl rfl rfl (by kernel_rfl) Tryz.func7 (by kernel_rfl)
    (of_decide_eq_true (by kernel_rfl)) (by unfold Func.isWrapper; first | (rw [if_pos (by decide +kernel)]; kernel_rfl) | (rw [if_neg (by decide +kernel)]; exact ⟨rfl, rfl⟩))
    (fun os started H enc _ => flowRelayslifted os started H enc)

#print axioms flowRelays_holds
end Go.Proofs.YtgpdjfaklcmoiaaGreat
