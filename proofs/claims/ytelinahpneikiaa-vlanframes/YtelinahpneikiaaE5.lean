/- Contract of In, as the document has it. -/
import Derived.Test.YtelinahpneikiaaE4
namespace Go.Proofs.Ytelinahpneikiaa
open Go.RowKit

theorem fx_iff (l : List Mm) (v p : Int) : (hs l v p = true ∧ ∃ q : Nat, fx l v p = (q : Int)) ∨ (hs l v p = false ∧ fx l v p = -1) := by
  rcases Bool.eq_false_or_eq_true (hs l v p) with hm | hm
  · exact Or.inl ⟨hm, ix l v p, by rw [fx, hm]; rfl⟩
  · exact Or.inr ⟨hm, by rw [fx, hm]; rfl⟩
section
attribute [local go_sem] FC12 FC13 FC14 FC15 FC16 FC_size ZF
set_option maxRecDepth 100000 in
set_option maxHeartbeats 4000000 in
theorem in18 (g : Nat) (lv : Value) (T : Tb) (p : Int) (f : Fd) (a : Option Addr) (n c : Nat) (hl : f.bs.length = n) (w : World) (R : RT w g lv T) :
    Calls Try.prog 18 #[.pointer (some ⟨g + 1, 0, none⟩), .int .i64 p, .agg (FC f (.slice a n c))] w fun e w' => e = .returned (.tuple #[.int .i64 (inV T p f), .int .i64 (inE T p f)]) ∧ Below w.heap.size w w' := by
  have B0 := below_alloc w (.cells (FC f (.slice a n c)) 37)
  have A0 := hide (Box.new w (fcl f (.slice a n c)) 37)
  have R0 := hide (R.on B0)
  have q2 := fun W => right35 f a n c hl W
  have WF := hide R.wf
  clear R
  have BB := hide B0
  clear B0
  have tk1 : True := trivial
  rcases Bool.eq_false_or_eq_true (rt f) with hr | hr
  · rw [hr] at q2
    by_cases p0 : p < 0
    · have hh : hp T p = false := by simp [hp]; omega
      have ev : inV T p f = 0 := by rw [inV, hh]; rfl
      have ee : inE T p f = 1 := by rw [inE, hh]; rfl
      rw [ev, ee]
      clear hh hr ev ee
      go_enter Try.func18, Try.ntmps18
      go_wp2_with (first | (have _t := tk1; refine wpl_frame (.tmp 5) rfl A0.out ?_ ?_ ?_; rfl; rfl; clear tk1))
      refine (q2 _).mono ?_
      rintro e w1 ⟨rfl, B1⟩
      have B2 := hide (belowOn BB.out B1)
      clear A0 B1 R0 BB q2
      go_wp2
      go_ret2
      exact ⟨rfl, B2.out⟩
    · by_cases p1 : (T.n : Int) ≤ p
      · have hh : hp T p = false := by simp [hp]; omega
        have ev : inV T p f = 0 := by rw [inV, hh]; rfl
        have ee : inE T p f = 1 := by rw [inE, hh]; rfl
        rw [ev, ee]
        clear hh hr ev ee
        go_enter Try.func18, Try.ntmps18
        go_wp2_with (first | (have _t := tk1; refine wpl_frame (.tmp 5) rfl A0.out ?_ ?_ ?_; rfl; rfl; clear tk1))
        refine (q2 _).mono ?_
        rintro e w1 ⟨rfl, B1⟩
        have B2 := hide (belowOn BB.out B1)
        have c0 := (R0.out.on B1).bx.cell 0 _ rfl
        clear A0 B1 R0 BB q2
        go_wp2
        go_ret2
        exact ⟨rfl, B2.out⟩
      · have hh : hp T p = true := (hp_iff T p).2 ⟨by omega, by omega⟩
        have hn := WF.out.ns
        obtain ⟨k, rfl⟩ := Int.eq_ofNat_of_zero_le (show 0 ≤ p by omega)
        have hk : k < T.ns.length := by omega
        have hk' : (k : Int) < T.n := by omega
        have ev : inV T k f = if hs T.l (vOf T k f) k then vOf T k f else 0 := by rw [inV, hh, hr]; rfl
        have ee : inE T k f = if hs T.l (vOf T k f) k then 0 else 4 := by rw [inE, hh, hr]; rfl
        have eo : vOf T k f = if f.vl == 0 then T.ns.getD k 0 else f.vl := by rw [vOf, Int.toNat_natCast]
        have hz := hs_zero WF.out k
        have hpr := rt_pr hr
        have EV2 := hide ev
        have EE2 := hide ee
        clear hh hr ev ee
        go_enter Try.func18, Try.ntmps18
        go_wp2_with (first | (have _t := tk1; refine wpl_frame (.tmp 5) rfl A0.out ?_ ?_ ?_; rfl; rfl; clear tk1))
        refine (q2 _).mono ?_
        rintro e w1 ⟨rfl, B1⟩
        have R1 := hide (R0.out.on B1)
        have A1 := A0.out.on B1
        have c12 := A1.cell 12 _ rfl
        have c13 := A1.cell 13 _ rfl
        have c0 := R1.out.bx.cell 0 _ rfl
        have c2 := R1.out.bx.cell 2 _ rfl
        have n1 := R1.out.nt.cell k _ (nsl_get hk)
        have B2 := hide (belowOn BB.out B1)
        clear A0 A1 B1 R0 BB q2
        rcases Bool.eq_false_or_eq_true (f.vl == 0) with h0 | h0
        · have eo' : T.ns.getD k 0 = vOf T k f := by rw [eo, h0]; rfl
          have h0' : (f.vl != 0) = false := by simp [bne, h0]
          rw [eo'] at n1
          generalize vOf T k f = x at *
          clear eo eo' hpr
          have q3 := fun W H => find29 g lv T x k W H
          rcases Bool.eq_false_or_eq_true (x == 0) with hx | hx
          · have hx' : x = 0 := by simpa using hx
            subst hx'
            rw [hz] at EV2 EE2
            rcases Bool.eq_false_or_eq_true f.tg with ht | ht
            all_goals
              rw [ht] at c12
              go_wp2
              go_ret2
              exact ⟨by rw [EV2.out, EE2.out]; rfl, B2.out⟩
          · rcases fx_iff T.l x k with ⟨hm, q, hq⟩ | ⟨hm, hq⟩
            all_goals
              rw [hm] at EV2 EE2
              rw [hq] at q3
              clear hm hq
              rcases Bool.eq_false_or_eq_true f.tg with ht | ht
              all_goals
                rw [ht] at c12
                go_wp2_with (first | (go_at_call 29; refine (q3 _ R1.out).mono ?_; rintro e w' ⟨rfl, rfl⟩))
                go_ret2
                exact ⟨by rw [EV2.out, EE2.out]; rfl, B2.out⟩
        · have eo' : f.vl = vOf T k f := by rw [eo, h0]; rfl
          have h0' : (f.vl != 0) = true := by simp [bne, h0]
          have ht : f.tg = true := by
            rcases Bool.eq_false_or_eq_true f.tg with ht | ht
            · exact ht
            · have := (hpr ht).1
              rw [this] at h0
              cases h0
          rw [ht] at c12
          rw [← eo'] at EV2 EE2
          clear eo eo' hpr ht
          have q3 := fun W H => find29 g lv T f.vl k W H
          rcases fx_iff T.l f.vl k with ⟨hm, q, hq⟩ | ⟨hm, hq⟩
          all_goals
            rw [hm] at EV2 EE2
            rw [hq] at q3
            clear hm hq
            go_wp2_with (first | (go_at_call 29; refine (q3 _ R1.out).mono ?_; rintro e w' ⟨rfl, rfl⟩))
            go_ret2
            exact ⟨by rw [EV2.out, EE2.out]; rfl, B2.out⟩
  · rw [hr] at q2
    have ev : inV T p f = 0 := by rw [inV, hr, Bool.and_false]; rfl
    have ee : inE T p f = 1 := by rw [inE, hr, Bool.and_false]; rfl
    rw [ev, ee]
    clear hr ev ee
    go_enter Try.func18, Try.ntmps18
    go_wp2_with (first | (have _t := tk1; refine wpl_frame (.tmp 5) rfl A0.out ?_ ?_ ?_; rfl; rfl; clear tk1))
    refine (q2 _).mono ?_
    rintro e w1 ⟨rfl, B1⟩
    have B2 := hide (belowOn BB.out B1)
    clear A0 B1 R0 BB q2
    go_wp2
    go_ret2
    exact ⟨rfl, B2.out⟩
end
end Go.Proofs.Ytelinahpneikiaa
