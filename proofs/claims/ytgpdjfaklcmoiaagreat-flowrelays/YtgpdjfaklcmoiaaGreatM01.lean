/- Contract of In, as the document has it. · Contract of Out, as the document has it. -/
import Derived.Test.YtgpdjfaklcmoiaaGreatM00
/- Contract of In, as the document has it. -/
namespace Go.Proofs.YtgpdjfaklcmoiaaGreat
open Go.RowKit

theorem fx_iff (l : List Mm) (v p : Int) : (hs l v p = true ∧ ∃ q : Nat, fx l v p = (q : Int)) ∨ (hs l v p = false ∧ fx l v p = -1) := by
  rcases Bool.eq_false_or_eq_true (hs l v p) with hm | hm
  · exact Or.inl ⟨hm, ix l v p, by rw [fx, hm]; rfl⟩
  · exact Or.inr ⟨hm, by rw [fx, hm]; rfl⟩
section
attribute [local go_sem] FC12 FC13 FC14 FC15 FC16 FC_size ZF
set_option maxRecDepth 100000 in
set_option maxHeartbeats 4000000 in
theorem in18 (g : Nat) (lv : Value) (T : Tb) (p : Int) (f : Fd) (a : Option Addr) (n c : Nat) (hl : f.bs.length = n) (w : World) (R : RT w g lv T) :
    Calls Tryz.prog 93 #[.pointer (some ⟨g + 1, 0, none⟩), .int .i64 p, .agg (FC f (.slice a n c))] w fun e w' => e = .returned (.tuple #[.int .i64 (inV T p f), .int .i64 (inE T p f)]) ∧ Below w.heap.size w w' := by
  have B0 := below_alloc w (.cells (FC f (.slice a n c)) 38)
  have A0 := hide (Box.new w (fcl f (.slice a n c)) 38)
  have R0 := hide (R.on B0)
  have q2 := fun W => right35 f a n c hl W
  have WF := hide R.wf
  clear R
  have BB := hide B0
  clear B0
  have tk1 : True := trivial
  rcases Bool.eq_false_or_eq_true (rt f) with hr | hr
  · rw [hr] at q2
    by_cases p0 : p < 0
    · have hh : hp T p = false := by simp [hp]; omega
      have ev : inV T p f = 0 := by rw [inV, hh]; rfl
      have ee : inE T p f = 1 := by rw [inE, hh]; rfl
      rw [ev, ee]
      clear hh hr ev ee
      go_enter Tryz.func93, Tryz.ntmps93
      go_wp2_with (first | (have _t := tk1; refine wpl_frame (.tmp 5) rfl A0.out ?_ ?_ ?_; rfl; rfl; clear tk1))
      refine (q2 _).mono ?_
      rintro e w1 ⟨rfl, B1⟩
      have B2 := hide (belowOn BB.out B1)
      clear A0 B1 R0 BB q2
      go_wp2
      go_ret2
      exact ⟨rfl, B2.out⟩
    · by_cases p1 : (T.n : Int) ≤ p
      · have hh : hp T p = false := by simp [hp]; omega
        have ev : inV T p f = 0 := by rw [inV, hh]; rfl
        have ee : inE T p f = 1 := by rw [inE, hh]; rfl
        rw [ev, ee]
        clear hh hr ev ee
        go_enter Tryz.func93, Tryz.ntmps93
        go_wp2_with (first | (have _t := tk1; refine wpl_frame (.tmp 5) rfl A0.out ?_ ?_ ?_; rfl; rfl; clear tk1))
        refine (q2 _).mono ?_
        rintro e w1 ⟨rfl, B1⟩
        have B2 := hide (belowOn BB.out B1)
        have c0 := (R0.out.on B1).bx.cell 0 _ rfl
        clear A0 B1 R0 BB q2
        go_wp2
        go_ret2
        exact ⟨rfl, B2.out⟩
      · have hh : hp T p = true := (hp_iff T p).2 ⟨by omega, by omega⟩
        have hn := WF.out.ns
        obtain ⟨k, rfl⟩ := Int.eq_ofNat_of_zero_le (show 0 ≤ p by omega)
        have hk : k < T.ns.length := by omega
        have hk' : (k : Int) < T.n := by omega
        have ev : inV T k f = if hs T.l (vOf T k f) k then vOf T k f else 0 := by rw [inV, hh, hr]; rfl
        have ee : inE T k f = if hs T.l (vOf T k f) k then 0 else 4 := by rw [inE, hh, hr]; rfl
        have eo : vOf T k f = if f.vl == 0 then T.ns.getD k 0 else f.vl := by rw [vOf, Int.toNat_natCast]
        have hz := hs_zero WF.out k
        have hpr := rt_pr hr
        have EV2 := hide ev
        have EE2 := hide ee
        clear hh hr ev ee
        go_enter Tryz.func93, Tryz.ntmps93
        go_wp2_with (first | (have _t := tk1; refine wpl_frame (.tmp 5) rfl A0.out ?_ ?_ ?_; rfl; rfl; clear tk1))
        refine (q2 _).mono ?_
        rintro e w1 ⟨rfl, B1⟩
        have R1 := hide (R0.out.on B1)
        have A1 := A0.out.on B1
        have c12 := A1.cell 12 _ rfl
        have c13 := A1.cell 13 _ rfl
        have c0 := R1.out.bx.cell 0 _ rfl
        have c2 := R1.out.bx.cell 2 _ rfl
        have n1 := R1.out.nt.cell k _ (nsl_get hk)
        have B2 := hide (belowOn BB.out B1)
        clear A0 A1 B1 R0 BB q2
        rcases Bool.eq_false_or_eq_true (f.vl == 0) with h0 | h0
        · have eo' : T.ns.getD k 0 = vOf T k f := by rw [eo, h0]; rfl
          have h0' : (f.vl != 0) = false := by simp [bne, h0]
          rw [eo'] at n1
          generalize vOf T k f = x at *
          clear eo eo' hpr
          have q3 := fun W H => find29 g lv T x k W H
          rcases Bool.eq_false_or_eq_true (x == 0) with hx | hx
          · have hx' : x = 0 := by simpa using hx
            subst hx'
            rw [hz] at EV2 EE2
            rcases Bool.eq_false_or_eq_true f.tg with ht | ht
            all_goals
              rw [ht] at c12
              go_wp2
              go_ret2
              exact ⟨by rw [EV2.out, EE2.out]; rfl, B2.out⟩
          · rcases fx_iff T.l x k with ⟨hm, q, hq⟩ | ⟨hm, hq⟩
            all_goals
              rw [hm] at EV2 EE2
              rw [hq] at q3
              clear hm hq
              rcases Bool.eq_false_or_eq_true f.tg with ht | ht
              all_goals
                rw [ht] at c12
                go_wp2_with (first | (go_at_call 68; refine (q3 _ R1.out).mono ?_; rintro e w' ⟨rfl, rfl⟩))
                go_ret2
                exact ⟨by rw [EV2.out, EE2.out]; rfl, B2.out⟩
        · have eo' : f.vl = vOf T k f := by rw [eo, h0]; rfl
          have h0' : (f.vl != 0) = true := by simp [bne, h0]
          have ht : f.tg = true := by
            rcases Bool.eq_false_or_eq_true f.tg with ht | ht
            · exact ht
            · have := (hpr ht).1
              rw [this] at h0
              cases h0
          rw [ht] at c12
          rw [← eo'] at EV2 EE2
          clear eo eo' hpr ht
          have q3 := fun W H => find29 g lv T f.vl k W H
          rcases fx_iff T.l f.vl k with ⟨hm, q, hq⟩ | ⟨hm, hq⟩
          all_goals
            rw [hm] at EV2 EE2
            rw [hq] at q3
            clear hm hq
            go_wp2_with (first | (go_at_call 68; refine (q3 _ R1.out).mono ?_; rintro e w' ⟨rfl, rfl⟩))
            go_ret2
            exact ⟨by rw [EV2.out, EE2.out]; rfl, B2.out⟩
  · rw [hr] at q2
    have ev : inV T p f = 0 := by rw [inV, hr, Bool.and_false]; rfl
    have ee : inE T p f = 1 := by rw [inE, hr, Bool.and_false]; rfl
    rw [ev, ee]
    clear hr ev ee
    go_enter Tryz.func93, Tryz.ntmps93
    go_wp2_with (first | (have _t := tk1; refine wpl_frame (.tmp 5) rfl A0.out ?_ ?_ ?_; rfl; rfl; clear tk1))
    refine (q2 _).mono ?_
    rintro e w1 ⟨rfl, B1⟩
    have B2 := hide (belowOn BB.out B1)
    clear A0 B1 R0 BB q2
    go_wp2
    go_ret2
    exact ⟨rfl, B2.out⟩
end
end Go.Proofs.YtgpdjfaklcmoiaaGreat
/- Contract of Out, as the document has it. -/
namespace Go.Proofs.YtgpdjfaklcmoiaaGreat
open Go.RowKit

/-- As OuP, and the Body is the same slice, or nothing. -/
def OuR (T : Tb) (v p : Int) (f : Fd) (a0 : Option Addr) (w : World) (e : Ending) (w' : World) : Prop :=
  ∃ a m c, e = .returned (.tuple #[.agg (FC (ouF T v p f) (.slice a m c)), .int .i64 (ouE T v p f)]) ∧ Byt w' a m c (ouF T v p f).bs ∧ Below w.heap.size w w' ∧ (a = none ∨ a = a0)
section
attribute [local go_sem] FC12 FC13 FC14 FC15 FC16 FC_size ZF
set_option maxRecDepth 100000 in
set_option maxHeartbeats 4000000 in
theorem out20_arg (g : Nat) (lv : Value) (T : Tb) (v p : Int) (f : Fd) (a : Option Addr) (n c : Nat) (w : World) (R : RT w g lv T) (hl : f.bs.length = n) (hc : (isV v && hp T p && rt f) = false) :
    Calls Tryz.prog 78 #[.pointer (some ⟨g + 1, 0, none⟩), .int .i64 v, .int .i64 p, .agg (FC f (.slice a n c))] w (OuR T v p f a w) := by
  have e1 : ouF T v p f = zeroF := by rw [ouF, hc]; rfl
  have e2 : ouE T v p f = 1 := by rw [ouE, hc]; rfl
  unfold OuR
  rw [e1, e2]
  obtain ⟨A0, Z0, W0, L0⟩ := two_boxes w f (.slice a n c)
  have R0 := hide (R.on W0)
  have A1 := hide A0
  have Z1 := hide Z0
  have W1 := hide W0
  have q1 := fun W H => right39 g lv T v p W H
  have q2 := fun W => right35 f a n c hl W
  clear A0 Z0 W0 R e1 e2
  have tk1 : True := trivial
  have tk2 : True := trivial
  generalize (isV v && hp T p) = X at *
  generalize rt f = Y at *
  have hc' : (X = false) ∨ (Y = false) := by cases X <;> cases Y <;> simp_all
  clear hc
  go_enter Tryz.func78, Tryz.ntmps78
  go_wp2_with (first | (have _t := tk1; refine wpl_frame (.tmp 7) rfl A1.out ?_ ?_ ?_; rfl; rfl; clear tk1))
  refine (q2 _).mono ?_
  rintro e w1 ⟨rfl, B1⟩
  have Z2 := hide (Z1.out.on B1)
  have W2 := hide (belowOn W1.out B1)
  have R2 := hide (R0.out.on B1)
  clear A1 B1 R0 Z1 W1 q2
  have QQ : ∀ X' Y' : Bool, X = X' → Y = Y' → (X' = false ∨ Y' = false) → True := fun _ _ _ _ _ => trivial
  clear QQ
  cases X
  · cases Y
    all_goals
      clear hc'
      go_wp2_with (first | (go_at_call 67; refine (q1 _ R2.out).mono ?_; rintro e w' ⟨rfl, rfl⟩) | (have _t := tk2; refine wpl_putF zeroF (.slice none 0 0) _ _ rfl (.tmp 8) (.tmp 27) rfl Z2.out ?_ ?_ ?_ ?_; rfl; rfl; rfl; clear tk2))
      intro w2 Z3 g2
      have W3 := hide (below_grown W2.out g2 (by omega) W2.out.size)
      have Z4 := hide Z3
      clear Z3 g2 Z2 W2
      go_wp2
      exact bodyPost_ret (res_frame_tmp rfl rfl Z4.out) rfl ⟨none, 0, 0, rfl, Byt.nothing _, W3.out, Or.inl rfl⟩
  · cases Y
    · clear hc'
      go_wp2_with (first | (go_at_call 67; refine (q1 _ R2.out).mono ?_; rintro e w' ⟨rfl, rfl⟩) | (have _t := tk2; refine wpl_putF zeroF (.slice none 0 0) _ _ rfl (.tmp 8) (.tmp 27) rfl Z2.out ?_ ?_ ?_ ?_; rfl; rfl; rfl; clear tk2))
      intro w2 Z3 g2
      have W3 := hide (below_grown W2.out g2 (by omega) W2.out.size)
      have Z4 := hide Z3
      clear Z3 g2 Z2 W2
      go_wp2
      exact bodyPost_ret (res_frame_tmp rfl rfl Z4.out) rfl ⟨none, 0, 0, rfl, Byt.nothing _, W3.out, Or.inl rfl⟩
    · exfalso
      rcases hc' with h | h <;> cases h
set_option maxRecDepth 100000 in
set_option maxHeartbeats 4000000 in
theorem out20_yes (g : Nat) (lv : Value) (T : Tb) (v p : Int) (f : Fd) (a : Option Addr) (n c : Nat) (w : World) (R : RT w g lv T) (hY : Byt w a n c f.bs) (hab : ∀ b o, a = some ⟨b, o, none⟩ → 0 < n → b < w.heap.size) (hv : isV v = true) (hh : hp T p = true) (hr : rt f = true) :
    Calls Tryz.prog 78 #[.pointer (some ⟨g + 1, 0, none⟩), .int .i64 v, .int .i64 p, .agg (FC f (.slice a n c))] w (OuR T v p f a w) := by
  have e1 : ouF T v p f = if hs T.l v p then (if tgd T.l v p then tagF f v f.pr else untF f) else zeroF := by rw [ouF, hv, hh, hr]; rfl
  have e2 : ouE T v p f = if hs T.l v p then 0 else 4 := by rw [ouE, hv, hh, hr]; rfl
  unfold OuR
  generalize ouF T v p f = F at e1 ⊢
  generalize ouE T v p f = E0 at e2 ⊢
  obtain ⟨A0, Z0, W0, L0⟩ := two_boxes w f (.slice a n c)
  have R0 := hide (R.on W0)
  have Y0 := hide (hY.on W0)
  have A1 := hide A0
  have Z1 := hide Z0
  have W1 := hide W0
  have q1 := fun W H => right39 g lv T v p W H
  have q2 := fun W => right35 f a n c hY.len W
  have q3 := fun W H => find29 g lv T v p W H
  have hlen := hY.len
  have hrt := hide (rt_tag hr hv)
  have hrl := R.lt
  rw [hv, hh, Bool.true_and] at q1
  rw [hr] at q2
  have HA := hide hab
  clear A0 Z0 W0 R hY hv hh hr hab
  have tk1 : True := trivial
  have tk2 : True := trivial
  have tk3 : True := trivial
  have tk4 : True := trivial
  have tk5 : True := trivial
  go_enter Tryz.func78, Tryz.ntmps78
  go_wp2_with (first | (have _t := tk1; refine wpl_frame (.tmp 7) rfl A1.out ?_ ?_ ?_; rfl; rfl; clear tk1))
  refine (q2 _).mono ?_
  rintro e w1 ⟨rfl, B1⟩
  have Z2 := hide (Z1.out.on B1)
  have A2 := hide (A1.out.on B1)
  have W2 := hide (belowOn W1.out B1)
  have R2 := hide (R0.out.on B1)
  have Y2 := hide (Y0.out.on B1)
  have c1 := R2.out.bx.cell 1 _ rfl
  have c14 := A2.out.cell 14 _ rfl
  have lZ := Z2.out.lt
  clear A1 B1 R0 Z1 W1 q2 Y0
  rcases Bool.eq_false_or_eq_true (hs T.l v p) with hm | hm
  · have hfx : fx T.l v p = (ix T.l v p : Int) := by rw [fx, hm]; rfl
    rw [hfx] at q3
    have hix := (hs_ix T.l v p).1 hm
    have hget := ix_get T.l v p hm
    rw [hm] at e1 e2
    have HF := hide e1
    have HE := hide e2
    rcases R2.out.at with ⟨_, hl⟩ | ⟨b, cap, rfl, hb, hn, hmx, hcell⟩
    · rw [hl] at hm; cases hm
    · obtain ⟨-, -, d2, -⟩ := hcell _ _ hget
      have hix' : (ix T.l v p : Int) < T.l.length := by omega
      unfold maxLen at hmx
      clear hm e1 e2 hfx hget hcell
      generalize tgd T.l v p = tg at *
      generalize ix T.l v p = k at *
      cases tg
      · go_wp2_with (first | (go_at_call 67; refine (q1 _ R2.out).mono ?_; rintro e w' ⟨rfl, rfl⟩) | (go_at_call 68; refine (q3 _ R2.out).mono ?_; rintro e w' ⟨rfl, rfl⟩) | (have _t := tk2; refine wpl_frame (.tmp 7) rfl A2.out ?_ ?_ ?_; rfl; rfl; clear tk2))
        refine (untag41 f (.slice a n c) rfl _).mono ?_
        rintro e w2 ⟨rfl, B4⟩
        have Z4 := hide (Z2.out.on B4)
        have W4 := hide (belowOn W2.out B4)
        have Y4 := hide (Y2.out.on B4)
        clear B4 Z2 W2 Y2 A2 c1 c14 d2 R2
        go_wp2_with (first | (have _t := tk3; refine wpl_putF (untF f) (.slice a n c) _ _ rfl (.tmp 8) (.tmp 53) rfl Z4.out ?_ ?_ ?_ ?_; rfl; rfl; rfl; clear tk3))
        intro w3 Z5 g2
        have W5 := hide (below_grown W4.out g2 (by omega) W4.out.size)
        have Y6 := hide (Y4.out.kept (fun b o e hp => by have := HA.out b o e hp; omega) g2)
        have Z6 := hide Z5
        clear Z5 g2 Z4 W4 Y4
        go_wp2
        exact bodyPost_ret (res_frame_tmp rfl rfl Z6.out) rfl ⟨a, n, c, by rw [HF.out, HE.out]; rfl, by rw [HF.out]; exact Y6.out, W5.out, Or.inr rfl⟩
      · go_wp2_with (first | (go_at_call 67; refine (q1 _ R2.out).mono ?_; rintro e w' ⟨rfl, rfl⟩) | (go_at_call 68; refine (q3 _ R2.out).mono ?_; rintro e w' ⟨rfl, rfl⟩) | (have _t := tk2; refine wpl_frame (.tmp 7) rfl A2.out ?_ ?_ ?_; rfl; rfl; clear tk2))
        refine (tag40 f v f.pr a n c hlen _ hrt.out).mono ?_
        rintro e w2 ⟨rfl, B4⟩
        have ba := below_alloc w2 (.cells (FC zeroF (.slice none 0 0)) 38)
        have Z4 := hide ((Z2.out.on B4).on ba)
        have W4 := hide (belowOn (belowOn W2.out B4) ba)
        have Y4 := hide ((Y2.out.on B4).on ba)
        have N4 := hide (Box.new w2 (fcl zeroF (.slice none 0 0)) 38)
        have L4 := B4.size
        clear B4 Z2 W2 Y2 A2 c1 c14 d2 R2 ba
        go_wp2_with (first | (have _t := tk3; refine wpl_putF (tagF f v f.pr) (.slice a n c) _ _ rfl (.tmp 13) (.tmp 49) rfl N4.out ?_ ?_ ?_ ?_; rfl; rfl; rfl; clear tk3))
        intro w3 N5 g2
        have Z5 := hide (Z4.out.kept (by omega) g2)
        have N6 := hide N5
        have W5 := hide (below_grown W4.out g2 (by omega) W4.out.size)
        have Y5 := hide (Y4.out.kept (fun b o e hp => by have := HA.out b o e hp; omega) g2)
        clear N5 g2 Z4 W4 Y4 N4
        go_wp2_with (first | (have _t := tk4; refine wpl_frame (.tmp 13) rfl N6.out ?_ ?_ ?_; rfl; rfl; clear tk4) | (have _t := tk5; refine wpl_putF (tagF f v f.pr) (.slice a n c) _ _ rfl (.tmp 8) (.tmp 51) rfl Z5.out ?_ ?_ ?_ ?_; rfl; rfl; rfl; clear tk5))
        intro w4 Z7 g3
        have W6 := hide (below_grown W5.out g3 (by omega) W5.out.size)
        have Y6 := hide (Y5.out.kept (fun b o e hp => by have := HA.out b o e hp; omega) g3)
        have Z8 := hide Z7
        clear Z7 g3 Z5 W5 Y5 N6
        go_wp2
        exact bodyPost_ret (res_frame_tmp rfl rfl Z8.out) rfl ⟨a, n, c, by rw [HF.out, HE.out]; rfl, by rw [HF.out]; exact Y6.out, W6.out, Or.inr rfl⟩
  · have hfx : fx T.l v p = -1 := by rw [fx, hm]; rfl
    rw [hfx] at q3
    rw [hm] at e1 e2
    have HF := hide e1
    have HE := hide e2
    clear hm e1 e2 hfx c1
    go_wp2_with (first | (go_at_call 67; refine (q1 _ R2.out).mono ?_; rintro e w' ⟨rfl, rfl⟩) | (go_at_call 68; refine (q3 _ R2.out).mono ?_; rintro e w' ⟨rfl, rfl⟩) | (have _t := tk3; refine wpl_putF zeroF (.slice none 0 0) _ _ rfl (.tmp 8) (.tmp 34) rfl Z2.out ?_ ?_ ?_ ?_; rfl; rfl; rfl; clear tk3))
    intro w2 Z4 g2
    have W4 := hide (below_grown W2.out g2 (by omega) W2.out.size)
    have Z5 := hide Z4
    clear Z4 g2 Z2 W2 A2 c14
    go_wp2
    exact bodyPost_ret (res_frame_tmp rfl rfl Z5.out) rfl ⟨none, 0, 0, by rw [HF.out, HE.out]; rfl, by rw [HF.out]; exact Byt.nothing _, W4.out, Or.inl rfl⟩
end
theorem out20 (g : Nat) (lv : Value) (T : Tb) (v p : Int) (f : Fd) (a : Option Addr) (n c : Nat) (w : World) (R : RT w g lv T) (hY : Byt w a n c f.bs) :
    Calls Tryz.prog 78 #[.pointer (some ⟨g + 1, 0, none⟩), .int .i64 v, .int .i64 p, .agg (FC f (.slice a n c))] w (OuR T v p f a w) := by
  rcases Bool.eq_false_or_eq_true (isV v && hp T p && rt f) with hc | hc
  · simp only [Bool.and_eq_true] at hc
    exact out20_yes g lv T v p f a n c w R hY hY.lt hc.1.1 hc.1.2 hc.2
  · exact out20_arg g lv T v p f a n c w R hY.len hc
end Go.Proofs.YtgpdjfaklcmoiaaGreat
