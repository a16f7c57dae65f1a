/- Contract of Out, as the document has it. -/
import Derived.Test.YtelinahpneikiaaE6
import Derived.Test.YtelinahpneikiaaE5
namespace Go.Proofs.Ytelinahpneikiaa
open Go.RowKit

section
attribute [local go_sem] FC12 FC13 FC14 FC15 FC16 FC_size ZF
set_option maxRecDepth 100000 in
set_option maxHeartbeats 4000000 in
theorem out20_arg (g : Nat) (lv : Value) (T : Tb) (v p : Int) (f : Fd) (a : Option Addr) (n c : Nat) (w : World) (R : RT w g lv T) (hl : f.bs.length = n) (hc : (isV v && hp T p && rt f) = false) :
    Calls Try.prog 20 #[.pointer (some ⟨g + 1, 0, none⟩), .int .i64 v, .int .i64 p, .agg (FC f (.slice a n c))] w (OuP T v p f w) := by
  have e1 : ouF T v p f = zeroF := by rw [ouF, hc]; rfl
  have e2 : ouE T v p f = 1 := by rw [ouE, hc]; rfl
  unfold OuP
  rw [e1, e2]
  obtain ⟨A0, Z0, W0, L0⟩ := two_boxes w f (.slice a n c)
  have R0 := hide (R.on W0)
  have A1 := hide A0
  have Z1 := hide Z0
  have W1 := hide W0
  have q1 := fun W H => right39 g lv T v p W H
  have q2 := fun W => right35 f a n c hl W
  clear A0 Z0 W0 R e1 e2
  have tk1 : True := trivial
  have tk2 : True := trivial
  generalize (isV v && hp T p) = X at *
  generalize rt f = Y at *
  have hc' : (X = false) ∨ (Y = false) := by cases X <;> cases Y <;> simp_all
  clear hc
  go_enter Try.func20, Try.ntmps20
  go_wp2_with (first | (have _t := tk1; refine wpl_frame (.tmp 7) rfl A1.out ?_ ?_ ?_; rfl; rfl; clear tk1))
  refine (q2 _).mono ?_
  rintro e w1 ⟨rfl, B1⟩
  have Z2 := hide (Z1.out.on B1)
  have W2 := hide (belowOn W1.out B1)
  have R2 := hide (R0.out.on B1)
  clear A1 B1 R0 Z1 W1 q2
  have QQ : ∀ X' Y' : Bool, X = X' → Y = Y' → (X' = false ∨ Y' = false) → True := fun _ _ _ _ _ => trivial
  clear QQ
  cases X
  · cases Y
    all_goals
      clear hc'
      go_wp2_with (first | (go_at_call 39; refine (q1 _ R2.out).mono ?_; rintro e w' ⟨rfl, rfl⟩) | (have _t := tk2; refine wpl_putF zeroF (.slice none 0 0) _ _ rfl (.tmp 8) (.tmp 27) rfl Z2.out ?_ ?_ ?_ ?_; rfl; rfl; rfl; clear tk2))
      intro w2 Z3 g2
      have W3 := hide (below_grown W2.out g2 (by omega) W2.out.size)
      have Z4 := hide Z3
      clear Z3 g2 Z2 W2
      go_wp2
      exact bodyPost_ret (res_frame_tmp rfl rfl Z4.out) rfl ⟨none, 0, 0, rfl, Byt.nothing _, W3.out⟩
  · cases Y
    · clear hc'
      go_wp2_with (first | (go_at_call 39; refine (q1 _ R2.out).mono ?_; rintro e w' ⟨rfl, rfl⟩) | (have _t := tk2; refine wpl_putF zeroF (.slice none 0 0) _ _ rfl (.tmp 8) (.tmp 27) rfl Z2.out ?_ ?_ ?_ ?_; rfl; rfl; rfl; clear tk2))
      intro w2 Z3 g2
      have W3 := hide (below_grown W2.out g2 (by omega) W2.out.size)
      have Z4 := hide Z3
      clear Z3 g2 Z2 W2
      go_wp2
      exact bodyPost_ret (res_frame_tmp rfl rfl Z4.out) rfl ⟨none, 0, 0, rfl, Byt.nothing _, W3.out⟩
    · exfalso
      rcases hc' with h | h <;> cases h
set_option maxRecDepth 100000 in
set_option maxHeartbeats 4000000 in
theorem out20_yes (g : Nat) (lv : Value) (T : Tb) (v p : Int) (f : Fd) (a : Option Addr) (n c : Nat) (w : World) (R : RT w g lv T) (hY : Byt w a n c f.bs) (hab : ∀ b o, a = some ⟨b, o, none⟩ → 0 < n → b < w.heap.size) (hv : isV v = true) (hh : hp T p = true) (hr : rt f = true) :
    Calls Try.prog 20 #[.pointer (some ⟨g + 1, 0, none⟩), .int .i64 v, .int .i64 p, .agg (FC f (.slice a n c))] w (OuP T v p f w) := by
  have e1 : ouF T v p f = if hs T.l v p then (if tgd T.l v p then tagF f v f.pr else untF f) else zeroF := by rw [ouF, hv, hh, hr]; rfl
  have e2 : ouE T v p f = if hs T.l v p then 0 else 4 := by rw [ouE, hv, hh, hr]; rfl
  unfold OuP
  generalize ouF T v p f = F at e1 ⊢
  generalize ouE T v p f = E0 at e2 ⊢
  obtain ⟨A0, Z0, W0, L0⟩ := two_boxes w f (.slice a n c)
  have R0 := hide (R.on W0)
  have Y0 := hide (hY.on W0)
  have A1 := hide A0
  have Z1 := hide Z0
  have W1 := hide W0
  have q1 := fun W H => right39 g lv T v p W H
  have q2 := fun W => right35 f a n c hY.len W
  have q3 := fun W H => find29 g lv T v p W H
  have hlen := hY.len
  have hrt := hide (rt_tag hr hv)
  have hrl := R.lt
  rw [hv, hh, Bool.true_and] at q1
  rw [hr] at q2
  have HA := hide hab
  clear A0 Z0 W0 R hY hv hh hr hab
  have tk1 : True := trivial
  have tk2 : True := trivial
  have tk3 : True := trivial
  have tk4 : True := trivial
  have tk5 : True := trivial
  go_enter Try.func20, Try.ntmps20
  go_wp2_with (first | (have _t := tk1; refine wpl_frame (.tmp 7) rfl A1.out ?_ ?_ ?_; rfl; rfl; clear tk1))
  refine (q2 _).mono ?_
  rintro e w1 ⟨rfl, B1⟩
  have Z2 := hide (Z1.out.on B1)
  have A2 := hide (A1.out.on B1)
  have W2 := hide (belowOn W1.out B1)
  have R2 := hide (R0.out.on B1)
  have Y2 := hide (Y0.out.on B1)
  have c1 := R2.out.bx.cell 1 _ rfl
  have c14 := A2.out.cell 14 _ rfl
  have lZ := Z2.out.lt
  clear A1 B1 R0 Z1 W1 q2 Y0
  rcases Bool.eq_false_or_eq_true (hs T.l v p) with hm | hm
  · have hfx : fx T.l v p = (ix T.l v p : Int) := by rw [fx, hm]; rfl
    rw [hfx] at q3
    have hix := (hs_ix T.l v p).1 hm
    have hget := ix_get T.l v p hm
    rw [hm] at e1 e2
    have HF := hide e1
    have HE := hide e2
    rcases R2.out.at with ⟨_, hl⟩ | ⟨b, cap, rfl, hb, hn, hmx, hcell⟩
    · rw [hl] at hm; cases hm
    · obtain ⟨-, -, d2, -⟩ := hcell _ _ hget
      have hix' : (ix T.l v p : Int) < T.l.length := by omega
      unfold maxLen at hmx
      clear hm e1 e2 hfx hget hcell
      generalize tgd T.l v p = tg at *
      generalize ix T.l v p = k at *
      cases tg
      · go_wp2_with (first | (go_at_call 39; refine (q1 _ R2.out).mono ?_; rintro e w' ⟨rfl, rfl⟩) | (go_at_call 29; refine (q3 _ R2.out).mono ?_; rintro e w' ⟨rfl, rfl⟩) | (have _t := tk2; refine wpl_frame (.tmp 7) rfl A2.out ?_ ?_ ?_; rfl; rfl; clear tk2))
        refine (untag41 f (.slice a n c) rfl _).mono ?_
        rintro e w2 ⟨rfl, B4⟩
        have Z4 := hide (Z2.out.on B4)
        have W4 := hide (belowOn W2.out B4)
        have Y4 := hide (Y2.out.on B4)
        clear B4 Z2 W2 Y2 A2 c1 c14 d2 R2
        go_wp2_with (first | (have _t := tk3; refine wpl_putF (untF f) (.slice a n c) _ _ rfl (.tmp 8) (.tmp 53) rfl Z4.out ?_ ?_ ?_ ?_; rfl; rfl; rfl; clear tk3))
        intro w3 Z5 g2
        have W5 := hide (below_grown W4.out g2 (by omega) W4.out.size)
        have Y6 := hide (Y4.out.kept (fun b o e hp => by have := HA.out b o e hp; omega) g2)
        have Z6 := hide Z5
        clear Z5 g2 Z4 W4 Y4
        go_wp2
        exact bodyPost_ret (res_frame_tmp rfl rfl Z6.out) rfl ⟨a, n, c, by rw [HF.out, HE.out]; rfl, by rw [HF.out]; exact Y6.out, W5.out⟩
      · go_wp2_with (first | (go_at_call 39; refine (q1 _ R2.out).mono ?_; rintro e w' ⟨rfl, rfl⟩) | (go_at_call 29; refine (q3 _ R2.out).mono ?_; rintro e w' ⟨rfl, rfl⟩) | (have _t := tk2; refine wpl_frame (.tmp 7) rfl A2.out ?_ ?_ ?_; rfl; rfl; clear tk2))
        refine (tag40 f v f.pr a n c hlen _ hrt.out).mono ?_
        rintro e w2 ⟨rfl, B4⟩
        have ba := below_alloc w2 (.cells (FC zeroF (.slice none 0 0)) 37)
        have Z4 := hide ((Z2.out.on B4).on ba)
        have W4 := hide (belowOn (belowOn W2.out B4) ba)
        have Y4 := hide ((Y2.out.on B4).on ba)
        have N4 := hide (Box.new w2 (fcl zeroF (.slice none 0 0)) 37)
        have L4 := B4.size
        clear B4 Z2 W2 Y2 A2 c1 c14 d2 R2 ba
        go_wp2_with (first | (have _t := tk3; refine wpl_putF (tagF f v f.pr) (.slice a n c) _ _ rfl (.tmp 13) (.tmp 49) rfl N4.out ?_ ?_ ?_ ?_; rfl; rfl; rfl; clear tk3))
        intro w3 N5 g2
        have Z5 := hide (Z4.out.kept (by omega) g2)
        have N6 := hide N5
        have W5 := hide (below_grown W4.out g2 (by omega) W4.out.size)
        have Y5 := hide (Y4.out.kept (fun b o e hp => by have := HA.out b o e hp; omega) g2)
        clear N5 g2 Z4 W4 Y4 N4
        go_wp2_with (first | (have _t := tk4; refine wpl_frame (.tmp 13) rfl N6.out ?_ ?_ ?_; rfl; rfl; clear tk4) | (have _t := tk5; refine wpl_putF (tagF f v f.pr) (.slice a n c) _ _ rfl (.tmp 8) (.tmp 51) rfl Z5.out ?_ ?_ ?_ ?_; rfl; rfl; rfl; clear tk5))
        intro w4 Z7 g3
        have W6 := hide (below_grown W5.out g3 (by omega) W5.out.size)
        have Y6 := hide (Y5.out.kept (fun b o e hp => by have := HA.out b o e hp; omega) g3)
        have Z8 := hide Z7
        clear Z7 g3 Z5 W5 Y5 N6
        go_wp2
        exact bodyPost_ret (res_frame_tmp rfl rfl Z8.out) rfl ⟨a, n, c, by rw [HF.out, HE.out]; rfl, by rw [HF.out]; exact Y6.out, W6.out⟩
  · have hfx : fx T.l v p = -1 := by rw [fx, hm]; rfl
    rw [hfx] at q3
    rw [hm] at e1 e2
    have HF := hide e1
    have HE := hide e2
    clear hm e1 e2 hfx c1
    go_wp2_with (first | (go_at_call 39; refine (q1 _ R2.out).mono ?_; rintro e w' ⟨rfl, rfl⟩) | (go_at_call 29; refine (q3 _ R2.out).mono ?_; rintro e w' ⟨rfl, rfl⟩) | (have _t := tk3; refine wpl_putF zeroF (.slice none 0 0) _ _ rfl (.tmp 8) (.tmp 34) rfl Z2.out ?_ ?_ ?_ ?_; rfl; rfl; rfl; clear tk3))
    intro w2 Z4 g2
    have W4 := hide (below_grown W2.out g2 (by omega) W2.out.size)
    have Z5 := hide Z4
    clear Z4 g2 Z2 W2 A2 c14
    go_wp2
    exact bodyPost_ret (res_frame_tmp rfl rfl Z5.out) rfl ⟨none, 0, 0, by rw [HF.out, HE.out]; rfl, by rw [HF.out]; exact Byt.nothing _, W4.out⟩
end
theorem out20 (g : Nat) (lv : Value) (T : Tb) (v p : Int) (f : Fd) (a : Option Addr) (n c : Nat) (w : World) (R : RT w g lv T) (hY : Byt w a n c f.bs) :
    Calls Try.prog 20 #[.pointer (some ⟨g + 1, 0, none⟩), .int .i64 v, .int .i64 p, .agg (FC f (.slice a n c))] w (OuP T v p f w) := by
  rcases Bool.eq_false_or_eq_true (isV v && hp T p && rt f) with hc | hc
  · simp only [Bool.and_eq_true] at hc
    exact out20_yes g lv T v p f a n c w R hY hY.lt hc.1.1 hc.1.2 hc.2
  · exact out20_arg g lv T v p f a n c w R hY.len hc
end Go.Proofs.Ytelinahpneikiaa
