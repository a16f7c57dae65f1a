/- Contract of Out, of the program. -/
import Derived.Test.YtelinahpneikiaaE4
namespace Go.Proofs.Ytelinahpneikiaa
open Go.RowKit

/-- What Out tells. -/
def OuP (T : Tb) (v p : Int) (f : Fd) (w : World) (e : Ending) (w' : World) : Prop :=
  ∃ a m c, e = .returned (.tuple #[.agg (FC (ouF T v p f) (.slice a m c)), .int .i64 (ouE T v p f)]) ∧ Byt w' a m c (ouF T v p f).bs ∧ Below w.heap.size w w'
section
attribute [local go_sem] FC12 FC13 FC14 FC15 FC16 FC_size ZF
set_option maxRecDepth 100000 in
set_option maxHeartbeats 4000000 in
theorem out19_arg (h : Nat) (T : Tb) (v p : Int) (f : Fd) (a : Option Addr) (n c : Nat) (w : World) (P : PT w h T) (hl : f.bs.length = n) (hc : (isV v && hp T p && rt f) = false) :
    Calls Try.prog 19 #[.pointer (some ⟨h + 2, 0, none⟩), .int .i64 v, .int .i64 p, .agg (FC f (.slice a n c))] w (OuP T v p f w) := by
  have e1 : ouF T v p f = zeroF := by rw [ouF, hc]; rfl
  have e2 : ouE T v p f = 1 := by rw [ouE, hc]; rfl
  unfold OuP
  rw [e1, e2]
  obtain ⟨A0, Z0, W0, L0⟩ := two_boxes w f (.slice a n c)
  have P0 := hide (P.on W0)
  have A1 := hide A0
  have Z1 := hide Z0
  have W1 := hide W0
  have q0 := fun W => isVlan36 v W
  have q1 := fun W H => hasPort33 h T p W H
  have q2 := fun W => right34 f a n c hl W
  clear A0 Z0 W0 P e1 e2
  have tk1 : True := trivial
  have tk2 : True := trivial
  rcases Bool.eq_false_or_eq_true (isV v) with hv | hv
  · rw [hv] at q0 hc
    rcases Bool.eq_false_or_eq_true (hp T p) with hh | hh
    · rw [hh] at q1 hc
      rw [Bool.true_and, Bool.true_and] at hc
      rw [hc] at q2
      go_enter Try.func19, Try.ntmps19
      go_wp2_with (first | (go_at_call 36; refine (q0 _).mono ?_; rintro e w' ⟨rfl, rfl⟩) | (go_at_call 33; refine (q1 _ P0.out).mono ?_; rintro e w' ⟨rfl, rfl⟩) | (have _t := tk1; refine wpl_frame (.tmp 7) rfl A1.out ?_ ?_ ?_; rfl; rfl; clear tk1))
      refine (q2 _).mono ?_
      rintro e w1 ⟨rfl, B1⟩
      have Z2 := hide (Z1.out.on B1)
      have W2 := hide (belowOn W1.out B1)
      clear A1 B1 P0 Z1 W1 q0 q1 q2
      go_wp2_with (first | (have _t := tk2; refine wpl_putF zeroF (.slice none 0 0) _ _ rfl (.tmp 8) (.tmp 26) rfl Z2.out ?_ ?_ ?_ ?_; rfl; rfl; rfl; clear tk2))
      intro w2 Z3 g2
      have W3 := hide (below_grown W2.out g2 (by omega) W2.out.size)
      have Z4 := hide Z3
      clear Z3 g2 Z2 W2
      go_wp2
      exact bodyPost_ret (res_frame_tmp rfl rfl Z4.out) rfl ⟨none, 0, 0, rfl, Byt.nothing _, W3.out⟩
    · rw [hh] at q1
      clear q2
      go_enter Try.func19, Try.ntmps19
      go_wp2_with (first | (go_at_call 36; refine (q0 _).mono ?_; rintro e w' ⟨rfl, rfl⟩) | (go_at_call 33; refine (q1 _ P0.out).mono ?_; rintro e w' ⟨rfl, rfl⟩) | (have _t := tk2; refine wpl_putF zeroF (.slice none 0 0) _ _ rfl (.tmp 8) (.tmp 26) rfl Z1.out ?_ ?_ ?_ ?_; rfl; rfl; rfl; clear tk2))
      intro w2 Z3 g2
      have W3 := hide (below_grown W1.out g2 (by omega) W1.out.size)
      have Z4 := hide Z3
      clear Z3 g2 Z1 W1
      go_wp2
      exact bodyPost_ret (res_frame_tmp rfl rfl Z4.out) rfl ⟨none, 0, 0, rfl, Byt.nothing _, W3.out⟩
  · rw [hv] at q0
    clear q2 q1
    go_enter Try.func19, Try.ntmps19
    go_wp2_with (first | (go_at_call 36; refine (q0 _).mono ?_; rintro e w' ⟨rfl, rfl⟩) | (have _t := tk2; refine wpl_putF zeroF (.slice none 0 0) _ _ rfl (.tmp 8) (.tmp 26) rfl Z1.out ?_ ?_ ?_ ?_; rfl; rfl; rfl; clear tk2))
    intro w2 Z3 g2
    have W3 := hide (below_grown W1.out g2 (by omega) W1.out.size)
    have Z4 := hide Z3
    clear Z3 g2 Z1 W1
    go_wp2
    exact bodyPost_ret (res_frame_tmp rfl rfl Z4.out) rfl ⟨none, 0, 0, rfl, Byt.nothing _, W3.out⟩
set_option maxRecDepth 100000 in
set_option maxHeartbeats 4000000 in
theorem out19_yes (h : Nat) (T : Tb) (v p : Int) (f : Fd) (a : Option Addr) (n c : Nat) (w : World) (P : PT w h T) (hY : Byt w a n c f.bs) (hn : n ≤ 5000) (hv : isV v = true) (hh : hp T p = true) (hr : rt f = true) :
    Calls Try.prog 19 #[.pointer (some ⟨h + 2, 0, none⟩), .int .i64 v, .int .i64 p, .agg (FC f (.slice a n c))] w (OuP T v p f w) := by
  have e1 : ouF T v p f = if hs T.l v p then (if tgd T.l v p then tagF f v f.pr else untF f) else zeroF := by rw [ouF, hv, hh, hr]; rfl
  have e2 : ouE T v p f = if hs T.l v p then 0 else 4 := by rw [ouE, hv, hh, hr]; rfl
  unfold OuP
  generalize ouF T v p f = F at e1 ⊢
  generalize ouE T v p f = E0 at e2 ⊢
  obtain ⟨A0, Z0, W0, L0⟩ := two_boxes w f (.slice a n c)
  have P0 := hide (P.on W0)
  have Y0 := hide (hY.on W0)
  have A1 := hide A0
  have Z1 := hide Z0
  have W1 := hide W0
  have q0 := fun W => isVlan36 v W
  have q1 := fun W H => hasPort33 h T p W H
  have q2 := fun W => right34 f a n c hY.len W
  have iv := i64_v hv
  have ip := i64_p P.wf hh
  have hrt := hide (rt_tag hr hv)
  rw [hv] at q0
  rw [hh] at q1
  rw [hr] at q2
  clear A0 Z0 W0 P hY hv hh hr
  have tk1 : True := trivial
  have tk2 : True := trivial
  have tk3 : True := trivial
  go_enter Try.func19, Try.ntmps19
  go_wp2_with (first | (go_at_call 36; refine (q0 _).mono ?_; rintro e w' ⟨rfl, rfl⟩) | (go_at_call 33; refine (q1 _ P0.out).mono ?_; rintro e w' ⟨rfl, rfl⟩) | (have _t := tk1; refine wpl_frame (.tmp 7) rfl A1.out ?_ ?_ ?_; rfl; rfl; clear tk1))
  refine (q2 _).mono ?_
  rintro e w1 ⟨rfl, B1⟩
  have P2 := P0.out.on B1
  have hlk := P2.mp.look P2.wf.small P2.wf.ap iv ip
  unfold KV EV at hlk
  have c0 := P2.bx.cell 0 _ rfl
  have A2 := A1.out.on B1
  have Z2 := Z1.out.on B1
  have W2 := belowOn W1.out B1
  have Y2 := Y0.out.on B1
  clear A1 B1 P0 Z1 W1 q0 q1 q2 P2 Y0
  generalize tgd T.l v p = tg at *
  have ba := below_alloc w1 (.cells #[.bool tg] 77)
  have A3 := hide (A2.on ba)
  have Z3 := hide (Z2.on ba)
  have W3 := hide (belowOn W2 ba)
  have Y3 := hide (Y2.on ba)
  have c14 := (A2.on ba).cell 14 _ rfl
  have lZ := (Z2.on ba).lt
  clear A2 Z2 W2 Y2 ba
  rcases Bool.eq_false_or_eq_true (hs T.l v p) with hm | hm
  · rw [hm] at hlk e1 e2
    have HF := hide e1
    have HE := hide e2
    clear hm e1 e2
    cases tg
    · go_wp2_with (first | (have _t := tk2; refine wpl_frame (.tmp 7) rfl A3.out ?_ ?_ ?_; rfl; rfl; clear tk2))
      refine (untag38 f a n c _ Y3.out (by omega)).mono ?_
      rintro e w2 ⟨a', c', rfl, Y4, hf, B4⟩
      have YN := hide hf
      have Z4 := hide (Z3.out.on B4)
      have W4 := hide (belowOn W3.out B4)
      have Y5 := hide Y4
      clear Y4 B4 Z3 W3 Y3 A3 hlk c0 c14 hf
      go_wp2_with (first | (have _t := tk3; refine wpl_putF (untF f) (.slice a' n c') _ _ rfl (.tmp 8) (.tmp 51) rfl Z4.out ?_ ?_ ?_ ?_; rfl; rfl; rfl; clear tk3))
      intro w3 Z5 g2
      have W5 := hide (below_grown W4.out g2 (by omega) W4.out.size)
      have Y6 := hide (Y5.out.kept (fun b o e hp => by have := YN.out b o e; omega) g2)
      have Z6 := hide Z5
      clear Z5 g2 Z4 W4 Y5
      go_wp2
      exact bodyPost_ret (res_frame_tmp rfl rfl Z6.out) rfl ⟨a', n, c', by rw [HF.out, HE.out]; rfl, by rw [HF.out]; exact Y6.out, W5.out⟩
    · go_wp2_with (first | (have _t := tk2; refine wpl_frame (.tmp 7) rfl A3.out ?_ ?_ ?_; rfl; rfl; clear tk2))
      refine (tag37 f v f.pr a n c _ Y3.out (by omega) hrt.out).mono ?_
      rintro e w2 ⟨a', c', rfl, Y4, hf, B4⟩
      have YN := hide hf
      have Z4 := hide (Z3.out.on B4)
      have W4 := hide (belowOn W3.out B4)
      have Y5 := hide Y4
      clear Y4 B4 Z3 W3 Y3 A3 hlk c0 c14 hf
      go_wp2_with (first | (have _t := tk3; refine wpl_putF (tagF f v f.pr) (.slice a' n c') _ _ rfl (.tmp 8) (.tmp 48) rfl Z4.out ?_ ?_ ?_ ?_; rfl; rfl; rfl; clear tk3))
      intro w3 Z5 g2
      have W5 := hide (below_grown W4.out g2 (by omega) W4.out.size)
      have Y6 := hide (Y5.out.kept (fun b o e hp => by have := YN.out b o e; omega) g2)
      have Z6 := hide Z5
      clear Z5 g2 Z4 W4 Y5
      go_wp2
      exact bodyPost_ret (res_frame_tmp rfl rfl Z6.out) rfl ⟨a', n, c', by rw [HF.out, HE.out]; rfl, by rw [HF.out]; exact Y6.out, W5.out⟩
  · rw [hm] at hlk e1 e2
    have HF := hide e1
    have HE := hide e2
    clear hm e1 e2
    go_wp2_with (first | (have _t := tk3; refine wpl_putF zeroF (.slice none 0 0) _ _ rfl (.tmp 8) (.tmp 40) rfl Z3.out ?_ ?_ ?_ ?_; rfl; rfl; rfl; clear tk3))
    intro w2 Z4 g2
    have W4 := hide (below_grown W3.out g2 (by omega) W3.out.size)
    have Z5 := hide Z4
    clear Z4 g2 Z3 W3 A3 hlk c0 c14
    go_wp2
    exact bodyPost_ret (res_frame_tmp rfl rfl Z5.out) rfl ⟨none, 0, 0, by rw [HF.out, HE.out]; rfl, by rw [HF.out]; exact Byt.nothing _, W4.out⟩
end
theorem out19 (h : Nat) (T : Tb) (v p : Int) (f : Fd) (a : Option Addr) (n c : Nat) (w : World) (P : PT w h T) (hY : Byt w a n c f.bs) (hn : n ≤ 5000) :
    Calls Try.prog 19 #[.pointer (some ⟨h + 2, 0, none⟩), .int .i64 v, .int .i64 p, .agg (FC f (.slice a n c))] w (OuP T v p f w) := by
  rcases Bool.eq_false_or_eq_true (isV v && hp T p && rt f) with hc | hc
  · simp only [Bool.and_eq_true] at hc
    exact out19_yes h T v p f a n c w P hY hn hc.1.1 hc.1.2 hc.2
  · exact out19_arg h T v p f a n c w P hY.len hc
end Go.Proofs.Ytelinahpneikiaa
