/- Contracts: In, of both. · Contract of Out, of the program. · Contract of In, as the document has it. · Contract of Out, as the document has it. · Plain: a bridge; what comes of a frame. Nothing of the program. · Memory: the document's bridge; what may change, by blocks. · Contract: New of the document's bridge. · Contract: learn of the document's bridge. · Memory: what goes out, as cells; rows of it. · Contract: Relay of the document's bridge. · Contracts: Reserved of the program and of the document; a way as cells. · A way as cells; stores of it; results. · Contract: way of the document's bridge. · Contract: Take of the document's bridge. · A step of the bridge as cells; steps in a slice; few; sum. · Memory: the program's bridge. · What goes out, of a list of ports: plain; what the rounds of a loop over a function leave as it was. · Contracts: hasPort, State, Set, Vlans, Stations, Counts, Learned of the program's bridge. · The iterator of the ports that may send, for every loop body. -/
import Derived.Test.YtgpdjfaklcmoiaaDoorM00
import Derived.Test.YtgpdjfaklcmoiaaDoorM02
import Derived.Test.YtgpdjfaklcmoiaaDoorM03
import Derived.Test.YtgpdjfaklcmoiaaDoorM04
import Derived.Maps.AppendAt
import Derived.Test.YtgpdjfaklcmoiaaDoorM05
import Derived.Deep.RegionLaw
import Derived.Deep.DeepCutAuto
import Derived.Test.YtgpdjfaklcmoiaaDoorM06
import Derived.RangeFuncBox
import Derived.RangeFuncLeaves
import Derived.RangeFuncNested
import Derived.Shelf.Abstract
import Derived.WalkKit
import Derived.OwnWalkIn
import Derived.TacticsInMore
import Derived.LoopNIn
import Derived.LoopIn
import Derived.Sort.QuietIn
/- Contracts: In, of both. -/
namespace Go.Proofs.YtgpdjfaklcmoiaaDoor
open Go.RowKit

theorem nat_rng {T : Tb} (h : Wf T) {k : Nat} : 0 ≤ T.ns.getD k 0 ∧ T.ns.getD k 0 ≤ 4094 := by
  rw [List.getD_eq_getElem?_getD]
  cases hk : T.ns[k]? with
  | none => simp
  | some x => exact h.nat x (List.mem_of_getElem? hk)
theorem vOf_rng {T : Tb} (h : Wf T) {p : Int} {f : Fd} (hr : rt f = true) : 0 ≤ vOf T p f ∧ vOf T p f ≤ 4094 := by
  unfold vOf
  split
  · exact nat_rng h
  · exact rt_vl hr
theorem hs_zero {T : Tb} (h : Wf T) (p : Int) : hs T.l 0 p = false := by
  rw [Bool.eq_false_iff]
  intro hc
  have := (isV_iff 0).1 (h.has hc).1
  omega
section
attribute [local go_sem] FC12 FC13 FC14 FC15 FC16 FC_size ZF
set_option maxRecDepth 100000 in
set_option maxHeartbeats 4000000 in
theorem in17 (h : Nat) (T : Tb) (p : Int) (f : Fd) (a : Option Addr) (n c : Nat) (hl : f.bs.length = n) (w : World) (P : PT w h T) :
    Calls Tryd.prog 55 #[.pointer (some ⟨h + 2, 0, none⟩), .int .i64 p, .agg (FC f (.slice a n c))] w fun e w' => e = .returned (.tuple #[.int .i64 (inV T p f), .int .i64 (inE T p f)]) ∧ Below w.heap.size w w' := by
  have B0 := below_alloc w (.cells (FC f (.slice a n c)) 26)
  have A0 := hide (Box.new w (fcl f (.slice a n c)) 26)
  have P0 := hide (P.on B0)
  have q1 := fun W H => hasPort33 h T p W H
  have q2 := fun W => right34 f a n c hl W
  have WF := hide P.wf
  clear P
  have BB := hide B0
  clear B0
  have tk1 : True := trivial
  rcases Bool.eq_false_or_eq_true (hp T p) with hh | hh
  · rw [hh] at q1
    rcases Bool.eq_false_or_eq_true (rt f) with hr | hr
    · rw [hr] at q2
      have hv := vOf_rng (p := p) WF.out hr
      have q3 := fun W H => isMember28 h T (vOf T p f) p W ⟨by omega, by omega⟩ (i64_p WF.out hh) H
      have hb := (hp_iff T p).1 hh
      have hn := WF.out.ns
      obtain ⟨k, rfl⟩ := Int.eq_ofNat_of_zero_le hb.1
      have hk : k < T.ns.length := by omega
      have hk' : (k : Int) < T.n := by omega
      have ev : inV T k f = if hs T.l (vOf T k f) k then vOf T k f else 0 := by rw [inV, hh, hr]; rfl
      have ee : inE T k f = if hs T.l (vOf T k f) k then 0 else 4 := by rw [inE, hh, hr]; rfl
      have eo : vOf T k f = if f.vl == 0 then T.ns.getD k 0 else f.vl := by rw [vOf, Int.toNat_natCast]
      have EV2 := hide ev
      have EE2 := hide ee
      have Q3 := hide q3
      clear hh hr hb ev ee hv q3
      go_enter Tryd.func55, Tryd.ntmps55
      go_wp2_with (first | (go_at_call 20; refine (q1 _ P0.out).mono ?_; rintro e w' ⟨rfl, rfl⟩) | (have _t := tk1; refine wpl_frame (.tmp 5) rfl A0.out ?_ ?_ ?_; rfl; rfl; clear tk1))
      refine (q2 _).mono ?_
      rintro e w1 ⟨rfl, B1⟩
      have P1 := hide (P0.out.on B1)
      have A1 := A0.out.on B1
      have c13 := A1.cell 13 _ rfl
      have c1 := P1.out.bx.cell 1 _ rfl
      have n1 := P1.out.nt.cell k _ (nsl_get hk)
      have B2 := hide (belowOn BB.out B1)
      clear A0 A1 B1 P0 BB q1 q2
      rcases Bool.eq_false_or_eq_true (f.vl == 0) with h0 | h0
      · have eo' : T.ns.getD k 0 = vOf T k f := by rw [eo, h0]; rfl
        rw [eo'] at n1
        have Q4 := hide (fun W H => Q3.out W H)
        generalize vOf T k f = x at *
        clear eo eo' Q3
        go_wp2_with fail
        refine (Q4.out _ P1.out).mono ?_
        rintro e w2 ⟨rfl, B3⟩
        have B4 := hide (belowOn B2.out B3)
        clear B3 B2 P1 c13 c1 n1 Q4
        rcases Bool.eq_false_or_eq_true (hs T.l x k) with hm | hm
        · rw [hm] at EV2 EE2 ⊢
          clear hm
          go_wp2
          go_ret2
          exact ⟨by rw [EV2.out, EE2.out]; rfl, B4.out⟩
        · rw [hm] at EV2 EE2 ⊢
          clear hm
          go_wp2
          go_ret2
          exact ⟨by rw [EV2.out, EE2.out]; rfl, B4.out⟩
      · have eo' : f.vl = vOf T k f := by rw [eo, h0]; rfl
        have Q4 : Hid (∀ W, PT W h T → Calls Tryd.prog 70 #[.pointer (some ⟨h + 2, 0, none⟩), .int .i64 f.vl, .int .i64 k] W fun e w' => e = .returned (.bool (hs T.l f.vl k)) ∧ Below W.heap.size W w') := hide (by rw [eo']; exact Q3.out)
        rw [← eo'] at EV2 EE2
        clear eo eo' Q3 n1 c1
        go_wp2_with fail
        refine (Q4.out _ P1.out).mono ?_
        rintro e w2 ⟨rfl, B3⟩
        have B4 := hide (belowOn B2.out B3)
        clear B3 B2 P1 c13 Q4
        rcases Bool.eq_false_or_eq_true (hs T.l f.vl k) with hm | hm
        · rw [hm] at EV2 EE2 ⊢
          clear hm
          go_wp2
          go_ret2
          exact ⟨by rw [EV2.out, EE2.out]; rfl, B4.out⟩
        · rw [hm] at EV2 EE2 ⊢
          clear hm
          go_wp2
          go_ret2
          exact ⟨by rw [EV2.out, EE2.out]; rfl, B4.out⟩
    · rw [hr] at q2
      have ev : inV T p f = 0 := by rw [inV, hh, hr]; rfl
      have ee : inE T p f = 1 := by rw [inE, hh, hr]; rfl
      rw [ev, ee]
      clear hh hr ev ee
      go_enter Tryd.func55, Tryd.ntmps55
      go_wp2_with (first | (go_at_call 20; refine (q1 _ P0.out).mono ?_; rintro e w' ⟨rfl, rfl⟩) | (have _t := tk1; refine wpl_frame (.tmp 5) rfl A0.out ?_ ?_ ?_; rfl; rfl; clear tk1))
      refine (q2 _).mono ?_
      rintro e w1 ⟨rfl, B1⟩
      have B2 := hide (belowOn BB.out B1)
      clear A0 B1 P0 BB q1 q2
      go_wp2
      go_ret2
      exact ⟨rfl, B2.out⟩
  · rw [hh] at q1
    have ev : inV T p f = 0 := by rw [inV, hh]; rfl
    have ee : inE T p f = 1 := by rw [inE, hh]; rfl
    rw [ev, ee]
    clear hh ev ee q2
    go_enter Tryd.func55, Tryd.ntmps55
    go_wp2_with (first | (go_at_call 20; refine (q1 _ P0.out).mono ?_; rintro e w' ⟨rfl, rfl⟩))
    go_ret2
    exact ⟨rfl, BB.out⟩
end
end Go.Proofs.YtgpdjfaklcmoiaaDoor
/- Contract of Out, of the program. -/
namespace Go.Proofs.YtgpdjfaklcmoiaaDoor
open Go.RowKit

/-- What Out tells. -/
def OuP (T : Tb) (v p : Int) (f : Fd) (w : World) (e : Ending) (w' : World) : Prop :=
  ∃ a m c, e = .returned (.tuple #[.agg (FC (ouF T v p f) (.slice a m c)), .int .i64 (ouE T v p f)]) ∧ Byt w' a m c (ouF T v p f).bs ∧ (∀ b o, a = some ⟨b, o, none⟩ → w.heap.size ≤ b) ∧ Below w.heap.size w w'
section
attribute [local go_sem] FC12 FC13 FC14 FC15 FC16 FC_size ZF
set_option maxRecDepth 100000 in
set_option maxHeartbeats 4000000 in
theorem out19_arg (h : Nat) (T : Tb) (v p : Int) (f : Fd) (a : Option Addr) (n c : Nat) (w : World) (P : PT w h T) (hl : f.bs.length = n) (hc : (isV v && hp T p && rt f) = false) :
    Calls Tryd.prog 53 #[.pointer (some ⟨h + 2, 0, none⟩), .int .i64 v, .int .i64 p, .agg (FC f (.slice a n c))] w (OuP T v p f w) := by
  have e1 : ouF T v p f = zeroF := by rw [ouF, hc]; rfl
  have e2 : ouE T v p f = 1 := by rw [ouE, hc]; rfl
  unfold OuP
  rw [e1, e2]
  obtain ⟨A0, Z0, W0, L0⟩ := two_boxes w f (.slice a n c)
  have P0 := hide (P.on W0)
  have A1 := hide A0
  have Z1 := hide Z0
  have W1 := hide W0
  have q0 := fun W => isVlan36 v W
  have q1 := fun W H => hasPort33 h T p W H
  have q2 := fun W => right34 f a n c hl W
  clear A0 Z0 W0 P e1 e2
  have tk1 : True := trivial
  have tk2 : True := trivial
  rcases Bool.eq_false_or_eq_true (isV v) with hv | hv
  · rw [hv] at q0 hc
    rcases Bool.eq_false_or_eq_true (hp T p) with hh | hh
    · rw [hh] at q1 hc
      rw [Bool.true_and, Bool.true_and] at hc
      rw [hc] at q2
      go_enter Tryd.func53, Tryd.ntmps53
      go_wp2_with (first | (go_at_call 19; refine (q0 _).mono ?_; rintro e w' ⟨rfl, rfl⟩) | (go_at_call 20; refine (q1 _ P0.out).mono ?_; rintro e w' ⟨rfl, rfl⟩) | (have _t := tk1; refine wpl_frame (.tmp 7) rfl A1.out ?_ ?_ ?_; rfl; rfl; clear tk1))
      refine (q2 _).mono ?_
      rintro e w1 ⟨rfl, B1⟩
      have Z2 := hide (Z1.out.on B1)
      have W2 := hide (belowOn W1.out B1)
      clear A1 B1 P0 Z1 W1 q0 q1 q2
      go_wp2_with (first | (have _t := tk2; refine wpl_putF zeroF (.slice none 0 0) _ _ rfl (.tmp 8) (.tmp 26) rfl Z2.out ?_ ?_ ?_ ?_; rfl; rfl; rfl; clear tk2))
      intro w2 Z3 g2
      have W3 := hide (below_grown W2.out g2 (by omega) W2.out.size)
      have Z4 := hide Z3
      clear Z3 g2 Z2 W2
      go_wp2
      exact bodyPost_ret (res_frame_tmp rfl rfl Z4.out) rfl ⟨none, 0, 0, rfl, Byt.nothing _, fun b o e => (by cases e), W3.out⟩
    · rw [hh] at q1
      clear q2
      go_enter Tryd.func53, Tryd.ntmps53
      go_wp2_with (first | (go_at_call 19; refine (q0 _).mono ?_; rintro e w' ⟨rfl, rfl⟩) | (go_at_call 20; refine (q1 _ P0.out).mono ?_; rintro e w' ⟨rfl, rfl⟩) | (have _t := tk2; refine wpl_putF zeroF (.slice none 0 0) _ _ rfl (.tmp 8) (.tmp 26) rfl Z1.out ?_ ?_ ?_ ?_; rfl; rfl; rfl; clear tk2))
      intro w2 Z3 g2
      have W3 := hide (below_grown W1.out g2 (by omega) W1.out.size)
      have Z4 := hide Z3
      clear Z3 g2 Z1 W1
      go_wp2
      exact bodyPost_ret (res_frame_tmp rfl rfl Z4.out) rfl ⟨none, 0, 0, rfl, Byt.nothing _, fun b o e => (by cases e), W3.out⟩
  · rw [hv] at q0
    clear q2 q1
    go_enter Tryd.func53, Tryd.ntmps53
    go_wp2_with (first | (go_at_call 19; refine (q0 _).mono ?_; rintro e w' ⟨rfl, rfl⟩) | (have _t := tk2; refine wpl_putF zeroF (.slice none 0 0) _ _ rfl (.tmp 8) (.tmp 26) rfl Z1.out ?_ ?_ ?_ ?_; rfl; rfl; rfl; clear tk2))
    intro w2 Z3 g2
    have W3 := hide (below_grown W1.out g2 (by omega) W1.out.size)
    have Z4 := hide Z3
    clear Z3 g2 Z1 W1
    go_wp2
    exact bodyPost_ret (res_frame_tmp rfl rfl Z4.out) rfl ⟨none, 0, 0, rfl, Byt.nothing _, fun b o e => (by cases e), W3.out⟩
set_option maxRecDepth 100000 in
set_option maxHeartbeats 4000000 in
theorem out19_yes (h : Nat) (T : Tb) (v p : Int) (f : Fd) (a : Option Addr) (n c : Nat) (w : World) (P : PT w h T) (hY : Byt w a n c f.bs) (hn : n ≤ 5000) (hv : isV v = true) (hh : hp T p = true) (hr : rt f = true) :
    Calls Tryd.prog 53 #[.pointer (some ⟨h + 2, 0, none⟩), .int .i64 v, .int .i64 p, .agg (FC f (.slice a n c))] w (OuP T v p f w) := by
  have e1 : ouF T v p f = if hs T.l v p then (if tgd T.l v p then tagF f v f.pr else untF f) else zeroF := by rw [ouF, hv, hh, hr]; rfl
  have e2 : ouE T v p f = if hs T.l v p then 0 else 4 := by rw [ouE, hv, hh, hr]; rfl
  unfold OuP
  generalize ouF T v p f = F at e1 ⊢
  generalize ouE T v p f = E0 at e2 ⊢
  obtain ⟨A0, Z0, W0, L0⟩ := two_boxes w f (.slice a n c)
  have P0 := hide (P.on W0)
  have Y0 := hide (hY.on W0)
  have A1 := hide A0
  have Z1 := hide Z0
  have W1 := hide W0
  have q0 := fun W => isVlan36 v W
  have q1 := fun W H => hasPort33 h T p W H
  have q2 := fun W => right34 f a n c hY.len W
  have iv := i64_v hv
  have ip := i64_p P.wf hh
  have hrt := hide (rt_tag hr hv)
  rw [hv] at q0
  rw [hh] at q1
  rw [hr] at q2
  clear A0 Z0 W0 P hY hv hh hr
  have tk1 : True := trivial
  have tk2 : True := trivial
  have tk3 : True := trivial
  go_enter Tryd.func53, Tryd.ntmps53
  go_wp2_with (first | (go_at_call 19; refine (q0 _).mono ?_; rintro e w' ⟨rfl, rfl⟩) | (go_at_call 20; refine (q1 _ P0.out).mono ?_; rintro e w' ⟨rfl, rfl⟩) | (have _t := tk1; refine wpl_frame (.tmp 7) rfl A1.out ?_ ?_ ?_; rfl; rfl; clear tk1))
  refine (q2 _).mono ?_
  rintro e w1 ⟨rfl, B1⟩
  have P2 := P0.out.on B1
  have hlk := P2.mp.look P2.wf.small P2.wf.ap iv ip
  unfold KV EV at hlk
  have c0 := P2.bx.cell 0 _ rfl
  have A2 := A1.out.on B1
  have Z2 := Z1.out.on B1
  have W2 := belowOn W1.out B1
  have Y2 := Y0.out.on B1
  clear A1 B1 P0 Z1 W1 q0 q1 q2 P2 Y0
  generalize tgd T.l v p = tg at *
  have ba := below_alloc w1 (.cells #[.bool tg] 69)
  have A3 := hide (A2.on ba)
  have Z3 := hide (Z2.on ba)
  have W3 := hide (belowOn W2 ba)
  have Y3 := hide (Y2.on ba)
  have c14 := (A2.on ba).cell 14 _ rfl
  have lZ := (Z2.on ba).lt
  clear A2 Z2 W2 Y2 ba
  rcases Bool.eq_false_or_eq_true (hs T.l v p) with hm | hm
  · rw [hm] at hlk e1 e2
    have HF := hide e1
    have HE := hide e2
    clear hm e1 e2
    cases tg
    · go_wp2_with (first | (have _t := tk2; refine wpl_frame (.tmp 7) rfl A3.out ?_ ?_ ?_; rfl; rfl; clear tk2))
      refine (untag38 f a n c _ Y3.out (by omega)).mono ?_
      rintro e w2 ⟨a', c', rfl, Y4, hf, B4⟩
      have YN := hide hf
      have YS := hide W3.out.size
      have Z4 := hide (Z3.out.on B4)
      have W4 := hide (belowOn W3.out B4)
      have Y5 := hide Y4
      clear Y4 B4 Z3 W3 Y3 A3 hlk c0 c14 hf
      go_wp2_with (first | (have _t := tk3; refine wpl_putF (untF f) (.slice a' n c') _ _ rfl (.tmp 8) (.tmp 51) rfl Z4.out ?_ ?_ ?_ ?_; rfl; rfl; rfl; clear tk3))
      intro w3 Z5 g2
      have W5 := hide (below_grown W4.out g2 (by omega) W4.out.size)
      have Y6 := hide (Y5.out.kept (fun b o e hp => by have := YN.out b o e; omega) g2)
      have Z6 := hide Z5
      clear Z5 g2 Z4 W4 Y5
      go_wp2
      exact bodyPost_ret (res_frame_tmp rfl rfl Z6.out) rfl ⟨a', n, c', by rw [HF.out, HE.out]; rfl, by rw [HF.out]; exact Y6.out, fun b o e => by have := YN.out b o e; have := YS.out; omega, W5.out⟩
    · go_wp2_with (first | (have _t := tk2; refine wpl_frame (.tmp 7) rfl A3.out ?_ ?_ ?_; rfl; rfl; clear tk2))
      refine (tag37 f v f.pr a n c _ Y3.out (by omega) hrt.out).mono ?_
      rintro e w2 ⟨a', c', rfl, Y4, hf, B4⟩
      have YN := hide hf
      have YS := hide W3.out.size
      have Z4 := hide (Z3.out.on B4)
      have W4 := hide (belowOn W3.out B4)
      have Y5 := hide Y4
      clear Y4 B4 Z3 W3 Y3 A3 hlk c0 c14 hf
      go_wp2_with (first | (have _t := tk3; refine wpl_putF (tagF f v f.pr) (.slice a' n c') _ _ rfl (.tmp 8) (.tmp 48) rfl Z4.out ?_ ?_ ?_ ?_; rfl; rfl; rfl; clear tk3))
      intro w3 Z5 g2
      have W5 := hide (below_grown W4.out g2 (by omega) W4.out.size)
      have Y6 := hide (Y5.out.kept (fun b o e hp => by have := YN.out b o e; omega) g2)
      have Z6 := hide Z5
      clear Z5 g2 Z4 W4 Y5
      go_wp2
      exact bodyPost_ret (res_frame_tmp rfl rfl Z6.out) rfl ⟨a', n, c', by rw [HF.out, HE.out]; rfl, by rw [HF.out]; exact Y6.out, fun b o e => by have := YN.out b o e; have := YS.out; omega, W5.out⟩
  · rw [hm] at hlk e1 e2
    have HF := hide e1
    have HE := hide e2
    clear hm e1 e2
    go_wp2_with (first | (have _t := tk3; refine wpl_putF zeroF (.slice none 0 0) _ _ rfl (.tmp 8) (.tmp 40) rfl Z3.out ?_ ?_ ?_ ?_; rfl; rfl; rfl; clear tk3))
    intro w2 Z4 g2
    have W4 := hide (below_grown W3.out g2 (by omega) W3.out.size)
    have Z5 := hide Z4
    clear Z4 g2 Z3 W3 A3 hlk c0 c14
    go_wp2
    exact bodyPost_ret (res_frame_tmp rfl rfl Z5.out) rfl ⟨none, 0, 0, by rw [HF.out, HE.out]; rfl, by rw [HF.out]; exact Byt.nothing _, fun b o e => (by cases e), W4.out⟩
end
theorem out19 (h : Nat) (T : Tb) (v p : Int) (f : Fd) (a : Option Addr) (n c : Nat) (w : World) (P : PT w h T) (hY : Byt w a n c f.bs) (hn : n ≤ 5000) :
    Calls Tryd.prog 53 #[.pointer (some ⟨h + 2, 0, none⟩), .int .i64 v, .int .i64 p, .agg (FC f (.slice a n c))] w (OuP T v p f w) := by
  rcases Bool.eq_false_or_eq_true (isV v && hp T p && rt f) with hc | hc
  · simp only [Bool.and_eq_true] at hc
    exact out19_yes h T v p f a n c w P hY hn hc.1.1 hc.1.2 hc.2
  · exact out19_arg h T v p f a n c w P hY.len hc
end Go.Proofs.YtgpdjfaklcmoiaaDoor
/- Contract of In, as the document has it. -/
namespace Go.Proofs.YtgpdjfaklcmoiaaDoor
open Go.RowKit

theorem fx_iff (l : List Mm) (v p : Int) : (hs l v p = true ∧ ∃ q : Nat, fx l v p = (q : Int)) ∨ (hs l v p = false ∧ fx l v p = -1) := by
  rcases Bool.eq_false_or_eq_true (hs l v p) with hm | hm
  · exact Or.inl ⟨hm, ix l v p, by rw [fx, hm]; rfl⟩
  · exact Or.inr ⟨hm, by rw [fx, hm]; rfl⟩
section
attribute [local go_sem] FC12 FC13 FC14 FC15 FC16 FC_size ZF
end
end Go.Proofs.YtgpdjfaklcmoiaaDoor
/- Contract of Out, as the document has it. -/
namespace Go.Proofs.YtgpdjfaklcmoiaaDoor
open Go.RowKit

/-- As OuP, and the Body is the same slice, or nothing. -/
def OuR (T : Tb) (v p : Int) (f : Fd) (a0 : Option Addr) (w : World) (e : Ending) (w' : World) : Prop :=
  ∃ a m c, e = .returned (.tuple #[.agg (FC (ouF T v p f) (.slice a m c)), .int .i64 (ouE T v p f)]) ∧ Byt w' a m c (ouF T v p f).bs ∧ Below w.heap.size w w' ∧ (a = none ∨ a = a0)
section
attribute [local go_sem] FC12 FC13 FC14 FC15 FC16 FC_size ZF
end
end Go.Proofs.YtgpdjfaklcmoiaaDoor
/- Plain: a bridge; what comes of a frame. Nothing of the program. -/
namespace Go.Proofs.YtgpdjfaklcmoiaaDoor
open Go.RowKit Go.PlainAid

def mD (f : Fd) : Mc := ⟨f.d0, f.d1, f.d2, f.d3, f.d4, f.d5⟩
def mS (f : Fd) : Mc := ⟨f.s0, f.s1, f.s2, f.s3, f.s4, f.s5⟩
theorem dcl_mcl (f : Fd) : dcl f = mcl (mD f) := rfl
theorem scl_mcl (f : Fd) : scl f = mcl (mS f) := rfl
/-- A bridge: its ports, its tables, its ports' states, how often each cause was told, how learning went. -/
structure Br where
  n : Nat
  V : Tb
  F : FT
  st : List Int
  ct : List Int
  ln : List Int
def hasP (n : Nat) (p : Int) : Bool := decide (1 ≤ p ∧ p ≤ n)
theorem hasP_iff (n : Nat) (p : Int) : hasP n p = true ↔ 1 ≤ p ∧ p ≤ n := by simp [hasP]
theorem hasP_no (n : Nat) (p : Int) : hasP n p = false ↔ ¬ (1 ≤ p ∧ p ≤ n) := by rw [← hasP_iff, Bool.eq_false_iff]
def isS (s : Int) : Bool := decide (0 ≤ s ∧ s ≤ 2)
theorem isS_iff (s : Int) : isS s = true ↔ 0 ≤ s ∧ s ≤ 2 := by simp [isS]
def sta (B : Br) (p : Int) : Int := if hasP B.n p then B.st.getD p.toNat 0 else 0
def tSet (B : Br) (p s : Int) : Br := if hasP B.n p && isS s then { B with st := B.st.set p.toNat s } else B
def eSet (B : Br) (p s : Int) : Int := if hasP B.n p && isS s then 0 else 1
/-- What goes out: at which port, which frame. -/
structure Ot where
  p : Int
  f : Fd
def may (B : Br) (v u t : Int) (f : Fd) (p : Int) : Bool := !(p == u) && ((t == 0 || p == t) && (B.st.getD p.toNat 0 == 2 && ouE B.V v p f == 0))
def rly (B : Br) (v u t : Int) (f : Fd) : Nat → List Ot
  | 0 => []
  | k + 1 => rly B v u t f k ++ (if may B v u t f (k + 1 : Nat) then [⟨((k + 1 : Nat) : Int), ouF B.V v (k + 1 : Nat) f⟩] else [])
def inc (l : List Int) (j : Nat) : List Int := l.set j (l.getD j 0 + 1)
def lrL (B : Br) (v : Int) (m : Mc) (p t : Int) : List Int :=
  if lE B.F v m p t = 0 then (if 0 < lK B.F v m p t then inc B.ln (lK B.F v m p t - 1).toNat else B.ln) else inc B.ln 2
def lrn (B : Br) (v : Int) (m : Mc) (p t : Int) : Br := { B with F := lT B.F v m p t, ln := lrL B v m p t }
def rsv (m : Mc) : Bool := num m / 16 == 103282638848
structure Wy where
  c : Int
  v : Int
  t : Int
  o : List Ot
def tgtOf (B : Br) (v : Int) (f : Fd) : Int := if fhs B.F.l v (mD f) && !grp (mD f) then (lk B.F.l v (mD f)).p else 0
def outL (B : Br) (v p : Int) (f : Fd) : List Ot := if !fhs B.F.l v (mD f) || decide (0 < tgtOf B v f) then rly B v p (tgtOf B v f) f B.n else []
/-- Behind learning: whether it is a station of that port; else what goes out. -/
def outW (B : Br) (v p : Int) (f : Fd) : Wy :=
  if fhs B.F.l v (mD f) && !grp (mD f) && (lk B.F.l v (mD f)).p == p then ⟨7, v, 0, []⟩
  else if (outL B v p f).isEmpty then ⟨8, v, tgtOf B v f, []⟩ else ⟨0, v, tgtOf B v f, outL B v p f⟩
def badW (B : Br) (p : Int) (f : Fd) (t : Int) : Bool := !(rt f && hasP B.n p && isT t)
/-- The causes ahead of learning; 0: none. -/
def preW (B : Br) (p : Int) (f : Fd) (t : Int) : Int :=
  if badW B p f t then 1 else if rsv (mD f) then 2 else if sta B p == 0 then 3 else if inE B.V p f != 0 then 4 else if grp (mS f) then 5 else 0
def wayP (B : Br) (p : Int) (f : Fd) (t : Int) : Wy × Br :=
  if preW B p f t == 0 then
    (if sta B p == 1 then (⟨6, inV B.V p f, 0, []⟩, lrn B (inV B.V p f) (mS f) p t) else (outW (lrn B (inV B.V p f) (mS f) p t) (inV B.V p f) p f, lrn B (inV B.V p f) (mS f) p t))
  else (⟨preW B p f t, if preW B p f t == 5 then inV B.V p f else 0, 0, []⟩, B)
def tk (B : Br) (p : Int) (f : Fd) (t : Int) : Wy × Br := ((wayP B p f t).1, { (wayP B p f t).2 with ct := inc (wayP B p f t).2.ct (wayP B p f t).1.c.toNat })
def sml (l : List Int) : Prop := ∀ x ∈ l, 0 ≤ x ∧ x < 1000000
/-- A bridge that may be. -/
structure Bw (B : Br) : Prop where
  n1 : 1 ≤ B.n
  n2 : B.n ≤ 63
  vn : B.V.n = B.n + 1
  vw : Wf B.V
  fw : FW B.F
  sl : B.st.length = B.n + 1
  ss : ∀ x ∈ B.st, 0 ≤ x ∧ x ≤ 2
  cl : B.ct.length = 9
  cs : sml B.ct
  ll : B.ln.length = 3
  ls : sml B.ln
theorem st_get {B : Br} (h : Bw B) {p : Int} (hp : hasP B.n p = true) : ∃ k : Nat, p = k ∧ k < B.st.length ∧ sta B p = B.st.getD k 0 := by
  have h1 := (hasP_iff _ _).1 hp
  obtain ⟨k, rfl⟩ := Int.eq_ofNat_of_zero_le (show 0 ≤ p by omega)
  refine ⟨k, rfl, by rw [h.sl]; omega, ?_⟩
  unfold sta
  rw [hp, if_pos rfl, Int.toNat_natCast]
theorem preW_le (B : Br) (p : Int) (f : Fd) (t : Int) : 0 ≤ preW B p f t ∧ preW B p f t ≤ 5 := by
  unfold preW
  repeat' split
  all_goals omega
theorem outW_c (B : Br) (v p : Int) (f : Fd) : (outW B v p f).c = 7 ∨ (outW B v p f).c = 8 ∨ (outW B v p f).c = 0 := by
  unfold outW
  split
  · exact Or.inl rfl
  · split
    · exact Or.inr (Or.inl rfl)
    · exact Or.inr (Or.inr rfl)
theorem wayP_c (B : Br) (p : Int) (f : Fd) (t : Int) : 0 ≤ (wayP B p f t).1.c ∧ (wayP B p f t).1.c ≤ 8 := by
  unfold wayP
  split
  · split
    · exact ⟨show (0 : Int) ≤ 6 by omega, show (6 : Int) ≤ 8 by omega⟩
    · have := outW_c (lrn B (inV B.V p f) (mS f) p t) (inV B.V p f) p f
      dsimp only
      omega
  · have := preW_le B p f t
    dsimp only
    omega
theorem rly_len (B : Br) (v u t : Int) (f : Fd) : ∀ k, (rly B v u t f k).length ≤ k
  | 0 => Nat.le_refl _
  | k + 1 => by
    have := rly_len B v u t f k
    unfold rly
    rw [List.length_append]
    split
    · simp; omega
    · simp; omega
theorem inc_len (l : List Int) (j : Nat) : (inc l j).length = l.length := by simp [inc]
end Go.Proofs.YtgpdjfaklcmoiaaDoor
/- Memory: the document's bridge; what may change, by blocks. -/
namespace Go.Proofs.YtgpdjfaklcmoiaaDoor
open Go.RowKit Go.PlainAid

/-- From one world to another one but the blocks O were changed, and new ones; O' are of O, or new. -/
structure Ch (O O' : Nat → Prop) (w w' : World) : Prop where
  os : w'.os = w.os
  tape : w'.tape = w.tape
  output : w'.output = w.output
  size : w.heap.size ≤ w'.heap.size
  block : ∀ i, i < w.heap.size → ¬ O i → w'.heap[i]? = w.heap[i]?
  dom : ∀ i, O' i → O i ∨ w.heap.size ≤ i
theorem Ch.of_below {O : Nat → Prop} {w w' : World} (h : Below w.heap.size w w') : Ch O O w w' := ⟨h.os, h.tape, h.output, h.size, fun i hi _ => h.block i hi, fun _ h => Or.inl h⟩
theorem Ch.refl (O : Nat → Prop) (w : World) : Ch O O w w := Ch.of_below (Below.refl _ _)
theorem Ch.trans {O O' O'' : Nat → Prop} {w w1 w2 : World} (h : Ch O O' w w1) (k : Ch O' O'' w1 w2) : Ch O O'' w w2 :=
  ⟨k.os.trans h.os, k.tape.trans h.tape, k.output.trans h.output, Nat.le_trans h.size k.size, fun i hi ho => (k.block i (Nat.lt_of_lt_of_le hi h.size) (fun h2 => by
    rcases h.dom i h2 with h3 | h3
    · exact ho h3
    · omega)).trans (h.block i hi ho), fun i hi => by
    rcases k.dom i hi with h1 | h1
    · exact h.dom i h1
    · exact Or.inr (Nat.le_trans h.size h1)⟩
theorem Ch.on {O O' : Nat → Prop} {w w1 w2 : World} (h : Ch O O' w w1) (k : Below w1.heap.size w1 w2) : Ch O O' w w2 := h.trans (Ch.of_below k)
theorem Ch.pre {O O' : Nat → Prop} {w w1 w2 : World} (k : Below w.heap.size w w1) (h : Ch O O' w1 w2) : Ch O O' w w2 := (Ch.of_below k).trans h
theorem Ch.drew {O O' : Nat → Prop} {w w1 : World} (h : Ch O O' w w1) : Ch O O' w w1.drew := ⟨h.os, h.tape, h.output, h.size, h.block, h.dom⟩
theorem Ch.below {O O' : Nat → Prop} {w w1 : World} {N : Nat} (h : Ch O O' w w1) (hN : N ≤ w.heap.size) (ho : ∀ i, O i → N ≤ i) : Below N w w1 :=
  ⟨h.os, h.tape, h.output, h.size, fun i hi => h.block i (Nat.lt_of_lt_of_le hi hN) (fun h2 => by have := ho i h2; omega)⟩
theorem Ch.grown {O : Nat → Prop} {w w1 : World} {r : Nat} (g : w.grownBy w1 (some r)) (hr : O r) : Ch O O w w1 :=
  ⟨g.os, g.tape, g.output, g.size, fun i hi ho => g.block i hi (fun e => ho (by have := Option.some.inj e; rw [this]; exact hr)), fun _ h => Or.inl h⟩
/-- Where it lies. -/
structure RAd where
  g : Nat
  gs : Nat
  gv : Nat
  gf : Nat
  lv : Value
  lf : Value
def rcl (A : RAd) (B : Br) : List Value := [.int .i64 B.n, .pointer (some ⟨A.gv + 1, 0, none⟩), .pointer (some ⟨A.gf, 0, none⟩), .slice (some ⟨A.gs, 0, none⟩) (B.n + 1) (B.n + 1)] ++ (nsl B.ct ++ nsl B.ln)
theorem row_keep {w w1 : World} {g : Nat} {e : TypeId} {z : Nat} {lv : Value} {n : Nat} {xs : List Value} (hr : w.ownsRow g e z lv n xs) (hb : ∀ b, lv.ownBlock = some b → w1.heap[b]? = w.heap[b]?) : w1.ownsRow g e z lv n xs := by
  refine ⟨hr.1, ?_⟩
  rcases hr.2 with h | ⟨b, cap, cur, rfl, hb', hc, r⟩
  · exact Or.inl h
  · exact Or.inr ⟨b, cap, cur, rfl, hb', (hb b rfl).trans hc, r⟩
end Go.Proofs.YtgpdjfaklcmoiaaDoor
/- Contract: New of the document's bridge. -/
namespace Go.Proofs.YtgpdjfaklcmoiaaDoor
open Go.RowKit Go.PlainAid

def bNew (n r : Nat) : Br := ⟨n, tNew (n + 1), fNew r, List.replicate (n + 1) 0, List.replicate 9 0, List.replicate 3 0⟩
theorem bw_new {n r : Nat} (h1 : 1 ≤ n) (h2 : n ≤ 63) (r1 : 1 ≤ r) (r2 : r ≤ 1024) : Bw (bNew n r) :=
  ⟨h1, h2, rfl, wf_new (by omega) (by omega), fwf_new r r1 r2, by simp [bNew], fun x hx => by simp [bNew] at hx; omega, by simp [bNew], fun x hx => by simp [bNew] at hx; omega, by simp [bNew], fun x hx => by simp [bNew] at hx; omega⟩
end Go.Proofs.YtgpdjfaklcmoiaaDoor
/- Contract: learn of the document's bridge. -/
namespace Go.Proofs.YtgpdjfaklcmoiaaDoor
open Go.RowKit Go.PlainAid

theorem rcl_get (A : RAd) (B : Br) (h : B.ct.length = 9) {j : Nat} (hj : j < B.ln.length) : (rcl A B)[13 + j]? = some (.int .i64 (B.ln.getD j 0)) := by
  unfold rcl
  rw [List.getElem?_append_right (by simp; omega), List.getElem?_append_right (by simp [nsl, h]; omega)]
  have e : 13 + j - [Value.int .i64 B.n, .pointer (some ⟨A.gv + 1, 0, none⟩), .pointer (some ⟨A.gf, 0, none⟩), .slice (some ⟨A.gs, 0, none⟩) (B.n + 1) (B.n + 1)].length - (nsl B.ct).length = j := by simp [nsl, h]; omega
  rw [e]
  exact nsl_get hj
theorem rcl_getC (A : RAd) (B : Br) {j : Nat} (hj : j < B.ct.length) : (rcl A B)[4 + j]? = some (.int .i64 (B.ct.getD j 0)) := by
  unfold rcl
  rw [List.getElem?_append_right (by simp), List.getElem?_append_left (by simp [nsl]; omega)]
  have e : 4 + j - [Value.int .i64 B.n, .pointer (some ⟨A.gv + 1, 0, none⟩), .pointer (some ⟨A.gf, 0, none⟩), .slice (some ⟨A.gs, 0, none⟩) (B.n + 1) (B.n + 1)].length = j := by simp
  rw [e]
  exact nsl_get hj
theorem rcl_len (A : RAd) (B : Br) (h : B.ct.length = 9) (h2 : B.ln.length = 3) : (rcl A B).length = 16 := by simp [rcl, nsl, h, h2]
theorem rcl_setL (A : RAd) (B : Br) (h : B.ct.length = 9) (j : Nat) (x : Int) : (rcl A B).set (13 + j) (.int .i64 x) = rcl A { B with ln := B.ln.set j x } := by
  unfold rcl
  rw [List.set_append_right _ _ (by simp; omega), List.set_append_right _ _ (by simp [nsl, h]; omega)]
  have e : 13 + j - [Value.int .i64 B.n, .pointer (some ⟨A.gv + 1, 0, none⟩), .pointer (some ⟨A.gf, 0, none⟩), .slice (some ⟨A.gs, 0, none⟩) (B.n + 1) (B.n + 1)].length - (nsl B.ct).length = j := by simp [nsl, h]; omega
  rw [e, nsl_set]
theorem rcl_setC (A : RAd) (B : Br) {j : Nat} (hj : j < B.ct.length) (x : Int) : (rcl A B).set (4 + j) (.int .i64 x) = rcl A { B with ct := B.ct.set j x } := by
  unfold rcl
  rw [List.set_append_right _ _ (by simp), List.set_append_left _ _ (by simp [nsl]; omega)]
  have e : 4 + j - [Value.int .i64 B.n, .pointer (some ⟨A.gv + 1, 0, none⟩), .pointer (some ⟨A.gf, 0, none⟩), .slice (some ⟨A.gs, 0, none⟩) (B.n + 1) (B.n + 1)].length = j := by simp
  rw [e, nsl_set]
theorem sml_set {l : List Int} (h : sml l) (j : Nat) {x : Int} (h0 : 0 ≤ x) (h1 : x < 1000000) : sml (l.set j x) := fun y hy => by
  rcases List.mem_or_eq_of_mem_set hy with hy | rfl
  · exact h y hy
  · exact ⟨h0, h1⟩
theorem lK_012 (T : FT) (v : Int) (m : Mc) (p t : Int) : lK T v m p t = 0 ∨ lK T v m p t = 1 ∨ lK T v m p t = 2 := by
  unfold lK
  repeat' split
  all_goals omega
section
end
end Go.Proofs.YtgpdjfaklcmoiaaDoor
/- Memory: what goes out, as cells; rows of it. -/
namespace Go.Proofs.YtgpdjfaklcmoiaaDoor
open Go.RowKit Go.PlainAid

/-- What goes out, and where its Body lies. -/
structure Ow where
  o : Ot
  a : Option Addr
  n : Nat
  c : Nat
def ocl (x : Ow) : List Value := .int .i64 x.o.p :: fcl x.o.f (.slice x.a x.n x.c)
def OC (x : Ow) : Array Value := (ocl x).toArray
def zO : Ow := ⟨⟨0, zeroF⟩, none, 0, 0⟩
theorem ocl_length (x : Ow) : (ocl x).length = 18 := rfl
theorem OC_size (x : Ow) : (OC x).size = 18 := rfl
theorem OC0 (x : Ow) : (OC x)[0]? = some (.int .i64 x.o.p) := rfl
theorem one_fcl' (x : Fd) (s : Value) (hs : s.oneCell' = true) : ∀ v ∈ fcl x s, v.oneCell' = true := by
  intro v hv
  simp only [fcl, dcl, scl, List.mem_cons, List.mem_append, List.not_mem_nil, or_false] at hv
  rcases hv with (rfl | rfl | rfl | rfl | rfl | rfl) | (rfl | rfl | rfl | rfl | rfl | rfl) | rfl | rfl | rfl | rfl | rfl <;> first | rfl | exact hs
theorem one_ocl (x : Ow) : ∀ v ∈ ocl x, v.oneCell' = true := by
  intro v hv
  rcases List.mem_cons.1 hv with rfl | hv
  · rfl
  · exact one_fcl' _ _ rfl v hv
def ocs (l : List Ow) : List Value := l.flatMap ocl
theorem ocs_length : ∀ l : List Ow, (ocs l).length = l.length * 18
  | [] => rfl
  | m :: r => by
    have := ocs_length r
    unfold ocs at this ⊢
    rw [List.flatMap_cons, List.length_append, this, ocl_length, List.length_cons]
    omega
theorem ocs_append (a b : List Ow) : ocs (a ++ b) = ocs a ++ ocs b := by simp [ocs]
theorem one_ocs (l : List Ow) : ∀ u ∈ ocs l, u.oneCell' = true := by
  intro u hu
  simp only [ocs, List.mem_flatMap] at hu
  obtain ⟨m, _, hm⟩ := hu
  exact one_ocl m u hm
theorem Tryd.info94 : (Tryd.prog.info? 94).map (fun i => (i.zero, i.size, i.bytes)) = some (some (.agg (OC zO)), 18, 72) := by kernel_rfl
theorem Tryd.sizeOut : (Tryd.prog.info? 94).map (·.size) = some 18 := by kernel_rfl
/-- Things in a row, to be put behind others. -/
structure Ors (w : World) (ao : Option Addr) (n c : Nat) (l : List Ow) : Prop where
  len : l.length = n
  nil : ao = none → n = 0 ∧ c = 0
  src : ∀ a, ao = some a → ∀ j u, (ocs l)[j]? = some u → w.cell? (a.add j) = some u
theorem ors_one (w : World) (x : Ow) : Ors (w.alloc (.cells (OC x) 94)) (some ⟨w.heap.size, 0, none⟩) 1 1 [x] := ⟨rfl, fun e => (by cases e), fun a e j u hj => by
  obtain rfl := Option.some.inj e
  rw [Addr.add_lit, Nat.zero_add, World.cell?_alloc_at _ _ _ _ rfl]
  have hj' : (ocl x ++ [])[j]? = some u := hj
  rw [List.append_nil] at hj'
  show (ocl x).toArray[j]? = some u
  rw [List.getElem?_toArray]
  exact hj'⟩
theorem oapp_run {w : World} {base : Nat} {v : Value} {n : Nat} {xs : List Ow} (hown : w.ownsRow base 94 18 v n (ocs xs)) {ao : Option Addr} {m c : Nat} {ns : List Ow} (hB : Ors w ao m c ns) (h1 : n + m ≤ 100000) (hbase : base ≤ w.heap.size) :
    ∃ v' w', (Builtin.append_ #[38, 38] 38 #[v, .slice ao m c]).run Tryd.prog w = .ok v' w' ∧ w'.ownsRow base 94 18 v' (n + m) (ocs (xs ++ ns)) ∧ w.grownBy w' v.ownBlock := by
  obtain ⟨i0, hi, hz0, hz1, hz2⟩ := info_parts Tryd.info94
  cases ao with
  | none =>
    obtain ⟨rfl, rfl⟩ := hB.nil rfl
    obtain rfl : ns = [] := List.eq_nil_of_length_eq_zero hB.len
    refine ⟨v, w, run_append_owned_none w base 38 38 94 i0 18 Tryd.underlying38 hi v n _ hown, ?_, World.grownBy.refl _ _⟩
    rw [List.append_nil]
    exact hown
  | some a =>
    obtain ⟨v', w', h2, h3, h4, -⟩ := run_append_own w base 38 38 94 i0 _ 18 72 Tryd.underlying38 hi hz0 hz1 hz2 rfl (by decide) v n (ocs xs) hown a m c (ocs ns) (by rw [ocs_length, hB.len]) (hB.src a rfl) (one_ocs ns) (by unfold maxLen; omega) (by omega) hbase
    refine ⟨v', w', h2, ?_, h4⟩
    rw [ocs_append]
    exact h3
theorem wpl_oapp {ops : Array Oper} {rest : List Oper} {o : Oper} {a : Act} {w : World} {Q : Exit → Act → World → Prop} (hgd : o.guard = none) (hty : o.type = 38) (s x : Operand)
    (ho : o.op = .call { callee := .builtin .append, args := #[s, x], argTypes := #[38, 38] })
    (base : Nat) (v : Value) (n : Nat) (xs : List Ow) (fhs : a.eval s = v) (hown : w.ownsRow base 94 18 v n (ocs xs)) (ao : Option Addr) (m c : Nat) (ns : List Ow) (hx : a.eval x = .slice ao m c) (hB : Ors w ao m c ns)
    (h1 : n + m ≤ 100000) (hbase : base ≤ w.heap.size)
    (h : ∀ v' w', w'.ownsRow base 94 18 v' (n + m) (ocs (xs ++ ns)) → w.grownBy w' v.ownBlock → wpList Tryd.prog ops Q rest (a.put o.dst v') w') : wpList Tryd.prog ops Q (o :: rest) a w := by
  obtain ⟨v', w', hr, h2, h3⟩ := oapp_run hown hB h1 hbase
  have hk := h v' w' h2 h3
  refine wpList_plain hgd fun K hK => ?_
  unfold Oper.wp execOp
  simp only [ho, hty, resolve, invoke, builtin, Sem.run_bind, Sem.run_pure, Result.andThen_ok, List.map_toArray, List.map_cons, List.map_nil, fhs, hx, hr]
  exact hK _ _ hk
set_option maxRecDepth 100000 in
theorem run_bsO (e : Ow) (w : World) : (Instr.buildSlice 38 1 #[(0, .agg (OC e))]).run Tryd.prog w = .ok (.slice (some ⟨w.heap.size, 0, none⟩) 1 1) (w.alloc (.cells (OC e) 94)) := by kernel_rfl
theorem wpl_bsO {ops : Array Oper} {rest : List Oper} {o : Oper} {a : Act} {w : World} {Q : Exit → Act → World → Prop} (hgd : o.guard = none) (x : Operand) (e : Ow) (ho : o.op = .buildSlice 38 1 #[(0, x)]) (hx : a.eval x = .agg (OC e))
    (h : wpList Tryd.prog ops Q rest (a.put o.dst (.slice (some ⟨w.heap.size, 0, none⟩) 1 1)) (w.alloc (.cells (OC e) 94))) : wpList Tryd.prog ops Q (o :: rest) a w := by
  refine wpList_plain hgd fun K hK => ?_
  unfold Oper.wp execOp
  simp only [ho, List.map_toArray, List.map_cons, List.map_nil, hx, run_bsO, Sem.run_bind, Sem.run_pure, Result.andThen_ok]
  exact hK _ _ h
set_option maxRecDepth 100000 in
theorem run_bO (p : Int) (f : Fd) (s : Option Addr) (n c : Nat) (w : World) : (Instr.build 94 #[(0, .int .i64 p), (1, .agg (FC f (.slice s n c)))]).run Tryd.prog w = .ok (.agg (OC ⟨⟨p, f⟩, s, n, c⟩)) w := by kernel_rfl
theorem wpl_bO {ops : Array Oper} {rest : List Oper} {o : Oper} {a : Act} {w : World} {Q : Exit → Act → World → Prop} (hgd : o.guard = none) (x y : Operand) (p : Int) (f : Fd) (s : Option Addr) (n c : Nat) (ho : o.op = .build 94 #[(0, x), (1, y)]) (hx : a.eval x = .int .i64 p) (hy : a.eval y = .agg (FC f (.slice s n c)))
    (h : wpList Tryd.prog ops Q rest (a.put o.dst (.agg (OC ⟨⟨p, f⟩, s, n, c⟩))) w) : wpList Tryd.prog ops Q (o :: rest) a w := by
  refine wpList_plain hgd fun K hK => ?_
  unfold Oper.wp execOp
  simp only [ho, List.map_toArray, List.map_cons, List.map_nil, hx, hy, run_bO, Sem.run_bind, Sem.run_pure, Result.andThen_ok]
  exact hK _ _ h
/-- A list of what goes out. -/
structure Ots (w : World) (ao : Option Addr) (n c : Nat) (xs : List Ow) : Prop where
  len : xs.length = n
  nil : ao = none → n = 0 ∧ c = 0
  at_ : ∀ j x, xs[j]? = some x → ∃ b o, ao = some ⟨b, o, none⟩ ∧ w.rangeAt b (o + j * 18) (ocl x)
  le : n ≤ c
  mx : c ≤ maxLen
  byt : ∀ x ∈ xs, Byt w x.a x.n x.c x.o.f.bs
theorem range_on {w w1 : World} {b o : Nat} {cs : List Value} (h : w.rangeAt b o cs) (hb : Below w.heap.size w w1) : w1.rangeAt b o cs := fun j v hj =>
  (hb.cell (p := ⟨b, o + j, none⟩) (World.block_lt_of_cell? w _ (h j v hj))).trans (h j v hj)
theorem Ots.on {w w1 : World} {ao : Option Addr} {n c : Nat} {xs : List Ow} (h : Ots w ao n c xs) (hb : Below w.heap.size w w1) : Ots w1 ao n c xs :=
  ⟨h.len, h.nil, fun j x hj => by
    obtain ⟨b, o, e, r⟩ := h.at_ j x hj
    exact ⟨b, o, e, range_on r hb⟩, h.le, h.mx, fun x hx => (h.byt x hx).on hb⟩
theorem Ots.nothing (w : World) : Ots w none 0 0 [] := ⟨rfl, fun _ => ⟨rfl, rfl⟩, fun j x hj => by simp at hj, Nat.le_refl _, Nat.zero_le _, fun x hx => by cases hx⟩
theorem ocs_get : ∀ (l : List Ow) (j : Nat) (x : Ow) (k : Nat) (u : Value), l[j]? = some x → (ocl x)[k]? = some u → (ocs l)[j * 18 + k]? = some u
  | [], j, x, k, u, h, _ => by simp at h
  | y :: r, 0, x, k, u, h, hk => by
    obtain rfl : y = x := by simpa using h
    have hl := (List.getElem?_eq_some_iff.1 hk).1
    show (ocl y ++ ocs r)[0 * 18 + k]? = some u
    rw [List.getElem?_append_left (by omega), show 0 * 18 + k = k by omega]
    exact hk
  | y :: r, j + 1, x, k, u, h, hk => by
    have ih := ocs_get r j x k u (by simpa using h) hk
    show (ocl y ++ ocs r)[(j + 1) * 18 + k]? = some u
    rw [List.getElem?_append_right (by rw [ocl_length]; omega), ocl_length, show (j + 1) * 18 + k - 18 = j * 18 + k by omega]
    exact ih
theorem row_ots {w : World} {base n : Nat} {v : Value} {xs : List Ow} (hr : w.ownsRow base 94 18 v n (ocs xs)) (hy : ∀ x ∈ xs, Byt w x.a x.n x.c x.o.f.bs) : ∃ ao c, v = .slice ao n c ∧ Ots w ao n c xs := by
  have hl : xs.length = n := by have := hr.1; rw [ocs_length] at this; omega
  rcases hr.2 with ⟨rfl, rfl⟩ | ⟨g, cap, cur, rfl, hb, hg, hn, hm, hs, ht⟩
  · obtain rfl : xs = [] := List.eq_nil_of_length_eq_zero hl
    exact ⟨none, 0, rfl, Ots.nothing w⟩
  · refine ⟨_, _, rfl, hl, fun e => (by cases e), fun j x hj => ⟨g, 0, rfl, fun k u hk => ?_⟩, hn, hm, hy⟩
    have hc := hr.cells (g := g) rfl (j * 18 + k) u (ocs_get xs j x k u hj hk)
    rw [Addr.add_lit] at hc
    rw [Nat.add_assoc]
    exact hc
end Go.Proofs.YtgpdjfaklcmoiaaDoor
/- Contract: Relay of the document's bridge. -/
namespace Go.Proofs.YtgpdjfaklcmoiaaDoor
open Go.RowKit Go.PlainAid

theorem rly_no {B : Br} {v u t : Int} {f : Fd} {k : Nat} (h : may B v u t f (k + 1 : Nat) = false) : rly B v u t f (k + 1) = rly B v u t f k := by
  show rly B v u t f k ++ (if may B v u t f (k + 1 : Nat) then _ else []) = _
  rw [h, if_neg (by simp), List.append_nil]
theorem rly_yes {B : Br} {v u t : Int} {f : Fd} {k : Nat} (h : may B v u t f (k + 1 : Nat) = true) : rly B v u t f (k + 1) = rly B v u t f k ++ [⟨((k + 1 : Nat) : Int), ouF B.V v (k + 1 : Nat) f⟩] := by
  show rly B v u t f k ++ (if may B v u t f (k + 1 : Nat) then _ else []) = _
  rw [h, if_pos rfl]
theorem ouF_len (T : Tb) (v p : Int) (f : Fd) : (ouF T v p f).bs.length ≤ f.bs.length := by
  unfold ouF
  repeat' split
  all_goals first | exact Nat.le_refl _ | exact Nat.zero_le _
theorem byt_below {w w1 : World} {g : Nat} {ao : Option Addr} {n c : Nat} {ns : List Int} (h : Byt w ao n c ns) (hg : ∀ b o, ao = some ⟨b, o, none⟩ → 0 < n → b < g) (hb : Below g w w1) : Byt w1 ao n c ns :=
  ⟨h.len, h.nil, fun j hj => by
    obtain ⟨b, o, e, hc⟩ := h.cell j hj
    exact ⟨b, o, e, (hb.cell (p := ⟨b, o + j, none⟩) (hg b o e (by omega))).trans hc⟩, h.le, h.mx, h.rng⟩
/-- What Relay has so far. -/
structure Rl (a : Option Addr) (n : Nat) (w wr : World) (B : Br) (v u t : Int) (f : Fd) (k : Nat) (o : Value) (xs : List Ow) : Prop where
  row : wr.ownsRow w.heap.size 94 18 o xs.length (ocs xs)
  map : xs.map Ow.o = rly B v u t f k
  byt : ∀ x ∈ xs, Byt wr x.a x.n x.c x.o.f.bs
  bel : Below w.heap.size w wr
  own : ∀ x ∈ xs, ∀ b o, x.a = some ⟨b, o, none⟩ → 0 < x.n → x.a = a ∧ 0 < n
theorem Rl.on {a : Option Addr} {n : Nat} {w wr w2 : World} {B : Br} {v u t : Int} {f : Fd} {k : Nat} {o : Value} {xs : List Ow} (h : Rl a n w wr B v u t f k o xs) (b : Below wr.heap.size wr w2) : Rl a n w w2 B v u t f k o xs :=
  ⟨row_keep h.row (fun r hr => b.block r (h.row.lt r hr).2), h.map, fun x hx => (h.byt x hx).on b, h.bel.trans (b.mono h.bel.size), h.own⟩
section
attribute [local go_sem] ZF
end
end Go.Proofs.YtgpdjfaklcmoiaaDoor
/- Contracts: Reserved of the program and of the document; a way as cells. -/
namespace Go.Proofs.YtgpdjfaklcmoiaaDoor
open Go.RowKit Go.PlainAid

section
attribute [local go_sem] MC0 MC1 MC2 MC3 MC4 MC5
theorem and240 (x : Int) (h0 : 0 ≤ x) (h1 : x < 256) : bits .and .u8 x 240 = x / 16 * 16 := by
  have : ∀ k : Fin 256, bits .and .u8 (k.val : Int) 240 = (k.val : Int) / 16 * 16 := by decide +kernel
  have := this ⟨x.toNat, by omega⟩
  rwa [show ((⟨x.toNat, by omega⟩ : Fin 256).val : Int) = x from Int.toNat_of_nonneg h0] at this
def loM (m : Mc) : Mc := { m with f := m.f / 16 * 16 }
def rM : Mc := ⟨1, 128, 194, 0, 0, 0⟩
theorem RMdef : (#[.int .u8 1, .int .u8 128, .int .u8 194, .int .u8 0, .int .u8 0, .int .u8 0] : Array Value) = MC rM := rfl
theorem RM3 : (MC rM).setIfInBounds 3 (.int .u8 0) = MC rM := rfl
theorem RM4 : (MC rM).setIfInBounds 4 (.int .u8 0) = MC rM := rfl
theorem RM5 : (MC rM).setIfInBounds 5 (.int .u8 0) = MC rM := rfl
attribute [local go_sem] RMdef RM3 RM4 RM5
theorem loMdef (m : Mc) : (MC m).setIfInBounds 5 (.int .u8 (m.f / 16 * 16)) = MC (loM m) := rfl
attribute [local go_sem] loMdef
theorem rsv_eq {m : Mc} (h : Mok m) : eqM (loM m) rM = rsv m := by
  obtain ⟨_, _, _, _, _, _, _, _, _, _, _, _⟩ := h
  rw [Bool.eq_iff_iff, eqM_iff]
  unfold rsv
  rw [beq_iff_eq]
  obtain ⟨a, b, c, d, e, f⟩ := m
  simp only [loM, rM, Mc.mk.injEq, num] at *
  omega
set_option maxRecDepth 100000 in
set_option maxHeartbeats 1000000 in
theorem reservedQ (m : Mc) (w : World) (h : Mok m) : Calls Tryd.prog 54 #[.agg (MC m)] w fun e w' => e = .returned (.bool (rsv m)) ∧ Below w.heap.size w w' := by
  have X := box_m w m
  have e1 := and240 m.f h.f0 h.f1
  have HE := hide (rsv_eq h)
  have c5 := X.cell 5 _ rfl
  have f5 := X.free 5 (show 5 < 6 by omega)
  have hq := fun w => eqMac (loM m) rM w
  have A2 := (box_m w (loM m)).at_
  have HB : Hid (Below w.heap.size w (w.alloc (.cells (MC (loM m)) 23))) := hide (below_alloc w _)
  have tk1 : True := trivial
  clear X h
  go_enter Tryd.func54, Tryd.ntmps54
  go_wp2_with (first | (have _t := tk1; refine wpl_mac (.tmp 1) rfl A2 ?_ ?_ ?_; rfl; rfl; clear tk1))
  go_ret
  exact ⟨ret_bool HE.out, HB.out⟩
end
end Go.Proofs.YtgpdjfaklcmoiaaDoor
/- A way as cells; stores of it; results. -/
namespace Go.Proofs.YtgpdjfaklcmoiaaDoor
open Go.RowKit Go.PlainAid

def wcl (c v t : Int) (o : Value) : List Value := [.int .i64 c, .int .i64 v, .int .i64 t, o]
theorem Tryd.size40 : (Tryd.prog.info? 40).map (·.size) = some 4 := by kernel_rfl
theorem wpl_putW {ops : Array Oper} {rest : List Oper} {op : Oper} {a : Act} {w : World} {Q : Exit → Act → World → Prop} {k : Nat} (c v t : Int) (ao : Option Addr) (n m : Nat) (cs0 : List Value) (x y : Operand) (ho : op.op = .store 40 x y) (hb : Box w k cs0) (hl : cs0.length = 4) (hw : Region.wanted op (yielded ops a.tmps) = true) (hx : a.eval x = .pointer (some ⟨k, 0, none⟩)) (hy : a.eval y = .agg #[.int .i64 c, .int .i64 v, .int .i64 t, .slice ao n m])
    (h : ∀ w', Box w' k (wcl c v t (.slice ao n m)) → w.grownBy w' (some k) → wpList Tryd.prog ops Q rest (a.put op.dst undef) w') : wpList Tryd.prog ops Q (op :: rest) a w :=
  wpList_step fun K hK => by
    rw [if_pos hw]
    have ht : w.there k 0 4 := by have := hb.th; rwa [hl] at this
    refine wp_store_mid 40 x y ho k 0 #[.int .i64 c, .int .i64 v, .int .i64 t, .slice ao n m] hx hy ht Tryd.size40 (by simp [Value.oneCell']) (hK _ _ (h _ ?_ (setCells_grown k _ 0 w)))
    exact hb.self (cs' := wcl c v t (.slice ao n m)) (by rw [hl]; rfl)
theorem wpl_wayL {ops : Array Oper} {rest : List Oper} {op : Oper} {a : Act} {w : World} {Q : Exit → Act → World → Prop} {k : Nat} {c v t : Int} {o : Value} (x : Operand) (ho : op.op = .load 40 x) (hA : Box w k (wcl c v t o)) (hw : Region.wanted op (yielded ops a.tmps) = true) (hx : a.eval x = .pointer (some ⟨k, 0, none⟩))
    (h : wpList Tryd.prog ops Q rest (a.put op.dst (.agg #[.int .i64 c, .int .i64 v, .int .i64 t, o])) w) : wpList Tryd.prog ops Q (op :: rest) a w :=
  wpl_load 40 x ho k 0 _ _ hA.at_ Tryd.underlying40 rfl Tryd.size40 hw hx h
theorem res_way {fn : Func} {p : Tmp} (h : fn.results = #[.cell p 40]) {tmps : Array Value} {w : World} {k : Nat} {c v t : Int} {o : Value} (hp : tmps.getD p undef = .pointer (some ⟨k, 0, none⟩)) (hA : Box w k (wcl c v t o)) :
    (results fn tmps).run Tryd.prog w = .ok (.agg #[.int .i64 c, .int .i64 v, .int .i64 t, o]) w := by
  have hl := run_loadVar_mid (P := Tryd.prog) w k 0 40 _ _ hA.at_ Tryd.underlying40 rfl Tryd.size40
  have hp' : tmps[p]?.getD undef = .pointer (some ⟨k, 0, none⟩) := by simpa using hp
  simp only [results, h]
  simp [hp', asAddr, hl, wcl]
theorem Ch.new {O O' : Nat → Prop} {w z z9 : World} {k : Nat} (h : Ch O O' w z) (g : z.grownBy z9 (some k)) (hk : w.heap.size ≤ k) : Ch O O' w z9 :=
  ⟨g.os.trans h.os, g.tape.trans h.tape, g.output.trans h.output, Nat.le_trans h.size g.size, fun i hi ho => (g.block i (Nat.lt_of_lt_of_le hi h.size) (fun e => by have := Option.some.inj e; omega)).trans (h.block i hi ho), h.dom⟩
theorem ots_ch {O O' : Nat → Prop} {w w1 : World} {ao : Option Addr} {n c : Nat} {xs : List Ow} (h : Ots w ao n c xs) (C : Ch O O' w w1) (hr : ∀ b o, ao = some ⟨b, o, none⟩ → ¬ O b) (hx : ∀ x ∈ xs, ∀ b o, x.a = some ⟨b, o, none⟩ → 0 < x.n → ¬ O b) : Ots w1 ao n c xs :=
  ⟨h.len, h.nil, fun j x hj => by
    obtain ⟨b, o, e, r⟩ := h.at_ j x hj
    refine ⟨b, o, e, fun i v hi => ?_⟩
    rw [World.cell?_of_block (a := ⟨b, o + j * 18 + i, none⟩) (C.block b (World.block_lt_of_cell? w _ (r i v hi)) (hr b o e))]
    exact r i v hi, h.le, h.mx, fun x hm =>
    have y := h.byt x hm
    ⟨y.len, y.nil, fun j hj => by
      obtain ⟨b, o, e, hc⟩ := y.cell j hj
      refine ⟨b, o, e, ?_⟩
      rw [World.cell?_of_block (a := ⟨b, o + j, none⟩) (C.block b (World.block_lt_of_cell? w _ hc) (hx x hm b o e (by omega)))]
      exact hc, y.le, y.mx, y.rng⟩⟩
theorem way1 {B : Br} {p : Int} {f : Fd} {t : Int} (h : badW B p f t = true) : wayP B p f t = (⟨1, 0, 0, []⟩, B) := by
  have e : preW B p f t = 1 := by unfold preW; rw [h]; rfl
  unfold wayP; rw [e]; rfl
theorem way2 {B : Br} {p : Int} {f : Fd} {t : Int} (h : badW B p f t = false) (h2 : rsv (mD f) = true) : wayP B p f t = (⟨2, 0, 0, []⟩, B) := by
  have e : preW B p f t = 2 := by unfold preW; rw [h, h2]; rfl
  unfold wayP; rw [e]; rfl
theorem way3 {B : Br} {p : Int} {f : Fd} {t : Int} (h : badW B p f t = false) (h2 : rsv (mD f) = false) (h3 : (sta B p == 0) = true) : wayP B p f t = (⟨3, 0, 0, []⟩, B) := by
  have e : preW B p f t = 3 := by unfold preW; rw [h, h2, h3]; rfl
  unfold wayP; rw [e]; rfl
theorem way4 {B : Br} {p : Int} {f : Fd} {t : Int} (h : badW B p f t = false) (h2 : rsv (mD f) = false) (h3 : (sta B p == 0) = false) (h4 : (inE B.V p f != 0) = true) : wayP B p f t = (⟨4, 0, 0, []⟩, B) := by
  have e : preW B p f t = 4 := by unfold preW; rw [h, h2, h3, h4]; rfl
  unfold wayP; rw [e]; rfl
theorem way5 {B : Br} {p : Int} {f : Fd} {t : Int} (h : badW B p f t = false) (h2 : rsv (mD f) = false) (h3 : (sta B p == 0) = false) (h4 : (inE B.V p f != 0) = false) (h5 : grp (mS f) = true) : wayP B p f t = (⟨5, inV B.V p f, 0, []⟩, B) := by
  have e : preW B p f t = 5 := by unfold preW; rw [h, h2, h3, h4, h5]; rfl
  unfold wayP; rw [e]; rfl
theorem way6 {B : Br} {p : Int} {f : Fd} {t : Int} (h : badW B p f t = false) (h2 : rsv (mD f) = false) (h3 : (sta B p == 0) = false) (h4 : (inE B.V p f != 0) = false) (h5 : grp (mS f) = false) (h6 : (sta B p == 1) = true) : wayP B p f t = (⟨6, inV B.V p f, 0, []⟩, lrn B (inV B.V p f) (mS f) p t) := by
  have e : preW B p f t = 0 := by unfold preW; rw [h, h2, h3, h4, h5]; rfl
  unfold wayP; rw [e, h6]; rfl
theorem way7 {B : Br} {p : Int} {f : Fd} {t : Int} (h : badW B p f t = false) (h2 : rsv (mD f) = false) (h3 : (sta B p == 0) = false) (h4 : (inE B.V p f != 0) = false) (h5 : grp (mS f) = false) (h6 : (sta B p == 1) = false) : wayP B p f t = (outW (lrn B (inV B.V p f) (mS f) p t) (inV B.V p f) p f, lrn B (inV B.V p f) (mS f) p t) := by
  have e : preW B p f t = 0 := by unfold preW; rw [h, h2, h3, h4, h5]; rfl
  unfold wayP; rw [e, h6]; rfl
end Go.Proofs.YtgpdjfaklcmoiaaDoor
/- Contract: way of the document's bridge. -/
namespace Go.Proofs.YtgpdjfaklcmoiaaDoor
open Go.RowKit Go.PlainAid

theorem fcl_dst {w : World} {k : Nat} {f : Fd} {s : Value} (h : Box w k (fcl f s)) : w.rangeAt k 0 (mcl (mD f)) := rangeAt_left (B := scl f ++ [.bool f.tg, .int .i64 f.vl, .int .i64 f.pr, .int .i64 f.ty, s]) h.at_
theorem tgt_no {B : Br} {v : Int} {f : Fd} (h : (fhs B.F.l v (mD f) && !grp (mD f)) = false) : tgtOf B v f = 0 := by unfold tgtOf; rw [h]; rfl
theorem tgt_yes {B : Br} {v : Int} {f : Fd} (h : (fhs B.F.l v (mD f) && !grp (mD f)) = true) : tgtOf B v f = (lk B.F.l v (mD f)).p := by unfold tgtOf; rw [h]; rfl
theorem outW_a {B : Br} {v p : Int} {f : Fd} (h : fhs B.F.l v (mD f) = false) : outW B v p f = if (rly B v p 0 f B.n).isEmpty then ⟨8, v, 0, []⟩ else ⟨0, v, 0, rly B v p 0 f B.n⟩ := by
  have e : tgtOf B v f = 0 := tgt_no (by rw [h]; rfl)
  unfold outW outL
  rw [e, h]
  rfl
theorem outW_b {B : Br} {v p : Int} {f : Fd} (h : fhs B.F.l v (mD f) = true) (g : grp (mD f) = true) : outW B v p f = ⟨8, v, 0, []⟩ := by
  have e : tgtOf B v f = 0 := tgt_no (by rw [h, g]; rfl)
  unfold outW outL
  rw [e, h, g]
  rfl
theorem outW_c1 {B : Br} {v p : Int} {f : Fd} (h : fhs B.F.l v (mD f) = true) (g : grp (mD f) = false) (q : ((lk B.F.l v (mD f)).p == p) = true) : outW B v p f = ⟨7, v, 0, []⟩ := by
  unfold outW
  rw [h, g, q]
  rfl
theorem outW_c2 {B : Br} {v p : Int} {f : Fd} (h : fhs B.F.l v (mD f) = true) (g : grp (mD f) = false) {x : En} (hx : x = lk B.F.l v (mD f)) (q : (x.p == p) = false) (r : 0 < x.p) : outW B v p f = if (rly B v p x.p f B.n).isEmpty then ⟨8, v, x.p, []⟩ else ⟨0, v, x.p, rly B v p x.p f B.n⟩ := by
  have e : tgtOf B v f = x.p := by rw [tgt_yes (by rw [h, g]; rfl), hx]
  unfold outW outL
  rw [e, h, g, ← hx, q, decide_eq_true r]
  rfl
theorem outW_c3 {B : Br} {v p : Int} {f : Fd} (h : fhs B.F.l v (mD f) = true) (g : grp (mD f) = false) {x : En} (hx : x = lk B.F.l v (mD f)) (q : (x.p == p) = false) (r : ¬ 0 < x.p) : outW B v p f = ⟨8, v, x.p, []⟩ := by
  have e : tgtOf B v f = x.p := by rw [tgt_yes (by rw [h, g]; rfl), hx]
  unfold outW outL
  rw [e, h, g, ← hx, q, decide_eq_false r]
  rfl
theorem ots_apart {w z : World} {ao : Option Addr} {n c k : Nat} {xs : List Ow} (O : Ots w ao n c xs) (g : w.grownBy z (some k)) (h1 : ∀ b o, ao = some ⟨b, o, none⟩ → b ≠ k) (h2 : ∀ x ∈ xs, ∀ b o, x.a = some ⟨b, o, none⟩ → 0 < x.n → b ≠ k) : Ots z ao n c xs :=
  ⟨O.len, O.nil, fun j x hj => by
    obtain ⟨b, o, e, r⟩ := O.at_ j x hj
    exact ⟨b, o, e, fun i v hi => g.cell (r i v hi) (fun e2 => h1 b o e (Option.some.inj e2))⟩, O.le, O.mx, fun x hx => (O.byt x hx).kept (h2 x hx) g⟩
theorem below_drew (w : World) : Below w.heap.size w w.drew := ⟨rfl, rfl, rfl, Nat.le_refl _, fun _ _ => rfl⟩
theorem byt_ch {O O' : Nat → Prop} {w w1 : World} {ao : Option Addr} {n c : Nat} {ns : List Int} (h : Byt w ao n c ns) (C : Ch O O' w w1) (hg : ∀ b o, ao = some ⟨b, o, none⟩ → 0 < n → ¬ O b) : Byt w1 ao n c ns :=
  ⟨h.len, h.nil, fun j hj => by
    obtain ⟨b, o, e, hc⟩ := h.cell j hj
    refine ⟨b, o, e, ?_⟩
    rw [World.cell?_of_block (a := ⟨b, o + j, none⟩) (C.block b (World.block_lt_of_cell? w _ hc) (hg b o e (by omega)))]
    exact hc, h.le, h.mx, h.rng⟩
theorem fcl_src {w : World} {k : Nat} {f : Fd} {s : Value} (h : Box w k (fcl f s)) : w.rangeAt k 6 (mcl (mS f)) :=
  rangeAt_left (B := [.bool f.tg, .int .i64 f.vl, .int .i64 f.pr, .int .i64 f.ty, s]) (rangeAt_right (A := dcl f) (q := 6) h.at_ rfl)
end Go.Proofs.YtgpdjfaklcmoiaaDoor
/- Contract: Take of the document's bridge. -/
namespace Go.Proofs.YtgpdjfaklcmoiaaDoor
open Go.RowKit Go.PlainAid

theorem wayP_ct (B : Br) (p : Int) (f : Fd) (t : Int) : (wayP B p f t).2.ct = B.ct := by
  unfold wayP
  split
  · split <;> rfl
  · rfl
end Go.Proofs.YtgpdjfaklcmoiaaDoor
/- A step of the bridge as cells; steps in a slice; few; sum. -/
namespace Go.Proofs.YtgpdjfaklcmoiaaDoor
open Go.RowKit Go.PlainAid

/-- A step, and where its frame's Body lies. -/
structure Stp where
  d : Int
  p : Int
  n : Int
  v : Int
  g : Bool
  f : Fd
  a : Option Addr
  k : Nat
  c : Nat
  t : Int
def stc (x : Stp) : List Value := [.int .i64 x.d, .int .i64 x.p, .int .i64 x.n, .int .i64 x.v, .bool x.g] ++ (fcl x.f (.slice x.a x.k x.c) ++ [.int .i64 x.t])
structure Sts (w : World) (ao : Option Addr) (n c : Nat) (xs : List Stp) : Prop where
  len : xs.length = n
  nil : ao = none → n = 0 ∧ c = 0
  at_ : ∀ j x, xs[j]? = some x → ∃ b o, ao = some ⟨b, o, none⟩ ∧ w.rangeAt b (o + j * 23) (stc x)
  le : n ≤ c
  mx : c ≤ maxLen
  byt : ∀ x ∈ xs, Byt w x.a x.k x.c x.f.bs
  md : ∀ x ∈ xs, Mok (mD x.f)
  ms : ∀ x ∈ xs, Mok (mS x.f)
theorem Sts.on {w w1 : World} {ao : Option Addr} {n c : Nat} {xs : List Stp} (h : Sts w ao n c xs) (hb : Below w.heap.size w w1) : Sts w1 ao n c xs :=
  ⟨h.len, h.nil, fun j x hj => by
    obtain ⟨b, o, e, r⟩ := h.at_ j x hj
    exact ⟨b, o, e, range_on r hb⟩, h.le, h.mx, fun x hx => (h.byt x hx).on hb, h.md, h.ms⟩
end Go.Proofs.YtgpdjfaklcmoiaaDoor
/- Memory: the program's bridge. -/
namespace Go.Proofs.YtgpdjfaklcmoiaaDoor
open Go.RowKit Go.PlainAid

/-- Where the program's bridge lies: its blocks are lo up to hi; itself at g, its ports' states at gs; the VLANs' table at h, the stations' at hf. -/
structure PAd where
  lo : Nat
  hi : Nat
  g : Nat
  gs : Nat
  h : Nat
  hf : Nat
def pbc (A : PAd) (B : Br) : List Value := [.pointer (some ⟨A.h + 2, 0, none⟩), .pointer (some ⟨A.hf + 1, 0, none⟩), .slice (some ⟨A.gs, 0, none⟩) (B.n + 1) (B.n + 1)] ++ (nsl B.ct ++ nsl B.ln)
structure PB (w : World) (A : PAd) (B : Br) : Prop where
  bx : Box w A.g (pbc A B)
  ss : Box w A.gs (nsl B.st)
  pv : PT w A.h B.V
  pf : ∃ ps, PF w A.hf ps B.F
  wf : Bw B
  o : A.lo ≤ A.h ∧ A.h + 3 ≤ A.hf ∧ A.hf + 2 ≤ A.gs ∧ A.hf + 2 ≤ A.g ∧ A.gs ≠ A.g ∧ A.gs < A.hi ∧ A.g < A.hi ∧ A.hi ≤ w.heap.size
theorem PB.keepS {w w1 : World} {A : PAd} {B : Br} (H : PB w A B) (hs : w.heap.size ≤ w1.heap.size) (e : ∀ k, A.lo ≤ k → k < A.hi → w1.heap[k]? = w.heap[k]?) : PB w1 A B := by
  have o := H.o
  refine ⟨H.bx.block (e _ (by omega) (by omega)), H.ss.block (e _ (by omega) (by omega)), H.pv.keep (fun k h1 h2 => e k (by omega) (by omega)), ?_, H.wf, by omega⟩
  obtain ⟨ps, hp⟩ := H.pf
  exact ⟨ps, hp.keep (fun k h1 h2 => e k (by omega) (by omega))⟩
theorem heap_size_of {w w1 : World} {n : Nat} (h0 : 0 < n) (hn : n ≤ w.heap.size) (e : w1.heap[n - 1]? = w.heap[n - 1]?) : n ≤ w1.heap.size := by
  have h1 : w.heap[n - 1]? = some (w.heap[n - 1]'(by omega)) := Array.getElem?_eq_getElem (by omega)
  rw [h1] at e
  have := (Array.getElem?_eq_some_iff.1 e).1
  omega
theorem PB.keep {w w1 : World} {A : PAd} {B : Br} (H : PB w A B) (e : ∀ k, A.lo ≤ k → k < A.hi → w1.heap[k]? = w.heap[k]?) : PB w1 A B := by
  have o := H.o
  refine ⟨H.bx.block (e _ (by omega) (by omega)), H.ss.block (e _ (by omega) (by omega)), H.pv.keep (fun k h1 h2 => e k (by omega) (by omega)), ?_, H.wf, ⟨by omega, by omega, by omega, by omega, by omega, by omega, by omega, heap_size_of (by omega) o.2.2.2.2.2.2.2 (e _ (by omega) (by omega))⟩⟩
  obtain ⟨ps, hp⟩ := H.pf
  exact ⟨ps, hp.keep (fun k h1 h2 => e k (by omega) (by omega))⟩
theorem PB.lt {w : World} {A : PAd} {B : Br} (H : PB w A B) : A.lo ≤ A.h ∧ A.h + 3 ≤ A.hi ∧ A.lo ≤ A.hf ∧ A.hf + 2 ≤ A.hi ∧ A.hi ≤ w.heap.size := by
  have o := H.o
  omega
theorem PB.on {w w1 : World} {A : PAd} {B : Br} (H : PB w A B) (hb : Below w.heap.size w w1) : PB w1 A B := H.keep (fun k _ h2 => hb.block k (by have := H.lt; omega))
theorem PB.drew {w : World} {A : PAd} {B : Br} (H : PB w A B) : PB w.drew A B := H.keep (fun _ _ _ => rfl)
theorem PB.vlan {w w1 : World} {A : PAd} {B : Br} {V' : Tb} (H : PB w A B) (R : PT w1 A.h V') (M : Mid A.h (A.h + 3) w w1) (hn : V'.n = B.V.n) : PB w1 A { B with V := V' } := by
  have o := H.o
  have e : ∀ k, k < A.hi → k < A.h ∨ A.h + 3 ≤ k → w1.heap[k]? = w.heap[k]? := fun k h1 h2 => M.block k (by omega) h2
  have s := M.size
  have b := H.wf
  refine ⟨H.bx.block (e _ (by omega) (by omega)), H.ss.block (e _ (by omega) (by omega)), R, ?_, ⟨b.n1, b.n2, hn.trans b.vn, R.wf, b.fw, b.sl, b.ss, b.cl, b.cs, b.ll, b.ls⟩, by omega⟩
  obtain ⟨ps, hp⟩ := H.pf
  exact ⟨ps, hp.keep (fun k h1 h2 => e k (by omega) (by omega))⟩
theorem PB.fdb {w w1 : World} {A : PAd} {B : Br} {ps : List En} {F' : FT} (H : PB w A B) (R : PF w1 A.hf ps F') (M : Mid A.hf (A.hf + 2) w w1) (_hn : F'.n = B.F.n) : PB w1 A { B with F := F' } := by
  have o := H.o
  have e : ∀ k, k < A.hi → k < A.hf ∨ A.hf + 2 ≤ k → w1.heap[k]? = w.heap[k]? := fun k h1 h2 => M.block k (by omega) h2
  have s := M.size
  have b := H.wf
  exact ⟨H.bx.block (e _ (by omega) (by omega)), H.ss.block (e _ (by omega) (by omega)), H.pv.keep (fun k h1 h2 => e k (by omega) (by omega)), ⟨ps, R⟩, ⟨b.n1, b.n2, b.vn, b.vw, R.wf, b.sl, b.ss, b.cl, b.cs, b.ll, b.ls⟩, by omega⟩
theorem pbc_get (A : PAd) (B : Br) (h : B.ct.length = 9) {j : Nat} (hj : j < B.ln.length) : (pbc A B)[12 + j]? = some (.int .i64 (B.ln.getD j 0)) := by
  unfold pbc
  rw [List.getElem?_append_right (by simp; omega), List.getElem?_append_right (by simp [nsl, h]; omega)]
  have e : 12 + j - [Value.pointer (some ⟨A.h + 2, 0, none⟩), .pointer (some ⟨A.hf + 1, 0, none⟩), .slice (some ⟨A.gs, 0, none⟩) (B.n + 1) (B.n + 1)].length - (nsl B.ct).length = j := by simp [nsl, h]; omega
  rw [e]
  exact nsl_get hj
theorem pbc_getC (A : PAd) (B : Br) {j : Nat} (hj : j < B.ct.length) : (pbc A B)[3 + j]? = some (.int .i64 (B.ct.getD j 0)) := by
  unfold pbc
  rw [List.getElem?_append_right (by simp), List.getElem?_append_left (by simp [nsl]; omega)]
  have e : 3 + j - [Value.pointer (some ⟨A.h + 2, 0, none⟩), .pointer (some ⟨A.hf + 1, 0, none⟩), .slice (some ⟨A.gs, 0, none⟩) (B.n + 1) (B.n + 1)].length = j := by simp
  rw [e]
  exact nsl_get hj
theorem pbc_len (A : PAd) (B : Br) (h : B.ct.length = 9) (h2 : B.ln.length = 3) : (pbc A B).length = 15 := by simp [pbc, nsl, h, h2]
theorem pbc_setL (A : PAd) (B : Br) (h : B.ct.length = 9) (j : Nat) (x : Int) : (pbc A B).set (12 + j) (.int .i64 x) = pbc A { B with ln := B.ln.set j x } := by
  unfold pbc
  rw [List.set_append_right _ _ (by simp; omega), List.set_append_right _ _ (by simp [nsl, h]; omega)]
  have e : 12 + j - [Value.pointer (some ⟨A.h + 2, 0, none⟩), .pointer (some ⟨A.hf + 1, 0, none⟩), .slice (some ⟨A.gs, 0, none⟩) (B.n + 1) (B.n + 1)].length - (nsl B.ct).length = j := by simp [nsl, h]; omega
  rw [e, nsl_set]
theorem pbc_setC (A : PAd) (B : Br) {j : Nat} (hj : j < B.ct.length) (x : Int) : (pbc A B).set (3 + j) (.int .i64 x) = pbc A { B with ct := B.ct.set j x } := by
  unfold pbc
  rw [List.set_append_right _ _ (by simp), List.set_append_left _ _ (by simp [nsl]; omega)]
  have e : 3 + j - [Value.pointer (some ⟨A.h + 2, 0, none⟩), .pointer (some ⟨A.hf + 1, 0, none⟩), .slice (some ⟨A.gs, 0, none⟩) (B.n + 1) (B.n + 1)].length = j := by simp
  rw [e, nsl_set]
theorem mid_grownP {N M k : Nat} {w w1 : World} (g : w.grownBy w1 (some k)) (h1 : N ≤ k) (h2 : k < M) : Mid N M w w1 := (Mid.refl N M w).grown g (Or.inr ⟨h1, h2⟩)
/-- A count of learning, or of causes, was written. -/
theorem PB.own {w : World} {A : PAd} {B B' : Br} (H : PB w A B) {j : Nat} {x : Value} (hj : j < (pbc A B).length) (e : (pbc A B).set j x = pbc A B') (hV : B'.V = B.V) (hF : B'.F = B.F) (hS : B'.st = B.st) (hw : Bw B') :
    PB (w.setCell ⟨A.g, j, none⟩ x) A B' ∧ Mid A.lo A.hi w (w.setCell ⟨A.g, j, none⟩ x) := by
  have g := setCell_grown w A.g j x
  have o := H.o
  have kk : ∀ i, i < A.hi → i ≠ A.g → (w.setCell ⟨A.g, j, none⟩ x).heap[i]? = w.heap[i]? := fun i hi h1 => g.block i (by omega) (fun e => h1 (Option.some.inj e))
  have s := g.size
  refine ⟨⟨by rw [← e]; exact H.bx.setAt hj x, by rw [hS]; exact H.ss.block (kk _ (by omega) (by omega)), by rw [hV]; exact H.pv.keep (fun k h1 h2 => kk k (by omega) (by omega)), ?_, hw, by omega⟩, mid_grownP g (by omega) (by omega)⟩
  obtain ⟨ps, hp⟩ := H.pf
  rw [hF]
  exact ⟨ps, hp.keep (fun k h1 h2 => kk k (by omega) (by omega))⟩
theorem PB.incL {w : World} {A : PAd} {B : Br} (H : PB w A B) {j : Nat} (hj : j < 3) (hs : ∀ x ∈ B.ln, x + 1 < 1000000) :
    PB (w.setCell ⟨A.g, 12 + j, none⟩ (.int .i64 (B.ln.getD j 0 + 1))) A { B with ln := inc B.ln j } ∧ Mid A.lo A.hi w (w.setCell ⟨A.g, 12 + j, none⟩ (.int .i64 (B.ln.getD j 0 + 1))) := by
  have b := H.wf
  have hm : B.ln.getD j 0 ∈ B.ln := by
    rw [List.getD_eq_getElem?_getD, List.getElem?_eq_getElem (by rw [b.ll]; exact hj)]
    exact List.getElem_mem _
  have h1 := hs _ hm
  have h0 := (b.ls _ hm).1
  exact H.own (B' := { B with ln := inc B.ln j }) (by rw [pbc_len _ _ b.cl b.ll]; omega) (pbc_setL A B b.cl j _) rfl rfl rfl ⟨b.n1, b.n2, b.vn, b.vw, b.fw, b.sl, b.ss, b.cl, b.cs, by simp [inc, b.ll], sml_set b.ls _ (by omega) (by omega)⟩
theorem PB.incC {w : World} {A : PAd} {B : Br} (H : PB w A B) {j : Nat} (hj : j < 9) (hs : ∀ x ∈ B.ct, x + 1 < 1000000) :
    PB (w.setCell ⟨A.g, 3 + j, none⟩ (.int .i64 (B.ct.getD j 0 + 1))) A { B with ct := inc B.ct j } ∧ Mid A.lo A.hi w (w.setCell ⟨A.g, 3 + j, none⟩ (.int .i64 (B.ct.getD j 0 + 1))) := by
  have b := H.wf
  have hm : B.ct.getD j 0 ∈ B.ct := by
    rw [List.getD_eq_getElem?_getD, List.getElem?_eq_getElem (by rw [b.cl]; exact hj)]
    exact List.getElem_mem _
  have h1 := hs _ hm
  have h0 := (b.cs _ hm).1
  exact H.own (B' := { B with ct := inc B.ct j }) (by rw [pbc_len _ _ b.cl b.ll]; omega) (pbc_setC A B (by rw [b.cl]; exact hj) _) rfl rfl rfl ⟨b.n1, b.n2, b.vn, b.vw, b.fw, b.sl, b.ss, by simp [inc, b.cl], sml_set b.cs _ (by omega) (by omega), b.ll, b.ls⟩
/-- A state was set. -/
theorem PB.setS {w : World} {A : PAd} {B : Br} (H : PB w A B) {k : Nat} {s : Int} (hp : hasP B.n k = true) (hs : isS s = true) :
    PB (w.setCell ⟨A.gs, k, none⟩ (.int .i64 s)) A (tSet B k s) ∧ Mid A.lo A.hi w (w.setCell ⟨A.gs, k, none⟩ (.int .i64 s)) := by
  have e : tSet B k s = { B with st := B.st.set k s } := by unfold tSet; rw [hp, hs, Int.toNat_natCast]; rfl
  have g := setCell_grown w A.gs k (.int .i64 s)
  have o := H.o
  have kk : ∀ i, i < A.hi → i ≠ A.gs → (w.setCell ⟨A.gs, k, none⟩ (.int .i64 s)).heap[i]? = w.heap[i]? := fun i hi h1 => g.block i (by omega) (fun e => h1 (Option.some.inj e))
  have hk : k < B.st.length := by have := (hasP_iff _ _).1 hp; rw [H.wf.sl]; omega
  have sz := g.size
  rw [e]
  refine ⟨⟨H.bx.block (kk _ (by omega) (by omega)), ?_, H.pv.keep (fun k h1 h2 => kk k (by omega) (by omega)), ?_, ?_, by omega⟩, mid_grownP g (by omega) (by omega)⟩
  · have b := H.ss.setAt (j := k) (by simp [nsl]; exact hk) (.int .i64 s)
    rw [nsl_set] at b
    exact b
  · obtain ⟨ps, hp⟩ := H.pf
    exact ⟨ps, hp.keep (fun k h1 h2 => kk k (by omega) (by omega))⟩
  · have b := H.wf
    refine ⟨b.n1, b.n2, b.vn, b.vw, b.fw, by simp [b.sl], fun x hx => ?_, b.cl, b.cs, b.ll, b.ls⟩
    rcases List.mem_or_eq_of_mem_set hx with hx | rfl
    · exact b.ss x hx
    · exact (isS_iff _).1 hs
/-- What the program's bridge hands out: all of it new. -/
def OwnO (w : World) (ao : Option Addr) (xs : List Ow) : Prop := (∀ b o, ao = some ⟨b, o, none⟩ → w.heap.size ≤ b) ∧ ∀ x ∈ xs, ∀ b o, x.a = some ⟨b, o, none⟩ → 0 < x.n → w.heap.size ≤ b
end Go.Proofs.YtgpdjfaklcmoiaaDoor
/- What goes out, of a list of ports: plain; what the rounds of a loop over a function leave as it was. -/
namespace Go.Proofs.YtgpdjfaklcmoiaaDoor
open Go.RowKit Go.PlainAid

def okP (B : Br) (u p : Int) : Bool := (p != u) && (sta B p == 2)
def sel (B : Br) (u : Int) (l : List Int) : List Int := l.filter (okP B u)
def ols (B : Br) (v : Int) (f : Fd) (M : Int → Bool) : List Int → List Ot
  | [] => []
  | p :: r => (if M p && (ouE B.V v p f == 0) then [⟨p, ouF B.V v p f⟩] else []) ++ ols B v f M r
theorem ols_append (B : Br) (v : Int) (f : Fd) (M : Int → Bool) (a b : List Int) : ols B v f M (a ++ b) = ols B v f M a ++ ols B v f M b := by
  induction a with
  | nil => rfl
  | cons p r ih => rw [List.cons_append, ols, ols, ih, List.append_assoc]
theorem ols_one (B : Br) (v : Int) (f : Fd) (M : Int → Bool) (p : Int) : ols B v f M [p] = if M p && (ouE B.V v p f == 0) then [⟨p, ouF B.V v p f⟩] else [] := by
  rw [ols, ols, List.append_nil]
theorem ols_len (B : Br) (v : Int) (f : Fd) (M : Int → Bool) : ∀ l : List Int, (ols B v f M l).length ≤ l.length
  | [] => Nat.le_refl _
  | p :: r => by
    have := ols_len B v f M r
    rw [ols, List.length_append, List.length_cons]
    split
    · simp; omega
    · simp; omega
theorem sel_append (B : Br) (u : Int) (a b : List Int) : sel B u (a ++ b) = sel B u a ++ sel B u b := by simp [sel]
theorem sel_len (B : Br) (u : Int) (l : List Int) : (sel B u l).length ≤ l.length := by unfold sel; exact List.length_filter_le _ _
theorem sel_yes {B : Br} {u p : Int} (h : okP B u p = true) (l : List Int) : sel B u (l ++ [p]) = sel B u l ++ [p] := by
  rw [sel_append]; simp [sel, h]
theorem sel_no {B : Br} {u p : Int} (h : okP B u p = false) (l : List Int) : sel B u (l ++ [p]) = sel B u l := by
  rw [sel_append]; simp [sel, h]
theorem sta_zero (B : Br) : sta B 0 = 0 := by unfold sta; rw [(hasP_no _ _).2 (by omega)]; rfl
theorem ouE_no {T : Tb} (_h : Wf T) {v p : Int} (f : Fd) (hh : hs T.l v p = false) : (ouE T v p f == 0) = false := by
  unfold ouE
  rw [hh]
  split <;> rfl
/-- What goes out at those ports is what the document's Relay tells. -/
theorem ols_rly {B : Br} (H : Bw B) (v u t : Int) (f : Fd) (M : Int → Bool) (hM : ∀ p : Int, 1 ≤ p → sta B p = 2 → M p = (t == 0 || p == t)) : ∀ k, k ≤ B.n → ols B v f M (sel B u (mbs B.V.l v (k + 1))) = rly B v u t f k
  | 0, _ => by
    have e : mbs B.V.l v (0 + 1) = [] ∨ mbs B.V.l v (0 + 1) = [] ++ [((0 : Nat) : Int)] := by
      unfold mbs
      split
      · exact Or.inr rfl
      · exact Or.inl rfl
    rcases e with e | e
    · rw [e]; rfl
    · rw [e, sel_no (by unfold okP; rw [show ((0 : Nat) : Int) = 0 from rfl, sta_zero]; simp)]
      rfl
  | k + 1, hk => by
    have ih := ols_rly H v u t f M hM k (by omega)
    have hp : hasP B.n ((k + 1 : Nat) : Int) = true := (hasP_iff _ _).2 (by omega)
    have hs1 : sta B ((k + 1 : Nat) : Int) = B.st.getD (k + 1) 0 := by unfold sta; rw [hp, if_pos rfl, Int.toNat_natCast]
    have hm : may B v u t f ((k + 1 : Nat) : Int) = (!(((k + 1 : Nat) : Int) == u) && ((t == 0 || ((k + 1 : Nat) : Int) == t) && (sta B ((k + 1 : Nat) : Int) == 2 && ouE B.V v ((k + 1 : Nat) : Int) f == 0))) := by
      unfold may; rw [hs1, Int.toNat_natCast]
    have hM1 := hM ((k + 1 : Nat) : Int) (by omega)
    rw [rly]
    generalize hP : ((k + 1 : Nat) : Int) = P at *
    rcases Bool.eq_false_or_eq_true (hs B.V.l v P) with h1 | h1
    · have e1 : mbs B.V.l v (k + 1 + 1) = mbs B.V.l v (k + 1) ++ [P] := by rw [mbs, hP, h1]; rfl
      rw [e1]
      rcases Bool.eq_false_or_eq_true (okP B u P) with h2 | h2
      · rw [sel_yes h2, ols_append, ols_one, ih]
        congr 1
        unfold okP at h2
        rw [Bool.and_eq_true, beq_iff_eq] at h2
        rw [hM1 h2.2, hm, h2.2]
        have h3 : (P == u) = false := by simpa [bne] using h2.1
        rw [h3]
        simp
      · rw [sel_no h2, ih]
        have h3 : may B v u t f P = false := by
          rw [hm]
          unfold okP at h2
          rw [Bool.and_eq_false_iff] at h2
          rcases h2 with h2 | h2
          · have h4 : (P == u) = true := by simpa [bne] using h2
            rw [h4]; rfl
          · rw [h2]; simp
        rw [h3, if_neg (by simp), List.append_nil]
    · have e1 : mbs B.V.l v (k + 1 + 1) = mbs B.V.l v (k + 1) := by rw [mbs, hP, h1]; rfl
      have h3 : may B v u t f P = false := by rw [hm, ouE_no H.vw f h1]; simp
      rw [e1, ih, h3, if_neg (by simp), List.append_nil]
theorem ols_none {B : Br} (v u : Int) (f : Fd) (M : Int → Bool) (hM : ∀ p : Int, sta B p = 2 → M p = false) (l : List Int) : ols B v f M (sel B u l) = [] := by
  have : ∀ l : List Int, (∀ p ∈ l, M p = false) → ols B v f M l = [] := fun l => by
    induction l with
    | nil => intro _; rfl
    | cons p r ih =>
      intro h
      rw [ols, h p (List.mem_cons_self ..), ih (fun q hq => h q (List.mem_cons_of_mem _ hq))]
      rfl
  refine this _ (fun p hp => hM p ?_)
  have := (List.mem_filter.1 hp).2
  unfold okP at this
  rw [Bool.and_eq_true, beq_iff_eq] at this
  exact this.2

theorem cells_of_cell {w : World} {k j : Nat} {v : Value} (h : w.cell? ⟨k, j, none⟩ = some v) : ∀ o, w.heap[k]? = some o → o.isCells = true := by
  intro o ho
  unfold World.cell? at h
  simp only [ho] at h
  cases o <;> simp_all [Obj.isCells]
theorem grown_cells {A B : World} {row : Option Nat} {k j : Nat} {v : Value} (h : A.cell? ⟨k, j, none⟩ = some v) (g : A.grownBy B row) (hr : ∀ r, row = some r → ∃ o : Obj, A.heap[r]? = some o ∧ o.isCells = false) : B.heap[k]? = A.heap[k]? := by
  refine g.block k (World.block_lt_of_cell? A _ h) (fun e => ?_)
  obtain ⟨o, ho, hc⟩ := hr k e.symm
  rw [cells_of_cell h o ho] at hc
  cases hc
theorem grown_none {A B : World} (h : Below A.heap.size A B) : A.grownBy B none := ⟨h.os, h.tape, h.output, h.size, fun i hi _ => h.block i hi⟩
/-- The row to which the slice at a place belongs. -/
def rowOf (W : World) (b : Nat) : Option Nat := (W.cell? ⟨b, 0, none⟩).bind Value.ownBlock
theorem rowOf_eq {W W' : World} {b : Nat} (h : W'.heap[b]? = W.heap[b]?) : rowOf W' b = rowOf W b := by
  unfold rowOf
  rw [World.cell?_of_block (a := ⟨b, 0, none⟩) h]
/-- What a round leaves as it was: all but the slice at lB, and its row. -/
structure KpO (N0 lB : Nat) (A B : World) : Prop where
  size : A.heap.size ≤ B.heap.size
  keep : ∀ k, k < A.heap.size → k ≠ lB → rowOf A lB ≠ some k → (k < N0 ∨ ∀ o, A.heap[k]? = some o → o.isCells = true) → B.heap[k]? = A.heap[k]?
  row : ∀ k, rowOf B lB = some k → rowOf A lB = some k ∨ A.heap.size ≤ k
theorem KpO.refl (N0 lB : Nat) (A : World) : KpO N0 lB A A := ⟨Nat.le_refl _, fun _ _ _ _ _ => rfl, fun _ h => Or.inl h⟩
theorem KpO.trans {N0 lB : Nat} {A B C : World} (h : KpO N0 lB A B) (k : KpO N0 lB B C) : KpO N0 lB A C := by
  refine ⟨Nat.le_trans h.size k.size, fun i h1 h2 h3 h4 => ?_, fun i hi => ?_⟩
  · have e := h.keep i h1 h2 h3 h4
    have s := h.size
    refine (k.keep i (by omega) h2 (fun hr => ?_) (by rw [e]; exact h4)).trans e
    rcases h.row i hr with hr | hr
    · exact h3 hr
    · omega
  · have s := h.size
    rcases k.row i hi with hr | hr
    · rcases h.row i hr with hr | hr
      · exact Or.inl hr
      · exact Or.inr hr
    · exact Or.inr (by omega)
theorem KpO.putObj {N0 lB l : Nat} (W : World) {o : Obj} (o' : Obj) (hl : N0 ≤ l) (hb : lB < N0) (h : W.heap[l]? = some o) (hc : o.isCells = false) : KpO N0 lB W (W.putObj l o') :=
  ⟨by simp, fun k h1 h2 h3 h4 => World.putObj_heap_other (fun e => by
    subst e
    rcases h4 with h4 | h4
    · omega
    · rw [h4 o h] at hc; cases hc), fun k hk => Or.inl (by rwa [rowOf_eq (World.putObj_heap_other (by omega))] at hk)⟩
theorem KpO.below {N0 lB : Nat} {A B : World} (h : Below A.heap.size A B) (hl : lB < A.heap.size) : KpO N0 lB A B :=
  ⟨h.size, fun k h1 _ _ _ => h.block k h1, fun k hk => Or.inl (by rwa [rowOf_eq (h.block lB hl)] at hk)⟩
theorem callsRound {l n : Nat} {P : Program} {f : FuncId} {args : Array Value} {w : World} {R : Ending → World → Prop} (h : Calls P f args w R) : CallsIn (Fence.wide.inRound l) n P f args w R := callsIn_wide.2 h

theorem wpIn_then {c : Code} {F : Fence} {n : Nat} {P : Program} {Q : Exit → Act → World → Prop} {a : Act} {w : World} (K : Act → World → Prop) (h : c.wpIn F n P (Exit.then K (fun _ _ _ => False)) a w) (hq : ∀ a w, K a w → Q .normal a w) : c.wpIn F n P Q a w :=
  wpIn_mono h (fun e a w h => by cases e <;> first | exact hq _ _ h | exact h.elim)

theorem wideFn {f : FuncId} {A : Prop} (h : A) : Fence.wide.fn f ∧ A := ⟨trivial, h⟩
theorem skipFn {F : Fence} {A : Prop} (h : A) : (∀ f : FuncId, (none : Option FuncId) = some f → F.fn f) ∧ A := ⟨fun _ hf => (by cases hf), h⟩

theorem opsIn_round {P : Program} {ops : Array Oper} {Q : Exit → Act → World → Prop} {l n : Nat} (hnd : ∀ (i : Nat) (o : Oper), ops[i]? = some o → ∀ c, o.op ≠ Op.defer c) (hQ : ¬ LetsOut Q) :
    ∀ (is : List Nat) (a : Act) (w : World), wpOps P ops Q is a w → wpOpsIn (Fence.wide.inRound l) n P ops Q is a w
  | [], a, w, h => h
  | i :: rest, a, w, h => by
    have ih := opsIn_round (P := P) (l := l) (n := n) hnd hQ rest
    unfold wpOps at h
    unfold wpOpsIn
    cases ho : ops[i]? with
    | none =>
      simp only [ho] at h ⊢
      exact ih a w h
    | some o =>
      simp only [ho] at h ⊢
      by_cases hw : Region.wanted o (yielded ops a.tmps) = true
      · rw [if_pos hw] at h ⊢
        rcases h with h | ⟨_, h⟩
        · refine ⟨fun _ _ => trivial, ?_⟩
          rw [Oper.semAt_eq _ _ _ (hnd i o ho)]
          unfold Oper.wp at h
          generalize (execOp a.eval o).run P w = r at *
          cases r with
          | ok x w' =>
            cases x <;> simp only [Oper.upon] at h <;> simp only [Oper.uponIn]
            case value => exact ih _ _ h
            case skip => exact ih _ _ h
            case defer => exact ih _ _ h
            case enter f args =>
              refine ⟨fun h => (by cases h), (callsRound h).mono (fun e w'' he => ?_)⟩
              cases e with
              | returned v => exact ih _ _ he
              | panicked c => exact he
              | outgrown => exact he
            case row row args =>
              refine ⟨fun h => (by cases h), ?_⟩
              intro c cs _
              obtain ⟨v, w'', r, s⟩ := h c cs
              exact ⟨v, w'', ih _ _ r, (StepsIn.of_steps s).mono (fun m _ => fenced_wide P m)⟩
          | halt x w' =>
            cases x <;> simp only [Oper.upon] at h <;> simp only [Oper.uponIn]
            case panic => exact h
        · exact absurd h hQ
      · rw [if_neg hw] at h ⊢
        exact ⟨fun _ _ => trivial, ih _ _ h⟩
/-- A region that draws its order, in a round: as ahead of no fence. -/
theorem region_round {P : Program} {ops : Array Oper} {Q : Exit → Act → World → Prop} {l n id : Nat} {a : Act} {w : World} (hm : P.follows .mixedOrders = true) (hnd : ∀ (i : Nat) (o : Oper), ops[i]? = some o → ∀ c, o.op ≠ Op.defer c) (hQ : ¬ LetsOut Q)
    {S : World → Prop} (hS : S w.drew) (h : S w.drew → wpAnyH P .any ops Q S ops.size (Array.replicate ops.size false) a w.drew) : (Code.region id ops true).wpIn (Fence.wide.inRound l) n P Q a w :=
  wpIn_region_draw fun t => by
    simp only [Region.schedule, hm, Bool.true_or, if_true]
    exact opsIn_round hnd hQ _ a _ (wpAny_sound ops.size t _ a _ (wpAny_of_held _ _ _ _ (h hS)))
theorem noDefers {ops : Array Oper} (h : ops.all (fun o => match o.op with | Op.defer _ => false | _ => true) = true) : ∀ (i : Nat) (o : Oper), ops[i]? = some o → ∀ c, o.op ≠ Op.defer c := by
  intro i o ho c hc
  obtain ⟨hi, rfl⟩ := Array.getElem?_eq_some_iff.1 ho
  have := (Array.all_eq_true.1 h) i hi
  rw [hc] at this
  cases this
end Go.Proofs.YtgpdjfaklcmoiaaDoor
/- Contracts: hasPort, State, Set, Vlans, Stations, Counts, Learned of the program's bridge. -/
namespace Go.Proofs.YtgpdjfaklcmoiaaDoor
open Go.RowKit Go.PlainAid

set_option maxRecDepth 100000 in
set_option maxHeartbeats 1000000 in
theorem hasPortQ (A : PAd) (B : Br) (p : Int) (w : World) (H : PB w A B) : Calls Tryd.prog 21 #[.pointer (some ⟨A.g, 0, none⟩), .int .i64 p] w fun e w' => e = .returned (.bool (hasP B.n p)) ∧ w' = w := by
  have c2 := H.bx.cell 2 _ rfl
  clear H
  by_cases h1 : 1 ≤ p
  · by_cases h2 : p ≤ B.n
    · have e : hasP B.n p = true := (hasP_iff _ _).2 ⟨h1, h2⟩
      have h3 : p < ((B.n + 1 : Nat) : Int) := by omega
      have h4 : p < (B.n : Int) + 1 := by omega
      rw [e]
      clear e
      go_enter Tryd.func21, Tryd.ntmps21
      go_wp2
      go_ret
      exact ⟨ret_bool (by first | rfl | simp [h3] | simp [h4]), rfl⟩
    · have e : hasP B.n p = false := (hasP_no _ _).2 (by omega)
      have h3 : ¬ p < ((B.n + 1 : Nat) : Int) := by omega
      have h4 : ¬ p < (B.n : Int) + 1 := by omega
      rw [e]
      clear e
      go_enter Tryd.func21, Tryd.ntmps21
      go_wp2
      go_ret
      exact ⟨ret_bool (by first | rfl | simp [h3] | simp [h4] | (simp; omega)), rfl⟩
  · have e : hasP B.n p = false := (hasP_no _ _).2 (by omega)
    rw [e]
    clear e
    go_enter Tryd.func21, Tryd.ntmps21
    go_wp2
    go_ret
    exact ⟨ret_bool (by first | rfl | simp), rfl⟩
set_option maxRecDepth 100000 in
set_option maxHeartbeats 1000000 in
theorem stateQ (A : PAd) (B : Br) (p : Int) (w : World) (H : PB w A B) : Calls Tryd.prog 40 #[.pointer (some ⟨A.g, 0, none⟩), .int .i64 p] w fun e w' => e = .returned (.int .i64 (sta B p)) ∧ w' = w := by
  have q1 := fun w H => hasPortQ A B p w H
  have c2 := H.bx.cell 2 _ rfl
  rcases Bool.eq_false_or_eq_true (hasP B.n p) with hp | hp
  · obtain ⟨k, rfl, hk, e⟩ := st_get H.wf hp
    have n1 := H.ss.cell k _ (nsl_get hk)
    have hl : (k : Int) < ((B.n + 1 : Nat) : Int) := by rw [H.wf.sl] at hk; omega
    have hl2 : (k : Int) < (B.n : Int) + 1 := by omega
    have HH := hide H
    rw [hp] at q1
    rw [e]
    clear H e hp hk
    generalize B.st.getD k 0 = x at *
    go_enter Tryd.func40, Tryd.ntmps40
    go_wp2_with (first | (go_at_call 21; refine (q1 _ HH.out).mono ?_; rintro e w' ⟨rfl, rfl⟩))
    go_ret
    exact ⟨rfl, rfl⟩
  · have e : sta B p = 0 := by unfold sta; rw [hp]; rfl
    have HH := hide H
    rw [hp] at q1
    rw [e]
    clear H e hp
    go_enter Tryd.func40, Tryd.ntmps40
    go_wp2_with (first | (go_at_call 21; refine (q1 _ HH.out).mono ?_; rintro e w' ⟨rfl, rfl⟩))
    go_ret
    exact ⟨rfl, rfl⟩
set_option maxRecDepth 100000 in
set_option maxHeartbeats 1000000 in
theorem setQ (A : PAd) (B : Br) (p s : Int) (w : World) (H : PB w A B) : Calls Tryd.prog 8 #[.pointer (some ⟨A.g, 0, none⟩), .int .i64 p, .int .i64 s] w fun e w' => e = .returned (.int .i64 (eSet B p s)) ∧ PB w' A (tSet B p s) ∧ Mid A.lo A.hi w w' := by
  have q1 := fun w H => hasPortQ A B p w H
  have c2 := H.bx.cell 2 _ rfl
  rcases Bool.eq_false_or_eq_true (hasP B.n p) with hp | hp
  · rcases Bool.eq_false_or_eq_true (isS s) with hs | hs
    · obtain ⟨k, rfl, hk, -⟩ := st_get H.wf hp
      have n1 := H.ss.cell k _ (nsl_get hk)
      have f1 := H.ss.free k (by simp [nsl]; exact hk)
      have F := hide (H.setS hp hs)
      have e : eSet B k s = 0 := by unfold eSet; rw [hp, hs]; rfl
      have hl : (k : Int) < ((B.n + 1 : Nat) : Int) := by rw [H.wf.sl] at hk; omega
      have hl2 : (k : Int) < (B.n : Int) + 1 := by omega
      have HH := hide H
      obtain ⟨s1, s2⟩ := (isS_iff s).1 hs
      have s3 : ¬ s < 0 := by omega
      have s4 : ¬ 2 < s := by omega
      rw [hp] at q1
      rw [e]
      clear H e hp hk hs s1 s2
      go_enter Tryd.func8, Tryd.ntmps8
      go_wp2_with (first | (go_at_call 21; refine (q1 _ HH.out).mono ?_; rintro e w' ⟨rfl, rfl⟩))
      go_ret
      exact ⟨rfl, F.out⟩
    · have e : eSet B p s = 1 := by unfold eSet; rw [hs, Bool.and_false]; rfl
      have e2 : tSet B p s = B := by unfold tSet; rw [hs, Bool.and_false]; rfl
      have HH := hide H
      have hs2 : s < 0 ∨ (¬ s < 0 ∧ 2 < s) := by
        have : ¬ (0 ≤ s ∧ s ≤ 2) := fun h => by rw [(isS_iff s).2 h] at hs; cases hs
        omega
      rw [hp] at q1
      rw [e, e2]
      clear H e e2 hp hs
      rcases hs2 with s1 | ⟨s1, s2⟩
      all_goals
        go_enter Tryd.func8, Tryd.ntmps8
        go_wp2_with (first | (go_at_call 21; refine (q1 _ HH.out).mono ?_; rintro e w' ⟨rfl, rfl⟩))
        go_ret
        exact ⟨rfl, HH.out, Mid.refl _ _ _⟩
  · have e : eSet B p s = 1 := by unfold eSet; rw [hp]; rfl
    have e2 : tSet B p s = B := by unfold tSet; rw [hp]; rfl
    have HH := hide H
    rw [hp] at q1
    rw [e, e2]
    clear H e e2 hp
    go_enter Tryd.func8, Tryd.ntmps8
    go_wp2_with (first | (go_at_call 21; refine (q1 _ HH.out).mono ?_; rintro e w' ⟨rfl, rfl⟩))
    go_ret
    exact ⟨rfl, HH.out, Mid.refl _ _ _⟩
set_option maxRecDepth 100000 in
set_option maxHeartbeats 1000000 in
theorem vlansQ (A : PAd) (B : Br) (w : World) (H : PB w A B) : Calls Tryd.prog 5 #[.pointer (some ⟨A.g, 0, none⟩)] w fun e w' => e = .returned (.pointer (some ⟨A.h + 2, 0, none⟩)) ∧ w' = w := by
  have c0 := H.bx.cell 0 _ rfl
  clear H
  go_enter Tryd.func5, Tryd.ntmps5
  go_wp2
  go_ret
  exact ⟨rfl, rfl⟩
end Go.Proofs.YtgpdjfaklcmoiaaDoor
/- The iterator of the ports that may send, for every loop body. -/
namespace Go.Proofs.YtgpdjfaklcmoiaaDoor
open Go.RowKit Go.PlainAid Go.Shelf
attribute [local go_sem] Oper.semAt_some

set_option maxRecDepth 100000 in
set_option maxHeartbeats 4000000 in
theorem each107_in (n : Nat) (hn : 1 ≤ n) (l bB vB uB lB N0 : Nat) (A : PAd) (B : Br) (v u : Int) (J Jx : List Int → World → Prop) (hv : I64 v)
    (hN : lB < N0 ∧ bB < N0 ∧ vB < N0 ∧ uB < N0 ∧ A.hi ≤ N0 ∧ bB ≠ lB ∧ vB ≠ lB ∧ uB ≠ lB ∧ A.hi ≤ lB)
    (hY : ∀ pre x W, J pre W → pre.length < (mbs B.V.l v B.V.n).length → YieldAt Fence.wide (n - 1) Tryd.prog l #[.int .i64 x] W fun e W' =>
      (e = .returned (.bool true) ∧ J (pre ++ [x]) W' ∧ KpO N0 lB W W') ∨ (e = .returned (.bool false) ∧ Jx (pre ++ [x]) W'))
    (W : World) (hJ : AbidesFrom W.heap.size J) (hW : N0 ≤ W.heap.size) (hb : Box W bB [.pointer (some ⟨A.g, 0, none⟩)]) (hvB : Box W vB [.int .i64 v]) (hu : Box W uB [.int .i64 u]) (P : PB W A B) (hr0 : rowOf W lB = none) (h0 : J [] W) :
    CallsIn Fence.wide n Tryd.prog 66 #[.func (.yield l) #[] #[], .pointer (some ⟨bB, 0, none⟩), .pointer (some ⟨vB, 0, none⟩), .pointer (some ⟨uB, 0, none⟩)] W fun e W' => (∃ v, e = .returned v) ∧
      ((∃ xs : List Int, xs = sel B u (mbs B.V.l v B.V.n) ∧ J xs W') ∨ (∃ pre : List Int, True ∧ Jx pre W')) := by
  have c0 := hb.cell 0 _ rfl
  have c1 := P.bx.cell 0 _ rfl
  have c2 := hvB.cell 0 _ rfl
  have HS := hide (And.intro hb (And.intro hvB hu))
  have HP := hide P
  have HV := hide hv
  have HJ0 := hide h0
  have HL := hide (mbs_len B.V.l v B.V.n)
  have HVN : Hid (B.V.n ≤ 64) := hide (by have := P.wf.vn; have := P.wf.n2; omega)
  have hmem := fun W H => members13 A.h B.V v W hv H
  clear hb hvB hu P hv
  refine callsIn_of_wp Tryd.func66 rfl trivial ?_ rfl
  simp only [Tryd.ntmps66, List.size_toArray, List.length_cons, List.length_nil, Nat.reduceAdd, Nat.reduceSub, Array.replicate_succ, Array.replicate_zero, List.push_toArray, List.append_toArray, List.nil_append, List.cons_append]
  gi_wp2_with fail
  refine wpIn_then (fun a w' => ∃ ao c, a = ⟨#[.func (.yield l) #[] #[], .pointer (some ⟨bB, 0, none⟩), .pointer (some ⟨vB, 0, none⟩), .pointer (some ⟨uB, 0, none⟩), undef, undef, undef, .pointer (some ⟨A.g, 0, none⟩), .pointer (some ⟨A.g, 0, none⟩), .pointer (some ⟨A.g, 0, none⟩), .pointer (some ⟨A.h + 2, 0, none⟩), .int .i64 v, .slice ao (mbs B.V.l v B.V.n).length c, .int .i64 (mbs B.V.l v B.V.n).length, .int .i64 0, undef, undef, undef, undef, undef, undef, undef, undef, undef, undef, undef, undef, undef, undef, undef, undef, undef, undef, undef], []⟩ ∧ Its w' W.heap.size ao (mbs B.V.l v B.V.n).length c (mbs B.V.l v B.V.n) ∧ Below W.heap.size W w') (wpIn_wide.2 ?_) ?_
  · refine wp_region_held_drew (S := fun w' => w'.cell? ⟨bB, 0, none⟩ = some (.pointer (some ⟨A.g, 0, none⟩)) ∧ w'.cell? ⟨A.g, 0, none⟩ = some (.pointer (some ⟨A.h + 2, 0, none⟩)) ∧ w'.cell? ⟨vB, 0, none⟩ = some (.int .i64 v)) (by kernel_rfl) ⟨c0, c1, c2⟩ (fun hHeld => ?_)
    refine wpAnyH_take (i := 0) (v := .pointer (some ⟨A.g, 0, none⟩)) rfl (by kernel_rfl) (by kernel_rfl) (by kernel_rfl) (fun _ _ _ h => h) (Or.inl ⟨by rfl, ?_⟩) hHeld ?_
    · intro W hW; (try dsimp only at hW); have hc := hW.1; clear hW; go_simp
    change wpAnyH _ _ _ _ _ _ _ ⟨#[.func (.yield l) #[] #[],.pointer (some ⟨bB, 0, none⟩),.pointer (some ⟨vB, 0, none⟩),.pointer (some ⟨uB, 0, none⟩),_,_,_,.pointer (some ⟨A.g, 0, none⟩),_,_,_,_,_,_,_,_,_,_,_,_,_,_,_,_,_,_,_,_,_,_,_,_,_,_], []⟩ _
    refine wpAnyH_take (i := 1) (v := .pointer (some ⟨A.g, 0, none⟩)) rfl (by kernel_rfl) (by kernel_rfl) (by kernel_rfl) (fun _ _ _ h => h) (Or.inl ⟨by rfl, ?_⟩) hHeld ?_
    · intro W hW; (try dsimp only at hW); go_simp
    change wpAnyH _ _ _ _ _ _ _ ⟨#[.func (.yield l) #[] #[],.pointer (some ⟨bB, 0, none⟩),.pointer (some ⟨vB, 0, none⟩),.pointer (some ⟨uB, 0, none⟩),_,_,_,.pointer (some ⟨A.g, 0, none⟩),.pointer (some ⟨A.g, 0, none⟩),_,_,_,_,_,_,_,_,_,_,_,_,_,_,_,_,_,_,_,_,_,_,_,_,_], []⟩ _
    refine wpAnyH_take (i := 2) (v := .pointer (some ⟨A.g, 0, none⟩)) rfl (by kernel_rfl) (by kernel_rfl) (by kernel_rfl) (fun _ _ _ h => h) (Or.inl ⟨by rfl, ?_⟩) hHeld ?_
    · intro W hW; (try dsimp only at hW); go_simp
    change wpAnyH _ _ _ _ _ _ _ ⟨#[.func (.yield l) #[] #[],.pointer (some ⟨bB, 0, none⟩),.pointer (some ⟨vB, 0, none⟩),.pointer (some ⟨uB, 0, none⟩),_,_,_,.pointer (some ⟨A.g, 0, none⟩),.pointer (some ⟨A.g, 0, none⟩),.pointer (some ⟨A.g, 0, none⟩),_,_,_,_,_,_,_,_,_,_,_,_,_,_,_,_,_,_,_,_,_,_,_,_], []⟩ _
    refine wpAnyH_take (i := 3) (v := .pointer (some ⟨A.h + 2, 0, none⟩)) rfl (by kernel_rfl) (by kernel_rfl) (by kernel_rfl) (fun _ _ _ h => h) (Or.inl ⟨by rfl, ?_⟩) hHeld ?_
    · intro W hW; (try dsimp only at hW); have hc := hW.2.1; clear hW; go_simp
    change wpAnyH _ _ _ _ _ _ _ ⟨#[.func (.yield l) #[] #[],.pointer (some ⟨bB, 0, none⟩),.pointer (some ⟨vB, 0, none⟩),.pointer (some ⟨uB, 0, none⟩),_,_,_,.pointer (some ⟨A.g, 0, none⟩),.pointer (some ⟨A.g, 0, none⟩),.pointer (some ⟨A.g, 0, none⟩),.pointer (some ⟨A.h + 2, 0, none⟩),_,_,_,_,_,_,_,_,_,_,_,_,_,_,_,_,_,_,_,_,_,_,_], []⟩ _
    refine wpAnyH_take (i := 4) (v := .int .i64 v) rfl (by kernel_rfl) (by kernel_rfl) (by kernel_rfl) (fun _ _ _ h => h) (Or.inl ⟨by rfl, ?_⟩) hHeld ?_
    · intro W hW; (try dsimp only at hW); have hc := hW.2.2; clear hW; go_simp
    change wpAnyH _ _ _ _ _ _ _ ⟨#[.func (.yield l) #[] #[],.pointer (some ⟨bB, 0, none⟩),.pointer (some ⟨vB, 0, none⟩),.pointer (some ⟨uB, 0, none⟩),_,_,_,.pointer (some ⟨A.g, 0, none⟩),.pointer (some ⟨A.g, 0, none⟩),.pointer (some ⟨A.g, 0, none⟩),.pointer (some ⟨A.h + 2, 0, none⟩),.int .i64 v,_,_,_,_,_,_,_,_,_,_,_,_,_,_,_,_,_,_,_,_,_,_], []⟩ _
    refine wpAnyH_take (i := 7) (v := .int .i64 0) rfl (by kernel_rfl) (by kernel_rfl) (by kernel_rfl) (fun _ _ _ h => h) (Or.inl ⟨by rfl, ?_⟩) hHeld ?_
    · intro W hW; (try dsimp only at hW); go_simp
    change wpAnyH _ _ _ _ _ _ _ ⟨#[.func (.yield l) #[] #[],.pointer (some ⟨bB, 0, none⟩),.pointer (some ⟨vB, 0, none⟩),.pointer (some ⟨uB, 0, none⟩),_,_,_,.pointer (some ⟨A.g, 0, none⟩),.pointer (some ⟨A.g, 0, none⟩),.pointer (some ⟨A.g, 0, none⟩),.pointer (some ⟨A.h + 2, 0, none⟩),.int .i64 v,_,_,.int .i64 0,_,_,_,_,_,_,_,_,_,_,_,_,_,_,_,_,_,_,_], []⟩ _
    refine wpAnyH_ready (rs := [5]) (by kernel_rfl) (by simp) ?_
    refine AllReadyH.cons rfl (fun K hK => ?_) AllReadyH.nil
    go_simp
    refine (hmem _ HP.out.drew.pv).mono ?_
    rintro e w2 ⟨ao, c, rfl, hI, hB⟩
    have hb0 : Below W.heap.size W w2 := ⟨hB.os, hB.tape, hB.output, hB.size, hB.block⟩
    have s0 := HS.out.1.lt
    have sg := HP.out.bx.lt
    have sv := HS.out.2.1.lt
    refine hK.out _ _ ⟨(hb0.cell (p := ⟨bB, 0, none⟩) s0).trans c0, (hb0.cell (p := ⟨A.g, 0, none⟩) sg).trans c1, (hb0.cell (p := ⟨vB, 0, none⟩) sv).trans c2⟩ (fun hHeld => ?_)
    have HI := hide hI
    have HB0 := hide hb0
    clear hK K hI hB hb0 s0 sg sv hmem
    change wpAnyH _ _ _ _ _ _ _ ⟨#[.func (.yield l) #[] #[],.pointer (some ⟨bB, 0, none⟩),.pointer (some ⟨vB, 0, none⟩),.pointer (some ⟨uB, 0, none⟩),_,_,_,.pointer (some ⟨A.g, 0, none⟩),.pointer (some ⟨A.g, 0, none⟩),.pointer (some ⟨A.g, 0, none⟩),.pointer (some ⟨A.h + 2, 0, none⟩),.int .i64 v,.slice ao (mbs B.V.l v B.V.n).length c,_,.int .i64 0,_,_,_,_,_,_,_,_,_,_,_,_,_,_,_,_,_,_,_], []⟩ _
    refine wpAnyH_take (i := 6) (v := .int .i64 (mbs B.V.l v B.V.n).length) rfl (by kernel_rfl) (by kernel_rfl) (by kernel_rfl) (fun _ _ _ h => h) (Or.inl ⟨by rfl, ?_⟩) hHeld ?_
    · intro W hW; (try dsimp only at hW); go_simp
    change wpAnyH _ _ _ _ _ _ _ ⟨#[.func (.yield l) #[] #[],.pointer (some ⟨bB, 0, none⟩),.pointer (some ⟨vB, 0, none⟩),.pointer (some ⟨uB, 0, none⟩),_,_,_,.pointer (some ⟨A.g, 0, none⟩),.pointer (some ⟨A.g, 0, none⟩),.pointer (some ⟨A.g, 0, none⟩),.pointer (some ⟨A.h + 2, 0, none⟩),.int .i64 v,.slice ao (mbs B.V.l v B.V.n).length c,.int .i64 (mbs B.V.l v B.V.n).length,.int .i64 0,_,_,_,_,_,_,_,_,_,_,_,_,_,_,_,_,_,_,_], []⟩ _
    refine wpAnyH_done (by kernel_rfl) ?_ _
    exact ⟨ao, c, rfl, HI.out, HB0.out⟩
  rintro a1 W1 ⟨ao, c, rfl, hI, hB1⟩
  have HI := hide hI
  have HB1 := hide hB1
  obtain ⟨N1, hN1⟩ : ∃ N1, N1 = W1.heap.size := ⟨_, rfl⟩
  have hJ1 : J [] W1 := hJ _ W W1 none HJ0.out (grown_none hB1) (fun r e => by cases e)
  have HS1 := hide (And.intro (HS.out.1.on hB1) (And.intro (HS.out.2.1.on hB1) (HS.out.2.2.on hB1)))
  have HP1 := hide (HP.out.on hB1)
  have hr1 : ∀ k, rowOf W1 lB = some k → N1 ≤ k := fun k hk => by
    rw [rowOf_eq (hB1.block lB (by omega)), hr0] at hk
    cases hk
  have HNW : Hid (N0 ≤ W.heap.size) := hide hW
  have HW1 : Hid (W.heap.size ≤ N1) := hide (by rw [hN1]; exact hB1.size)
  have HNN := hide hN
  have HN1 := hide hN1
  have HJJ := hide hJ
  have HYY := hide hY
  clear hI hB1 HS HP HJ0 hr0 h0 c0 c1 c2 hmem hW hN hN1 hJ hY
  generalize hmb : mbs B.V.l v B.V.n = mb at *
  have HL2 : Hid (mb.length ≤ 64) := hide (by have := HL.out; have := HVN.out; omega)
  have HMB := hide hmb
  clear hmb HL HVN
  gi_wp2_with fail
  gi_loopw [6, 14] (fun _ i wr => ∃ k : Nat, k ≤ mb.length ∧ i = .int .i64 k ∧ J (sel B u (mb.take k)) wr ∧ (Box wr bB [.pointer (some ⟨A.g, 0, none⟩)] ∧ Box wr vB [.int .i64 v] ∧ Box wr uB [.int .i64 u]) ∧ PB wr A B ∧ Its wr W.heap.size ao mb.length c mb ∧ (∀ k, rowOf wr lB = some k → N1 ≤ k) ∧ N1 ≤ wr.heap.size ∧ (∀ b o, ao = some ⟨b, o, none⟩ → 0 < mb.length → b < N1)) (fun _ i _ => mb.length - (intOf i).toNat)
  case atStart => exact ⟨0, Nat.zero_le _, rfl, hJ1, HS1.out, HP1.out, HI.out, hr1, by rw [HN1.out]; exact Nat.le_refl _, fun b o e hp => by
    obtain ⟨b', o', e', hB', hc'⟩ := HI.out.cell 0 hp
    rw [e] at e'
    cases e'
    rw [HN1.out]
    exact World.block_lt_of_cell? _ _ hc'⟩
  case round =>
    obtain ⟨k, hk1, rfl, hJk, hS2, hP2, hI2, hr2, hn2, hab⟩ := hrel
    have HJK := hide hJk
    have HS2 := hide hS2
    have HP2 := hide hP2
    have HI2 := hide hI2
    have HR2 := hide hr2
    have HN2 := hide hn2
    have HAB := hide hab
    clear hJk hS2 hP2 hI2 hr2 hn2 hab hJ1 HS1 HP1 HI hr1
    by_cases hkl : k < mb.length
    · obtain ⟨x, hx⟩ : ∃ x, mb[k]? = some x := ⟨_, List.getElem?_eq_getElem hkl⟩
      obtain ⟨b, o, rfl, hbl, hc⟩ := HI2.out.cell k hkl
      rw [show mb.getD k 0 = x by rw [List.getD_eq_getElem?_getD, hx]; rfl] at hc
      have hlt : (k : Int) < (mb.length : Int) := by omega
      have hge : (0 : Int) ≤ (k : Int) := by omega
      have e1 : IntKind.i64.wrap ((k : Int) + 1) = (k : Int) + 1 := IntWalk.i64_in _ (by have := HL2.out; omega)
      have HTK : Hid (mb.take (k + 1) = mb.take k ++ [x]) := hide (by rw [List.take_add_one, hx]; rfl)
      have hpl : Hid ((sel B u (mb.take k)).length < mb.length) := hide (by have := sel_len B u (mb.take k); rw [List.length_take] at this; omega)
      have c3 := HS2.out.2.2.cell 0 _ rfl
      have c4 := HS2.out.1.cell 0 _ rfl
      have hbN : b < N1 := HAB.out b o rfl (by omega)
      have HC := hide hc
      have HBL := hide hbl
      have HBN := hide hbN
      clear hx hbl hbN
      rcases Bool.eq_false_or_eq_true (x != u) with h1 | h1
      · have hst := fun W H => stateQ A B x W H
        rcases Bool.eq_false_or_eq_true (sta B x == 2) with h2 | h2
        · have HSX : Hid (sel B u (mb.take (k + 1)) = sel B u (mb.take k) ++ [x]) := hide (by rw [HTK.out]; exact sel_yes (by unfold okP; rw [h1, h2]; rfl) _)
          obtain ⟨fn, tmps, assign, body, hy, hR⟩ := HYY.out _ x wr HJK.out hpl.out
          have HR := hide hR
          clear hR
          gi_wp2_with (first | (with_reducible refine skipFn ?_) | (refine ⟨trivial, ?_⟩; gi_at_call 40; refine (callsIn_wide.2 (hst _ HP2.out)).mono ?_; rintro e wr ⟨rfl, rfl⟩))
          refine HR.out.mono ?_
          rintro e W3 (⟨rfl, hJ4, hk3⟩ | ⟨rfl, hJx3⟩)
          · have hn := HNN.out
            have hw1 := HW1.out
            have hn2 := HN2.out
            have hnw := HNW.out
            have hbl := HBL.out
            have hbn := HBN.out
            have kk : ∀ i, i < N0 → i ≠ lB → W3.heap[i]? = wr.heap[i]? := fun i h1 h2 => hk3.keep i (by omega) h2 (fun e => by have := HR2.out i e; omega) (Or.inl h1)
            have kb : W3.heap[b]? = wr.heap[b]? := hk3.keep b (by omega) (by omega) (fun e => by have := HR2.out b e; omega) (Or.inr (cells_of_cell HC.out ·))
            have HP3 : Hid (PB W3 A B) := hide (HP2.out.keep (fun i h1 h2 => kk i (by omega) (by omega)))
            have HS3 : Hid (Box W3 bB [.pointer (some ⟨A.g, 0, none⟩)] ∧ Box W3 vB [.int .i64 v] ∧ Box W3 uB [.int .i64 u]) := hide ⟨HS2.out.1.block (kk _ (by omega) (by omega)), HS2.out.2.1.block (kk _ (by omega) (by omega)), HS2.out.2.2.block (kk _ (by omega) (by omega))⟩
            have HI3 : Hid (Its W3 W.heap.size (some ⟨b, o, none⟩) mb.length c mb) := hide ⟨HI2.out.len, HI2.out.nil, fun j hj => by
              obtain ⟨b', o', e', h1, h2⟩ := HI2.out.cell j hj
              cases e'
              exact ⟨b, o, rfl, h1, by rw [World.cell?_of_block (a := ⟨b, o + j, none⟩) kb]; exact h2⟩, HI2.out.le, HI2.out.mx⟩
            have HR3 : Hid (∀ k, rowOf W3 lB = some k → N1 ≤ k) := hide (fun i hi => by
              rcases hk3.row i hi with h | h
              · exact HR2.out i h
              · omega)
            have HN3 : Hid (N1 ≤ W3.heap.size) := hide (Nat.le_trans HN2.out hk3.size)
            clear kk kb hk3 hn hw1 hn2 hnw hbl hbn
            gi_wp2
            go_roundw
            case rel => exact ⟨k + 1, by omega, by go_num, by rw [HSX.out]; exact hJ4, HS3.out, HP3.out, HI3.out, HR3.out, HN3.out, HAB.out⟩
            case measure => simp [intOf]; omega
          · gi_wp2
            refine bodyPost_ret (results_none rfl _ _ _) rfl ?_
            exact ⟨⟨_, rfl⟩, .inr ⟨_, trivial, hJx3⟩⟩
        · have HSX : Hid (sel B u (mb.take (k + 1)) = sel B u (mb.take k)) := hide (by rw [HTK.out]; exact sel_no (by unfold okP; rw [h1, h2]; rfl) _)
          gi_wp2_with (first | (with_reducible refine skipFn ?_) | (refine ⟨trivial, ?_⟩; gi_at_call 40; refine (callsIn_wide.2 (hst _ HP2.out)).mono ?_; rintro e wr ⟨rfl, rfl⟩))
          go_roundw
          case rel => exact ⟨k + 1, by omega, by go_num, by rw [HSX.out]; exact HJK.out, HS2.out, HP2.out, HI2.out, HR2.out, HN2.out, HAB.out⟩
          case measure => simp [intOf]; omega
      · have HSX : Hid (sel B u (mb.take (k + 1)) = sel B u (mb.take k)) := hide (by rw [HTK.out]; exact sel_no (by unfold okP; rw [h1]; rfl) _)
        gi_wp2_with (first | (with_reducible refine skipFn ?_) | (with_reducible refine wideFn ?_))
        go_roundw
        case rel => exact ⟨k + 1, by omega, by go_num, by rw [HSX.out]; exact HJK.out, HS2.out, HP2.out, HI2.out, HR2.out, HN2.out, HAB.out⟩
        case measure => simp [intOf]; omega
    · have hlt : ¬ (k : Int) < (mb.length : Int) := by omega
      have hall : mb.take k = mb := List.take_of_length_le (by omega)
      rw [hall] at HJK
      clear hall
      gi_wp2
      go_end0
      exact ⟨⟨_, rfl⟩, .inl (by rw [HMB.out]; exact HJK.out)⟩
end Go.Proofs.YtgpdjfaklcmoiaaDoor
