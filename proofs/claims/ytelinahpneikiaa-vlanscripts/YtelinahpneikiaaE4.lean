/- Contracts: In, of both. -/
import Derived.Test.YtelinahpneikiaaB3
import Derived.Test.YtelinahpneikiaaE2
namespace Go.Proofs.Ytelinahpneikiaa
open Go.RowKit

theorem nat_rng {T : Tb} (h : Wf T) {k : Nat} : 0 ≤ T.ns.getD k 0 ∧ T.ns.getD k 0 ≤ 4094 := by
  rw [List.getD_eq_getElem?_getD]
  cases hk : T.ns[k]? with
  | none => simp
  | some x => exact h.nat x (List.mem_of_getElem? hk)
theorem vOf_rng {T : Tb} (h : Wf T) {p : Int} {f : Fd} (hr : rt f = true) : 0 ≤ vOf T p f ∧ vOf T p f ≤ 4094 := by
  unfold vOf
  split
  · exact nat_rng h
  · exact rt_vl hr
theorem hs_zero {T : Tb} (h : Wf T) (p : Int) : hs T.l 0 p = false := by
  rw [Bool.eq_false_iff]
  intro hc
  have := (isV_iff 0).1 (h.has hc).1
  omega
section
attribute [local go_sem] FC12 FC13 FC14 FC15 FC16 FC_size ZF
set_option maxRecDepth 100000 in
set_option maxHeartbeats 4000000 in
theorem in17 (h : Nat) (T : Tb) (p : Int) (f : Fd) (a : Option Addr) (n c : Nat) (hl : f.bs.length = n) (w : World) (P : PT w h T) :
    Calls Try.prog 17 #[.pointer (some ⟨h + 2, 0, none⟩), .int .i64 p, .agg (FC f (.slice a n c))] w fun e w' => e = .returned (.tuple #[.int .i64 (inV T p f), .int .i64 (inE T p f)]) ∧ Below w.heap.size w w' := by
  have B0 := below_alloc w (.cells (FC f (.slice a n c)) 37)
  have A0 := hide (Box.new w (fcl f (.slice a n c)) 37)
  have P0 := hide (P.on B0)
  have q1 := fun W H => hasPort33 h T p W H
  have q2 := fun W => right34 f a n c hl W
  have WF := hide P.wf
  clear P
  have BB := hide B0
  clear B0
  have tk1 : True := trivial
  rcases Bool.eq_false_or_eq_true (hp T p) with hh | hh
  · rw [hh] at q1
    rcases Bool.eq_false_or_eq_true (rt f) with hr | hr
    · rw [hr] at q2
      have hv := vOf_rng (p := p) WF.out hr
      have q3 := fun W H => isMember28 h T (vOf T p f) p W ⟨by omega, by omega⟩ (i64_p WF.out hh) H
      have hb := (hp_iff T p).1 hh
      have hn := WF.out.ns
      obtain ⟨k, rfl⟩ := Int.eq_ofNat_of_zero_le hb.1
      have hk : k < T.ns.length := by omega
      have hk' : (k : Int) < T.n := by omega
      have ev : inV T k f = if hs T.l (vOf T k f) k then vOf T k f else 0 := by rw [inV, hh, hr]; rfl
      have ee : inE T k f = if hs T.l (vOf T k f) k then 0 else 4 := by rw [inE, hh, hr]; rfl
      have eo : vOf T k f = if f.vl == 0 then T.ns.getD k 0 else f.vl := by rw [vOf, Int.toNat_natCast]
      have EV2 := hide ev
      have EE2 := hide ee
      have Q3 := hide q3
      clear hh hr hb ev ee hv q3
      go_enter Try.func17, Try.ntmps17
      go_wp2_with (first | (go_at_call 33; refine (q1 _ P0.out).mono ?_; rintro e w' ⟨rfl, rfl⟩) | (have _t := tk1; refine wpl_frame (.tmp 5) rfl A0.out ?_ ?_ ?_; rfl; rfl; clear tk1))
      refine (q2 _).mono ?_
      rintro e w1 ⟨rfl, B1⟩
      have P1 := hide (P0.out.on B1)
      have A1 := A0.out.on B1
      have c13 := A1.cell 13 _ rfl
      have c1 := P1.out.bx.cell 1 _ rfl
      have n1 := P1.out.nt.cell k _ (nsl_get hk)
      have B2 := hide (belowOn BB.out B1)
      clear A0 A1 B1 P0 BB q1 q2
      rcases Bool.eq_false_or_eq_true (f.vl == 0) with h0 | h0
      · have eo' : T.ns.getD k 0 = vOf T k f := by rw [eo, h0]; rfl
        rw [eo'] at n1
        have Q4 := hide (fun W H => Q3.out W H)
        generalize vOf T k f = x at *
        clear eo eo' Q3
        go_wp2_with fail
        refine (Q4.out _ P1.out).mono ?_
        rintro e w2 ⟨rfl, B3⟩
        have B4 := hide (belowOn B2.out B3)
        clear B3 B2 P1 c13 c1 n1 Q4
        rcases Bool.eq_false_or_eq_true (hs T.l x k) with hm | hm
        · rw [hm] at EV2 EE2 ⊢
          clear hm
          go_wp2
          go_ret2
          exact ⟨by rw [EV2.out, EE2.out]; rfl, B4.out⟩
        · rw [hm] at EV2 EE2 ⊢
          clear hm
          go_wp2
          go_ret2
          exact ⟨by rw [EV2.out, EE2.out]; rfl, B4.out⟩
      · have eo' : f.vl = vOf T k f := by rw [eo, h0]; rfl
        have Q4 : Hid (∀ W, PT W h T → Calls Try.prog 28 #[.pointer (some ⟨h + 2, 0, none⟩), .int .i64 f.vl, .int .i64 k] W fun e w' => e = .returned (.bool (hs T.l f.vl k)) ∧ Below W.heap.size W w') := hide (by rw [eo']; exact Q3.out)
        rw [← eo'] at EV2 EE2
        clear eo eo' Q3 n1 c1
        go_wp2_with fail
        refine (Q4.out _ P1.out).mono ?_
        rintro e w2 ⟨rfl, B3⟩
        have B4 := hide (belowOn B2.out B3)
        clear B3 B2 P1 c13 Q4
        rcases Bool.eq_false_or_eq_true (hs T.l f.vl k) with hm | hm
        · rw [hm] at EV2 EE2 ⊢
          clear hm
          go_wp2
          go_ret2
          exact ⟨by rw [EV2.out, EE2.out]; rfl, B4.out⟩
        · rw [hm] at EV2 EE2 ⊢
          clear hm
          go_wp2
          go_ret2
          exact ⟨by rw [EV2.out, EE2.out]; rfl, B4.out⟩
    · rw [hr] at q2
      have ev : inV T p f = 0 := by rw [inV, hh, hr]; rfl
      have ee : inE T p f = 1 := by rw [inE, hh, hr]; rfl
      rw [ev, ee]
      clear hh hr ev ee
      go_enter Try.func17, Try.ntmps17
      go_wp2_with (first | (go_at_call 33; refine (q1 _ P0.out).mono ?_; rintro e w' ⟨rfl, rfl⟩) | (have _t := tk1; refine wpl_frame (.tmp 5) rfl A0.out ?_ ?_ ?_; rfl; rfl; clear tk1))
      refine (q2 _).mono ?_
      rintro e w1 ⟨rfl, B1⟩
      have B2 := hide (belowOn BB.out B1)
      clear A0 B1 P0 BB q1 q2
      go_wp2
      go_ret2
      exact ⟨rfl, B2.out⟩
  · rw [hh] at q1
    have ev : inV T p f = 0 := by rw [inV, hh]; rfl
    have ee : inE T p f = 1 := by rw [inE, hh]; rfl
    rw [ev, ee]
    clear hh ev ee q2
    go_enter Try.func17, Try.ntmps17
    go_wp2_with (first | (go_at_call 33; refine (q1 _ P0.out).mono ?_; rintro e w' ⟨rfl, rfl⟩))
    go_ret2
    exact ⟨rfl, BB.out⟩
end
end Go.Proofs.Ytelinahpneikiaa
