/- Contracts of Put, Learn, Len, New. · The document's table: an entry written anew in its place; put as one contract. -/
import Derived.Test.YtgpdjfaklcmoiaaDoorM02
import Derived.Laws.MakeOwn
/- Contracts of Put, Learn, Len, New. -/
namespace Go.Proofs.YtgpdjfaklcmoiaaDoor
open Go.RowKit Go.PlainAid

/-- What Put and Learn answer, and what they leave. -/
def pT (T : FT) (v : Int) (m : Mc) (p : Int) : FT := if rgt v m p then sT T ⟨v, m, p, 0, true⟩ else T
def pE (T : FT) (v : Int) (m : Mc) (p : Int) : Int := if rgt v m p then sE T ⟨v, m, p, 0, true⟩ else 1
def lOk (v : Int) (m : Mc) (p t : Int) : Bool := rgt v m p && isT t
def lT (T : FT) (v : Int) (m : Mc) (p t : Int) : FT := if lOk v m p t then (if (lk T.l v m).s then T else sT T ⟨v, m, p, t, false⟩) else T
def lE (T : FT) (v : Int) (m : Mc) (p t : Int) : Int := if lOk v m p t then (if (lk T.l v m).s then 0 else sE T ⟨v, m, p, t, false⟩) else 1
def lK (T : FT) (v : Int) (m : Mc) (p t : Int) : Int := if lOk v m p t then (if (lk T.l v m).s then 0 else if full T v m then 0 else if fhs T.l v m then (if (lk T.l v m).p = p then 0 else 2) else 1) else 0
theorem gd_put {v : Int} {m : Mc} {p : Int} (hm : Mok m) (h : rgt v m p = true) : Gd ⟨v, m, p, 0, true⟩ := ⟨hm, h, rfl, fun _ => rfl⟩
theorem gd_learn {v : Int} {m : Mc} {p t : Int} (hm : Mok m) (h : lOk v m p t = true) : Gd ⟨v, m, p, t, false⟩ := by
  rw [lOk, Bool.and_eq_true] at h
  exact ⟨hm, h.1, h.2, fun e => by cases e⟩
theorem mc_def (m : Mc) : MC m = #[.int .u8 m.a, .int .u8 m.b, .int .u8 m.c, .int .u8 m.d, .int .u8 m.e, .int .u8 m.f] := rfl
section
attribute [local go_sem] mc_def
end
theorem ne_i64 {x y : Int} (h : x ≠ y) : (x != y) = true := by simp [h]
theorem lk_static {T : FT} {v : Int} {m : Mc} (h : (lk T.l v m).s = true) : fhs T.l v m = true := by
  rcases Bool.eq_false_or_eq_true (fhs T.l v m) with hh | hh
  · exact hh
  · rw [lk_no _ _ _ hh] at h; cases h
section
attribute [local go_sem] mc_def
set_option maxRecDepth 100000 in
set_option maxHeartbeats 2000000 in
theorem learn16_no (h : Nat) (ps : List En) (T : FT) (v : Int) (m : Mc) (p t : Int) (w : World) (hm : Mok m) (H : PF w h ps T) (hr : lOk v m p t = false) :
    Calls Tryd.prog 57 #[.pointer (some ⟨h + 1, 0, none⟩), .int .i64 v, .agg (MC m), .int .i64 p, .int .i64 t] w fun e w' => e = .returned (.tuple #[.int .i64 0, .int .i64 1]) ∧ Below w.heap.size w w' := by
  have A0 := (box_m w m).at_
  have W0 : Hid (Below w.heap.size w (w.alloc (.cells (MC m) 23))) := hide (below_alloc w _)
  have q1 := fun w => maybe31 v m p w hm
  have q2 := fun w => moment32 t w
  have HH := hide H
  clear H hm
  have tk1 : True := trivial
  rw [lOk] at hr
  rcases Bool.eq_false_or_eq_true (rgt v m p) with hv | hv
  · rw [hv, Bool.true_and] at hr
    rw [hv] at q1
    rw [hr] at q2
    go_enter Tryd.func57, Tryd.ntmps57
    go_wp2_with (first | (have _t := tk1; refine wpl_mac (.tmp 7) rfl A0 ?_ ?_ ?_; rfl; rfl; clear tk1) | (go_at_call 71; refine (q1 _).mono ?_; rintro e w1 ⟨rfl, hb⟩) | (go_at_call 72; refine (q2 _).mono ?_; rintro e w2 ⟨rfl, rfl⟩))
    go_ret2
    exact ⟨rfl, belowOn W0.out hb⟩
  · rw [hv] at q1
    clear q2
    go_enter Tryd.func57, Tryd.ntmps57
    go_wp2_with (first | (have _t := tk1; refine wpl_mac (.tmp 7) rfl A0 ?_ ?_ ?_; rfl; rfl; clear tk1) | (go_at_call 71; refine (q1 _).mono ?_; rintro e w1 ⟨rfl, hb⟩))
    go_ret2
    exact ⟨rfl, belowOn W0.out hb⟩
set_option maxRecDepth 100000 in
set_option maxHeartbeats 4000000 in
theorem learn16_yes (h : Nat) (ps : List En) (T : FT) (v : Int) (m : Mc) (p t : Int) (w : World) (hm : Mok m) (H : PF w h ps T) (hr : lOk v m p t = true) :
    Calls Tryd.prog 57 #[.pointer (some ⟨h + 1, 0, none⟩), .int .i64 v, .agg (MC m), .int .i64 p, .int .i64 t] w fun e w' => e = .returned (.tuple #[.int .i64 (lK T v m p t), .int .i64 (lE T v m p t)]) ∧ (∃ ps', PF w' h ps' (lT T v m p t)) ∧ Mid h (h + 2) w w' := by
  have M0 := (box_m w m)
  have A0 := M0.at_
  have W0 : Hid (Below w.heap.size w (w.alloc (.cells (MC m) 23))) := hide (below_alloc w _)
  have q1 := fun w => maybe31 v m p w hm
  have q2 := fun w => moment32 t w
  have HH := hide H
  have HM0 := hide M0
  have HM := hide hm
  have HR := hide (gd_learn hm hr)
  have eK : lK T v m p t = if (lk T.l v m).s then 0 else if full T v m then 0 else if fhs T.l v m then (if (lk T.l v m).p = p then 0 else 2) else 1 := by rw [lK, hr]; rfl
  have eE : lE T v m p t = if (lk T.l v m).s then 0 else sE T ⟨v, m, p, t, false⟩ := by rw [lE, hr]; rfl
  have eT : lT T v m p t = if (lk T.l v m).s then T else sT T ⟨v, m, p, t, false⟩ := by rw [lT, hr]; rfl
  have HKK := hide eK
  have HEE := hide eE
  have HTT := hide eT
  clear eK eE eT
  generalize lK T v m p t = rK at *
  generalize lE T v m p t = rE at *
  generalize lT T v m p t = rT at *
  rw [lOk, Bool.and_eq_true] at hr
  rw [hr.1] at q1
  rw [hr.2] at q2
  clear H M0 hm hr
  have tk1 : True := trivial
  have tk2 : True := trivial
  have tk3 : True := trivial
  go_enter Tryd.func57, Tryd.ntmps57
  go_wp2_with (first | (have _t := tk1; refine wpl_mac (.tmp 7) rfl A0 ?_ ?_ ?_; rfl; rfl; clear tk1) | (go_at_call 71; refine (q1 _).mono ?_; rintro e w1 ⟨rfl, hb⟩; have A1 := (HM0.out.on hb).at_; have HM1 := hide (HM0.out.on hb); have HB1 := hide (belowOn W0.out hb); clear hb A0) | (go_at_call 72; refine (q2 _).mono ?_; rintro e w2 ⟨rfl, rfl⟩) | (have _t := tk2; refine wpl_mac (.tmp 7) rfl A1 ?_ ?_ ?_; rfl; rfl; clear tk2))
  refine (look11 h ps T v m _ HM.out (HH.out.on HB1.out)).mono ?_
  rintro e w2 ⟨rfl, hb⟩
  have HP2 := hide ((HH.out.on HB1.out).on hb)
  have HM2 := hide (HM1.out.on hb)
  have HB2 := hide (belowOn HB1.out hb)
  clear hb A1 HM1 HB1 HM0 q1 q2 W0
  generalize hxe : lk T.l v m = x at *
  generalize hie : fhs T.l v m = is at *
  have HX := hide hxe
  have HI := hide hie
  clear hxe hie
  go_wp2_with (first | (have _t := tk3; refine wpl_putE x zE (.tmp 12) (.tmp 30) rfl (box_e _ zE) ?_ rfl rfl ?_; rfl; clear tk3))
  intro w3 E3 G3
  have HP3 := hide ((HP2.out.alloc (.cells (EC zE) 103)).keep (fun q h1 h2 => G3.block q (by have := HP2.out.lt; simp; omega) (fun e => by have := Option.some.inj e; have := HP2.out.lt; omega)))
  have M3 := ((HM2.out.alloc (.cells (EC zE) 103)).kept (by have := HM2.out.lt; omega) G3).at_
  have HB3 := hide (below_grown (belowOn HB2.out (below_alloc w2 (.cells (EC zE) 103))) G3 HB2.out.size (by have := HB2.out.size; simp; omega))
  have c9 := E3.cell 9 _ rfl
  have HE3 := hide E3
  have hkx : Hid (h + 2 ≤ w2.heap.size) := hide HP2.out.lt
  clear G3 E3 HP2 HM2 HB2
  generalize w2.heap.size = kx at *
  have HMT := hide (Mid.on (Mid.refl h (h + 2) w) HB3.out)
  rcases Bool.eq_false_or_eq_true x.s with hs1 | hs1
  · have h1 := HKK.out
    have h2 := HEE.out
    have h3 := HTT.out
    rw [hs1, if_pos rfl] at h1 h2 h3
    subst h1 h2 h3
    rw [hs1] at c9
    clear HKK HEE HTT
    go_wp2
    go_ret2
    exact ⟨rfl, ⟨ps, HP3.out⟩, HMT.out⟩
  · rw [hs1] at c9
    have h1 := HKK.out
    have h2 := HEE.out
    have h3 := HTT.out
    rw [hs1, if_neg (by simp)] at h1 h2 h3
    subst h3
    have HK2 := hide h1
    have HE2 := hide h2
    clear HKK HEE HTT h1 h2
    have tk1 : True := trivial
    go_wp2_with (first | (have _t := tk1; refine wpl_mac (.tmp 7) rfl M3 ?_ ?_ ?_; rfl; rfl; clear tk1))
    refine (set33 h ps T ⟨v, m, p, t, false⟩ _ HR.out HP3.out).mono ?_
    rintro e w4 ⟨rfl, F, M⟩
    have FF := hide F
    have E4 := hide (HE3.out.block (M.block kx HE3.out.lt (Or.inr (hkx.out))))
    have c7 := E4.out.cell 7 _ rfl
    have HM4 := hide (Mid.trans HMT.out M)
    clear F M M3 c9
    have HF : Hid (sE T ⟨v, m, p, t, false⟩ = if full T v m then 3 else 0) := hide rfl
    generalize sE T ⟨v, m, p, t, false⟩ = qE at *
    generalize full T v m = fl at *
    have h1 := HK2.out
    have h2 := HE2.out
    have h3 := HF.out
    clear HK2 HE2 HF
    subst h2
    cases fl
    · rw [if_neg (by simp)] at h1 h3
      subst h3
      cases is
      · rw [if_neg (by simp)] at h1
        subst h1
        go_wp2
        go_ret2
        exact ⟨rfl, FF.out, HM4.out⟩
      · rw [if_pos rfl] at h1
        by_cases hp : x.p = p
        · rw [if_pos hp] at h1
          subst h1
          have hp2 : (x.p != p) = false := by simp [hp]
          go_wp2
          go_ret2
          exact ⟨rfl, FF.out, HM4.out⟩
        · rw [if_neg hp] at h1
          subst h1
          have hp2 : (x.p != p) = true := by simp [hp]
          go_wp2
          go_ret2
          exact ⟨rfl, FF.out, HM4.out⟩
    · rw [if_pos rfl] at h1 h3
      subst h1 h3
      go_wp2
      go_ret2
      exact ⟨rfl, FF.out, HM4.out⟩
theorem learn16 (h : Nat) (ps : List En) (T : FT) (v : Int) (m : Mc) (p t : Int) (w : World) (hm : Mok m) (H : PF w h ps T) :
    Calls Tryd.prog 57 #[.pointer (some ⟨h + 1, 0, none⟩), .int .i64 v, .agg (MC m), .int .i64 p, .int .i64 t] w fun e w' => e = .returned (.tuple #[.int .i64 (lK T v m p t), .int .i64 (lE T v m p t)]) ∧ (∃ ps', PF w' h ps' (lT T v m p t)) ∧ Mid h (h + 2) w w' := by
  rcases Bool.eq_false_or_eq_true (lOk v m p t) with hr | hr
  · exact learn16_yes h ps T v m p t w hm H hr
  · refine (learn16_no h ps T v m p t w hm H hr).mono ?_
    rintro e w' ⟨rfl, hb⟩
    rw [lK, lE, lT, hr]
    exact ⟨rfl, ⟨ps, H.on hb⟩, Mid.on (Mid.refl _ _ _) hb⟩
end
end Go.Proofs.YtgpdjfaklcmoiaaDoor
/- The document's table: an entry written anew in its place; put as one contract. -/
namespace Go.Proofs.YtgpdjfaklcmoiaaDoor
open Go.RowKit Go.PlainAid

/-- Values written one behind another. -/
def sm : List Value → Nat → List Value → List Value
  | xs, _, [] => xs
  | xs, o, v :: r => sm (xs.set o v) (o + 1) r
section
end
end Go.Proofs.YtgpdjfaklcmoiaaDoor
