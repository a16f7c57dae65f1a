/- Contracts of mayBe and right; the program's table in memory; next, way, first. · Contracts of Put, Learn, Len, New. · The document's table: an entry written anew in its place; put as one contract. · Contract of the document's Learn. · Contract of the document's Learn, whole. · Plain: a bridge; what comes of a frame. Nothing of the program. · Memory: the document's bridge; what may change, by blocks. · Contracts: has, State, Set, New of the document's bridge. · Contract: New of the document's bridge. · Contract: learn of the document's bridge. · Memory: what goes out, as cells; rows of it. -/
import Derived.Test.YtgpdjfaklcmoiaaGreatM03
import Derived.Test.YtgpdjfaklcmoiaaGreatM04
import Derived.Test.YtgpdjfaklcmoiaaGreatM07
import Derived.Test.YtgpdjfaklcmoiaaGreatM08
import Derived.Test.YtgpdjfaklcmoiaaGreatM01
import Derived.Test.YtgpdjfaklcmoiaaGreatM09
import Derived.Test.YtgpdjfaklcmoiaaGreatM10
import Derived.Deep.RegionLaw
/- Contracts of mayBe and right; the program's table in memory; next, way, first. -/
namespace Go.Proofs.YtgpdjfaklcmoiaaGreat
open Go.RowKit Go.PlainAid

theorem rgt_no {v : Int} {m : Mc} {p : Int} (h : ¬ (1 ≤ v ∧ v ≤ 4094 ∧ 0 ≤ p ∧ p ≤ 1000)) : rgt v m p = false := by
  rw [Bool.eq_false_iff]
  intro e
  have := rgt_v e
  omega
set_option maxRecDepth 100000 in
set_option maxHeartbeats 1000000 in
theorem maybe31 (v : Int) (m : Mc) (p : Int) (w : World) (h : Mok m) :
    Calls Tryz.prog 73 #[.int .i64 v, .agg (MC m), .int .i64 p] w fun e w' => e = .returned (.bool (rgt v m p)) ∧ Below w.heap.size w w' := by
  have A0 := (box_m w m).at_
  have W0 : Hid (Below w.heap.size w (w.alloc (.cells (MC m) 35))) := hide (below_alloc w _)
  by_cases h1 : 1 ≤ v
  · by_cases h2 : v ≤ 4094
    · have q := fun w => group53 m w h
      have e : rgt v m p = (isP p && !grp m) := by simp [rgt, fisV, h1, h2]
      rw [e]
      generalize grp m = g at q ⊢
      have tk1 : True := trivial
      cases g
      · by_cases h3 : 0 ≤ p
        · by_cases h4 : p ≤ 1000
          all_goals
            go_enter Tryz.func73, Tryz.ntmps73
            go_wp2_with (first | (have _t := tk1; refine wpl_mac (.tmp 4) rfl A0 ?_ ?_ ?_; rfl; rfl; clear tk1) | (go_at_call 98; refine (q _).mono ?_; rintro e w1 ⟨rfl, hb⟩))
            go_ret
            exact ⟨ret_bool (by simp [isP, h3, h4]), belowOn W0.out hb⟩
        · go_enter Tryz.func73, Tryz.ntmps73
          go_wp2_with (first | (have _t := tk1; refine wpl_mac (.tmp 4) rfl A0 ?_ ?_ ?_; rfl; rfl; clear tk1) | (go_at_call 98; refine (q _).mono ?_; rintro e w1 ⟨rfl, hb⟩))
          go_ret
          exact ⟨ret_bool (by simp [isP]; omega), belowOn W0.out hb⟩
      · go_enter Tryz.func73, Tryz.ntmps73
        go_wp2_with (first | (have _t := tk1; refine wpl_mac (.tmp 4) rfl A0 ?_ ?_ ?_; rfl; rfl; clear tk1) | (go_at_call 98; refine (q _).mono ?_; rintro e w1 ⟨rfl, hb⟩))
        go_ret
        exact ⟨ret_bool (by simp), belowOn W0.out hb⟩
    · go_enter Tryz.func73, Tryz.ntmps73
      go_wp2
      go_ret
      exact ⟨ret_bool ((rgt_no (by omega)).symm), W0.out⟩
  · go_enter Tryz.func73, Tryz.ntmps73
    go_wp2
    go_ret
    exact ⟨ret_bool ((rgt_no (by omega)).symm), W0.out⟩
set_option maxRecDepth 100000 in
set_option maxHeartbeats 1000000 in
theorem right55 (v : Int) (m : Mc) (p : Int) (w : World) (h : Mok m) :
    Calls Tryz.prog 75 #[.int .i64 v, .agg (MC m), .int .i64 p] w fun e w' => e = .returned (.bool (rgt v m p)) ∧ Below w.heap.size w w' := by
  have A0 := (box_m w m).at_
  have W0 : Hid (Below w.heap.size w (w.alloc (.cells (MC m) 35))) := hide (below_alloc w _)
  by_cases h1 : 1 ≤ v
  · by_cases h2 : v ≤ 4094
    · by_cases h3 : 0 ≤ p
      · by_cases h4 : p ≤ 1000
        · have q := fun w => group22 m w h
          have e : rgt v m p = !grp m := by simp [rgt, fisV, isP, h1, h2, h3, h4]
          rw [e]
          generalize grp m = g at q ⊢
          have tk1 : True := trivial
          go_enter Tryz.func75, Tryz.ntmps75
          go_wp2_with (first | (have _t := tk1; refine wpl_mac (.tmp 4) rfl A0 ?_ ?_ ?_; rfl; rfl; clear tk1) | (go_at_call 25; refine (q _).mono ?_; rintro e w1 ⟨rfl, hb⟩))
          go_ret
          exact ⟨rfl, belowOn W0.out hb⟩
        · go_enter Tryz.func75, Tryz.ntmps75
          go_wp2
          go_ret
          exact ⟨ret_bool ((rgt_no (by omega)).symm), W0.out⟩
      · go_enter Tryz.func75, Tryz.ntmps75
        go_wp2
        go_ret
        exact ⟨ret_bool ((rgt_no (by omega)).symm), W0.out⟩
    · go_enter Tryz.func75, Tryz.ntmps75
      go_wp2
      go_ret
      exact ⟨ret_bool ((rgt_no (by omega)).symm), W0.out⟩
  · go_enter Tryz.func75, Tryz.ntmps75
    go_wp2
    go_ret
    exact ⟨ret_bool ((rgt_no (by omega)).symm), W0.out⟩
end Go.Proofs.YtgpdjfaklcmoiaaGreat
/- Contracts of Put, Learn, Len, New. -/
namespace Go.Proofs.YtgpdjfaklcmoiaaGreat
open Go.RowKit Go.PlainAid

/-- What Put and Learn answer, and what they leave. -/
def pT (T : FT) (v : Int) (m : Mc) (p : Int) : FT := if rgt v m p then sT T ⟨v, m, p, 0, true⟩ else T
def pE (T : FT) (v : Int) (m : Mc) (p : Int) : Int := if rgt v m p then sE T ⟨v, m, p, 0, true⟩ else 1
def lOk (v : Int) (m : Mc) (p t : Int) : Bool := rgt v m p && isT t
def lT (T : FT) (v : Int) (m : Mc) (p t : Int) : FT := if lOk v m p t then (if (lk T.l v m).s then T else sT T ⟨v, m, p, t, false⟩) else T
def lE (T : FT) (v : Int) (m : Mc) (p t : Int) : Int := if lOk v m p t then (if (lk T.l v m).s then 0 else sE T ⟨v, m, p, t, false⟩) else 1
def lK (T : FT) (v : Int) (m : Mc) (p t : Int) : Int := if lOk v m p t then (if (lk T.l v m).s then 0 else if full T v m then 0 else if fhs T.l v m then (if (lk T.l v m).p = p then 0 else 2) else 1) else 0
theorem gd_put {v : Int} {m : Mc} {p : Int} (hm : Mok m) (h : rgt v m p = true) : Gd ⟨v, m, p, 0, true⟩ := ⟨hm, h, rfl, fun _ => rfl⟩
theorem gd_learn {v : Int} {m : Mc} {p t : Int} (hm : Mok m) (h : lOk v m p t = true) : Gd ⟨v, m, p, t, false⟩ := by
  rw [lOk, Bool.and_eq_true] at h
  exact ⟨hm, h.1, h.2, fun e => by cases e⟩
theorem mc_def (m : Mc) : MC m = #[.int .u8 m.a, .int .u8 m.b, .int .u8 m.c, .int .u8 m.d, .int .u8 m.e, .int .u8 m.f] := rfl
section
attribute [local go_sem] mc_def
set_option maxRecDepth 100000 in
set_option maxHeartbeats 2000000 in
theorem put18 (h : Nat) (ps : List En) (T : FT) (v : Int) (m : Mc) (p : Int) (w : World) (hm : Mok m) (H : PF w h ps T) :
    Calls Tryz.prog 48 #[.pointer (some ⟨h + 1, 0, none⟩), .int .i64 v, .agg (MC m), .int .i64 p] w fun e w' => e = .returned (.int .i64 (pE T v m p)) ∧ (∃ ps', PF w' h ps' (pT T v m p)) ∧ Mid h (h + 2) w w' := by
  have M0 := (box_m w m)
  have A0 := M0.at_
  have W0 : Hid (Below w.heap.size w (w.alloc (.cells (MC m) 35))) := hide (below_alloc w _)
  have q1 := fun w => maybe31 v m p w hm
  have HH := hide H
  have HM0 := hide M0
  have HM := hide hm
  clear H M0 hm
  have tk1 : True := trivial
  have tk2 : True := trivial
  rw [pE, pT]
  rcases Bool.eq_false_or_eq_true (rgt v m p) with hr | hr
  · rw [hr] at q1 ⊢
    have HR := hide hr
    clear hr
    go_enter Tryz.func48, Tryz.ntmps48
    go_wp2_with (first | (have _t := tk1; refine wpl_mac (.tmp 6) rfl A0 ?_ ?_ ?_; rfl; rfl; clear tk1))
    refine (q1 _).mono ?_
    rintro e w1 ⟨rfl, hb⟩
    have A1 := (HM0.out.on hb).at_
    have HB1 := hide (belowOn W0.out hb)
    clear hb A0 HM0
    go_wp2_with (first | (have _t := tk2; refine wpl_mac (.tmp 6) rfl A1 ?_ ?_ ?_; rfl; rfl; clear tk2))
    refine (set33 h ps T ⟨v, m, p, 0, true⟩ _ (gd_put HM.out HR.out) (HH.out.on HB1.out)).mono ?_
    rintro e w2 ⟨rfl, F, M⟩
    have FF := hide F
    have HMM := hide (Mid.trans (Mid.on (Mid.refl h (h + 2) w) HB1.out) M)
    clear F M A1
    go_wp2
    go_ret
    exact ⟨rfl, FF.out, HMM.out⟩
  · rw [hr] at q1 ⊢
    go_enter Tryz.func48, Tryz.ntmps48
    go_wp2_with (first | (have _t := tk1; refine wpl_mac (.tmp 6) rfl A0 ?_ ?_ ?_; rfl; rfl; clear tk1))
    refine (q1 _).mono ?_
    rintro e w1 ⟨rfl, hb⟩
    have HB1 := hide (belowOn W0.out hb)
    clear hb A0
    go_wp2
    go_ret
    exact ⟨rfl, ⟨ps, HH.out.on HB1.out⟩, Mid.on (Mid.refl _ _ _) HB1.out⟩
end
theorem ne_i64 {x y : Int} (h : x ≠ y) : (x != y) = true := by simp [h]
theorem lk_static {T : FT} {v : Int} {m : Mc} (h : (lk T.l v m).s = true) : fhs T.l v m = true := by
  rcases Bool.eq_false_or_eq_true (fhs T.l v m) with hh | hh
  · exact hh
  · rw [lk_no _ _ _ hh] at h; cases h
section
attribute [local go_sem] mc_def
set_option maxRecDepth 100000 in
set_option maxHeartbeats 2000000 in
theorem learn16_no (h : Nat) (ps : List En) (T : FT) (v : Int) (m : Mc) (p t : Int) (w : World) (hm : Mok m) (H : PF w h ps T) (hr : lOk v m p t = false) :
    Calls Tryz.prog 105 #[.pointer (some ⟨h + 1, 0, none⟩), .int .i64 v, .agg (MC m), .int .i64 p, .int .i64 t] w fun e w' => e = .returned (.tuple #[.int .i64 0, .int .i64 1]) ∧ Below w.heap.size w w' := by
  have A0 := (box_m w m).at_
  have W0 : Hid (Below w.heap.size w (w.alloc (.cells (MC m) 35))) := hide (below_alloc w _)
  have q1 := fun w => maybe31 v m p w hm
  have q2 := fun w => moment32 t w
  have HH := hide H
  clear H hm
  have tk1 : True := trivial
  rw [lOk] at hr
  rcases Bool.eq_false_or_eq_true (rgt v m p) with hv | hv
  · rw [hv, Bool.true_and] at hr
    rw [hv] at q1
    rw [hr] at q2
    go_enter Tryz.func105, Tryz.ntmps105
    go_wp2_with (first | (have _t := tk1; refine wpl_mac (.tmp 7) rfl A0 ?_ ?_ ?_; rfl; rfl; clear tk1) | (go_at_call 73; refine (q1 _).mono ?_; rintro e w1 ⟨rfl, hb⟩) | (go_at_call 69; refine (q2 _).mono ?_; rintro e w2 ⟨rfl, rfl⟩))
    go_ret2
    exact ⟨rfl, belowOn W0.out hb⟩
  · rw [hv] at q1
    clear q2
    go_enter Tryz.func105, Tryz.ntmps105
    go_wp2_with (first | (have _t := tk1; refine wpl_mac (.tmp 7) rfl A0 ?_ ?_ ?_; rfl; rfl; clear tk1) | (go_at_call 73; refine (q1 _).mono ?_; rintro e w1 ⟨rfl, hb⟩))
    go_ret2
    exact ⟨rfl, belowOn W0.out hb⟩
set_option maxRecDepth 100000 in
set_option maxHeartbeats 4000000 in
theorem learn16_yes (h : Nat) (ps : List En) (T : FT) (v : Int) (m : Mc) (p t : Int) (w : World) (hm : Mok m) (H : PF w h ps T) (hr : lOk v m p t = true) :
    Calls Tryz.prog 105 #[.pointer (some ⟨h + 1, 0, none⟩), .int .i64 v, .agg (MC m), .int .i64 p, .int .i64 t] w fun e w' => e = .returned (.tuple #[.int .i64 (lK T v m p t), .int .i64 (lE T v m p t)]) ∧ (∃ ps', PF w' h ps' (lT T v m p t)) ∧ Mid h (h + 2) w w' := by
  have M0 := (box_m w m)
  have A0 := M0.at_
  have W0 : Hid (Below w.heap.size w (w.alloc (.cells (MC m) 35))) := hide (below_alloc w _)
  have q1 := fun w => maybe31 v m p w hm
  have q2 := fun w => moment32 t w
  have HH := hide H
  have HM0 := hide M0
  have HM := hide hm
  have HR := hide (gd_learn hm hr)
  have eK : lK T v m p t = if (lk T.l v m).s then 0 else if full T v m then 0 else if fhs T.l v m then (if (lk T.l v m).p = p then 0 else 2) else 1 := by rw [lK, hr]; rfl
  have eE : lE T v m p t = if (lk T.l v m).s then 0 else sE T ⟨v, m, p, t, false⟩ := by rw [lE, hr]; rfl
  have eT : lT T v m p t = if (lk T.l v m).s then T else sT T ⟨v, m, p, t, false⟩ := by rw [lT, hr]; rfl
  have HKK := hide eK
  have HEE := hide eE
  have HTT := hide eT
  clear eK eE eT
  generalize lK T v m p t = rK at *
  generalize lE T v m p t = rE at *
  generalize lT T v m p t = rT at *
  rw [lOk, Bool.and_eq_true] at hr
  rw [hr.1] at q1
  rw [hr.2] at q2
  clear H M0 hm hr
  have tk1 : True := trivial
  have tk2 : True := trivial
  have tk3 : True := trivial
  go_enter Tryz.func105, Tryz.ntmps105
  go_wp2_with (first | (have _t := tk1; refine wpl_mac (.tmp 7) rfl A0 ?_ ?_ ?_; rfl; rfl; clear tk1) | (go_at_call 73; refine (q1 _).mono ?_; rintro e w1 ⟨rfl, hb⟩; have A1 := (HM0.out.on hb).at_; have HM1 := hide (HM0.out.on hb); have HB1 := hide (belowOn W0.out hb); clear hb A0) | (go_at_call 69; refine (q2 _).mono ?_; rintro e w2 ⟨rfl, rfl⟩) | (have _t := tk2; refine wpl_mac (.tmp 7) rfl A1 ?_ ?_ ?_; rfl; rfl; clear tk2))
  refine (look11 h ps T v m _ HM.out (HH.out.on HB1.out)).mono ?_
  rintro e w2 ⟨rfl, hb⟩
  have HP2 := hide ((HH.out.on HB1.out).on hb)
  have HM2 := hide (HM1.out.on hb)
  have HB2 := hide (belowOn HB1.out hb)
  clear hb A1 HM1 HB1 HM0 q1 q2 W0
  generalize hxe : lk T.l v m = x at *
  generalize hie : fhs T.l v m = is at *
  have HX := hide hxe
  have HI := hide hie
  clear hxe hie
  go_wp2_with (first | (have _t := tk3; refine wpl_putE x zE (.tmp 12) (.tmp 30) rfl (box_e _ zE) ?_ rfl rfl ?_; rfl; clear tk3))
  intro w3 E3 G3
  have HP3 := hide ((HP2.out.alloc (.cells (EC zE) 61)).keep (fun q h1 h2 => G3.block q (by have := HP2.out.lt; simp; omega) (fun e => by have := Option.some.inj e; have := HP2.out.lt; omega)))
  have M3 := ((HM2.out.alloc (.cells (EC zE) 61)).kept (by have := HM2.out.lt; omega) G3).at_
  have HB3 := hide (below_grown (belowOn HB2.out (below_alloc w2 (.cells (EC zE) 61))) G3 HB2.out.size (by have := HB2.out.size; simp; omega))
  have c9 := E3.cell 9 _ rfl
  have HE3 := hide E3
  have hkx : Hid (h + 2 ≤ w2.heap.size) := hide HP2.out.lt
  clear G3 E3 HP2 HM2 HB2
  generalize w2.heap.size = kx at *
  have HMT := hide (Mid.on (Mid.refl h (h + 2) w) HB3.out)
  rcases Bool.eq_false_or_eq_true x.s with hs1 | hs1
  · have h1 := HKK.out
    have h2 := HEE.out
    have h3 := HTT.out
    rw [hs1, if_pos rfl] at h1 h2 h3
    subst h1 h2 h3
    rw [hs1] at c9
    clear HKK HEE HTT
    go_wp2
    go_ret2
    exact ⟨rfl, ⟨ps, HP3.out⟩, HMT.out⟩
  · rw [hs1] at c9
    have h1 := HKK.out
    have h2 := HEE.out
    have h3 := HTT.out
    rw [hs1, if_neg (by simp)] at h1 h2 h3
    subst h3
    have HK2 := hide h1
    have HE2 := hide h2
    clear HKK HEE HTT h1 h2
    have tk1 : True := trivial
    go_wp2_with (first | (have _t := tk1; refine wpl_mac (.tmp 7) rfl M3 ?_ ?_ ?_; rfl; rfl; clear tk1))
    refine (set33 h ps T ⟨v, m, p, t, false⟩ _ HR.out HP3.out).mono ?_
    rintro e w4 ⟨rfl, F, M⟩
    have FF := hide F
    have E4 := hide (HE3.out.block (M.block kx HE3.out.lt (Or.inr (hkx.out))))
    have c7 := E4.out.cell 7 _ rfl
    have HM4 := hide (Mid.trans HMT.out M)
    clear F M M3 c9
    have HF : Hid (sE T ⟨v, m, p, t, false⟩ = if full T v m then 3 else 0) := hide rfl
    generalize sE T ⟨v, m, p, t, false⟩ = qE at *
    generalize full T v m = fl at *
    have h1 := HK2.out
    have h2 := HE2.out
    have h3 := HF.out
    clear HK2 HE2 HF
    subst h2
    cases fl
    · rw [if_neg (by simp)] at h1 h3
      subst h3
      cases is
      · rw [if_neg (by simp)] at h1
        subst h1
        go_wp2
        go_ret2
        exact ⟨rfl, FF.out, HM4.out⟩
      · rw [if_pos rfl] at h1
        by_cases hp : x.p = p
        · rw [if_pos hp] at h1
          subst h1
          have hp2 : (x.p != p) = false := by simp [hp]
          go_wp2
          go_ret2
          exact ⟨rfl, FF.out, HM4.out⟩
        · rw [if_neg hp] at h1
          subst h1
          have hp2 : (x.p != p) = true := by simp [hp]
          go_wp2
          go_ret2
          exact ⟨rfl, FF.out, HM4.out⟩
    · rw [if_pos rfl] at h1 h3
      subst h1 h3
      go_wp2
      go_ret2
      exact ⟨rfl, FF.out, HM4.out⟩
theorem learn16 (h : Nat) (ps : List En) (T : FT) (v : Int) (m : Mc) (p t : Int) (w : World) (hm : Mok m) (H : PF w h ps T) :
    Calls Tryz.prog 105 #[.pointer (some ⟨h + 1, 0, none⟩), .int .i64 v, .agg (MC m), .int .i64 p, .int .i64 t] w fun e w' => e = .returned (.tuple #[.int .i64 (lK T v m p t), .int .i64 (lE T v m p t)]) ∧ (∃ ps', PF w' h ps' (lT T v m p t)) ∧ Mid h (h + 2) w w' := by
  rcases Bool.eq_false_or_eq_true (lOk v m p t) with hr | hr
  · exact learn16_yes h ps T v m p t w hm H hr
  · refine (learn16_no h ps T v m p t w hm H hr).mono ?_
    rintro e w' ⟨rfl, hb⟩
    rw [lK, lE, lT, hr]
    exact ⟨rfl, ⟨ps, H.on hb⟩, Mid.on (Mid.refl _ _ _) hb⟩
end
end Go.Proofs.YtgpdjfaklcmoiaaGreat
/- The document's table: an entry written anew in its place; put as one contract. -/
namespace Go.Proofs.YtgpdjfaklcmoiaaGreat
open Go.RowKit Go.PlainAid

/-- Values written one behind another. -/
def sm : List Value → Nat → List Value → List Value
  | xs, _, [] => xs
  | xs, o, v :: r => sm (xs.set o v) (o + 1) r
theorem sm_parts : ∀ (B' A B C : List Value), B'.length = B.length → sm (A ++ (B ++ C)) A.length B' = A ++ (B' ++ C)
  | [], A, B, C, h => by
    obtain rfl : B = [] := List.eq_nil_of_length_eq_zero (by simpa using h.symm)
    rfl
  | v :: r, A, B, C, h => by
    cases B with
    | nil => simp at h
    | cons u s =>
      have ih := sm_parts r (A ++ [v]) s C (by simpa using h)
      rw [List.length_append] at ih
      show sm ((A ++ (u :: s ++ C)).set A.length v) (A.length + 1) r = _
      rw [List.set_append_right _ _ (Nat.le_refl _), Nat.sub_self]
      show sm (A ++ (v :: (s ++ C))) (A.length + 1) r = _
      simpa using ih
theorem row_sm : ∀ (vs : List Value) (o : Nat) (w : World) (base b n cap : Nat) (xs : List Value), w.ownsRow base 61 10 (.slice (some ⟨b, 0, none⟩) n cap) n xs → (w.setCells b o vs).ownsRow base 61 10 (.slice (some ⟨b, 0, none⟩) n cap) n (sm xs o vs)
  | [], _, _, _, _, _, _, _, h => h
  | v :: r, o, _, base, b, n, cap, _, h => row_sm r (o + 1) _ base b n cap _ (h.stored o v).1
theorem RF.putAt {w : World} {g b cap : Nat} {T : FT} (H : RF w g (.slice (some ⟨b, 0, none⟩) T.l.length cap) T) {x : En} {k : Nat} (hk : ∃ y, T.l[k]? = some y ∧ ke y = ke x) (hx : Gd x) : RF (w.setCells b (k * 10) (ecl x)) g (.slice (some ⟨b, 0, none⟩) T.l.length cap) ⟨T.n, up T.l x⟩ := by
  obtain ⟨y, hy, he⟩ := hk
  have fhs := up_set H.wf.srt hy he
  have hl : (up T.l x).length = T.l.length := by rw [← fhs, List.length_set]
  obtain ⟨p1, p2, p3, p4, p5⟩ := box_of_row H.row (es_length _)
  refine ⟨H.bx.kept (by omega) (setCells_grown b _ _ w), ?_, up_wf H.wf hx (by rw [hl]; exact H.wf.le)⟩
  show (w.setCells b (k * 10) (ecl x)).ownsRow (g + 1) 61 10 (.slice (some ⟨b, 0, none⟩) T.l.length cap) (up T.l x).length (es (up T.l x))
  rw [hl, ← fhs, es_set x hy]
  have h1 := row_sm (ecl x) (k * 10) w (g + 1) b T.l.length cap (es T.l) H.row
  rw [es_parts hy] at h1
  have h2 := sm_parts (ecl x) (es (T.l.take k)) (ecl y) (es (T.l.drop (k + 1))) rfl
  rw [es_take_len hy] at h2
  rw [h2] at h1
  exact h1
theorem put56 (g : Nat) (lv : Value) (T : FT) (x : En) (w : World) (hx : Gd x) (H : RF w g lv T) (hh : fhs T.l x.v x.m = false) (hl : T.l.length < T.n) :
    Calls Tryz.prog 77 #[.pointer (some ⟨g, 0, none⟩), .agg (EC x)] w fun e w' => e = .returned (.tuple #[]) ∧ (∃ lv', RF w' g lv' ⟨T.n, up T.l x⟩ ∧ Fr [g] lv lv' w w') ∧ Below g w w' := by
  rcases H.at with ⟨rfl, h0⟩ | ⟨b, cap, rfl, hgb, hbl, hn, hmx, hbx⟩
  · exact put56_none g T x w hx H h0
  · exact put56_some g b cap T x w hx H hh hl hn hmx hbx
section
attribute [local go_sem] mc_def
set_option maxRecDepth 100000 in
set_option maxHeartbeats 4000000 in
theorem put40_yes (g : Nat) (lv : Value) (T : FT) (v : Int) (m : Mc) (p : Int) (w : World) (hm : Mok m) (H : RF w g lv T) (hr : rgt v m p = true) :
    Calls Tryz.prog 49 #[.pointer (some ⟨g, 0, none⟩), .int .i64 v, .agg (MC m), .int .i64 p] w fun e w' => e = .returned (.int .i64 (sE T ⟨v, m, p, 0, true⟩)) ∧ (∃ lv', RF w' g lv' (sT T ⟨v, m, p, 0, true⟩) ∧ Fr [g] lv lv' w w') ∧ Below g w w' := by
  have M0 := box_m w m
  have A0 := M0.at_
  have W0 : Hid (Below w.heap.size w (w.alloc (.cells (MC m) 35))) := hide (below_alloc w _)
  have q1 := fun w => right55 v m p w hm
  rw [hr] at q1
  have HXG := hide (gd_put hm hr)
  have HRT0 := hide H
  have HM0 := hide M0
  have hlt := H.lt
  have n2 := H.wf.n2
  have hle := H.wf.le
  clear H M0 hr hm
  have HSE : Hid (sE T ⟨v, m, p, 0, true⟩ = if full T v m then 3 else 0) := hide rfl
  have HST : Hid (sT T ⟨v, m, p, 0, true⟩ = if full T v m then T else ⟨T.n, up T.l ⟨v, m, p, 0, true⟩⟩) := hide rfl
  generalize sE T ⟨v, m, p, 0, true⟩ = qE at *
  generalize sT T ⟨v, m, p, 0, true⟩ = qT at *
  have tk1 : True := trivial
  have tk2 : True := trivial
  have tk3 : True := trivial
  go_enter Tryz.func49, Tryz.ntmps49
  go_wp2_with (first | (have _t := tk1; refine wpl_mac (.tmp 6) rfl A0 ?_ ?_ ?_; rfl; rfl; clear tk1))
  refine (q1 _).mono ?_
  rintro e w1 ⟨rfl, hb⟩
  have HB1 := hide (belowOn W0.out hb)
  have HM1 := hide (HM0.out.on hb)
  have A1 := HM1.out.at_
  clear hb A0 HM0 q1
  go_wp2_with (first | (have _t := tk2; refine wpl_mac (.tmp 6) rfl A1 ?_ ?_ ?_; rfl; rfl; clear tk2) | (have _t := tk3; refine wpl_putE ⟨v, m, p, 0, true⟩ zE (.tmp 10) (.tmp 21) rfl (box_e _ zE) ?_ rfl rfl ?_; rfl; clear tk3))
  intro w2 X2 G2
  have B2a := up2 (Below.refl w1.heap.size w1) G2 (Nat.le_refl _)
  have HB2 := hide (belowOn HB1.out B2a)
  have HM2 := hide (HM1.out.on B2a)
  have A2 := HM2.out.at_
  have HX2 := hide X2
  have hkx : Hid (w.heap.size ≤ w1.heap.size) := hide HB1.out.size
  clear X2 G2 B2a A1 HM1
  have tk4 : True := trivial
  go_wp2_with (first | (have _t := tk4; refine wpl_mac (.tmp 6) rfl A2 ?_ ?_ ?_; rfl; rfl; clear tk4))
  refine (find28 g lv T v m _ (HRT0.out.on HB2.out)).mono ?_
  rintro e W2 ⟨rfl, hb⟩
  have HB := hide (belowOn HB2.out hb)
  have HX := hide (HX2.out.on hb)
  have HR := hide (HRT0.out.on HB.out)
  clear hb A2 HM2 HX2 HB2 HB1 W0
  generalize w1.heap.size = kx at *
  generalize hxe : (⟨v, m, p, 0, true⟩ : En) = x at *
  have HXE := hide hxe
  clear hxe
  rcases Bool.eq_false_or_eq_true (fhs T.l v m) with hh | hh
  · have hf : full T v m = false := by simp [full, hh]
    have h1 := HSE.out
    have h2 := HST.out
    rw [hf, if_neg (by simp)] at h1 h2
    subst h1 h2
    rw [fx_there hh]
    have hix := (fhs_ix T.l v m).1 hh
    have hgt := fix_get T.l v m hh
    have hky := (ky_iff _ _ _).1 (lk_ky T.l v m hh)
    have HKY : Hid (∃ y, T.l[fix T.l v m]? = some y ∧ ke y = ke x) := hide ⟨_, hgt, by rw [← HXE.out]; simp [ke, hky.1, hky.2]⟩
    rcases HRT0.out.at with ⟨_, hl⟩ | ⟨b, cap, rfl, hgb, hbl, hn, hmx, hbx⟩
    · rw [hl] at hh; cases hh
    · have HRT := HR
      have HG := hide HR.out.bx
      have HL := hide (hbx.on HB.out)
      have HA : Hid (fix T.l v m < T.l.length) := hide hix
      have HGB : Hid (g ≠ b) := hide (by omega)
      have HXB : Hid (kx ≠ b) := hide (by have := hkx.out; omega)
      have k2 : (fix T.l v m : Int) < T.l.length := by omega
      unfold maxLen at hmx
      clear hbx hgt hky hf hh HSE HST
      generalize fix T.l v m = k at *
      go_wp2_with fail
      refine wp_region_held_drew (S := fun w' => Box w' g [.int .i64 T.n, .slice (some ⟨b, 0, none⟩) T.l.length cap] ∧ Box w' kx (ecl x)) (by kernel_rfl) ⟨HG.out.drew, HX.out.drew⟩ (fun hHeld => ?_)
      refine wpAnyH_take (i := 0) (v := .pointer (some ⟨g, 0, none⟩)) rfl (by kernel_rfl) (by kernel_rfl) (by kernel_rfl) (fun _ _ _ h => h) (Or.inl ⟨by rfl, ?_⟩) hHeld ?_
      · intro W hW; (try dsimp only at hW); go_simp
      change wpAnyH _ _ _ _ _ _ _ ⟨#[.pointer (some ⟨g, 0, none⟩), _, _, _, _, _, _, _, _, _, .pointer (some ⟨kx, 0, none⟩), .int .i64 (k : Int), _, _, _, _, _, _, _, _, _, _, _, _, _, _, _, _, .pointer (some ⟨g, 0, none⟩), _, _, _, _, _, _, _, _, _, _, _, _, _, _, _, _, _, _, _], []⟩ _
      refine wpAnyH_take (i := 1) (v := .pointer (some ⟨g, 0, none⟩)) rfl (by kernel_rfl) (by kernel_rfl) (by kernel_rfl) (fun _ _ _ h => h) (Or.inl ⟨by rfl, ?_⟩) hHeld ?_
      · intro W hW; (try dsimp only at hW); go_simp
      change wpAnyH _ _ _ _ _ _ _ ⟨#[.pointer (some ⟨g, 0, none⟩), _, _, _, _, _, _, _, _, _, .pointer (some ⟨kx, 0, none⟩), .int .i64 (k : Int), _, _, _, _, _, _, _, _, _, _, _, _, _, _, _, _, .pointer (some ⟨g, 0, none⟩), .pointer (some ⟨g, 0, none⟩), _, _, _, _, _, _, _, _, _, _, _, _, _, _, _, _, _, _], []⟩ _
      refine wpAnyH_take (i := 2) (v := .pointer (some ⟨g, 1, none⟩)) rfl (by kernel_rfl) (by kernel_rfl) (by kernel_rfl) (fun _ _ _ h => h) (Or.inl ⟨by rfl, ?_⟩) hHeld ?_
      · intro W hW; (try dsimp only at hW); go_simp
      change wpAnyH _ _ _ _ _ _ _ ⟨#[.pointer (some ⟨g, 0, none⟩), _, _, _, _, _, _, _, _, _, .pointer (some ⟨kx, 0, none⟩), .int .i64 (k : Int), _, _, _, _, _, _, _, _, _, _, _, _, _, _, _, _, .pointer (some ⟨g, 0, none⟩), .pointer (some ⟨g, 0, none⟩), .pointer (some ⟨g, 1, none⟩), _, _, _, _, _, _, _, _, _, _, _, _, _, _, _, _, _], []⟩ _
      refine wpAnyH_take (i := 3) (v := .slice (some ⟨b, 0, none⟩) T.l.length cap) rfl (by kernel_rfl) (by kernel_rfl) (by kernel_rfl) (fun _ _ _ h => h) (Or.inl ⟨by rfl, ?_⟩) hHeld ?_
      · intro W hW; (try dsimp only at hW); have hc := hW.1.cell 1 _ rfl; clear hW; go_simp
      change wpAnyH _ _ _ _ _ _ _ ⟨#[.pointer (some ⟨g, 0, none⟩), _, _, _, _, _, _, _, _, _, .pointer (some ⟨kx, 0, none⟩), .int .i64 (k : Int), _, _, _, _, _, _, _, _, _, _, _, _, _, _, _, _, .pointer (some ⟨g, 0, none⟩), .pointer (some ⟨g, 0, none⟩), .pointer (some ⟨g, 1, none⟩), .slice (some ⟨b, 0, none⟩) T.l.length cap, _, _, _, _, _, _, _, _, _, _, _, _, _, _, _, _], []⟩ _
      refine wpAnyH_take (i := 4) (v := .int .i64 (k : Int)) rfl (by kernel_rfl) (by kernel_rfl) (by kernel_rfl) (fun _ _ _ h => h) (Or.inl ⟨by rfl, ?_⟩) hHeld ?_
      · intro W hW; (try dsimp only at hW); go_simp
      change wpAnyH _ _ _ _ _ _ _ ⟨#[.pointer (some ⟨g, 0, none⟩), _, _, _, _, _, _, _, _, _, .pointer (some ⟨kx, 0, none⟩), .int .i64 (k : Int), _, _, _, _, _, _, _, _, _, _, _, _, _, _, _, _, .pointer (some ⟨g, 0, none⟩), .pointer (some ⟨g, 0, none⟩), .pointer (some ⟨g, 1, none⟩), .slice (some ⟨b, 0, none⟩) T.l.length cap, .int .i64 (k : Int), _, _, _, _, _, _, _, _, _, _, _, _, _, _, _], []⟩ _
      refine wpAnyH_take (i := 5) (v := .agg (EC x)) rfl (by kernel_rfl) (by kernel_rfl) (by kernel_rfl) (fun _ _ _ h => h) (yieldsIf_load_mid (by rfl) 61 (.tmp 10) rfl kx 0 rfl (ecl x) _ (fun W hW => hW.2.at_) Tryz.underlying61 rfl Tryz.size61) hHeld ?_
      change wpAnyH _ _ _ _ _ _ _ ⟨#[.pointer (some ⟨g, 0, none⟩), _, _, _, _, _, _, _, _, _, .pointer (some ⟨kx, 0, none⟩), .int .i64 (k : Int), _, _, _, _, _, _, _, _, _, _, _, _, _, _, _, _, .pointer (some ⟨g, 0, none⟩), .pointer (some ⟨g, 0, none⟩), .pointer (some ⟨g, 1, none⟩), .slice (some ⟨b, 0, none⟩) T.l.length cap, .int .i64 (k : Int), .agg (EC x), _, _, _, _, _, _, _, _, _, _, _, _, _, _], []⟩ _
      refine wpAnyH_take (i := 6) (v := .pointer (some ⟨b, k * 10, none⟩)) rfl (by kernel_rfl) (by kernel_rfl) (by kernel_rfl) (fun _ _ _ h => h) (Or.inl ⟨by rfl, ?_⟩) hHeld ?_
      · intro W hW; (try dsimp only at hW); go_simp
      change wpAnyH _ _ _ _ _ _ _ ⟨#[.pointer (some ⟨g, 0, none⟩), _, _, _, _, _, _, _, _, _, .pointer (some ⟨kx, 0, none⟩), .int .i64 (k : Int), _, _, _, _, _, _, _, _, _, _, _, _, _, _, _, _, .pointer (some ⟨g, 0, none⟩), .pointer (some ⟨g, 0, none⟩), .pointer (some ⟨g, 1, none⟩), .slice (some ⟨b, 0, none⟩) T.l.length cap, .int .i64 (k : Int), .agg (EC x), .pointer (some ⟨b, k * 10, none⟩), _, _, _, _, _, _, _, _, _, _, _, _, _], []⟩ _
      refine wpAnyH_ready (rs := [7]) (by kernel_rfl) (by simp) ?_
      refine AllReadyH.cons rfl (fun K hK => ?_) AllReadyH.nil
      rw [if_pos (by rfl)]
      refine wp_store_mid 61 (.tmp 34) (.tmp 33) rfl b (k * 10) (EC x) rfl rfl (HL.out.drew.thE HA.out) Tryz.size61 (one_EC x) ?_
      have F := hide (HRT.out.drew.putAt HKY.out HXG.out)
      have G3 := setCells_grown b (ecl x) (k * 10) W2.drew
      refine hK.out _ _ ⟨HG.out.drew.kept HGB.out G3, HX.out.drew.kept HXB.out G3⟩ (fun hHeld => ?_)
      clear hK K hHeld
      obtain ⟨w4, hw4⟩ : ∃ w4, w4 = World.setCells W2.drew b (k * 10) (ecl x) := ⟨_, rfl⟩
      rw [← hw4] at F G3
      have e4 : World.setCells W2.drew b (k * 10) (EC x).toList = w4 := by rw [hw4]; rfl
      rw [e4]
      have HG3 := hide G3
      clear e4 hw4 G3
      change wpAnyH _ _ _ _ _ _ _ ⟨#[.pointer (some ⟨g, 0, none⟩), _, _, _, _, _, _, _, _, _, .pointer (some ⟨kx, 0, none⟩), .int .i64 (k : Int), _, _, _, _, _, _, _, _, _, _, _, _, _, _, _, _, .pointer (some ⟨g, 0, none⟩), .pointer (some ⟨g, 0, none⟩), .pointer (some ⟨g, 1, none⟩), .slice (some ⟨b, 0, none⟩) T.l.length cap, .int .i64 (k : Int), .agg (EC x), .pointer (some ⟨b, k * 10, none⟩), _, _, _, _, _, _, _, _, _, _, _, _, _], []⟩ _
      refine wpAnyH_done (by kernel_rfl) ?_ _
      go_wp2
      go_ret
      exact ⟨rfl, ⟨_, F.out, Fr.pre HB.out (Fr.grown (grown_drew' HG3.out) rfl)⟩, (HB.out.mono (by omega)).grown (grown_drew' HG3.out) (by have := HB.out.size; omega) (fun r hr => by have := Option.some.inj hr; omega)⟩
  · rw [fx_none hh]
    obtain ⟨ao, c, rfl, -, -⟩ := HRT0.out.ers
    have c1 := HR.out.bx.cell 1 _ rfl
    have c0 := HR.out.bx.cell 0 _ rfl
    have HHS := hide hh
    by_cases hl : T.l.length < T.n
    · have hf : full T v m = false := by simp [full, hh]; omega
      have h1 := HSE.out
      have h2 := HST.out
      rw [hf, if_neg (by simp)] at h1 h2
      subst h1 h2
      have hq : ¬ (T.n : Int) ≤ T.l.length := by omega
      have HLL := hide hl
      clear hl hh hf HSE HST
      have tk1 : True := trivial
      go_wp2_with fail
      go_quiet (fail)
      have HX3 := (HX.out.drewN nq).at_
      have HR3 : Hid (RF (W2.drewN nq) g (.slice ao T.l.length c) T) := hide (HR.out.on ⟨rfl, rfl, rfl, Nat.le_refl _, fun _ _ => rfl⟩)
      have HB3 : Hid (Below w.heap.size w (W2.drewN nq)) := hide (HB.out.trans ⟨rfl, rfl, rfl, Nat.le_refl _, fun _ _ => rfl⟩)
      go_wp2_with (first | (have _t := tk1; refine wpl_ent (.tmp 10) rfl HX3 ?_ ?_ ?_; rfl; rfl; clear tk1))
      refine (put56 g _ T x _ HXG.out HR3.out (by rw [← HXE.out]; exact HHS.out) HLL.out).mono ?_
      rintro e w5 ⟨rfl, F, B5⟩
      have HF := hide F
      have HB5 := hide ((HB3.out.mono (by omega)).trans B5)
      clear F B5 c0 c1 HX3
      go_wp2
      go_ret
      exact ⟨rfl, fr_pre HB3.out HF.out, HB5.out⟩
    · have hf : full T v m = true := by simp [full, hh]; omega
      have h1 := HSE.out
      have h2 := HST.out
      rw [hf, if_pos rfl] at h1 h2
      subst h1
      have HQT := hide h2
      have hq : (T.n : Int) ≤ T.l.length := by omega
      clear hl hh hf HSE HST h2
      go_wp2_with fail
      go_quiet (fail)
      go_wp2
      go_ret
      exact ⟨rfl, ⟨_, by rw [HQT.out]; exact HR.out.on ⟨rfl, rfl, rfl, Nat.le_refl _, fun _ _ => rfl⟩, Fr.below (HB.out.trans ⟨rfl, rfl, rfl, Nat.le_refl _, fun _ _ => rfl⟩)⟩, (HB.out.mono (by omega)).trans ⟨rfl, rfl, rfl, Nat.le_refl _, fun _ _ => rfl⟩⟩
end
set_option maxRecDepth 100000 in
set_option maxHeartbeats 1000000 in
theorem put40_no (g : Nat) (v : Int) (m : Mc) (p : Int) (w : World) (hm : Mok m) (hr : rgt v m p = false) :
    Calls Tryz.prog 49 #[.pointer (some ⟨g, 0, none⟩), .int .i64 v, .agg (MC m), .int .i64 p] w fun e w' => e = .returned (.int .i64 1) ∧ Below w.heap.size w w' := by
  have A0 := (box_m w m).at_
  have W0 : Hid (Below w.heap.size w (w.alloc (.cells (MC m) 35))) := hide (below_alloc w _)
  have q1 := fun w => right55 v m p w hm
  rw [hr] at q1
  clear hr
  have tk1 : True := trivial
  go_enter Tryz.func49, Tryz.ntmps49
  go_wp2_with (first | (have _t := tk1; refine wpl_mac (.tmp 6) rfl A0 ?_ ?_ ?_; rfl; rfl; clear tk1))
  refine (q1 _).mono ?_
  rintro e w1 ⟨rfl, hb⟩
  have HB1 := hide (belowOn W0.out hb)
  clear hb A0 q1
  go_wp2
  go_ret
  exact ⟨rfl, HB1.out⟩
theorem put40 (g : Nat) (lv : Value) (T : FT) (v : Int) (m : Mc) (p : Int) (w : World) (hm : Mok m) (H : RF w g lv T) :
    Calls Tryz.prog 49 #[.pointer (some ⟨g, 0, none⟩), .int .i64 v, .agg (MC m), .int .i64 p] w fun e w' => e = .returned (.int .i64 (pE T v m p)) ∧ (∃ lv', RF w' g lv' (pT T v m p) ∧ Fr [g] lv lv' w w') ∧ Below g w w' := by
  rcases Bool.eq_false_or_eq_true (rgt v m p) with hr | hr
  · rw [pE, pT, hr]
    exact put40_yes g lv T v m p w hm H hr
  · rw [pE, pT, hr]
    refine (put40_no g v m p w hm hr).mono ?_
    rintro e w' ⟨rfl, hb⟩
    exact ⟨rfl, ⟨lv, H.on hb, Fr.below hb⟩, hb.mono (Nat.le_of_succ_le H.lt)⟩
end Go.Proofs.YtgpdjfaklcmoiaaGreat
/- Contract of the document's Learn. -/
namespace Go.Proofs.YtgpdjfaklcmoiaaGreat
open Go.RowKit Go.PlainAid

theorem ecl_parts (x : En) : ecl x = (.int .i64 x.v :: mcl x.m) ++ ([.int .i64 x.p, .int .i64 x.t] ++ [.bool x.s]) := rfl
theorem RF.learnAt {w : World} {g b cap : Nat} {T : FT} (H : RF w g (.slice (some ⟨b, 0, none⟩) T.l.length cap) T) {y : En} {k : Nat} {v p t : Int} {m : Mc} (hy : T.l[k]? = some y) (hv : y.v = v) (hm : y.m = m) (fhs : y.s = false) (hx : Gd ⟨v, m, p, t, false⟩) :
    RF ((w.setCell ⟨b, k * 10 + 7, none⟩ (.int .i64 p)).setCell ⟨b, k * 10 + 8, none⟩ (.int .i64 t)) g (.slice (some ⟨b, 0, none⟩) T.l.length cap) ⟨T.n, up T.l ⟨v, m, p, t, false⟩⟩ ∧ w.grownBy ((w.setCell ⟨b, k * 10 + 7, none⟩ (.int .i64 p)).setCell ⟨b, k * 10 + 8, none⟩ (.int .i64 t)) (some b) := by
  have he : ke y = ke ⟨v, m, p, t, false⟩ := by simp [ke, hv, hm]
  have hs1 := up_set H.wf.srt hy he
  have hl : (up T.l ⟨v, m, p, t, false⟩).length = T.l.length := by rw [← hs1, List.length_set]
  obtain ⟨p1, p2, p3, p4, p5⟩ := box_of_row H.row (es_length _)
  have hG := setCells_grown b [.int .i64 p, .int .i64 t] (k * 10 + 7) w
  refine ⟨⟨H.bx.kept (by omega) hG, ?_, up_wf H.wf hx (by rw [hl]; exact H.wf.le)⟩, hG⟩
  show World.ownsRow _ (g + 1) 61 10 (.slice (some ⟨b, 0, none⟩) T.l.length cap) (up T.l ⟨v, m, p, t, false⟩).length (es (up T.l ⟨v, m, p, t, false⟩))
  rw [hl, ← hs1, es_set ⟨v, m, p, t, false⟩ hy]
  have h1 := row_sm [.int .i64 p, .int .i64 t] (k * 10 + 7) w (g + 1) b T.l.length cap (es T.l) H.row
  have e1 : es T.l = (es (T.l.take k) ++ (.int .i64 y.v :: mcl y.m)) ++ ([.int .i64 y.p, .int .i64 y.t] ++ ([.bool y.s] ++ es (T.l.drop (k + 1)))) := by
    rw [es_parts hy, ecl_parts y]
    simp only [List.append_assoc]
  have h2 := sm_parts [.int .i64 p, .int .i64 t] (es (T.l.take k) ++ (.int .i64 y.v :: mcl y.m)) [.int .i64 y.p, .int .i64 y.t] ([.bool y.s] ++ es (T.l.drop (k + 1))) rfl
  have e2 : (es (T.l.take k) ++ (.int .i64 y.v :: mcl y.m)).length = k * 10 + 7 := by rw [List.length_append, es_take_len hy]; rfl
  rw [e2, ← e1] at h2
  rw [h2] at h1
  have e3 : es (T.l.take k) ++ (ecl ⟨v, m, p, t, false⟩ ++ es (T.l.drop (k + 1))) = (es (T.l.take k) ++ (.int .i64 y.v :: mcl y.m)) ++ ([.int .i64 p, .int .i64 t] ++ ([.bool y.s] ++ es (T.l.drop (k + 1)))) := by
    rw [ecl_parts ⟨v, m, p, t, false⟩, hv, hm, fhs]
    simp only [List.append_assoc]
  rw [e3]
  exact h1
section
set_option maxRecDepth 100000 in
set_option maxHeartbeats 2000000 in
theorem learn39_no (g : Nat) (v : Int) (m : Mc) (p t : Int) (w : World) (hm : Mok m) (hr : lOk v m p t = false) :
    Calls Tryz.prog 114 #[.pointer (some ⟨g, 0, none⟩), .int .i64 v, .agg (MC m), .int .i64 p, .int .i64 t] w fun e w' => e = .returned (.tuple #[.int .i64 0, .int .i64 1]) ∧ Below w.heap.size w w' := by
  have A0 := (box_m w m).at_
  have W0 : Hid (Below w.heap.size w (w.alloc (.cells (MC m) 35))) := hide (below_alloc w _)
  have q1 := fun w => right55 v m p w hm
  rw [lOk] at hr
  have tk1 : True := trivial
  rcases Bool.eq_false_or_eq_true (rgt v m p) with hv | hv
  · rw [hv, Bool.true_and] at hr
    rw [hv] at q1
    have hc : t < 0 ∨ 1099511627776 < t := by
      have h : ¬ (0 ≤ t ∧ t ≤ 1099511627776) := fun h => by rw [isT_iff.2 h] at hr; cases hr
      omega
    clear hr
    by_cases h1 : t < 0
    · clear hc
      go_enter Tryz.func114, Tryz.ntmps114
      go_wp2_with (first | (have _t := tk1; refine wpl_mac (.tmp 7) rfl A0 ?_ ?_ ?_; rfl; rfl; clear tk1) | (go_at_call 75; refine (q1 _).mono ?_; rintro e w1 ⟨rfl, hb⟩))
      go_ret2
      exact ⟨rfl, belowOn W0.out hb⟩
    · have h2 : 1099511627776 < t := by omega
      clear hc
      go_enter Tryz.func114, Tryz.ntmps114
      go_wp2_with (first | (have _t := tk1; refine wpl_mac (.tmp 7) rfl A0 ?_ ?_ ?_; rfl; rfl; clear tk1) | (go_at_call 75; refine (q1 _).mono ?_; rintro e w1 ⟨rfl, hb⟩))
      go_ret2
      exact ⟨rfl, belowOn W0.out hb⟩
  · rw [hv] at q1
    clear hr
    go_enter Tryz.func114, Tryz.ntmps114
    go_wp2_with (first | (have _t := tk1; refine wpl_mac (.tmp 7) rfl A0 ?_ ?_ ?_; rfl; rfl; clear tk1) | (go_at_call 75; refine (q1 _).mono ?_; rintro e w1 ⟨rfl, hb⟩))
    go_ret2
    exact ⟨rfl, belowOn W0.out hb⟩
end
end Go.Proofs.YtgpdjfaklcmoiaaGreat
/- Contract of the document's Learn, whole. -/
namespace Go.Proofs.YtgpdjfaklcmoiaaGreat
open Go.RowKit Go.PlainAid

section
attribute [local go_sem] mc_def
set_option maxRecDepth 100000 in
set_option maxHeartbeats 4000000 in
theorem learn39_yes (g : Nat) (lv : Value) (T : FT) (v : Int) (m : Mc) (p t : Int) (w : World) (hm : Mok m) (H : RF w g lv T) (hr : lOk v m p t = true) :
    Calls Tryz.prog 114 #[.pointer (some ⟨g, 0, none⟩), .int .i64 v, .agg (MC m), .int .i64 p, .int .i64 t] w fun e w' => e = .returned (.tuple #[.int .i64 (lK T v m p t), .int .i64 (lE T v m p t)]) ∧ (∃ lv', RF w' g lv' (lT T v m p t) ∧ Fr [g] lv lv' w w') ∧ Below g w w' := by
  have M0 := box_m w m
  have A0 := M0.at_
  have W0 : Hid (Below w.heap.size w (w.alloc (.cells (MC m) 35))) := hide (below_alloc w _)
  have q1 := fun w => right55 v m p w hm
  have HXG := hide (gd_learn hm hr)
  have HKK : Hid (lK T v m p t = if (lk T.l v m).s then 0 else if full T v m then 0 else if fhs T.l v m then (if (lk T.l v m).p = p then 0 else 2) else 1) := hide (by rw [lK, hr]; rfl)
  have HEE : Hid (lE T v m p t = if (lk T.l v m).s then 0 else if full T v m then 3 else 0) := hide (by rw [lE, hr]; rfl)
  have HTT : Hid (lT T v m p t = if (lk T.l v m).s then T else if full T v m then T else ⟨T.n, up T.l ⟨v, m, p, t, false⟩⟩) := hide (by rw [lT, hr]; rfl)
  generalize lK T v m p t = rK at *
  generalize lE T v m p t = rE at *
  generalize lT T v m p t = rT at *
  rw [lOk, Bool.and_eq_true, isT_iff] at hr
  rw [hr.1] at q1
  have t0 : ¬ t < 0 := by omega
  have t1 : ¬ 1099511627776 < t := by omega
  have HRT0 := hide H
  have HM0 := hide M0
  have hlt := H.lt
  have n2 := H.wf.n2
  have hle := H.wf.le
  clear H M0 hr hm
  have tk1 : True := trivial
  have tk2 : True := trivial
  go_enter Tryz.func114, Tryz.ntmps114
  go_wp2_with (first | (have _t := tk1; refine wpl_mac (.tmp 7) rfl A0 ?_ ?_ ?_; rfl; rfl; clear tk1))
  refine (q1 _).mono ?_
  rintro e w1 ⟨rfl, hb⟩
  have HB1 := hide (belowOn W0.out hb)
  have HM1 := hide (HM0.out.on hb)
  have A1 := HM1.out.at_
  clear hb A0 HM0 q1
  go_wp2_with (first | (have _t := tk2; refine wpl_mac (.tmp 7) rfl A1 ?_ ?_ ?_; rfl; rfl; clear tk2))
  refine (find28 g lv T v m _ (HRT0.out.on HB1.out)).mono ?_
  rintro e W2 ⟨rfl, hb⟩
  have HB := hide (belowOn HB1.out hb)
  have HM2 := hide (HM1.out.on hb)
  have HR := hide (HRT0.out.on HB.out)
  clear hb A1 HM1 HB1 W0
  rcases Bool.eq_false_or_eq_true (fhs T.l v m) with hh | hh
  · have hf : full T v m = false := by simp [full, hh]
    have h1 := HKK.out
    have h2 := HEE.out
    have h3 := HTT.out
    simp only [hf, hh, Bool.false_eq_true, if_false, if_true] at h1
    simp only [hf, Bool.false_eq_true, if_false] at h2 h3
    rw [fx_there hh]
    have hix := (fhs_ix T.l v m).1 hh
    have hgt := fix_get T.l v m hh
    have hky := (ky_iff _ _ _).1 (lk_ky T.l v m hh)
    rcases HRT0.out.at with ⟨_, hl⟩ | ⟨b, cap, rfl, hgb, hbl, hn, hmx, hbx⟩
    · rw [hl] at hh; cases hh
    · have hb2 := hbx.on HB.out
      obtain ⟨-, -, -, -, -, -, -, d7, d8, d9⟩ := range_cells (hb2.ent hgt)
      have f7 := (hb2.thE hix 7 (by omega)).2
      have f8 := (hb2.thE hix 8 (by omega)).2
      have c1 := HR.out.bx.cell 1 _ rfl
      have k2 : (fix T.l v m : Int) < T.l.length := by omega
      have HGT := hide hgt
      have HKY := hide hky
      unfold maxLen at hmx
      clear hbx hgt hky hf hh hb2 HKK HEE HTT
      generalize fix T.l v m = k at *
      generalize lk T.l v m = y at *
      rcases Bool.eq_false_or_eq_true y.s with hs1 | hs1
      · rw [hs1, if_pos rfl] at h1 h2 h3
        subst h1 h2
        have HT3 := hide h3
        rw [hs1] at d9
        clear h3
        go_wp2
        go_ret2
        exact ⟨rfl, ⟨_, by rw [HT3.out]; exact HR.out, Fr.below HB.out⟩, HB.out.mono (by omega)⟩
      · rw [hs1, if_neg (by simp)] at h1 h2 h3
        subst h2
        have HT3 := hide h3
        have HK3 := hide h1
        rw [hs1] at d9
        have F := hide (HR.out.learnAt (p := p) (t := t) HGT.out HKY.out.1 HKY.out.2 hs1 HXG.out)
        have g1 : ¬ b = g := by omega
        have g2 : ¬ g = b := by omega
        clear h1 h3
        by_cases hp : y.p = p
        · have hp2 : (y.p == p) = true := by simp [hp]
          go_wp2
          go_ret2
          have e := HK3.out
          rw [if_pos hp] at e
          rw [e]
          exact ⟨rfl, ⟨_, by rw [HT3.out]; exact F.out.1, Fr.pre HB.out (Fr.grown F.out.2 rfl)⟩, (HB.out.mono (by omega)).grown F.out.2 (by have := HB.out.size; omega) (fun r hr => by have := Option.some.inj hr; omega)⟩
        · have hp2 : (y.p == p) = false := by simp [hp]
          go_wp2
          go_ret2
          have e := HK3.out
          rw [if_neg hp] at e
          rw [e]
          exact ⟨rfl, ⟨_, by rw [HT3.out]; exact F.out.1, Fr.pre HB.out (Fr.grown F.out.2 rfl)⟩, (HB.out.mono (by omega)).grown F.out.2 (by have := HB.out.size; omega) (fun r hr => by have := Option.some.inj hr; omega)⟩
  · rw [fx_none hh]
    obtain ⟨ao, c, rfl, -, -⟩ := HRT0.out.ers
    have c1 := HR.out.bx.cell 1 _ rfl
    have c0 := HR.out.bx.cell 0 _ rfl
    have h1 := HKK.out
    have h2 := HEE.out
    have h3 := HTT.out
    rw [lk_no _ _ _ hh, show zE.s = false from rfl] at h1 h2 h3
    simp only [hh, Bool.false_eq_true, if_false] at h1 h2 h3
    have HHS := hide hh
    by_cases hl : T.l.length < T.n
    · have hf : full T v m = false := by simp [full, hh]; omega
      simp only [hf, Bool.false_eq_true, if_false] at h1 h2 h3
      subst h1 h2
      have HT3 := hide h3
      have hq : ¬ (T.n : Int) ≤ T.l.length := by omega
      have HLL := hide hl
      clear hl hh hf HKK HEE HTT h3
      have tk1 : True := trivial
      go_wp2_with fail
      go_quiet (fail)
      have HM3 := (HM2.out.drewN nq).at_
      have HR3 : Hid (RF (W2.drewN nq) g (.slice ao T.l.length c) T) := hide (HR.out.on ⟨rfl, rfl, rfl, Nat.le_refl _, fun _ _ => rfl⟩)
      have HB3 : Hid (Below w.heap.size w (W2.drewN nq)) := hide (HB.out.trans ⟨rfl, rfl, rfl, Nat.le_refl _, fun _ _ => rfl⟩)
      go_wp2_with (first | (have _t := tk1; refine wpl_mac (.tmp 7) rfl HM3 ?_ ?_ ?_; rfl; rfl; clear tk1))
      refine (put56 g _ T ⟨v, m, p, t, false⟩ _ HXG.out HR3.out HHS.out HLL.out).mono ?_
      rintro e w5 ⟨rfl, F, B5⟩
      have HF := hide F
      have HB5 := hide ((HB3.out.mono (by omega)).trans B5)
      clear F B5 c0 c1 HM3
      go_wp2
      go_ret2
      exact ⟨rfl, by rw [HT3.out]; exact fr_pre HB3.out HF.out, HB5.out⟩
    · have hf : full T v m = true := by simp [full, hh]; omega
      simp only [hf, if_true] at h1 h2 h3
      subst h1 h2
      have HT3 := hide h3
      have hq : (T.n : Int) ≤ T.l.length := by omega
      clear hl hh hf HKK HEE HTT h3
      go_wp2_with fail
      go_quiet (fail)
      go_wp2
      go_ret2
      exact ⟨rfl, ⟨_, by rw [HT3.out]; exact HR.out.on ⟨rfl, rfl, rfl, Nat.le_refl _, fun _ _ => rfl⟩, Fr.below (HB.out.trans ⟨rfl, rfl, rfl, Nat.le_refl _, fun _ _ => rfl⟩)⟩, (HB.out.mono (by omega)).trans ⟨rfl, rfl, rfl, Nat.le_refl _, fun _ _ => rfl⟩⟩
theorem learn39 (g : Nat) (lv : Value) (T : FT) (v : Int) (m : Mc) (p t : Int) (w : World) (hm : Mok m) (H : RF w g lv T) :
    Calls Tryz.prog 114 #[.pointer (some ⟨g, 0, none⟩), .int .i64 v, .agg (MC m), .int .i64 p, .int .i64 t] w fun e w' => e = .returned (.tuple #[.int .i64 (lK T v m p t), .int .i64 (lE T v m p t)]) ∧ (∃ lv', RF w' g lv' (lT T v m p t) ∧ Fr [g] lv lv' w w') ∧ Below g w w' := by
  rcases Bool.eq_false_or_eq_true (lOk v m p t) with hr | hr
  · exact learn39_yes g lv T v m p t w hm H hr
  · refine (learn39_no g v m p t w hm hr).mono ?_
    rintro e w' ⟨rfl, hb⟩
    rw [lK, lE, lT, hr]
    exact ⟨rfl, ⟨lv, H.on hb, Fr.below hb⟩, hb.mono (Nat.le_of_succ_le H.lt)⟩
end
end Go.Proofs.YtgpdjfaklcmoiaaGreat
/- Plain: a bridge; what comes of a frame. Nothing of the program. -/
namespace Go.Proofs.YtgpdjfaklcmoiaaGreat
open Go.RowKit Go.PlainAid

def mD (f : Fd) : Mc := ⟨f.d0, f.d1, f.d2, f.d3, f.d4, f.d5⟩
def mS (f : Fd) : Mc := ⟨f.s0, f.s1, f.s2, f.s3, f.s4, f.s5⟩
theorem dcl_mcl (f : Fd) : dcl f = mcl (mD f) := rfl
theorem scl_mcl (f : Fd) : scl f = mcl (mS f) := rfl
/-- A bridge: its ports, its tables, its ports' states, how often each cause was told, how learning went. -/
structure Br where
  n : Nat
  V : Tb
  F : FT
  st : List Int
  ct : List Int
  ln : List Int
def hasP (n : Nat) (p : Int) : Bool := decide (1 ≤ p ∧ p ≤ n)
theorem hasP_iff (n : Nat) (p : Int) : hasP n p = true ↔ 1 ≤ p ∧ p ≤ n := by simp [hasP]
theorem hasP_no (n : Nat) (p : Int) : hasP n p = false ↔ ¬ (1 ≤ p ∧ p ≤ n) := by rw [← hasP_iff, Bool.eq_false_iff]
def isS (s : Int) : Bool := decide (0 ≤ s ∧ s ≤ 2)
theorem isS_iff (s : Int) : isS s = true ↔ 0 ≤ s ∧ s ≤ 2 := by simp [isS]
def sta (B : Br) (p : Int) : Int := if hasP B.n p then B.st.getD p.toNat 0 else 0
def tSet (B : Br) (p s : Int) : Br := if hasP B.n p && isS s then { B with st := B.st.set p.toNat s } else B
def eSet (B : Br) (p s : Int) : Int := if hasP B.n p && isS s then 0 else 1
/-- What goes out: at which port, which frame. -/
structure Ot where
  p : Int
  f : Fd
def may (B : Br) (v u t : Int) (f : Fd) (p : Int) : Bool := !(p == u) && ((t == 0 || p == t) && (B.st.getD p.toNat 0 == 2 && ouE B.V v p f == 0))
def rly (B : Br) (v u t : Int) (f : Fd) : Nat → List Ot
  | 0 => []
  | k + 1 => rly B v u t f k ++ (if may B v u t f (k + 1 : Nat) then [⟨((k + 1 : Nat) : Int), ouF B.V v (k + 1 : Nat) f⟩] else [])
def inc (l : List Int) (j : Nat) : List Int := l.set j (l.getD j 0 + 1)
def lrL (B : Br) (v : Int) (m : Mc) (p t : Int) : List Int :=
  if lE B.F v m p t = 0 then (if 0 < lK B.F v m p t then inc B.ln (lK B.F v m p t - 1).toNat else B.ln) else inc B.ln 2
def lrn (B : Br) (v : Int) (m : Mc) (p t : Int) : Br := { B with F := lT B.F v m p t, ln := lrL B v m p t }
def rsv (m : Mc) : Bool := num m / 16 == 103282638848
structure Wy where
  c : Int
  v : Int
  t : Int
  o : List Ot
def tgtOf (B : Br) (v : Int) (f : Fd) : Int := if fhs B.F.l v (mD f) && !grp (mD f) then (lk B.F.l v (mD f)).p else 0
def outL (B : Br) (v p : Int) (f : Fd) : List Ot := if !fhs B.F.l v (mD f) || decide (0 < tgtOf B v f) then rly B v p (tgtOf B v f) f B.n else []
/-- Behind learning: whether it is a station of that port; else what goes out. -/
def outW (B : Br) (v p : Int) (f : Fd) : Wy :=
  if fhs B.F.l v (mD f) && !grp (mD f) && (lk B.F.l v (mD f)).p == p then ⟨7, v, 0, []⟩
  else if (outL B v p f).isEmpty then ⟨8, v, tgtOf B v f, []⟩ else ⟨0, v, tgtOf B v f, outL B v p f⟩
def badW (B : Br) (p : Int) (f : Fd) (t : Int) : Bool := !(rt f && hasP B.n p && isT t)
/-- The causes ahead of learning; 0: none. -/
def preW (B : Br) (p : Int) (f : Fd) (t : Int) : Int :=
  if badW B p f t then 1 else if rsv (mD f) then 2 else if sta B p == 0 then 3 else if inE B.V p f != 0 then 4 else if grp (mS f) then 5 else 0
def wayP (B : Br) (p : Int) (f : Fd) (t : Int) : Wy × Br :=
  if preW B p f t == 0 then
    (if sta B p == 1 then (⟨6, inV B.V p f, 0, []⟩, lrn B (inV B.V p f) (mS f) p t) else (outW (lrn B (inV B.V p f) (mS f) p t) (inV B.V p f) p f, lrn B (inV B.V p f) (mS f) p t))
  else (⟨preW B p f t, if preW B p f t == 5 then inV B.V p f else 0, 0, []⟩, B)
def tk (B : Br) (p : Int) (f : Fd) (t : Int) : Wy × Br := ((wayP B p f t).1, { (wayP B p f t).2 with ct := inc (wayP B p f t).2.ct (wayP B p f t).1.c.toNat })
def sml (l : List Int) : Prop := ∀ x ∈ l, 0 ≤ x ∧ x < 1000000
/-- A bridge that may be. -/
structure Bw (B : Br) : Prop where
  n1 : 1 ≤ B.n
  n2 : B.n ≤ 63
  vn : B.V.n = B.n + 1
  vw : Wf B.V
  fw : FW B.F
  sl : B.st.length = B.n + 1
  ss : ∀ x ∈ B.st, 0 ≤ x ∧ x ≤ 2
  cl : B.ct.length = 9
  cs : sml B.ct
  ll : B.ln.length = 3
  ls : sml B.ln
theorem st_get {B : Br} (h : Bw B) {p : Int} (hp : hasP B.n p = true) : ∃ k : Nat, p = k ∧ k < B.st.length ∧ sta B p = B.st.getD k 0 := by
  have h1 := (hasP_iff _ _).1 hp
  obtain ⟨k, rfl⟩ := Int.eq_ofNat_of_zero_le (show 0 ≤ p by omega)
  refine ⟨k, rfl, by rw [h.sl]; omega, ?_⟩
  unfold sta
  rw [hp, if_pos rfl, Int.toNat_natCast]
theorem preW_le (B : Br) (p : Int) (f : Fd) (t : Int) : 0 ≤ preW B p f t ∧ preW B p f t ≤ 5 := by
  unfold preW
  repeat' split
  all_goals omega
theorem outW_c (B : Br) (v p : Int) (f : Fd) : (outW B v p f).c = 7 ∨ (outW B v p f).c = 8 ∨ (outW B v p f).c = 0 := by
  unfold outW
  split
  · exact Or.inl rfl
  · split
    · exact Or.inr (Or.inl rfl)
    · exact Or.inr (Or.inr rfl)
theorem wayP_c (B : Br) (p : Int) (f : Fd) (t : Int) : 0 ≤ (wayP B p f t).1.c ∧ (wayP B p f t).1.c ≤ 8 := by
  unfold wayP
  split
  · split
    · exact ⟨show (0 : Int) ≤ 6 by omega, show (6 : Int) ≤ 8 by omega⟩
    · have := outW_c (lrn B (inV B.V p f) (mS f) p t) (inV B.V p f) p f
      dsimp only
      omega
  · have := preW_le B p f t
    dsimp only
    omega
theorem rly_len (B : Br) (v u t : Int) (f : Fd) : ∀ k, (rly B v u t f k).length ≤ k
  | 0 => Nat.le_refl _
  | k + 1 => by
    have := rly_len B v u t f k
    unfold rly
    rw [List.length_append]
    split
    · simp; omega
    · simp; omega
theorem inc_len (l : List Int) (j : Nat) : (inc l j).length = l.length := by simp [inc]
end Go.Proofs.YtgpdjfaklcmoiaaGreat
/- Memory: the document's bridge; what may change, by blocks. -/
namespace Go.Proofs.YtgpdjfaklcmoiaaGreat
open Go.RowKit Go.PlainAid

/-- From one world to another one but the blocks O were changed, and new ones; O' are of O, or new. -/
structure Ch (O O' : Nat → Prop) (w w' : World) : Prop where
  os : w'.os = w.os
  tape : w'.tape = w.tape
  output : w'.output = w.output
  size : w.heap.size ≤ w'.heap.size
  block : ∀ i, i < w.heap.size → ¬ O i → w'.heap[i]? = w.heap[i]?
  dom : ∀ i, O' i → O i ∨ w.heap.size ≤ i
theorem Ch.of_below {O : Nat → Prop} {w w' : World} (h : Below w.heap.size w w') : Ch O O w w' := ⟨h.os, h.tape, h.output, h.size, fun i hi _ => h.block i hi, fun _ h => Or.inl h⟩
theorem Ch.refl (O : Nat → Prop) (w : World) : Ch O O w w := Ch.of_below (Below.refl _ _)
theorem Ch.trans {O O' O'' : Nat → Prop} {w w1 w2 : World} (h : Ch O O' w w1) (k : Ch O' O'' w1 w2) : Ch O O'' w w2 :=
  ⟨k.os.trans h.os, k.tape.trans h.tape, k.output.trans h.output, Nat.le_trans h.size k.size, fun i hi ho => (k.block i (Nat.lt_of_lt_of_le hi h.size) (fun h2 => by
    rcases h.dom i h2 with h3 | h3
    · exact ho h3
    · omega)).trans (h.block i hi ho), fun i hi => by
    rcases k.dom i hi with h1 | h1
    · exact h.dom i h1
    · exact Or.inr (Nat.le_trans h.size h1)⟩
theorem Ch.on {O O' : Nat → Prop} {w w1 w2 : World} (h : Ch O O' w w1) (k : Below w1.heap.size w1 w2) : Ch O O' w w2 := h.trans (Ch.of_below k)
theorem Ch.pre {O O' : Nat → Prop} {w w1 w2 : World} (k : Below w.heap.size w w1) (h : Ch O O' w1 w2) : Ch O O' w w2 := (Ch.of_below k).trans h
theorem Ch.drew {O O' : Nat → Prop} {w w1 : World} (h : Ch O O' w w1) : Ch O O' w w1.drew := ⟨h.os, h.tape, h.output, h.size, h.block, h.dom⟩
theorem Ch.below {O O' : Nat → Prop} {w w1 : World} {N : Nat} (h : Ch O O' w w1) (hN : N ≤ w.heap.size) (ho : ∀ i, O i → N ≤ i) : Below N w w1 :=
  ⟨h.os, h.tape, h.output, h.size, fun i hi => h.block i (Nat.lt_of_lt_of_le hi hN) (fun h2 => by have := ho i h2; omega)⟩
theorem Ch.grown {O : Nat → Prop} {w w1 : World} {r : Nat} (g : w.grownBy w1 (some r)) (hr : O r) : Ch O O w w1 :=
  ⟨g.os, g.tape, g.output, g.size, fun i hi ho => g.block i hi (fun e => ho (by have := Option.some.inj e; rw [this]; exact hr)), fun _ h => Or.inl h⟩
/-- Where it lies. -/
structure RAd where
  g : Nat
  gs : Nat
  gv : Nat
  gf : Nat
  lv : Value
  lf : Value
def fxd (A : RAd) : List Nat := [A.g, A.gs, A.gv, A.gv + 1, A.gf]
def Dm (A : RAd) (i : Nat) : Prop := i ∈ fxd A ∨ A.lv.ownBlock = some i ∨ A.lf.ownBlock = some i
structure Ap (A : RAd) : Prop where
  fx : (fxd A).Nodup
  lv : ∀ b, A.lv.ownBlock = some b → b ∉ fxd A
  lf : ∀ b, A.lf.ownBlock = some b → b ∉ fxd A
  vf : ∀ b, A.lv.ownBlock = some b → A.lf.ownBlock ≠ some b
def rcl (A : RAd) (B : Br) : List Value := [.int .i64 B.n, .pointer (some ⟨A.gv + 1, 0, none⟩), .pointer (some ⟨A.gf, 0, none⟩), .slice (some ⟨A.gs, 0, none⟩) (B.n + 1) (B.n + 1)] ++ (nsl B.ct ++ nsl B.ln)
structure RB (w : World) (A : RAd) (B : Br) : Prop where
  bx : Box w A.g (rcl A B)
  ss : Box w A.gs (nsl B.st)
  rv : RT w A.gv A.lv B.V
  rf : RF w A.gf A.lf B.F
  ap : Ap A
  wf : Bw B
theorem row_keep {w w1 : World} {g : Nat} {e : TypeId} {z : Nat} {lv : Value} {n : Nat} {xs : List Value} (hr : w.ownsRow g e z lv n xs) (hb : ∀ b, lv.ownBlock = some b → w1.heap[b]? = w.heap[b]?) : w1.ownsRow g e z lv n xs := by
  refine ⟨hr.1, ?_⟩
  rcases hr.2 with h | ⟨b, cap, cur, rfl, hb', hc, r⟩
  · exact Or.inl h
  · exact Or.inr ⟨b, cap, cur, rfl, hb', (hb b rfl).trans hc, r⟩
theorem RT.keep {w w1 : World} {g : Nat} {lv : Value} {T : Tb} (H : RT w g lv T) (h0 : w1.heap[g]? = w.heap[g]?) (h1 : w1.heap[g + 1]? = w.heap[g + 1]?) (hb : ∀ b, lv.ownBlock = some b → w1.heap[b]? = w.heap[b]?) : RT w1 g lv T :=
  ⟨H.bx.block h1, H.nt.block h0, row_keep H.row hb, H.wf⟩
theorem RF.keep {w w1 : World} {g : Nat} {lv : Value} {T : FT} (H : RF w g lv T) (h0 : w1.heap[g]? = w.heap[g]?) (hb : ∀ b, lv.ownBlock = some b → w1.heap[b]? = w.heap[b]?) : RF w1 g lv T :=
  ⟨H.bx.block h0, row_keep H.row hb, H.wf⟩
theorem RB.keep {w w1 : World} {A : RAd} {B : Br} (H : RB w A B) (h : ∀ i, Dm A i → w1.heap[i]? = w.heap[i]?) : RB w1 A B := by
  have f : ∀ i, i ∈ fxd A → w1.heap[i]? = w.heap[i]? := fun i hi => h i (Or.inl hi)
  exact ⟨H.bx.block (f _ (by simp [fxd])), H.ss.block (f _ (by simp [fxd])), H.rv.keep (f _ (by simp [fxd])) (f _ (by simp [fxd])) (fun b e => h b (Or.inr (Or.inl e))), H.rf.keep (f _ (by simp [fxd])) (fun b e => h b (Or.inr (Or.inr e))), H.ap, H.wf⟩
theorem RB.lt {w : World} {A : RAd} {B : Br} (H : RB w A B) : ∀ i, Dm A i → i < w.heap.size := by
  intro i hi
  rcases hi with hi | hi | hi
  · have h1 := H.bx.lt
    have h2 := H.ss.lt
    have h3 := H.rv.bx.lt
    have h4 := H.rv.nt.lt
    have h5 := H.rf.bx.lt
    simp only [fxd, List.mem_cons, List.not_mem_nil, or_false] at hi
    rcases hi with rfl | rfl | rfl | rfl | rfl <;> assumption
  · exact (H.rv.row.lt i hi).2
  · exact (H.rf.row.lt i hi).2
theorem RB.on {w w1 : World} {A : RAd} {B : Br} (H : RB w A B) (hb : Below w.heap.size w w1) : RB w1 A B := H.keep (fun i hi => hb.block i (H.lt i hi))
theorem RB.drew {w : World} {A : RAd} {B : Br} (H : RB w A B) : RB w.drew A B := H.keep (fun _ _ => rfl)
/-- Something else was changed. -/
theorem RB.other {O O' : Nat → Prop} {w w1 : World} {A : RAd} {B : Br} (H : RB w A B) (h : Ch O O' w w1) (hd : ∀ i, Dm A i → ¬ O i) : RB w1 A B := H.keep (fun i hi => h.block i (H.lt i hi) (hd i hi))
/-- The VLANs were worked on. -/
theorem RB.vlan {w w1 : World} {A : RAd} {B : Br} (H : RB w A B) {lv' : Value} {V' : Tb} (R : RT w1 A.gv lv' V') (F : Fr [A.gv, A.gv + 1] A.lv lv' w w1) (hn : V'.n = B.V.n) :
    RB w1 { A with lv := lv' } { B with V := V' } ∧ Ch (Dm A) (Dm { A with lv := lv' }) w w1 := by
  have hl := H.lt
  have hx := H.ap.fx
  simp only [fxd, List.nodup_cons, List.mem_cons, List.not_mem_nil, or_false, not_or, not_false_eq_true, List.nodup_nil, and_true] at hx
  obtain ⟨⟨x1, x2, x3, x4⟩, ⟨x5, x6, x7⟩, ⟨x8, x9⟩, x10⟩ := hx
  have kk : ∀ i, i ∈ fxd A → i ≠ A.gv → i ≠ A.gv + 1 → w1.heap[i]? = w.heap[i]? := fun i hi h1 h2 => F.block i (hl i (Or.inl hi)) (by simp [h1, h2]) (fun e => H.ap.lv i e hi)
  have kg := kk A.g (by simp [fxd]) (by omega) (by omega)
  have ks := kk A.gs (by simp [fxd]) (by omega) (by omega)
  have kf := kk A.gf (by simp [fxd]) (by omega) (by omega)
  have nlv : ∀ b, lv'.ownBlock = some b → b ∉ fxd A ∧ A.lf.ownBlock ≠ some b := fun b e => by
    rcases F.new with rfl | hn
    · exact ⟨H.ap.lv b e, H.ap.vf b e⟩
    · have := hn b e
      exact ⟨fun h => by have := hl b (Or.inl h); omega, fun h => by have := hl b (Or.inr (Or.inr h)); omega⟩
  refine ⟨⟨?_, H.ss.block ks, R, H.rf.keep kf (fun b e => F.block b (hl b (Or.inr (Or.inr e))) (fun hm => H.ap.lf b e (by simp only [List.mem_cons, List.not_mem_nil, or_false] at hm; rcases hm with rfl | rfl <;> simp [fxd])) (fun e2 => H.ap.vf b e2 e)), ⟨H.ap.fx, fun b e => (nlv b e).1, H.ap.lf, fun b e => (nlv b e).2⟩, ?_⟩, ?_⟩
  · exact H.bx.block kg
  · have b := H.wf
    exact ⟨b.n1, b.n2, hn.trans b.vn, R.wf, b.fw, b.sl, b.ss, b.cl, b.cs, b.ll, b.ls⟩
  · refine ⟨F.os, F.tape, F.output, F.size, fun i hi ho => F.block i hi (fun hm => ho (Or.inl (by simp only [List.mem_cons, List.not_mem_nil, or_false] at hm; rcases hm with rfl | rfl <;> simp [fxd]))) (fun e => ho (Or.inr (Or.inl e))), fun i hi => ?_⟩
    rcases hi with hi | hi | hi
    · exact Or.inl (Or.inl hi)
    · rcases F.new with rfl | hn
      · exact Or.inl (Or.inr (Or.inl hi))
      · exact Or.inr (hn i hi)
    · exact Or.inl (Or.inr (Or.inr hi))
/-- The stations were worked on. -/
theorem RB.fdb {w w1 : World} {A : RAd} {B : Br} (H : RB w A B) {lf' : Value} {F' : FT} (R : RF w1 A.gf lf' F') (F : Fr [A.gf] A.lf lf' w w1) :
    RB w1 { A with lf := lf' } { B with F := F' } ∧ Ch (Dm A) (Dm { A with lf := lf' }) w w1 := by
  have hl := H.lt
  have hx := H.ap.fx
  simp only [fxd, List.nodup_cons, List.mem_cons, List.not_mem_nil, or_false, not_or, not_false_eq_true, List.nodup_nil, and_true] at hx
  obtain ⟨⟨x1, x2, x3, x4⟩, ⟨x5, x6, x7⟩, ⟨x8, x9⟩, x10⟩ := hx
  have kk : ∀ i, i ∈ fxd A → i ≠ A.gf → w1.heap[i]? = w.heap[i]? := fun i hi h1 => F.block i (hl i (Or.inl hi)) (by simp [h1]) (fun e => H.ap.lf i e hi)
  have kg := kk A.g (by simp [fxd]) (by omega)
  have ks := kk A.gs (by simp [fxd]) (by omega)
  have kv := kk A.gv (by simp [fxd]) (by omega)
  have kv1 := kk (A.gv + 1) (by simp [fxd]) (by omega)
  have nlf : ∀ b, lf'.ownBlock = some b → b ∉ fxd A ∧ A.lv.ownBlock ≠ some b := fun b e => by
    rcases F.new with rfl | hn
    · exact ⟨H.ap.lf b e, fun e2 => H.ap.vf b e2 e⟩
    · have := hn b e
      exact ⟨fun h => by have := hl b (Or.inl h); omega, fun h => by have := hl b (Or.inr (Or.inl h)); omega⟩
  refine ⟨⟨?_, H.ss.block ks, H.rv.keep kv kv1 (fun b e => F.block b (hl b (Or.inr (Or.inl e))) (fun hm => H.ap.lv b e (by simp only [List.mem_cons, List.not_mem_nil, or_false] at hm; subst hm; simp [fxd])) (fun e2 => H.ap.vf b e e2)), R, ⟨H.ap.fx, H.ap.lv, fun b e => (nlf b e).1, fun b e e2 => (nlf b e2).2 e⟩, ?_⟩, ?_⟩
  · exact H.bx.block kg
  · have b := H.wf
    exact ⟨b.n1, b.n2, b.vn, b.vw, R.wf, b.sl, b.ss, b.cl, b.cs, b.ll, b.ls⟩
  · refine ⟨F.os, F.tape, F.output, F.size, fun i hi ho => F.block i hi (fun hm => ho (Or.inl (by simp only [List.mem_cons, List.not_mem_nil, or_false] at hm; subst hm; simp [fxd]))) (fun e => ho (Or.inr (Or.inr e))), fun i hi => ?_⟩
    rcases hi with hi | hi | hi
    · exact Or.inl (Or.inl hi)
    · exact Or.inl (Or.inr (Or.inl hi))
    · rcases F.new with rfl | hn
      · exact Or.inl (Or.inr (Or.inr hi))
      · exact Or.inr (hn i hi)
end Go.Proofs.YtgpdjfaklcmoiaaGreat
/- Contracts: has, State, Set, New of the document's bridge. -/
namespace Go.Proofs.YtgpdjfaklcmoiaaGreat
open Go.RowKit Go.PlainAid

set_option maxRecDepth 100000 in
set_option maxHeartbeats 1000000 in
theorem hasR (A : RAd) (B : Br) (p : Int) (w : World) (H : RB w A B) : Calls Tryz.prog 64 #[.pointer (some ⟨A.g, 0, none⟩), .int .i64 p] w fun e w' => e = .returned (.bool (hasP B.n p)) ∧ w' = w := by
  have c0 := H.bx.cell 0 _ rfl
  clear H
  by_cases h1 : 1 ≤ p
  · by_cases h2 : p ≤ B.n
    · have e : hasP B.n p = true := (hasP_iff _ _).2 ⟨h1, h2⟩
      rw [e]
      clear e
      go_enter Tryz.func64, Tryz.ntmps64
      go_wp2
      go_ret
      exact ⟨ret_bool (by first | rfl | simp [h2]), rfl⟩
    · have e : hasP B.n p = false := (hasP_no _ _).2 (by omega)
      have h3 : decide (p ≤ (B.n : Int)) = false := by simp; omega
      rw [e]
      clear e
      go_enter Tryz.func64, Tryz.ntmps64
      go_wp2
      go_ret
      exact ⟨ret_bool (by first | rfl | simp [h2, h3]), rfl⟩
  · have e : hasP B.n p = false := (hasP_no _ _).2 (by omega)
    rw [e]
    clear e
    go_enter Tryz.func64, Tryz.ntmps64
    go_wp2
    go_ret
    exact ⟨ret_bool (by first | rfl | simp), rfl⟩
set_option maxRecDepth 100000 in
set_option maxHeartbeats 1000000 in
theorem stateR (A : RAd) (B : Br) (p : Int) (w : World) (H : RB w A B) : Calls Tryz.prog 51 #[.pointer (some ⟨A.g, 0, none⟩), .int .i64 p] w fun e w' => e = .returned (.int .i64 (sta B p)) ∧ w' = w := by
  have q1 := fun w H => hasR A B p w H
  have c3 := H.bx.cell 3 _ rfl
  rcases Bool.eq_false_or_eq_true (hasP B.n p) with hp | hp
  · obtain ⟨k, rfl, hk, e⟩ := st_get H.wf hp
    have n1 := H.ss.cell k _ (nsl_get hk)
    have hl : (k : Int) < ((B.n + 1 : Nat) : Int) := by rw [H.wf.sl] at hk; omega
    have hl2 : (k : Int) < (B.n : Int) + 1 := by omega
    have HH := hide H
    rw [hp] at q1
    rw [e]
    clear H e hp hk
    generalize B.st.getD k 0 = x at *
    go_enter Tryz.func51, Tryz.ntmps51
    go_wp2_with (first | (go_at_call 64; refine (q1 _ HH.out).mono ?_; rintro e w' ⟨rfl, rfl⟩))
    go_ret
    exact ⟨rfl, rfl⟩
  · have e : sta B p = 0 := by unfold sta; rw [hp]; rfl
    have HH := hide H
    rw [hp] at q1
    rw [e]
    clear H e hp
    go_enter Tryz.func51, Tryz.ntmps51
    go_wp2_with (first | (go_at_call 64; refine (q1 _ HH.out).mono ?_; rintro e w' ⟨rfl, rfl⟩))
    go_ret
    exact ⟨rfl, rfl⟩
/-- A state was set. -/
theorem RB.setS {w : World} {A : RAd} {B : Br} (H : RB w A B) {k : Nat} {s : Int} (hp : hasP B.n k = true) (hs : isS s = true) :
    RB (w.setCell ⟨A.gs, k, none⟩ (.int .i64 s)) A (tSet B k s) ∧ Ch (Dm A) (Dm A) w (w.setCell ⟨A.gs, k, none⟩ (.int .i64 s)) := by
  have e : tSet B k s = { B with st := B.st.set k s } := by unfold tSet; rw [hp, hs, Int.toNat_natCast]; rfl
  have g := setCell_grown w A.gs k (.int .i64 s)
  have hx := H.ap.fx
  simp only [fxd, List.nodup_cons, List.mem_cons, List.not_mem_nil, or_false, not_or, not_false_eq_true, List.nodup_nil, and_true] at hx
  obtain ⟨⟨x1, x2, x3, x4⟩, ⟨x5, x6, x7⟩, ⟨x8, x9⟩, x10⟩ := hx
  have hl := H.lt
  have kk : ∀ i, Dm A i → i ≠ A.gs → (w.setCell ⟨A.gs, k, none⟩ (.int .i64 s)).heap[i]? = w.heap[i]? := fun i hi h1 => g.block i (hl i hi) (fun e => h1 (Option.some.inj e))
  have hk : k < B.st.length := by have := (hasP_iff _ _).1 hp; rw [H.wf.sl]; omega
  rw [e]
  refine ⟨⟨H.bx.block (kk _ (Or.inl (by simp [fxd])) (by omega)), ?_, H.rv.keep (kk _ (Or.inl (by simp [fxd])) (by omega)) (kk _ (Or.inl (by simp [fxd])) (by omega)) (fun b e => kk b (Or.inr (Or.inl e)) (fun h => H.ap.lv b e (by rw [h]; simp [fxd]))), H.rf.keep (kk _ (Or.inl (by simp [fxd])) (by omega)) (fun b e => kk b (Or.inr (Or.inr e)) (fun h => H.ap.lf b e (by rw [h]; simp [fxd]))), H.ap, ?_⟩, Ch.grown g (Or.inl (by simp [fxd]))⟩
  · have b := H.ss.setAt (j := k) (by simp [nsl]; exact hk) (.int .i64 s)
    rw [nsl_set] at b
    exact b
  · have b := H.wf
    refine ⟨b.n1, b.n2, b.vn, b.vw, b.fw, by simp [b.sl], fun x hx => ?_, b.cl, b.cs, b.ll, b.ls⟩
    rcases List.mem_or_eq_of_mem_set hx with hx | rfl
    · exact b.ss x hx
    · exact (isS_iff _).1 hs
set_option maxRecDepth 100000 in
set_option maxHeartbeats 1000000 in
theorem setR (A : RAd) (B : Br) (p s : Int) (w : World) (H : RB w A B) : Calls Tryz.prog 39 #[.pointer (some ⟨A.g, 0, none⟩), .int .i64 p, .int .i64 s] w fun e w' => e = .returned (.int .i64 (eSet B p s)) ∧ RB w' A (tSet B p s) ∧ Ch (Dm A) (Dm A) w w' := by
  have q1 := fun w H => hasR A B p w H
  have c3 := H.bx.cell 3 _ rfl
  rcases Bool.eq_false_or_eq_true (hasP B.n p) with hp | hp
  · rcases Bool.eq_false_or_eq_true (isS s) with hs | hs
    · obtain ⟨k, rfl, hk, -⟩ := st_get H.wf hp
      have n1 := H.ss.cell k _ (nsl_get hk)
      have f1 := H.ss.free k (by simp [nsl]; exact hk)
      have F := hide (H.setS hp hs)
      have e : eSet B k s = 0 := by unfold eSet; rw [hp, hs]; rfl
      have hl : (k : Int) < ((B.n + 1 : Nat) : Int) := by rw [H.wf.sl] at hk; omega
      have hl2 : (k : Int) < (B.n : Int) + 1 := by omega
      have HH := hide H
      obtain ⟨s1, s2⟩ := (isS_iff s).1 hs
      have s3 : ¬ s < 0 := by omega
      have s4 : ¬ 2 < s := by omega
      rw [hp] at q1
      rw [e]
      clear H e hp hk hs s1 s2
      go_enter Tryz.func39, Tryz.ntmps39
      go_wp2_with (first | (go_at_call 64; refine (q1 _ HH.out).mono ?_; rintro e w' ⟨rfl, rfl⟩))
      go_ret
      exact ⟨rfl, F.out⟩
    · have e : eSet B p s = 1 := by unfold eSet; rw [hs, Bool.and_false]; rfl
      have e2 : tSet B p s = B := by unfold tSet; rw [hs, Bool.and_false]; rfl
      have HH := hide H
      have hs2 : s < 0 ∨ (¬ s < 0 ∧ 2 < s) := by
        have : ¬ (0 ≤ s ∧ s ≤ 2) := fun h => by rw [(isS_iff s).2 h] at hs; cases hs
        omega
      rw [hp] at q1
      rw [e, e2]
      clear H e e2 hp hs
      rcases hs2 with s1 | ⟨s1, s2⟩
      all_goals
        go_enter Tryz.func39, Tryz.ntmps39
        go_wp2_with (first | (go_at_call 64; refine (q1 _ HH.out).mono ?_; rintro e w' ⟨rfl, rfl⟩))
        go_ret
        exact ⟨rfl, HH.out, Ch.refl _ _⟩
  · have e : eSet B p s = 1 := by unfold eSet; rw [hp]; rfl
    have e2 : tSet B p s = B := by unfold tSet; rw [hp]; rfl
    have HH := hide H
    rw [hp] at q1
    rw [e, e2]
    clear H e e2 hp
    go_enter Tryz.func39, Tryz.ntmps39
    go_wp2_with (first | (go_at_call 64; refine (q1 _ HH.out).mono ?_; rintro e w' ⟨rfl, rfl⟩))
    go_ret
    exact ⟨rfl, HH.out, Ch.refl _ _⟩
end Go.Proofs.YtgpdjfaklcmoiaaGreat
/- Contract: New of the document's bridge. -/
namespace Go.Proofs.YtgpdjfaklcmoiaaGreat
open Go.RowKit Go.PlainAid

def bNew (n r : Nat) : Br := ⟨n, tNew (n + 1), fNew r, List.replicate (n + 1) 0, List.replicate 9 0, List.replicate 3 0⟩
theorem bw_new {n r : Nat} (h1 : 1 ≤ n) (h2 : n ≤ 63) (r1 : 1 ≤ r) (r2 : r ≤ 1024) : Bw (bNew n r) :=
  ⟨h1, h2, rfl, wf_new (by omega) (by omega), fwf_new r r1 r2, by simp [bNew], fun x hx => by simp [bNew] at hx; omega, by simp [bNew], fun x hx => by simp [bNew] at hx; omega, by simp [bNew], fun x hx => by simp [bNew] at hx; omega⟩
set_option maxRecDepth 100000 in
set_option maxHeartbeats 2000000 in
theorem newR (n r : Nat) (w : World) (h1 : 1 ≤ n) (h2 : n ≤ 63) (r1 : 1 ≤ r) (r2 : r ≤ 1024) :
    Calls Tryz.prog 13 #[.int .i64 n, .int .i64 r] w fun e w' => ∃ A, e = .returned (.tuple #[.pointer (some ⟨A.g, 0, none⟩), .int .i64 0]) ∧ RB w' A (bNew n r) ∧ (∀ i, Dm A i → w.heap.size ≤ i) ∧ Below w.heap.size w w' := by
  obtain ⟨i0, hi, hz0, hz1, hz2⟩ := info_parts Tryz.info3
  have a1 : ¬ (n : Int) < 1 := by omega
  have a2 : ¬ (63 : Int) < (n : Int) := by omega
  have a3 : IntKind.i64.wrap ((n : Int) + 1) = ((n + 1 : Nat) : Int) := by rw [IntWalk.i64_in _ (by omega)]; omega
  have HW := hide (bw_new h1 h2 r1 r2)
  have N1 := hide h1
  have N2 := hide h2
  go_enter Tryz.func13, Tryz.ntmps13
  go_wp2_with fail
  refine (new24 r w r1 r2).mono ?_
  rintro e w1 ⟨rfl, RF1, B1⟩
  have HF := hide RF1
  have HB := hide B1
  clear RF1 B1
  go_wp2_with fail
  refine (new26 (n + 1) w1 (by omega) (by have := N2.out; omega)).mono ?_
  rintro e w2 ⟨rfl, RT1, B2⟩
  have HF2 := hide (HF.out.on B2)
  have HT := hide RT1
  have HB2 := hide (belowOn HB.out B2)
  have s1 := HF.out.bx.lt
  have HS1 := hide s1
  have HS2 := hide HT.out.lt
  clear RT1 B2 HF s1
  go_wp2_with (at_make; refine wpList_make_row _ rfl _ _ 52 rfl 3 i0 (.int .i64 0) Tryz.underlying52 hi hz0 hz1 rfl .i64 .i64 (n + 1) rfl rfl (by rw [hz2]; have := N2.out; omega) (by have := N2.out; omega) ?_)
  go_ret2
  have BM := below_alloc w2 (.cells (madeCells #[.int .i64 0] (n + 1)) 3)
  have hsz := World.size_alloc w2 (.cells (madeCells #[.int .i64 0] (n + 1)) 3)
  have bxm := box_made w2 (n + 1)
  generalize hw3 : w2.alloc (.cells (madeCells #[.int .i64 0] (n + 1)) 3) = w3 at *
  have BA := below_alloc w3 (.cells (rcl ⟨w2.heap.size + 1, w2.heap.size, w1.heap.size, w.heap.size, .slice none 0 0, .slice none 0 0⟩ (bNew n r)).toArray 91)
  have bx := Box.new w3 (rcl ⟨w2.heap.size + 1, w2.heap.size, w1.heap.size, w.heap.size, .slice none 0 0, .slice none 0 0⟩ (bNew n r)) 91
  rw [hsz] at bx
  have o1 := HS1.out
  have o2 := HS2.out
  have ob := HB.out.size
  refine ⟨⟨w2.heap.size + 1, w2.heap.size, w1.heap.size, w.heap.size, .slice none 0 0, .slice none 0 0⟩, rfl, ⟨bx, bxm.on BA, (HT.out.on BM).on BA, (HF2.out.on BM).on BA, ⟨?_, fun b e => by simp [Value.ownBlock] at e, fun b e => by simp [Value.ownBlock] at e, fun b e => by simp [Value.ownBlock] at e⟩, HW.out⟩, fun i hi => ?_, (belowOn (belowOn HB2.out BM) BA)⟩
  · simp [fxd]; omega
  · rcases hi with hi | hi | hi
    · simp only [fxd, List.mem_cons, List.not_mem_nil, or_false] at hi
      omega
    · simp [Value.ownBlock] at hi
    · simp [Value.ownBlock] at hi
set_option maxRecDepth 100000 in
set_option maxHeartbeats 2000000 in
theorem newR_no (n r : Int) (w : World) (h : ¬ ((1 ≤ n ∧ n ≤ 63) ∧ 1 ≤ r ∧ r ≤ 1024)) :
    Calls Tryz.prog 13 #[.int .i64 n, .int .i64 r] w fun e w' => e = .returned (.tuple #[.pointer none, .int .i64 1]) ∧ Below w.heap.size w w' := by
  by_cases hr : 1 ≤ r ∧ r ≤ 1024
  · obtain ⟨k, rfl⟩ := Int.eq_ofNat_of_zero_le (show 0 ≤ r by omega)
    have hn : n < 1 ∨ (¬ n < 1 ∧ 63 < n) := by omega
    have H := hide (new24 k w (by omega) (by omega))
    clear h hr
    rcases hn with a1 | ⟨a1, a2⟩
    all_goals
      go_enter Tryz.func13, Tryz.ntmps13
      go_wp2_with fail
      refine H.out.mono ?_
      rintro e w1 ⟨rfl, -, B1⟩
      have HB := hide B1
      clear B1
      go_wp2
      go_ret2
      exact ⟨rfl, HB.out⟩
  · have H := hide (new24_no r w hr)
    clear h hr
    have hn : n < 1 ∨ (¬ n < 1 ∧ 63 < n) ∨ (¬ n < 1 ∧ ¬ 63 < n) := by omega
    rcases hn with a1 | ⟨a1, a2⟩ | ⟨a1, a2⟩
    all_goals
      go_enter Tryz.func13, Tryz.ntmps13
      go_wp2_with fail
      refine H.out.mono ?_
      rintro e w1 ⟨rfl, rfl⟩
      go_wp2
      go_ret2
      exact ⟨rfl, Below.refl _ _⟩
end Go.Proofs.YtgpdjfaklcmoiaaGreat
/- Contract: learn of the document's bridge. -/
namespace Go.Proofs.YtgpdjfaklcmoiaaGreat
open Go.RowKit Go.PlainAid

theorem rcl_get (A : RAd) (B : Br) (h : B.ct.length = 9) {j : Nat} (hj : j < B.ln.length) : (rcl A B)[13 + j]? = some (.int .i64 (B.ln.getD j 0)) := by
  unfold rcl
  rw [List.getElem?_append_right (by simp; omega), List.getElem?_append_right (by simp [nsl, h]; omega)]
  have e : 13 + j - [Value.int .i64 B.n, .pointer (some ⟨A.gv + 1, 0, none⟩), .pointer (some ⟨A.gf, 0, none⟩), .slice (some ⟨A.gs, 0, none⟩) (B.n + 1) (B.n + 1)].length - (nsl B.ct).length = j := by simp [nsl, h]; omega
  rw [e]
  exact nsl_get hj
theorem rcl_getC (A : RAd) (B : Br) {j : Nat} (hj : j < B.ct.length) : (rcl A B)[4 + j]? = some (.int .i64 (B.ct.getD j 0)) := by
  unfold rcl
  rw [List.getElem?_append_right (by simp), List.getElem?_append_left (by simp [nsl]; omega)]
  have e : 4 + j - [Value.int .i64 B.n, .pointer (some ⟨A.gv + 1, 0, none⟩), .pointer (some ⟨A.gf, 0, none⟩), .slice (some ⟨A.gs, 0, none⟩) (B.n + 1) (B.n + 1)].length = j := by simp
  rw [e]
  exact nsl_get hj
theorem rcl_len (A : RAd) (B : Br) (h : B.ct.length = 9) (h2 : B.ln.length = 3) : (rcl A B).length = 16 := by simp [rcl, nsl, h, h2]
theorem rcl_setL (A : RAd) (B : Br) (h : B.ct.length = 9) (j : Nat) (x : Int) : (rcl A B).set (13 + j) (.int .i64 x) = rcl A { B with ln := B.ln.set j x } := by
  unfold rcl
  rw [List.set_append_right _ _ (by simp; omega), List.set_append_right _ _ (by simp [nsl, h]; omega)]
  have e : 13 + j - [Value.int .i64 B.n, .pointer (some ⟨A.gv + 1, 0, none⟩), .pointer (some ⟨A.gf, 0, none⟩), .slice (some ⟨A.gs, 0, none⟩) (B.n + 1) (B.n + 1)].length - (nsl B.ct).length = j := by simp [nsl, h]; omega
  rw [e, nsl_set]
theorem rcl_setC (A : RAd) (B : Br) {j : Nat} (hj : j < B.ct.length) (x : Int) : (rcl A B).set (4 + j) (.int .i64 x) = rcl A { B with ct := B.ct.set j x } := by
  unfold rcl
  rw [List.set_append_right _ _ (by simp), List.set_append_left _ _ (by simp [nsl]; omega)]
  have e : 4 + j - [Value.int .i64 B.n, .pointer (some ⟨A.gv + 1, 0, none⟩), .pointer (some ⟨A.gf, 0, none⟩), .slice (some ⟨A.gs, 0, none⟩) (B.n + 1) (B.n + 1)].length = j := by simp
  rw [e, nsl_set]
theorem sml_set {l : List Int} (h : sml l) (j : Nat) {x : Int} (h0 : 0 ≤ x) (h1 : x < 1000000) : sml (l.set j x) := fun y hy => by
  rcases List.mem_or_eq_of_mem_set hy with hy | rfl
  · exact h y hy
  · exact ⟨h0, h1⟩
/-- A count of learning, or of causes, was written. -/
theorem RB.own {w : World} {A : RAd} {B B' : Br} (H : RB w A B) {j : Nat} {x : Value} (hj : j < (rcl A B).length) (e : (rcl A B).set j x = rcl A B') (hV : B'.V = B.V) (hF : B'.F = B.F) (hS : B'.st = B.st) (hw : Bw B') :
    RB (w.setCell ⟨A.g, j, none⟩ x) A B' ∧ Ch (Dm A) (Dm A) w (w.setCell ⟨A.g, j, none⟩ x) := by
  have g := setCell_grown w A.g j x
  have hx := H.ap.fx
  simp only [fxd, List.nodup_cons, List.mem_cons, List.not_mem_nil, or_false, not_or, not_false_eq_true, List.nodup_nil, and_true] at hx
  obtain ⟨⟨x1, x2, x3, x4⟩, ⟨x5, x6, x7⟩, ⟨x8, x9⟩, x10⟩ := hx
  have hl := H.lt
  have kk : ∀ i, Dm A i → i ≠ A.g → (w.setCell ⟨A.g, j, none⟩ x).heap[i]? = w.heap[i]? := fun i hi h1 => g.block i (hl i hi) (fun e => h1 (Option.some.inj e))
  refine ⟨⟨by rw [← e]; exact H.bx.setAt hj x, by rw [hS]; exact H.ss.block (kk _ (Or.inl (by simp [fxd])) (by omega)), by rw [hV]; exact H.rv.keep (kk _ (Or.inl (by simp [fxd])) (by omega)) (kk _ (Or.inl (by simp [fxd])) (by omega)) (fun b e => kk b (Or.inr (Or.inl e)) (fun h => H.ap.lv b e (by rw [h]; simp [fxd]))), by rw [hF]; exact H.rf.keep (kk _ (Or.inl (by simp [fxd])) (by omega)) (fun b e => kk b (Or.inr (Or.inr e)) (fun h => H.ap.lf b e (by rw [h]; simp [fxd]))), H.ap, hw⟩, Ch.grown g (Or.inl (by simp [fxd]))⟩
theorem RB.incL {w : World} {A : RAd} {B : Br} (H : RB w A B) {j : Nat} (hj : j < 3) (hs : ∀ x ∈ B.ln, x + 1 < 1000000) :
    RB (w.setCell ⟨A.g, 13 + j, none⟩ (.int .i64 (B.ln.getD j 0 + 1))) A { B with ln := inc B.ln j } ∧ Ch (Dm A) (Dm A) w (w.setCell ⟨A.g, 13 + j, none⟩ (.int .i64 (B.ln.getD j 0 + 1))) := by
  have b := H.wf
  have hm : B.ln.getD j 0 ∈ B.ln := by
    rw [List.getD_eq_getElem?_getD, List.getElem?_eq_getElem (by rw [b.ll]; exact hj)]
    exact List.getElem_mem _
  have h1 := hs _ hm
  have h0 := (b.ls _ hm).1
  exact H.own (B' := { B with ln := inc B.ln j }) (by rw [rcl_len _ _ b.cl b.ll]; omega) (rcl_setL A B b.cl j _) rfl rfl rfl ⟨b.n1, b.n2, b.vn, b.vw, b.fw, b.sl, b.ss, b.cl, b.cs, by simp [inc, b.ll], sml_set b.ls _ (by omega) (by omega)⟩
theorem RB.incC {w : World} {A : RAd} {B : Br} (H : RB w A B) {j : Nat} (hj : j < 9) (hs : ∀ x ∈ B.ct, x + 1 < 1000000) :
    RB (w.setCell ⟨A.g, 4 + j, none⟩ (.int .i64 (B.ct.getD j 0 + 1))) A { B with ct := inc B.ct j } ∧ Ch (Dm A) (Dm A) w (w.setCell ⟨A.g, 4 + j, none⟩ (.int .i64 (B.ct.getD j 0 + 1))) := by
  have b := H.wf
  have hm : B.ct.getD j 0 ∈ B.ct := by
    rw [List.getD_eq_getElem?_getD, List.getElem?_eq_getElem (by rw [b.cl]; exact hj)]
    exact List.getElem_mem _
  have h1 := hs _ hm
  have h0 := (b.cs _ hm).1
  exact H.own (B' := { B with ct := inc B.ct j }) (by rw [rcl_len _ _ b.cl b.ll]; omega) (rcl_setC A B (by rw [b.cl]; exact hj) _) rfl rfl rfl ⟨b.n1, b.n2, b.vn, b.vw, b.fw, b.sl, b.ss, by simp [inc, b.cl], sml_set b.cs _ (by omega) (by omega), b.ll, b.ls⟩
theorem lK_012 (T : FT) (v : Int) (m : Mc) (p t : Int) : lK T v m p t = 0 ∨ lK T v m p t = 1 ∨ lK T v m p t = 2 := by
  unfold lK
  repeat' split
  all_goals omega
section
set_option maxRecDepth 100000 in
set_option maxHeartbeats 4000000 in
theorem learnR (A : RAd) (B : Br) (v : Int) (m : Mc) (p t : Int) (w : World) (hm : Mok m) (H : RB w A B) (hs : ∀ x ∈ B.ln, x + 1 < 1000000) :
    Calls Tryz.prog 94 #[.pointer (some ⟨A.g, 0, none⟩), .int .i64 v, .agg (MC m), .int .i64 p, .int .i64 t] w fun e w' => e = .returned (.tuple #[]) ∧ ∃ lf', RB w' { A with lf := lf' } (lrn B v m p t) ∧ Ch (Dm A) (Dm { A with lf := lf' }) w w' := by
  have B0 := below_alloc w (.cells (MC m) 35)
  have HX := hide (box_m w m)
  have HC := hide (Ch.of_below (O := Dm A) B0)
  have HR := hide (H.on B0)
  have HKX0 : Hid (∀ i, Dm A i → i ≠ w.heap.size) := hide (fun i hi => by have := H.lt i hi; omega)
  have HS := hide hs
  have HM := hide hm
  clear H hs hm B0
  go_enter Tryz.func94, Tryz.ntmps94
  go_wp2_with fail
  generalize w.alloc (.cells (MC m) 35) = w1 at *
  obtain ⟨kx, hkx⟩ : ∃ kx, kx = w.heap.size := ⟨_, rfl⟩
  have HKX := HKX0
  rw [← hkx] at HX HKX ⊢
  clear hkx
  refine wp_region_held_drew (S := fun w' => w'.cell? ⟨A.g, 2, none⟩ = some (.pointer (some ⟨A.gf, 0, none⟩)) ∧ Box w' kx (mcl m)) (by kernel_rfl) ⟨HR.out.bx.cell 2 _ rfl, HX.out.drew⟩ (fun hHeld => ?_)
  replace HR := hide HR.out.drew
  replace HC := hide (HC.out.on (⟨rfl, rfl, rfl, Nat.le_refl _, fun _ _ => rfl⟩ : Below w1.heap.size w1 w1.drew))
  clear HX
  generalize w1.drew = u0 at *
  refine wpAnyH_take (i := 0) (v := .pointer (some ⟨A.g, 0, none⟩)) rfl (by kernel_rfl) (by kernel_rfl) (by kernel_rfl) (fun _ _ _ h => h) (Or.inl ⟨by rfl, ?_⟩) hHeld ?_
  · intro W hW; (try dsimp only at hW); go_simp
  change wpAnyH _ _ _ _ _ _ _ ⟨#[.pointer (some ⟨A.g, 0, none⟩),.int .i64 v,_,.int .i64 p,.int .i64 t,_,_,.pointer (some ⟨kx, 0, none⟩),_,_,_,_,_,.pointer (some ⟨A.g, 0, none⟩),_,_,_,_,_,_,_,_,_,_,_,_,_,_,_,_,_,_,_,_,_,_,_,_,_,_,_,_,_,_,_,_,_,_], []⟩ _
  refine wpAnyH_take (i := 1) (v := .pointer (some ⟨A.g, 0, none⟩)) rfl (by kernel_rfl) (by kernel_rfl) (by kernel_rfl) (fun _ _ _ h => h) (Or.inl ⟨by rfl, ?_⟩) hHeld ?_
  · intro W hW; (try dsimp only at hW); go_simp
  change wpAnyH _ _ _ _ _ _ _ ⟨#[.pointer (some ⟨A.g, 0, none⟩),.int .i64 v,_,.int .i64 p,.int .i64 t,_,_,.pointer (some ⟨kx, 0, none⟩),_,_,_,_,_,.pointer (some ⟨A.g, 0, none⟩),.pointer (some ⟨A.g, 0, none⟩),_,_,_,_,_,_,_,_,_,_,_,_,_,_,_,_,_,_,_,_,_,_,_,_,_,_,_,_,_,_,_,_,_], []⟩ _
  refine wpAnyH_take (i := 2) (v := .pointer (some ⟨A.g, 2, none⟩)) rfl (by kernel_rfl) (by kernel_rfl) (by kernel_rfl) (fun _ _ _ h => h) (Or.inl ⟨by rfl, ?_⟩) hHeld ?_
  · intro W hW; (try dsimp only at hW); go_simp
  change wpAnyH _ _ _ _ _ _ _ ⟨#[.pointer (some ⟨A.g, 0, none⟩),.int .i64 v,_,.int .i64 p,.int .i64 t,_,_,.pointer (some ⟨kx, 0, none⟩),_,_,_,_,_,.pointer (some ⟨A.g, 0, none⟩),.pointer (some ⟨A.g, 0, none⟩),.pointer (some ⟨A.g, 2, none⟩),_,_,_,_,_,_,_,_,_,_,_,_,_,_,_,_,_,_,_,_,_,_,_,_,_,_,_,_,_,_,_,_], []⟩ _
  refine wpAnyH_take (i := 3) (v := .pointer (some ⟨A.gf, 0, none⟩)) rfl (by kernel_rfl) (by kernel_rfl) (by kernel_rfl) (fun _ _ _ h => h) (Or.inl ⟨by rfl, ?_⟩) hHeld ?_
  · intro W hW; (try dsimp only at hW); have hc := hW.1; clear hW; go_simp
  change wpAnyH _ _ _ _ _ _ _ ⟨#[.pointer (some ⟨A.g, 0, none⟩),.int .i64 v,_,.int .i64 p,.int .i64 t,_,_,.pointer (some ⟨kx, 0, none⟩),_,_,_,_,_,.pointer (some ⟨A.g, 0, none⟩),.pointer (some ⟨A.g, 0, none⟩),.pointer (some ⟨A.g, 2, none⟩),.pointer (some ⟨A.gf, 0, none⟩),_,_,_,_,_,_,_,_,_,_,_,_,_,_,_,_,_,_,_,_,_,_,_,_,_,_,_,_,_,_,_], []⟩ _
  refine wpAnyH_take (i := 4) (v := .int .i64 v) rfl (by kernel_rfl) (by kernel_rfl) (by kernel_rfl) (fun _ _ _ h => h) (Or.inl ⟨by rfl, ?_⟩) hHeld ?_
  · intro W hW; (try dsimp only at hW); go_simp
  change wpAnyH _ _ _ _ _ _ _ ⟨#[.pointer (some ⟨A.g, 0, none⟩),.int .i64 v,_,.int .i64 p,.int .i64 t,_,_,.pointer (some ⟨kx, 0, none⟩),_,_,_,_,_,.pointer (some ⟨A.g, 0, none⟩),.pointer (some ⟨A.g, 0, none⟩),.pointer (some ⟨A.g, 2, none⟩),.pointer (some ⟨A.gf, 0, none⟩),.int .i64 v,_,_,_,_,_,_,_,_,_,_,_,_,_,_,_,_,_,_,_,_,_,_,_,_,_,_,_,_,_,_], []⟩ _
  refine wpAnyH_take (i := 5) (v := .agg (MC m)) rfl (by kernel_rfl) (by kernel_rfl) (by kernel_rfl) (fun _ _ _ h => h) (yieldsIf_load_mid (by rfl) 35 (.tmp 7) rfl kx 0 rfl (mcl m) _ (fun W hW => hW.2.at_) Tryz.underlying35 rfl Tryz.size35) hHeld ?_
  change wpAnyH _ _ _ _ _ _ _ ⟨#[.pointer (some ⟨A.g, 0, none⟩),.int .i64 v,_,.int .i64 p,.int .i64 t,_,_,.pointer (some ⟨kx, 0, none⟩),_,_,_,_,_,.pointer (some ⟨A.g, 0, none⟩),.pointer (some ⟨A.g, 0, none⟩),.pointer (some ⟨A.g, 2, none⟩),.pointer (some ⟨A.gf, 0, none⟩),.int .i64 v,.agg (MC m),_,_,_,_,_,_,_,_,_,_,_,_,_,_,_,_,_,_,_,_,_,_,_,_,_,_,_,_,_], []⟩ _
  refine wpAnyH_take (i := 6) (v := .int .i64 p) rfl (by kernel_rfl) (by kernel_rfl) (by kernel_rfl) (fun _ _ _ h => h) (Or.inl ⟨by rfl, ?_⟩) hHeld ?_
  · intro W hW; (try dsimp only at hW); go_simp
  change wpAnyH _ _ _ _ _ _ _ ⟨#[.pointer (some ⟨A.g, 0, none⟩),.int .i64 v,_,.int .i64 p,.int .i64 t,_,_,.pointer (some ⟨kx, 0, none⟩),_,_,_,_,_,.pointer (some ⟨A.g, 0, none⟩),.pointer (some ⟨A.g, 0, none⟩),.pointer (some ⟨A.g, 2, none⟩),.pointer (some ⟨A.gf, 0, none⟩),.int .i64 v,.agg (MC m),.int .i64 p,_,_,_,_,_,_,_,_,_,_,_,_,_,_,_,_,_,_,_,_,_,_,_,_,_,_,_,_], []⟩ _
  refine wpAnyH_take (i := 7) (v := .int .i64 t) rfl (by kernel_rfl) (by kernel_rfl) (by kernel_rfl) (fun _ _ _ h => h) (Or.inl ⟨by rfl, ?_⟩) hHeld ?_
  · intro W hW; (try dsimp only at hW); go_simp
  change wpAnyH _ _ _ _ _ _ _ ⟨#[.pointer (some ⟨A.g, 0, none⟩),.int .i64 v,_,.int .i64 p,.int .i64 t,_,_,.pointer (some ⟨kx, 0, none⟩),_,_,_,_,_,.pointer (some ⟨A.g, 0, none⟩),.pointer (some ⟨A.g, 0, none⟩),.pointer (some ⟨A.g, 2, none⟩),.pointer (some ⟨A.gf, 0, none⟩),.int .i64 v,.agg (MC m),.int .i64 p,.int .i64 t,_,_,_,_,_,_,_,_,_,_,_,_,_,_,_,_,_,_,_,_,_,_,_,_,_,_,_], []⟩ _
  refine wpAnyH_ready (rs := [8]) (by kernel_rfl) (by simp) ?_
  refine AllReadyH.cons rfl (fun K hK => ?_) AllReadyH.nil
  go_simp
  refine (learn39 A.gf A.lf B.F v m p t _ HM.out HR.out.rf).mono ?_
  rintro e u1 ⟨rfl, ⟨lf', F1, F2⟩, -⟩
  obtain ⟨R1, C1⟩ := HR.out.fdb F1 F2
  have hg2 := R1.bx.cell 2 _ rfl
  have hx2 : Box u1 kx (mcl m) := hHeld.2.block (F2.block _ hHeld.2.lt (fun h => HKX.out kx (Or.inl (by simp only [List.mem_cons, List.not_mem_nil, or_false] at h; rw [h]; simp [fxd])) rfl) (fun h => HKX.out kx (Or.inr (Or.inr h)) rfl))
  replace HC := hide (HC.out.trans C1)
  have HR1 := hide R1
  refine hK.out _ _ ⟨hg2, hx2⟩ (fun hHeld => ?_)
  clear hK K R1 C1 F1 F2 HR hg2 hx2
  change wpAnyH _ _ _ _ _ _ _ ⟨#[.pointer (some ⟨A.g, 0, none⟩),.int .i64 v,_,.int .i64 p,.int .i64 t,_,_,.pointer (some ⟨kx, 0, none⟩),_,_,_,_,_,.pointer (some ⟨A.g, 0, none⟩),.pointer (some ⟨A.g, 0, none⟩),.pointer (some ⟨A.g, 2, none⟩),.pointer (some ⟨A.gf, 0, none⟩),.int .i64 v,.agg (MC m),.int .i64 p,.int .i64 t,.tuple #[.int .i64 (lK B.F v m p t), .int .i64 (lE B.F v m p t)],_,_,_,_,_,_,_,_,_,_,_,_,_,_,_,_,_,_,_,_,_,_,_,_,_,_], []⟩ _
  refine wpAnyH_take (i := 9) (v := .tuple #[.int .i64 (lK B.F v m p t), .int .i64 (lE B.F v m p t)]) rfl (by kernel_rfl) (by kernel_rfl) (by kernel_rfl) (fun _ _ _ h => h) (Or.inl ⟨by rfl, ?_⟩) hHeld ?_
  · intro W hW; (try dsimp only at hW); go_simp
  change wpAnyH _ _ _ _ _ _ _ ⟨#[.pointer (some ⟨A.g, 0, none⟩),.int .i64 v,_,.int .i64 p,.int .i64 t,_,_,.pointer (some ⟨kx, 0, none⟩),_,_,_,_,.tuple #[.int .i64 (lK B.F v m p t), .int .i64 (lE B.F v m p t)],.pointer (some ⟨A.g, 0, none⟩),.pointer (some ⟨A.g, 0, none⟩),.pointer (some ⟨A.g, 2, none⟩),.pointer (some ⟨A.gf, 0, none⟩),.int .i64 v,.agg (MC m),.int .i64 p,.int .i64 t,.tuple #[.int .i64 (lK B.F v m p t), .int .i64 (lE B.F v m p t)],_,_,_,_,_,_,_,_,_,_,_,_,_,_,_,_,_,_,_,_,_,_,_,_,_,_], []⟩ _
  refine wpAnyH_take (i := 10) (v := .int .i64 (lK B.F v m p t)) rfl (by kernel_rfl) (by kernel_rfl) (by kernel_rfl) (fun _ _ _ h => h) (Or.inl ⟨by rfl, ?_⟩) hHeld ?_
  · intro W hW; (try dsimp only at hW); go_simp
  change wpAnyH _ _ _ _ _ _ _ ⟨#[.pointer (some ⟨A.g, 0, none⟩),.int .i64 v,_,.int .i64 p,.int .i64 t,_,_,.pointer (some ⟨kx, 0, none⟩),_,_,_,_,.tuple #[.int .i64 (lK B.F v m p t), .int .i64 (lE B.F v m p t)],.pointer (some ⟨A.g, 0, none⟩),.pointer (some ⟨A.g, 0, none⟩),.pointer (some ⟨A.g, 2, none⟩),.pointer (some ⟨A.gf, 0, none⟩),.int .i64 v,.agg (MC m),.int .i64 p,.int .i64 t,.tuple #[.int .i64 (lK B.F v m p t), .int .i64 (lE B.F v m p t)],.int .i64 (lK B.F v m p t),_,_,_,_,_,_,_,_,_,_,_,_,_,_,_,_,_,_,_,_,_,_,_,_,_], []⟩ _
  refine wpAnyH_take (i := 11) (v := .int .i64 (lE B.F v m p t)) rfl (by kernel_rfl) (by kernel_rfl) (by kernel_rfl) (fun _ _ _ h => h) (Or.inl ⟨by rfl, ?_⟩) hHeld ?_
  · intro W hW; (try dsimp only at hW); go_simp
  change wpAnyH _ _ _ _ _ _ _ ⟨#[.pointer (some ⟨A.g, 0, none⟩),.int .i64 v,_,.int .i64 p,.int .i64 t,_,_,.pointer (some ⟨kx, 0, none⟩),_,_,_,_,.tuple #[.int .i64 (lK B.F v m p t), .int .i64 (lE B.F v m p t)],.pointer (some ⟨A.g, 0, none⟩),.pointer (some ⟨A.g, 0, none⟩),.pointer (some ⟨A.g, 2, none⟩),.pointer (some ⟨A.gf, 0, none⟩),.int .i64 v,.agg (MC m),.int .i64 p,.int .i64 t,.tuple #[.int .i64 (lK B.F v m p t), .int .i64 (lE B.F v m p t)],.int .i64 (lK B.F v m p t),.int .i64 (lE B.F v m p t),_,_,_,_,_,_,_,_,_,_,_,_,_,_,_,_,_,_,_,_,_,_,_,_], []⟩ _
  refine wpAnyH_take (i := 12) (v := .int .i64 (lK B.F v m p t)) rfl (by kernel_rfl) (by kernel_rfl) (by kernel_rfl) (fun _ _ _ h => h) (Or.inl ⟨by rfl, ?_⟩) hHeld ?_
  · intro W hW; (try dsimp only at hW); go_simp
  change wpAnyH _ _ _ _ _ _ _ ⟨#[.pointer (some ⟨A.g, 0, none⟩),.int .i64 v,_,.int .i64 p,.int .i64 t,_,_,.pointer (some ⟨kx, 0, none⟩),_,_,.int .i64 (lK B.F v m p t),_,.tuple #[.int .i64 (lK B.F v m p t), .int .i64 (lE B.F v m p t)],.pointer (some ⟨A.g, 0, none⟩),.pointer (some ⟨A.g, 0, none⟩),.pointer (some ⟨A.g, 2, none⟩),.pointer (some ⟨A.gf, 0, none⟩),.int .i64 v,.agg (MC m),.int .i64 p,.int .i64 t,.tuple #[.int .i64 (lK B.F v m p t), .int .i64 (lE B.F v m p t)],.int .i64 (lK B.F v m p t),.int .i64 (lE B.F v m p t),_,_,_,_,_,_,_,_,_,_,_,_,_,_,_,_,_,_,_,_,_,_,_,_], []⟩ _
  refine wpAnyH_take (i := 13) (v := .int .i64 (lE B.F v m p t)) rfl (by kernel_rfl) (by kernel_rfl) (by kernel_rfl) (fun _ _ _ h => h) (Or.inl ⟨by rfl, ?_⟩) hHeld ?_
  · intro W hW; (try dsimp only at hW); go_simp
  change wpAnyH _ _ _ _ _ _ _ ⟨#[.pointer (some ⟨A.g, 0, none⟩),.int .i64 v,_,.int .i64 p,.int .i64 t,_,_,.pointer (some ⟨kx, 0, none⟩),_,_,.int .i64 (lK B.F v m p t),.int .i64 (lE B.F v m p t),.tuple #[.int .i64 (lK B.F v m p t), .int .i64 (lE B.F v m p t)],.pointer (some ⟨A.g, 0, none⟩),.pointer (some ⟨A.g, 0, none⟩),.pointer (some ⟨A.g, 2, none⟩),.pointer (some ⟨A.gf, 0, none⟩),.int .i64 v,.agg (MC m),.int .i64 p,.int .i64 t,.tuple #[.int .i64 (lK B.F v m p t), .int .i64 (lE B.F v m p t)],.int .i64 (lK B.F v m p t),.int .i64 (lE B.F v m p t),_,_,_,_,_,_,_,_,_,_,_,_,_,_,_,_,_,_,_,_,_,_,_,_], []⟩ _
  refine wpAnyH_done (by kernel_rfl) ?_ _
  clear hHeld
  have b := HR1.out.wf
  have hL : ({ B with F := lT B.F v m p t } : Br).ln = B.ln := rfl
  have c15 := HR1.out.bx.cell 15 _ (rcl_get _ _ b.cl (j := 2) (by rw [b.ll]; omega))
  have f15 := HR1.out.bx.free 15 (by rw [rcl_len _ _ b.cl b.ll]; omega)
  have F2 := hide (HR1.out.incL (j := 2) (by omega) HS.out)
  have c13 := HR1.out.bx.cell 13 _ (rcl_get _ _ b.cl (j := 0) (by rw [b.ll]; omega))
  have f13 := HR1.out.bx.free 13 (by rw [rcl_len _ _ b.cl b.ll]; omega)
  have F0 := hide (HR1.out.incL (j := 0) (by omega) HS.out)
  have c14 := HR1.out.bx.cell 14 _ (rcl_get _ _ b.cl (j := 1) (by rw [b.ll]; omega))
  have f14 := HR1.out.bx.free 14 (by rw [rcl_len _ _ b.cl b.ll]; omega)
  have F1 := hide (HR1.out.incL (j := 1) (by omega) HS.out)
  have hk := lK_012 B.F v m p t
  have el : ∀ j, j < 3 → IntKind.i64.wrap (B.ln.getD j 0 + 1) = B.ln.getD j 0 + 1 := fun j hj => by
    have hm : B.ln.getD j 0 ∈ B.ln := by
      rw [List.getD_eq_getElem?_getD, List.getElem?_eq_getElem (by have := b.ll; rw [hL] at this; rw [this]; exact hj)]
      exact List.getElem_mem _
    have h1 := HS.out _ hm
    have h0 := (b.ls _ hm).1
    exact IntWalk.i64_in _ (by omega)
  have e0 := el 0 (by omega)
  have e1 := el 1 (by omega)
  have e2 := el 2 (by omega)
  rw [hL] at c13 c14 c15 F0 F1 F2
  have HLR : Hid (lrn B v m p t = { B with F := lT B.F v m p t, ln := if lE B.F v m p t = 0 then (if 0 < lK B.F v m p t then inc B.ln (lK B.F v m p t - 1).toNat else B.ln) else inc B.ln 2 }) := hide rfl
  generalize lE B.F v m p t = rE at *
  generalize lK B.F v m p t = rK at *
  generalize lT B.F v m p t = rT at *
  have HRX := HR1
  clear b hL el HR1 HKX
  generalize B.ln.getD 0 0 = y0 at *
  generalize B.ln.getD 1 0 = y1 at *
  generalize B.ln.getD 2 0 = y2 at *
  by_cases hE : rE = 0
  · subst hE
    rcases hk with rfl | rfl | rfl
    · go_wp2
      go_end0
      exact ⟨rfl, lf', by rw [HLR.out]; exact HRX.out, HC.out⟩
    · go_wp2_with fail
      go_region
      go_wp2
      go_end0
      exact ⟨rfl, lf', by rw [HLR.out]; exact F0.out.1.drew, (HC.out.trans F0.out.2).drew⟩
    · go_wp2_with fail
      go_region
      go_wp2
      go_end0
      exact ⟨rfl, lf', by rw [HLR.out]; exact F1.out.1.drew, (HC.out.trans F1.out.2).drew⟩
  · have hE2 : (rE != 0) = true := by simp [hE]
    rw [if_neg hE] at HLR
    go_wp2_with fail
    go_region
    go_wp2
    go_end0
    exact ⟨rfl, lf', by rw [HLR.out]; exact F2.out.1.drew, (HC.out.trans F2.out.2).drew⟩
end
end Go.Proofs.YtgpdjfaklcmoiaaGreat
/- Memory: what goes out, as cells; rows of it. -/
namespace Go.Proofs.YtgpdjfaklcmoiaaGreat
open Go.RowKit Go.PlainAid

/-- What goes out, and where its Body lies. -/
structure Ow where
  o : Ot
  a : Option Addr
  n : Nat
  c : Nat
def ocl (x : Ow) : List Value := .int .i64 x.o.p :: fcl x.o.f (.slice x.a x.n x.c)
def OC (x : Ow) : Array Value := (ocl x).toArray
def zO : Ow := ⟨⟨0, zeroF⟩, none, 0, 0⟩
theorem ocl_length (x : Ow) : (ocl x).length = 18 := rfl
theorem OC_size (x : Ow) : (OC x).size = 18 := rfl
theorem OC0 (x : Ow) : (OC x)[0]? = some (.int .i64 x.o.p) := rfl
theorem one_fcl' (x : Fd) (s : Value) (hs : s.oneCell' = true) : ∀ v ∈ fcl x s, v.oneCell' = true := by
  intro v hv
  simp only [fcl, dcl, scl, List.mem_cons, List.mem_append, List.not_mem_nil, or_false] at hv
  rcases hv with (rfl | rfl | rfl | rfl | rfl | rfl) | (rfl | rfl | rfl | rfl | rfl | rfl) | rfl | rfl | rfl | rfl | rfl <;> first | rfl | exact hs
theorem one_ocl (x : Ow) : ∀ v ∈ ocl x, v.oneCell' = true := by
  intro v hv
  rcases List.mem_cons.1 hv with rfl | hv
  · rfl
  · exact one_fcl' _ _ rfl v hv
def ocs (l : List Ow) : List Value := l.flatMap ocl
theorem ocs_length : ∀ l : List Ow, (ocs l).length = l.length * 18
  | [] => rfl
  | m :: r => by
    have := ocs_length r
    unfold ocs at this ⊢
    rw [List.flatMap_cons, List.length_append, this, ocl_length, List.length_cons]
    omega
theorem ocs_append (a b : List Ow) : ocs (a ++ b) = ocs a ++ ocs b := by simp [ocs]
theorem one_ocs (l : List Ow) : ∀ u ∈ ocs l, u.oneCell' = true := by
  intro u hu
  simp only [ocs, List.mem_flatMap] at hu
  obtain ⟨m, _, hm⟩ := hu
  exact one_ocl m u hm
theorem Tryz.info57 : (Tryz.prog.info? 57).map (fun i => (i.zero, i.size, i.bytes)) = some (some (.agg (OC zO)), 18, 72) := by kernel_rfl
theorem Tryz.sizeOut : (Tryz.prog.info? 57).map (·.size) = some 18 := by kernel_rfl
/-- Things in a row, to be put behind others. -/
structure Ors (w : World) (ao : Option Addr) (n c : Nat) (l : List Ow) : Prop where
  len : l.length = n
  nil : ao = none → n = 0 ∧ c = 0
  src : ∀ a, ao = some a → ∀ j u, (ocs l)[j]? = some u → w.cell? (a.add j) = some u
theorem ors_one (w : World) (x : Ow) : Ors (w.alloc (.cells (OC x) 57)) (some ⟨w.heap.size, 0, none⟩) 1 1 [x] := ⟨rfl, fun e => (by cases e), fun a e j u hj => by
  obtain rfl := Option.some.inj e
  rw [Addr.add_lit, Nat.zero_add, World.cell?_alloc_at _ _ _ _ rfl]
  have hj' : (ocl x ++ [])[j]? = some u := hj
  rw [List.append_nil] at hj'
  show (ocl x).toArray[j]? = some u
  rw [List.getElem?_toArray]
  exact hj'⟩
theorem oapp_run {w : World} {base : Nat} {v : Value} {n : Nat} {xs : List Ow} (hown : w.ownsRow base 57 18 v n (ocs xs)) {ao : Option Addr} {m c : Nat} {ns : List Ow} (hB : Ors w ao m c ns) (h1 : n + m ≤ 100000) (hbase : base ≤ w.heap.size) :
    ∃ v' w', (Builtin.append_ #[48, 48] 48 #[v, .slice ao m c]).run Tryz.prog w = .ok v' w' ∧ w'.ownsRow base 57 18 v' (n + m) (ocs (xs ++ ns)) ∧ w.grownBy w' v.ownBlock := by
  obtain ⟨i0, hi, hz0, hz1, hz2⟩ := info_parts Tryz.info57
  cases ao with
  | none =>
    obtain ⟨rfl, rfl⟩ := hB.nil rfl
    obtain rfl : ns = [] := List.eq_nil_of_length_eq_zero hB.len
    refine ⟨v, w, run_append_owned_none w base 48 48 57 i0 18 Tryz.underlying48 hi v n _ hown, ?_, World.grownBy.refl _ _⟩
    rw [List.append_nil]
    exact hown
  | some a =>
    obtain ⟨v', w', h2, h3, h4, -⟩ := run_append_own w base 48 48 57 i0 _ 18 72 Tryz.underlying48 hi hz0 hz1 hz2 rfl (by decide) v n (ocs xs) hown a m c (ocs ns) (by rw [ocs_length, hB.len]) (hB.src a rfl) (one_ocs ns) (by unfold maxLen; omega) (by omega) hbase
    refine ⟨v', w', h2, ?_, h4⟩
    rw [ocs_append]
    exact h3
theorem wpl_oapp {ops : Array Oper} {rest : List Oper} {o : Oper} {a : Act} {w : World} {Q : Exit → Act → World → Prop} (hgd : o.guard = none) (hty : o.type = 48) (s x : Operand)
    (ho : o.op = .call { callee := .builtin .append, args := #[s, x], argTypes := #[48, 48] })
    (base : Nat) (v : Value) (n : Nat) (xs : List Ow) (fhs : a.eval s = v) (hown : w.ownsRow base 57 18 v n (ocs xs)) (ao : Option Addr) (m c : Nat) (ns : List Ow) (hx : a.eval x = .slice ao m c) (hB : Ors w ao m c ns)
    (h1 : n + m ≤ 100000) (hbase : base ≤ w.heap.size)
    (h : ∀ v' w', w'.ownsRow base 57 18 v' (n + m) (ocs (xs ++ ns)) → w.grownBy w' v.ownBlock → wpList Tryz.prog ops Q rest (a.put o.dst v') w') : wpList Tryz.prog ops Q (o :: rest) a w := by
  obtain ⟨v', w', hr, h2, h3⟩ := oapp_run hown hB h1 hbase
  have hk := h v' w' h2 h3
  refine wpList_plain hgd fun K hK => ?_
  unfold Oper.wp execOp
  simp only [ho, hty, resolve, invoke, builtin, Sem.run_bind, Sem.run_pure, Result.andThen_ok, List.map_toArray, List.map_cons, List.map_nil, fhs, hx, hr]
  exact hK _ _ hk
set_option maxRecDepth 100000 in
theorem run_bsO (e : Ow) (w : World) : (Instr.buildSlice 48 1 #[(0, .agg (OC e))]).run Tryz.prog w = .ok (.slice (some ⟨w.heap.size, 0, none⟩) 1 1) (w.alloc (.cells (OC e) 57)) := by kernel_rfl
theorem wpl_bsO {ops : Array Oper} {rest : List Oper} {o : Oper} {a : Act} {w : World} {Q : Exit → Act → World → Prop} (hgd : o.guard = none) (x : Operand) (e : Ow) (ho : o.op = .buildSlice 48 1 #[(0, x)]) (hx : a.eval x = .agg (OC e))
    (h : wpList Tryz.prog ops Q rest (a.put o.dst (.slice (some ⟨w.heap.size, 0, none⟩) 1 1)) (w.alloc (.cells (OC e) 57))) : wpList Tryz.prog ops Q (o :: rest) a w := by
  refine wpList_plain hgd fun K hK => ?_
  unfold Oper.wp execOp
  simp only [ho, List.map_toArray, List.map_cons, List.map_nil, hx, run_bsO, Sem.run_bind, Sem.run_pure, Result.andThen_ok]
  exact hK _ _ h
set_option maxRecDepth 100000 in
theorem run_bO (p : Int) (f : Fd) (s : Option Addr) (n c : Nat) (w : World) : (Instr.build 57 #[(0, .int .i64 p), (1, .agg (FC f (.slice s n c)))]).run Tryz.prog w = .ok (.agg (OC ⟨⟨p, f⟩, s, n, c⟩)) w := by kernel_rfl
theorem wpl_bO {ops : Array Oper} {rest : List Oper} {o : Oper} {a : Act} {w : World} {Q : Exit → Act → World → Prop} (hgd : o.guard = none) (x y : Operand) (p : Int) (f : Fd) (s : Option Addr) (n c : Nat) (ho : o.op = .build 57 #[(0, x), (1, y)]) (hx : a.eval x = .int .i64 p) (hy : a.eval y = .agg (FC f (.slice s n c)))
    (h : wpList Tryz.prog ops Q rest (a.put o.dst (.agg (OC ⟨⟨p, f⟩, s, n, c⟩))) w) : wpList Tryz.prog ops Q (o :: rest) a w := by
  refine wpList_plain hgd fun K hK => ?_
  unfold Oper.wp execOp
  simp only [ho, List.map_toArray, List.map_cons, List.map_nil, hx, hy, run_bO, Sem.run_bind, Sem.run_pure, Result.andThen_ok]
  exact hK _ _ h
/-- A list of what goes out. -/
structure Ots (w : World) (ao : Option Addr) (n c : Nat) (xs : List Ow) : Prop where
  len : xs.length = n
  nil : ao = none → n = 0 ∧ c = 0
  at_ : ∀ j x, xs[j]? = some x → ∃ b o, ao = some ⟨b, o, none⟩ ∧ w.rangeAt b (o + j * 18) (ocl x)
  le : n ≤ c
  mx : c ≤ maxLen
  byt : ∀ x ∈ xs, Byt w x.a x.n x.c x.o.f.bs
theorem range_on {w w1 : World} {b o : Nat} {cs : List Value} (h : w.rangeAt b o cs) (hb : Below w.heap.size w w1) : w1.rangeAt b o cs := fun j v hj =>
  (hb.cell (p := ⟨b, o + j, none⟩) (World.block_lt_of_cell? w _ (h j v hj))).trans (h j v hj)
theorem Ots.on {w w1 : World} {ao : Option Addr} {n c : Nat} {xs : List Ow} (h : Ots w ao n c xs) (hb : Below w.heap.size w w1) : Ots w1 ao n c xs :=
  ⟨h.len, h.nil, fun j x hj => by
    obtain ⟨b, o, e, r⟩ := h.at_ j x hj
    exact ⟨b, o, e, range_on r hb⟩, h.le, h.mx, fun x hx => (h.byt x hx).on hb⟩
theorem Ots.nothing (w : World) : Ots w none 0 0 [] := ⟨rfl, fun _ => ⟨rfl, rfl⟩, fun j x hj => by simp at hj, Nat.le_refl _, Nat.zero_le _, fun x hx => by cases hx⟩
theorem ocs_get : ∀ (l : List Ow) (j : Nat) (x : Ow) (k : Nat) (u : Value), l[j]? = some x → (ocl x)[k]? = some u → (ocs l)[j * 18 + k]? = some u
  | [], j, x, k, u, h, _ => by simp at h
  | y :: r, 0, x, k, u, h, hk => by
    obtain rfl : y = x := by simpa using h
    have hl := (List.getElem?_eq_some_iff.1 hk).1
    show (ocl y ++ ocs r)[0 * 18 + k]? = some u
    rw [List.getElem?_append_left (by omega), show 0 * 18 + k = k by omega]
    exact hk
  | y :: r, j + 1, x, k, u, h, hk => by
    have ih := ocs_get r j x k u (by simpa using h) hk
    show (ocl y ++ ocs r)[(j + 1) * 18 + k]? = some u
    rw [List.getElem?_append_right (by rw [ocl_length]; omega), ocl_length, show (j + 1) * 18 + k - 18 = j * 18 + k by omega]
    exact ih
theorem row_ots {w : World} {base n : Nat} {v : Value} {xs : List Ow} (hr : w.ownsRow base 57 18 v n (ocs xs)) (hy : ∀ x ∈ xs, Byt w x.a x.n x.c x.o.f.bs) : ∃ ao c, v = .slice ao n c ∧ Ots w ao n c xs := by
  have hl : xs.length = n := by have := hr.1; rw [ocs_length] at this; omega
  rcases hr.2 with ⟨rfl, rfl⟩ | ⟨g, cap, cur, rfl, hb, hg, hn, hm, hs, ht⟩
  · obtain rfl : xs = [] := List.eq_nil_of_length_eq_zero hl
    exact ⟨none, 0, rfl, Ots.nothing w⟩
  · refine ⟨_, _, rfl, hl, fun e => (by cases e), fun j x hj => ⟨g, 0, rfl, fun k u hk => ?_⟩, hn, hm, hy⟩
    have hc := hr.cells (g := g) rfl (j * 18 + k) u (ocs_get xs j x k u hj hk)
    rw [Addr.add_lit] at hc
    rw [Nat.add_assoc]
    exact hc
end Go.Proofs.YtgpdjfaklcmoiaaGreat
