/- Contract of the document's Learn, whole. -/
import Derived.Test.YtbpkdkniiggcpaaEa
namespace Go.Proofs.Ytbpkdkniiggcpaa
open Go.RowKit Go.PlainAid

section
attribute [local go_sem] mc_def
set_option maxRecDepth 100000 in
set_option maxHeartbeats 4000000 in
theorem learn39_yes (g : Nat) (lv : Value) (T : Tb) (v : Int) (m : Mc) (p t : Int) (w : World) (hm : Mok m) (H : RT w g lv T) (hr : lOk v m p t = true) :
    Calls Try.prog 39 #[.pointer (some ⟨g, 0, none⟩), .int .i64 v, .agg (MC m), .int .i64 p, .int .i64 t] w fun e w' => e = .returned (.tuple #[.int .i64 (lK T v m p t), .int .i64 (lE T v m p t)]) ∧ (∃ lv', RT w' g lv' (lT T v m p t)) ∧ Below g w w' := by
  have M0 := box_m w m
  have A0 := M0.at_
  have W0 : Hid (Below w.heap.size w (w.alloc (.cells (MC m) 24))) := hide (below_alloc w _)
  have q1 := fun w => right55 v m p w hm
  have HXG := hide (gd_learn hm hr)
  have HKK : Hid (lK T v m p t = if (lk T.l v m).s then 0 else if full T v m then 0 else if hs T.l v m then (if (lk T.l v m).p = p then 0 else 2) else 1) := hide (by rw [lK, hr]; rfl)
  have HEE : Hid (lE T v m p t = if (lk T.l v m).s then 0 else if full T v m then 3 else 0) := hide (by rw [lE, hr]; rfl)
  have HTT : Hid (lT T v m p t = if (lk T.l v m).s then T else if full T v m then T else ⟨T.n, up T.l ⟨v, m, p, t, false⟩⟩) := hide (by rw [lT, hr]; rfl)
  generalize lK T v m p t = rK at *
  generalize lE T v m p t = rE at *
  generalize lT T v m p t = rT at *
  rw [lOk, Bool.and_eq_true, isT_iff] at hr
  rw [hr.1] at q1
  have t0 : ¬ t < 0 := by omega
  have t1 : ¬ 1099511627776 < t := by omega
  have HRT0 := hide H
  have HM0 := hide M0
  have hlt := H.lt
  have n2 := H.wf.n2
  have hle := H.wf.le
  clear H M0 hr hm
  have tk1 : True := trivial
  have tk2 : True := trivial
  go_enter Try.func39, Try.ntmps39
  go_wp2_with (first | (have _t := tk1; refine wpl_mac (.tmp 7) rfl A0 ?_ ?_ ?_; rfl; rfl; clear tk1))
  refine (q1 _).mono ?_
  rintro e w1 ⟨rfl, hb⟩
  have HB1 := hide (belowOn W0.out hb)
  have HM1 := hide (HM0.out.on hb)
  have A1 := HM1.out.at_
  clear hb A0 HM0 q1
  go_wp2_with (first | (have _t := tk2; refine wpl_mac (.tmp 7) rfl A1 ?_ ?_ ?_; rfl; rfl; clear tk2))
  refine (find28 g lv T v m _ (HRT0.out.on HB1.out)).mono ?_
  rintro e W2 ⟨rfl, hb⟩
  have HB := hide (belowOn HB1.out hb)
  have HM2 := hide (HM1.out.on hb)
  have HR := hide (HRT0.out.on HB.out)
  clear hb A1 HM1 HB1 W0
  rcases Bool.eq_false_or_eq_true (hs T.l v m) with hh | hh
  · have hf : full T v m = false := by simp [full, hh]
    have h1 := HKK.out
    have h2 := HEE.out
    have h3 := HTT.out
    simp only [hf, hh, Bool.false_eq_true, if_false, if_true] at h1
    simp only [hf, Bool.false_eq_true, if_false] at h2 h3
    rw [fx_there hh]
    have hix := (hs_ix T.l v m).1 hh
    have hgt := ix_get T.l v m hh
    have hky := (ky_iff _ _ _).1 (lk_ky T.l v m hh)
    rcases HRT0.out.at with ⟨_, hl⟩ | ⟨b, cap, rfl, hgb, hbl, hn, hmx, hbx⟩
    · rw [hl] at hh; cases hh
    · have hb2 := hbx.on HB.out
      obtain ⟨-, -, -, -, -, -, -, d7, d8, d9⟩ := range_cells (hb2.ent hgt)
      have f7 := (hb2.thE hix 7 (by omega)).2
      have f8 := (hb2.thE hix 8 (by omega)).2
      have c1 := HR.out.bx.cell 1 _ rfl
      have k2 : (ix T.l v m : Int) < T.l.length := by omega
      have HGT := hide hgt
      have HKY := hide hky
      unfold maxLen at hmx
      clear hbx hgt hky hf hh hb2 HKK HEE HTT
      generalize ix T.l v m = k at *
      generalize lk T.l v m = y at *
      rcases Bool.eq_false_or_eq_true y.s with hs1 | hs1
      · rw [hs1, if_pos rfl] at h1 h2 h3
        subst h1 h2
        have HT3 := hide h3
        rw [hs1] at d9
        clear h3
        go_wp2
        go_ret2
        exact ⟨rfl, ⟨_, by rw [HT3.out]; exact HR.out⟩, HB.out.mono (by omega)⟩
      · rw [hs1, if_neg (by simp)] at h1 h2 h3
        subst h2
        have HT3 := hide h3
        have HK3 := hide h1
        rw [hs1] at d9
        have F := hide (HR.out.learnAt (p := p) (t := t) HGT.out HKY.out.1 HKY.out.2 hs1 HXG.out)
        have g1 : ¬ b = g := by omega
        have g2 : ¬ g = b := by omega
        clear h1 h3
        by_cases hp : y.p = p
        · have hp2 : (y.p == p) = true := by simp [hp]
          go_wp2
          go_ret2
          have e := HK3.out
          rw [if_pos hp] at e
          rw [e]
          exact ⟨rfl, ⟨_, by rw [HT3.out]; exact F.out.1⟩, (HB.out.mono (by omega)).grown F.out.2 (by have := HB.out.size; omega) (fun r hr => by have := Option.some.inj hr; omega)⟩
        · have hp2 : (y.p == p) = false := by simp [hp]
          go_wp2
          go_ret2
          have e := HK3.out
          rw [if_neg hp] at e
          rw [e]
          exact ⟨rfl, ⟨_, by rw [HT3.out]; exact F.out.1⟩, (HB.out.mono (by omega)).grown F.out.2 (by have := HB.out.size; omega) (fun r hr => by have := Option.some.inj hr; omega)⟩
  · rw [fx_none hh]
    obtain ⟨ao, c, rfl, -, -⟩ := HRT0.out.ers
    have c1 := HR.out.bx.cell 1 _ rfl
    have c0 := HR.out.bx.cell 0 _ rfl
    have h1 := HKK.out
    have h2 := HEE.out
    have h3 := HTT.out
    rw [lk_no _ _ _ hh, show zE.s = false from rfl] at h1 h2 h3
    simp only [hh, Bool.false_eq_true, if_false] at h1 h2 h3
    have HHS := hide hh
    by_cases hl : T.l.length < T.n
    · have hf : full T v m = false := by simp [full, hh]; omega
      simp only [hf, Bool.false_eq_true, if_false] at h1 h2 h3
      subst h1 h2
      have HT3 := hide h3
      have hq : ¬ (T.n : Int) ≤ T.l.length := by omega
      have HLL := hide hl
      clear hl hh hf HKK HEE HTT h3
      have tk1 : True := trivial
      go_wp2_with fail
      go_quiet (fail)
      have HM3 := (HM2.out.drewN nq).at_
      have HR3 : Hid (RT (W2.drewN nq) g (.slice ao T.l.length c) T) := hide (HR.out.on ⟨rfl, rfl, rfl, Nat.le_refl _, fun _ _ => rfl⟩)
      have HB3 : Hid (Below w.heap.size w (W2.drewN nq)) := hide (HB.out.trans ⟨rfl, rfl, rfl, Nat.le_refl _, fun _ _ => rfl⟩)
      go_wp2_with (first | (have _t := tk1; refine wpl_mac (.tmp 7) rfl HM3 ?_ ?_ ?_; rfl; rfl; clear tk1))
      refine (put56 g _ T ⟨v, m, p, t, false⟩ _ HXG.out HR3.out HHS.out HLL.out).mono ?_
      rintro e w5 ⟨rfl, F, B5⟩
      have HF := hide F
      have HB5 := hide ((HB3.out.mono (by omega)).trans B5)
      clear F B5 c0 c1 HM3
      go_wp2
      go_ret2
      exact ⟨rfl, by rw [HT3.out]; exact HF.out, HB5.out⟩
    · have hf : full T v m = true := by simp [full, hh]; omega
      simp only [hf, if_true] at h1 h2 h3
      subst h1 h2
      have HT3 := hide h3
      have hq : (T.n : Int) ≤ T.l.length := by omega
      clear hl hh hf HKK HEE HTT h3
      go_wp2_with fail
      go_quiet (fail)
      go_wp2
      go_ret2
      exact ⟨rfl, ⟨_, by rw [HT3.out]; exact HR.out.on ⟨rfl, rfl, rfl, Nat.le_refl _, fun _ _ => rfl⟩⟩, (HB.out.mono (by omega)).trans ⟨rfl, rfl, rfl, Nat.le_refl _, fun _ _ => rfl⟩⟩
theorem learn39 (g : Nat) (lv : Value) (T : Tb) (v : Int) (m : Mc) (p t : Int) (w : World) (hm : Mok m) (H : RT w g lv T) :
    Calls Try.prog 39 #[.pointer (some ⟨g, 0, none⟩), .int .i64 v, .agg (MC m), .int .i64 p, .int .i64 t] w fun e w' => e = .returned (.tuple #[.int .i64 (lK T v m p t), .int .i64 (lE T v m p t)]) ∧ (∃ lv', RT w' g lv' (lT T v m p t)) ∧ Below g w w' := by
  rcases Bool.eq_false_or_eq_true (lOk v m p t) with hr | hr
  · exact learn39_yes g lv T v m p t w hm H hr
  · refine (learn39_no g v m p t w hm hr).mono ?_
    rintro e w' ⟨rfl, hb⟩
    rw [lK, lE, lT, hr]
    exact ⟨rfl, ⟨lv, H.on hb⟩, hb.mono (Nat.le_of_succ_le H.lt)⟩
end
end Go.Proofs.Ytbpkdkniiggcpaa
