/- The document's table: an entry written anew in its place; put as one contract. -/
import Derived.Test.YtbpkdkniiggcpaaE2
import Derived.Test.YtbpkdkniiggcpaaE3
import Derived.Test.YtbpkdkniiggcpaaB5
namespace Go.Proofs.Ytbpkdkniiggcpaa
open Go.RowKit Go.PlainAid

/-- Values written one behind another. -/
def sm : List Value → Nat → List Value → List Value
  | xs, _, [] => xs
  | xs, o, v :: r => sm (xs.set o v) (o + 1) r
theorem sm_parts : ∀ (B' A B C : List Value), B'.length = B.length → sm (A ++ (B ++ C)) A.length B' = A ++ (B' ++ C)
  | [], A, B, C, h => by
    obtain rfl : B = [] := List.eq_nil_of_length_eq_zero (by simpa using h.symm)
    rfl
  | v :: r, A, B, C, h => by
    cases B with
    | nil => simp at h
    | cons u s =>
      have ih := sm_parts r (A ++ [v]) s C (by simpa using h)
      rw [List.length_append] at ih
      show sm ((A ++ (u :: s ++ C)).set A.length v) (A.length + 1) r = _
      rw [List.set_append_right _ _ (Nat.le_refl _), Nat.sub_self]
      show sm (A ++ (v :: (s ++ C))) (A.length + 1) r = _
      simpa using ih
theorem row_sm : ∀ (vs : List Value) (o : Nat) (w : World) (base b n cap : Nat) (xs : List Value), w.ownsRow base 33 10 (.slice (some ⟨b, 0, none⟩) n cap) n xs → (w.setCells b o vs).ownsRow base 33 10 (.slice (some ⟨b, 0, none⟩) n cap) n (sm xs o vs)
  | [], _, _, _, _, _, _, _, h => h
  | v :: r, o, _, base, b, n, cap, _, h => row_sm r (o + 1) _ base b n cap _ (h.stored o v).1
theorem RT.putAt {w : World} {g b cap : Nat} {T : Tb} (H : RT w g (.slice (some ⟨b, 0, none⟩) T.l.length cap) T) {x : En} {k : Nat} (hk : ∃ y, T.l[k]? = some y ∧ ke y = ke x) (hx : Gd x) : RT (w.setCells b (k * 10) (ecl x)) g (.slice (some ⟨b, 0, none⟩) T.l.length cap) ⟨T.n, up T.l x⟩ := by
  obtain ⟨y, hy, he⟩ := hk
  have hs := up_set H.wf.srt hy he
  have hl : (up T.l x).length = T.l.length := by rw [← hs, List.length_set]
  obtain ⟨p1, p2, p3, p4, p5⟩ := box_of_row H.row (es_length _)
  refine ⟨H.bx.kept (by omega) (setCells_grown b _ _ w), ?_, up_wf H.wf hx (by rw [hl]; exact H.wf.le)⟩
  show (w.setCells b (k * 10) (ecl x)).ownsRow (g + 1) 33 10 (.slice (some ⟨b, 0, none⟩) T.l.length cap) (up T.l x).length (es (up T.l x))
  rw [hl, ← hs, es_set x hy]
  have h1 := row_sm (ecl x) (k * 10) w (g + 1) b T.l.length cap (es T.l) H.row
  rw [es_parts hy] at h1
  have h2 := sm_parts (ecl x) (es (T.l.take k)) (ecl y) (es (T.l.drop (k + 1))) rfl
  rw [es_take_len hy] at h2
  rw [h2] at h1
  exact h1
theorem put56 (g : Nat) (lv : Value) (T : Tb) (x : En) (w : World) (hx : Gd x) (H : RT w g lv T) (hh : hs T.l x.v x.m = false) (hl : T.l.length < T.n) :
    Calls Try.prog 56 #[.pointer (some ⟨g, 0, none⟩), .agg (EC x)] w fun e w' => e = .returned (.tuple #[]) ∧ (∃ lv', RT w' g lv' ⟨T.n, up T.l x⟩) ∧ Below g w w' := by
  rcases H.at with ⟨rfl, h0⟩ | ⟨b, cap, rfl, hgb, hbl, hn, hmx, hbx⟩
  · exact put56_none g T x w hx H h0
  · exact put56_some g b cap T x w hx H hh hl hn hmx hbx
section
attribute [local go_sem] mc_def
set_option maxRecDepth 100000 in
set_option maxHeartbeats 4000000 in
theorem put40_yes (g : Nat) (lv : Value) (T : Tb) (v : Int) (m : Mc) (p : Int) (w : World) (hm : Mok m) (H : RT w g lv T) (hr : rgt v m p = true) :
    Calls Try.prog 40 #[.pointer (some ⟨g, 0, none⟩), .int .i64 v, .agg (MC m), .int .i64 p] w fun e w' => e = .returned (.int .i64 (sE T ⟨v, m, p, 0, true⟩)) ∧ (∃ lv', RT w' g lv' (sT T ⟨v, m, p, 0, true⟩)) ∧ Below g w w' := by
  have M0 := box_m w m
  have A0 := M0.at_
  have W0 : Hid (Below w.heap.size w (w.alloc (.cells (MC m) 24))) := hide (below_alloc w _)
  have q1 := fun w => right55 v m p w hm
  rw [hr] at q1
  have HXG := hide (gd_put hm hr)
  have HRT0 := hide H
  have HM0 := hide M0
  have hlt := H.lt
  have n2 := H.wf.n2
  have hle := H.wf.le
  clear H M0 hr hm
  have HSE : Hid (sE T ⟨v, m, p, 0, true⟩ = if full T v m then 3 else 0) := hide rfl
  have HST : Hid (sT T ⟨v, m, p, 0, true⟩ = if full T v m then T else ⟨T.n, up T.l ⟨v, m, p, 0, true⟩⟩) := hide rfl
  generalize sE T ⟨v, m, p, 0, true⟩ = qE at *
  generalize sT T ⟨v, m, p, 0, true⟩ = qT at *
  have tk1 : True := trivial
  have tk2 : True := trivial
  have tk3 : True := trivial
  go_enter Try.func40, Try.ntmps40
  go_wp2_with (first | (have _t := tk1; refine wpl_mac (.tmp 6) rfl A0 ?_ ?_ ?_; rfl; rfl; clear tk1))
  refine (q1 _).mono ?_
  rintro e w1 ⟨rfl, hb⟩
  have HB1 := hide (belowOn W0.out hb)
  have HM1 := hide (HM0.out.on hb)
  have A1 := HM1.out.at_
  clear hb A0 HM0 q1
  go_wp2_with (first | (have _t := tk2; refine wpl_mac (.tmp 6) rfl A1 ?_ ?_ ?_; rfl; rfl; clear tk2) | (have _t := tk3; refine wpl_putE ⟨v, m, p, 0, true⟩ zE (.tmp 10) (.tmp 21) rfl (box_e _ zE) ?_ rfl rfl ?_; rfl; clear tk3))
  intro w2 X2 G2
  have B2a := up2 (Below.refl w1.heap.size w1) G2 (Nat.le_refl _)
  have HB2 := hide (belowOn HB1.out B2a)
  have HM2 := hide (HM1.out.on B2a)
  have A2 := HM2.out.at_
  have HX2 := hide X2
  have hkx : Hid (w.heap.size ≤ w1.heap.size) := hide HB1.out.size
  clear X2 G2 B2a A1 HM1
  have tk4 : True := trivial
  go_wp2_with (first | (have _t := tk4; refine wpl_mac (.tmp 6) rfl A2 ?_ ?_ ?_; rfl; rfl; clear tk4))
  refine (find28 g lv T v m _ (HRT0.out.on HB2.out)).mono ?_
  rintro e W2 ⟨rfl, hb⟩
  have HB := hide (belowOn HB2.out hb)
  have HX := hide (HX2.out.on hb)
  have HR := hide (HRT0.out.on HB.out)
  clear hb A2 HM2 HX2 HB2 HB1 W0
  generalize w1.heap.size = kx at *
  generalize hxe : (⟨v, m, p, 0, true⟩ : En) = x at *
  have HXE := hide hxe
  clear hxe
  rcases Bool.eq_false_or_eq_true (hs T.l v m) with hh | hh
  · have hf : full T v m = false := by simp [full, hh]
    have h1 := HSE.out
    have h2 := HST.out
    rw [hf, if_neg (by simp)] at h1 h2
    subst h1 h2
    rw [fx_there hh]
    have hix := (hs_ix T.l v m).1 hh
    have hgt := ix_get T.l v m hh
    have hky := (ky_iff _ _ _).1 (lk_ky T.l v m hh)
    have HKY : Hid (∃ y, T.l[ix T.l v m]? = some y ∧ ke y = ke x) := hide ⟨_, hgt, by rw [← HXE.out]; simp [ke, hky.1, hky.2]⟩
    rcases HRT0.out.at with ⟨_, hl⟩ | ⟨b, cap, rfl, hgb, hbl, hn, hmx, hbx⟩
    · rw [hl] at hh; cases hh
    · have HRT := HR
      have HG := hide HR.out.bx
      have HL := hide (hbx.on HB.out)
      have HA : Hid (ix T.l v m < T.l.length) := hide hix
      have HGB : Hid (g ≠ b) := hide (by omega)
      have HXB : Hid (kx ≠ b) := hide (by have := hkx.out; omega)
      have k2 : (ix T.l v m : Int) < T.l.length := by omega
      unfold maxLen at hmx
      clear hbx hgt hky hf hh HSE HST
      generalize ix T.l v m = k at *
      go_wp2_with fail
      refine wp_region_held_drew (S := fun w' => Box w' g [.int .i64 T.n, .slice (some ⟨b, 0, none⟩) T.l.length cap] ∧ Box w' kx (ecl x)) (by kernel_rfl) ⟨HG.out.drew, HX.out.drew⟩ (fun hHeld => ?_)
      refine wpAnyH_take (i := 0) (v := .pointer (some ⟨g, 0, none⟩)) rfl (by kernel_rfl) (by kernel_rfl) (by kernel_rfl) (fun _ _ _ h => h) (Or.inl ⟨by rfl, ?_⟩) hHeld ?_
      · intro W hW; (try dsimp only at hW); go_simp
      change wpAnyH _ _ _ _ _ _ _ ⟨#[.pointer (some ⟨g, 0, none⟩), _, _, _, _, _, _, _, _, _, .pointer (some ⟨kx, 0, none⟩), .int .i64 (k : Int), _, _, _, _, _, _, _, _, _, _, _, _, _, _, _, _, .pointer (some ⟨g, 0, none⟩), _, _, _, _, _, _, _, _, _, _, _, _, _, _, _, _, _, _, _], []⟩ _
      refine wpAnyH_take (i := 1) (v := .pointer (some ⟨g, 0, none⟩)) rfl (by kernel_rfl) (by kernel_rfl) (by kernel_rfl) (fun _ _ _ h => h) (Or.inl ⟨by rfl, ?_⟩) hHeld ?_
      · intro W hW; (try dsimp only at hW); go_simp
      change wpAnyH _ _ _ _ _ _ _ ⟨#[.pointer (some ⟨g, 0, none⟩), _, _, _, _, _, _, _, _, _, .pointer (some ⟨kx, 0, none⟩), .int .i64 (k : Int), _, _, _, _, _, _, _, _, _, _, _, _, _, _, _, _, .pointer (some ⟨g, 0, none⟩), .pointer (some ⟨g, 0, none⟩), _, _, _, _, _, _, _, _, _, _, _, _, _, _, _, _, _, _], []⟩ _
      refine wpAnyH_take (i := 2) (v := .pointer (some ⟨g, 1, none⟩)) rfl (by kernel_rfl) (by kernel_rfl) (by kernel_rfl) (fun _ _ _ h => h) (Or.inl ⟨by rfl, ?_⟩) hHeld ?_
      · intro W hW; (try dsimp only at hW); go_simp
      change wpAnyH _ _ _ _ _ _ _ ⟨#[.pointer (some ⟨g, 0, none⟩), _, _, _, _, _, _, _, _, _, .pointer (some ⟨kx, 0, none⟩), .int .i64 (k : Int), _, _, _, _, _, _, _, _, _, _, _, _, _, _, _, _, .pointer (some ⟨g, 0, none⟩), .pointer (some ⟨g, 0, none⟩), .pointer (some ⟨g, 1, none⟩), _, _, _, _, _, _, _, _, _, _, _, _, _, _, _, _, _], []⟩ _
      refine wpAnyH_take (i := 3) (v := .slice (some ⟨b, 0, none⟩) T.l.length cap) rfl (by kernel_rfl) (by kernel_rfl) (by kernel_rfl) (fun _ _ _ h => h) (Or.inl ⟨by rfl, ?_⟩) hHeld ?_
      · intro W hW; (try dsimp only at hW); have hc := hW.1.cell 1 _ rfl; clear hW; go_simp
      change wpAnyH _ _ _ _ _ _ _ ⟨#[.pointer (some ⟨g, 0, none⟩), _, _, _, _, _, _, _, _, _, .pointer (some ⟨kx, 0, none⟩), .int .i64 (k : Int), _, _, _, _, _, _, _, _, _, _, _, _, _, _, _, _, .pointer (some ⟨g, 0, none⟩), .pointer (some ⟨g, 0, none⟩), .pointer (some ⟨g, 1, none⟩), .slice (some ⟨b, 0, none⟩) T.l.length cap, _, _, _, _, _, _, _, _, _, _, _, _, _, _, _, _], []⟩ _
      refine wpAnyH_take (i := 4) (v := .int .i64 (k : Int)) rfl (by kernel_rfl) (by kernel_rfl) (by kernel_rfl) (fun _ _ _ h => h) (Or.inl ⟨by rfl, ?_⟩) hHeld ?_
      · intro W hW; (try dsimp only at hW); go_simp
      change wpAnyH _ _ _ _ _ _ _ ⟨#[.pointer (some ⟨g, 0, none⟩), _, _, _, _, _, _, _, _, _, .pointer (some ⟨kx, 0, none⟩), .int .i64 (k : Int), _, _, _, _, _, _, _, _, _, _, _, _, _, _, _, _, .pointer (some ⟨g, 0, none⟩), .pointer (some ⟨g, 0, none⟩), .pointer (some ⟨g, 1, none⟩), .slice (some ⟨b, 0, none⟩) T.l.length cap, .int .i64 (k : Int), _, _, _, _, _, _, _, _, _, _, _, _, _, _, _], []⟩ _
      refine wpAnyH_take (i := 5) (v := .agg (EC x)) rfl (by kernel_rfl) (by kernel_rfl) (by kernel_rfl) (fun _ _ _ h => h) (yieldsIf_load_mid (by rfl) 33 (.tmp 10) rfl kx 0 rfl (ecl x) _ (fun W hW => hW.2.at_) Try.underlying33 rfl Try.size33) hHeld ?_
      change wpAnyH _ _ _ _ _ _ _ ⟨#[.pointer (some ⟨g, 0, none⟩), _, _, _, _, _, _, _, _, _, .pointer (some ⟨kx, 0, none⟩), .int .i64 (k : Int), _, _, _, _, _, _, _, _, _, _, _, _, _, _, _, _, .pointer (some ⟨g, 0, none⟩), .pointer (some ⟨g, 0, none⟩), .pointer (some ⟨g, 1, none⟩), .slice (some ⟨b, 0, none⟩) T.l.length cap, .int .i64 (k : Int), .agg (EC x), _, _, _, _, _, _, _, _, _, _, _, _, _, _], []⟩ _
      refine wpAnyH_take (i := 6) (v := .pointer (some ⟨b, k * 10, none⟩)) rfl (by kernel_rfl) (by kernel_rfl) (by kernel_rfl) (fun _ _ _ h => h) (Or.inl ⟨by rfl, ?_⟩) hHeld ?_
      · intro W hW; (try dsimp only at hW); go_simp
      change wpAnyH _ _ _ _ _ _ _ ⟨#[.pointer (some ⟨g, 0, none⟩), _, _, _, _, _, _, _, _, _, .pointer (some ⟨kx, 0, none⟩), .int .i64 (k : Int), _, _, _, _, _, _, _, _, _, _, _, _, _, _, _, _, .pointer (some ⟨g, 0, none⟩), .pointer (some ⟨g, 0, none⟩), .pointer (some ⟨g, 1, none⟩), .slice (some ⟨b, 0, none⟩) T.l.length cap, .int .i64 (k : Int), .agg (EC x), .pointer (some ⟨b, k * 10, none⟩), _, _, _, _, _, _, _, _, _, _, _, _, _], []⟩ _
      refine wpAnyH_ready (rs := [7]) (by kernel_rfl) (by simp) ?_
      refine AllReadyH.cons rfl (fun K hK => ?_) AllReadyH.nil
      rw [if_pos (by rfl)]
      refine wp_store_mid 33 (.tmp 34) (.tmp 33) rfl b (k * 10) (EC x) rfl rfl (HL.out.drew.thE HA.out) Try.size33 (one_EC x) ?_
      have F := hide (HRT.out.drew.putAt HKY.out HXG.out)
      have G3 := setCells_grown b (ecl x) (k * 10) W2.drew
      refine hK.out _ _ ⟨HG.out.drew.kept HGB.out G3, HX.out.drew.kept HXB.out G3⟩ (fun hHeld => ?_)
      clear hK K hHeld
      obtain ⟨w4, hw4⟩ : ∃ w4, w4 = World.setCells W2.drew b (k * 10) (ecl x) := ⟨_, rfl⟩
      rw [← hw4] at F G3
      have e4 : World.setCells W2.drew b (k * 10) (EC x).toList = w4 := by rw [hw4]; rfl
      rw [e4]
      have HG3 := hide G3
      clear e4 hw4 G3
      change wpAnyH _ _ _ _ _ _ _ ⟨#[.pointer (some ⟨g, 0, none⟩), _, _, _, _, _, _, _, _, _, .pointer (some ⟨kx, 0, none⟩), .int .i64 (k : Int), _, _, _, _, _, _, _, _, _, _, _, _, _, _, _, _, .pointer (some ⟨g, 0, none⟩), .pointer (some ⟨g, 0, none⟩), .pointer (some ⟨g, 1, none⟩), .slice (some ⟨b, 0, none⟩) T.l.length cap, .int .i64 (k : Int), .agg (EC x), .pointer (some ⟨b, k * 10, none⟩), _, _, _, _, _, _, _, _, _, _, _, _, _], []⟩ _
      refine wpAnyH_done (by kernel_rfl) ?_ _
      go_wp2
      go_ret
      exact ⟨rfl, ⟨_, F.out⟩, (HB.out.mono (by omega)).grown (grown_drew' HG3.out) (by have := HB.out.size; omega) (fun r hr => by have := Option.some.inj hr; omega)⟩
  · rw [fx_none hh]
    obtain ⟨ao, c, rfl, -, -⟩ := HRT0.out.ers
    have c1 := HR.out.bx.cell 1 _ rfl
    have c0 := HR.out.bx.cell 0 _ rfl
    have HHS := hide hh
    by_cases hl : T.l.length < T.n
    · have hf : full T v m = false := by simp [full, hh]; omega
      have h1 := HSE.out
      have h2 := HST.out
      rw [hf, if_neg (by simp)] at h1 h2
      subst h1 h2
      have hq : ¬ (T.n : Int) ≤ T.l.length := by omega
      have HLL := hide hl
      clear hl hh hf HSE HST
      have tk1 : True := trivial
      go_wp2_with fail
      go_quiet (fail)
      have HX3 := (HX.out.drewN nq).at_
      have HR3 : Hid (RT (W2.drewN nq) g (.slice ao T.l.length c) T) := hide (HR.out.on ⟨rfl, rfl, rfl, Nat.le_refl _, fun _ _ => rfl⟩)
      have HB3 : Hid (Below w.heap.size w (W2.drewN nq)) := hide (HB.out.trans ⟨rfl, rfl, rfl, Nat.le_refl _, fun _ _ => rfl⟩)
      go_wp2_with (first | (have _t := tk1; refine wpl_ent (.tmp 10) rfl HX3 ?_ ?_ ?_; rfl; rfl; clear tk1))
      refine (put56 g _ T x _ HXG.out HR3.out (by rw [← HXE.out]; exact HHS.out) HLL.out).mono ?_
      rintro e w5 ⟨rfl, F, B5⟩
      have HF := hide F
      have HB5 := hide ((HB3.out.mono (by omega)).trans B5)
      clear F B5 c0 c1 HX3
      go_wp2
      go_ret
      exact ⟨rfl, HF.out, HB5.out⟩
    · have hf : full T v m = true := by simp [full, hh]; omega
      have h1 := HSE.out
      have h2 := HST.out
      rw [hf, if_pos rfl] at h1 h2
      subst h1
      have HQT := hide h2
      have hq : (T.n : Int) ≤ T.l.length := by omega
      clear hl hh hf HSE HST h2
      go_wp2_with fail
      go_quiet (fail)
      go_wp2
      go_ret
      exact ⟨rfl, ⟨_, by rw [HQT.out]; exact HR.out.on ⟨rfl, rfl, rfl, Nat.le_refl _, fun _ _ => rfl⟩⟩, (HB.out.mono (by omega)).trans ⟨rfl, rfl, rfl, Nat.le_refl _, fun _ _ => rfl⟩⟩
end
set_option maxRecDepth 100000 in
set_option maxHeartbeats 1000000 in
theorem put40_no (g : Nat) (v : Int) (m : Mc) (p : Int) (w : World) (hm : Mok m) (hr : rgt v m p = false) :
    Calls Try.prog 40 #[.pointer (some ⟨g, 0, none⟩), .int .i64 v, .agg (MC m), .int .i64 p] w fun e w' => e = .returned (.int .i64 1) ∧ Below w.heap.size w w' := by
  have A0 := (box_m w m).at_
  have W0 : Hid (Below w.heap.size w (w.alloc (.cells (MC m) 24))) := hide (below_alloc w _)
  have q1 := fun w => right55 v m p w hm
  rw [hr] at q1
  clear hr
  have tk1 : True := trivial
  go_enter Try.func40, Try.ntmps40
  go_wp2_with (first | (have _t := tk1; refine wpl_mac (.tmp 6) rfl A0 ?_ ?_ ?_; rfl; rfl; clear tk1))
  refine (q1 _).mono ?_
  rintro e w1 ⟨rfl, hb⟩
  have HB1 := hide (belowOn W0.out hb)
  clear hb A0 q1
  go_wp2
  go_ret
  exact ⟨rfl, HB1.out⟩
theorem put40 (g : Nat) (lv : Value) (T : Tb) (v : Int) (m : Mc) (p : Int) (w : World) (hm : Mok m) (H : RT w g lv T) :
    Calls Try.prog 40 #[.pointer (some ⟨g, 0, none⟩), .int .i64 v, .agg (MC m), .int .i64 p] w fun e w' => e = .returned (.int .i64 (pE T v m p)) ∧ (∃ lv', RT w' g lv' (pT T v m p)) ∧ Below g w w' := by
  rcases Bool.eq_false_or_eq_true (rgt v m p) with hr | hr
  · rw [pE, pT, hr]
    exact put40_yes g lv T v m p w hm H hr
  · rw [pE, pT, hr]
    refine (put40_no g v m p w hm hr).mono ?_
    rintro e w' ⟨rfl, hb⟩
    exact ⟨rfl, ⟨lv, H.on hb⟩, hb.mono (Nat.le_of_succ_le H.lt)⟩
end Go.Proofs.Ytbpkdkniiggcpaa
