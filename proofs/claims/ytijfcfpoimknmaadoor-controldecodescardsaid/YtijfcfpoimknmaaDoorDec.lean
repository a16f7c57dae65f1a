/- Plain facts of what bytes tell: the reader, what the program's Decode and the document's take out of bytes; they are the inverse of Encode. -/
import Derived.Test.YtijfcfpoimknmaaDoorC2
namespace Go.Proofs.YtijfcfpoimknmaaDoor
open Go.RowKit

structure Rs where
  ns : List Int
  sh : Bool
def tk (r : Rs) (j : Nat) : List Int := if r.ns.length < j then [] else r.ns.take j
def tr (r : Rs) (j : Nat) : Rs := if r.ns.length < j then ⟨r.ns, true⟩ else ⟨r.ns.drop j, r.sh⟩
def nr (r : Rs) (j : Nat) : Int := nb (tk r j)
def setm (n : Nt) (l : List Int) : Nt := match l with
  | [a, b, c, d, e, f] => { n with m0 := a, m1 := b, m2 := c, m3 := d, m4 := e, m5 := f }
  | _ => n
def rf (j : Nat) (s : Nt × Rs) : Nt × Rs :=
  if j = 1 then ({ s.1 with v := nr s.2 2 }, tr s.2 2) else if j = 2 then (setm s.1 (tk s.2 6), tr s.2 6) else if j = 4 then ({ s.1 with p := nr s.2 2 }, tr s.2 2)
  else if j = 8 then ({ s.1 with s := nr s.2 1 }, tr s.2 1) else ({ s.1 with b := tk (tr s.2 2) (nr s.2 2).toNat }, tr (tr s.2 2) (nr s.2 2).toNat)
def kn (k : Int) : Nt := { zeroN with k := k }
def rn (k : Int) (r : Rs) : Nt × Rs := evs (fo k) rf (kn k, r)
def rp1 (b : List Int) : Rs := tr ⟨b, false⟩ 4
def rp2 (b : List Int) : Rs := tr (rp1 b) 4
def rp3 (b : List Int) : Rs := tr (rp2 b) 4
def rp4 (b : List Int) : Rs := tr (rp3 b) 1
def rpx (b : List Int) : Nt × Rs := rn (nr (rp3 b) 1) (rp4 b)
def rpp (b : List Int) : Pk := ⟨nr ⟨b, false⟩ 4, nr (rp1 b) 4, nr (rp2 b) 4, (rpx b).1⟩
def wh (r : Rs) : Bool := !r.sh && ((r.ns.length : Int) == 0)
def dk (b : List Int) : Bool := wh (rpx b).2 && rtp (rpp b)
def dp (b : List Int) : Pk := if dk b then rpp b else zeroP
def dc (b : List Int) : Int := if dk b then 0 else 2

theorem tk_app (l m : List Int) (f : Bool) (j : Nat) (h : l.length = j) : tk ⟨l ++ m, f⟩ j = l := by
  subst h
  rw [tk, if_neg (by simp), List.take_left]
theorem tr_app (l m : List Int) (f : Bool) (j : Nat) (h : l.length = j) : tr ⟨l ++ m, f⟩ j = ⟨m, f⟩ := by
  subst h
  rw [tr, if_neg (by simp), List.drop_left]
theorem nr_app (s : Nat) (n : Int) (m : List Int) (f : Bool) (h : fit s n = true) : nr ⟨be s n ++ m, f⟩ s = n := by
  rw [nr, tk_app _ _ _ _ (be_length s n), nb_be s n (fit_and h).1 (fit_and h).2]
/-- A note with one field of another one's. -/
def cp (j : Nat) (x n : Nt) : Nt := if j = 1 then { n with v := x.v } else if j = 2 then { n with m0 := x.m0, m1 := x.m1, m2 := x.m2, m3 := x.m3, m4 := x.m4, m5 := x.m5 } else if j = 4 then { n with p := x.p } else if j = 8 then { n with s := x.s } else { n with b := x.b }
theorem cp_all (x : Nt) : cp 16 x (cp 8 x (cp 4 x (cp 2 x (cp 1 x (kn x.k))))) = x := rfl
theorem m0_iff (n : Nt) : m0 n = true ↔ n.m0 = 0 ∧ n.m1 = 0 ∧ n.m2 = 0 ∧ n.m3 = 0 ∧ n.m4 = 0 ∧ n.m5 = 0 := by
  simp [m0, eq6]
theorem bl_len {n : Nt} (h : bl n 16 = true) : n.b = [] := by
  have h1 : ((n.b.length : Int) == 0) = true := h
  exact List.eq_nil_of_length_eq_zero (by have := beq_iff_eq.1 h1; omega)
theorem cp_blank (j : Nat) (hj : J5 j) (x n : Nt) (hx : bl x j = true) (hn : bl n j = true) : cp j x n = n := by
  obtain ⟨k, v, a0, a1, a2, a3, a4, a5, p, s, b⟩ := n
  rcases hj with rfl | rfl | rfl | rfl | rfl
  · have h1 : (x.v == 0) = true := hx
    have h2 : (v == 0) = true := hn
    have e1 := beq_iff_eq.1 h1
    have e2 := beq_iff_eq.1 h2
    simp [cp, e1, e2]
  · have h1 := (m0_iff _).1 (show m0 x = true from hx)
    have h2 := (m0_iff _).1 (show m0 ⟨k, v, a0, a1, a2, a3, a4, a5, p, s, b⟩ = true from hn)
    simp at h2
    simp [cp, h1, h2]
  · have h1 : (x.p == 0) = true := hx
    have h2 : (p == 0) = true := hn
    have e1 := beq_iff_eq.1 h1
    have e2 := beq_iff_eq.1 h2
    simp [cp, e1, e2]
  · have h1 : (x.s == 0) = true := hx
    have h2 : (s == 0) = true := hn
    have e1 := beq_iff_eq.1 h1
    have e2 := beq_iff_eq.1 h2
    simp [cp, e1, e2]
  · have e1 := bl_len hx
    have e2 := bl_len hn
    simp at e2
    simp [cp, e1, e2]
theorem rf_fb (j : Nat) (hj : J5 j) (x n : Nt) (l : List Int) (h : ft x j = true) : rf j (n, ⟨fb x j ++ l, false⟩) = (cp j x n, ⟨l, false⟩) := by
  rcases hj with rfl | rfl | rfl | rfl | rfl
  · show ({ n with v := nr ⟨be 2 x.v ++ l, false⟩ 2 }, tr ⟨be 2 x.v ++ l, false⟩ 2) = _
    rw [nr_app 2 _ _ _ (ft_v h), tr_app _ _ _ _ (be_length _ _)]
    rfl
  · show (setm n (tk ⟨ml x ++ l, false⟩ 6), tr ⟨ml x ++ l, false⟩ 6) = _
    rw [tk_app _ _ _ 6 rfl, tr_app _ _ _ 6 rfl]
    rfl
  · show ({ n with p := nr ⟨be 2 x.p ++ l, false⟩ 2 }, tr ⟨be 2 x.p ++ l, false⟩ 2) = _
    rw [nr_app 2 _ _ _ (ft_p h), tr_app _ _ _ _ (be_length _ _)]
    rfl
  · show ({ n with s := nr ⟨be 1 x.s ++ l, false⟩ 1 }, tr ⟨be 1 x.s ++ l, false⟩ 1) = _
    rw [nr_app 1 _ _ _ (ft_s h), tr_app _ _ _ _ (be_length _ _)]
    rfl
  · have h1 := ft_b h
    show ({ n with b := tk (tr ⟨(be 2 (x.b.length : Int) ++ x.b) ++ l, false⟩ 2) (nr ⟨(be 2 (x.b.length : Int) ++ x.b) ++ l, false⟩ 2).toNat }, tr (tr ⟨(be 2 (x.b.length : Int) ++ x.b) ++ l, false⟩ 2) (nr ⟨(be 2 (x.b.length : Int) ++ x.b) ++ l, false⟩ 2).toNat) = _
    rw [List.append_assoc, nr_app 2 _ _ _ h1.1, tr_app _ _ _ _ (be_length _ _), Int.toNat_natCast, tk_app _ _ _ _ rfl, tr_app _ _ _ _ rfl]
    rfl
theorem ev_rf (j : Nat) (hj : J5 j) (x n : Nt) (l : List Int) (h : ff x j = true) (hn : bl n j = true) : ev (fo x.k) rf j (n, ⟨fbs x j ++ l, false⟩) = (cp j x n, ⟨l, false⟩) := by
  unfold ff at h
  cases hh : hs (fo x.k) j
  · rw [hh] at h
    rw [ev_no hh, cp_blank j hj x n (by simpa using h) hn]
    simp [fbs, hh]
  · rw [hh] at h
    rw [ev_yes hh]
    have e : fbs x j = fb x j := by simp [fbs, hh]
    rw [e]
    exact rf_fb j hj x n l (by simpa using h)
theorem rn_tl (x : Nt) (h : rt x = true) : rn x.k ⟨tl x, false⟩ = (x, ⟨[], false⟩) := by
  simp only [rt, Bool.and_eq_true] at h
  obtain ⟨-, h1, h2, h4, h8, h16⟩ := h
  unfold rn evs tl
  rw [ev_rf 1 (by simp [J5]) x _ _ h1 rfl, ev_rf 2 (by simp [J5]) x _ _ h2 rfl, ev_rf 4 (by simp [J5]) x _ _ h4 rfl, ev_rf 8 (by simp [J5]) x _ _ h8 rfl]
  have e := ev_rf 16 (by simp [J5]) x (cp 8 x (cp 4 x (cp 2 x (cp 1 x (kn x.k))))) [] h16 rfl
  rw [List.append_nil] at e
  rw [e, cp_all]
theorem rt_k {n : Nt} (h : rt n = true) : 0 ≤ n.k ∧ n.k ≤ 8 := by
  simp only [rt, Bool.and_eq_true] at h
  exact (wi_iff _ _ _).1 h.1
theorem rp_enc (p : Pk) (h : rtp p = true) : rpp (enc p) = p ∧ (rpx (enc p)).2 = ⟨[], false⟩ := by
  simp only [rtp, Bool.and_eq_true, sq_iff] at h
  obtain ⟨hr, he, hq, ha⟩ := h
  have hk := rt_k hr
  have e0 : enc p = be 4 p.e ++ (be 4 p.q ++ (be 4 p.a ++ (be 1 p.n.k ++ tl p.n))) := by simp [enc, hd]
  have f1 := fit4 he.1 (by omega : p.e < 4294967296)
  have f2 := fit4 hq.1 (by omega : p.q < 4294967296)
  have f3 := fit4 ha.1 (by omega : p.a < 4294967296)
  have f4 := fit1 hk.1 (by omega : p.n.k < 256)
  have e1 : rp1 (enc p) = ⟨be 4 p.q ++ (be 4 p.a ++ (be 1 p.n.k ++ tl p.n)), false⟩ := by rw [rp1, e0, tr_app _ _ _ _ (be_length _ _)]
  have e2 : rp2 (enc p) = ⟨be 4 p.a ++ (be 1 p.n.k ++ tl p.n), false⟩ := by rw [rp2, e1, tr_app _ _ _ _ (be_length _ _)]
  have e3 : rp3 (enc p) = ⟨be 1 p.n.k ++ tl p.n, false⟩ := by rw [rp3, e2, tr_app _ _ _ _ (be_length _ _)]
  have e4 : rp4 (enc p) = ⟨tl p.n, false⟩ := by rw [rp4, e3, tr_app _ _ _ _ (be_length _ _)]
  have ex : rpx (enc p) = (p.n, ⟨[], false⟩) := by rw [rpx, e3, e4, nr_app 1 _ _ _ f4, rn_tl _ hr]
  refine ⟨?_, by rw [ex]⟩
  rw [rpp, ex, e1, e2, nr_app 4 _ _ _ f2, nr_app 4 _ _ _ f3, e0, nr_app 4 _ _ _ f1]

/-- What is read is what there was. -/
theorem tr_ok {r : Rs} {j : Nat} (h : (tr r j).sh = false) : r.sh = false ∧ tk r j ++ (tr r j).ns = r.ns ∧ (tk r j).length = j := by
  unfold tr at h ⊢
  unfold tk
  split at h
  · cases h
  · rename_i hl
    rw [if_neg hl, if_neg hl]
    exact ⟨h, List.take_append_drop _ _, by rw [List.length_take]; omega⟩
theorem tr_rng {r : Rs} (j : Nat) (h : Rng r.ns) : Rng (tr r j).ns := by
  unfold tr
  split
  · exact h
  · exact rng_drop h j
theorem tk_rng {r : Rs} (j : Nat) (h : Rng r.ns) : Rng (tk r j) := by
  unfold tk
  split
  · exact rng_nil
  · exact rng_take h j
theorem setm_ml (n : Nt) (l : List Int) (h : l.length = 6) : ml (setm n l) = l := by
  match l, h with
  | [a, b, c, d, e, f], _ => rfl
theorem rf_ok (j : Nat) (hj : J5 j) (n : Nt) (r : Rs) (hr : Rng r.ns) (h : (rf j (n, r)).2.sh = false) : r.sh = false ∧ fb (rf j (n, r)).1 j ++ (rf j (n, r)).2.ns = r.ns := by
  rcases hj with rfl | rfl | rfl | rfl | rfl
  · obtain ⟨h1, h2, h3⟩ := tr_ok (show (tr r 2).sh = false from h)
    refine ⟨h1, ?_⟩
    show be 2 (nr r 2) ++ (tr r 2).ns = r.ns
    rw [nr, be_nb 2 _ h3 (tk_rng 2 hr), h2]
  · obtain ⟨h1, h2, h3⟩ := tr_ok (show (tr r 6).sh = false from h)
    refine ⟨h1, ?_⟩
    show ml (setm n (tk r 6)) ++ (tr r 6).ns = r.ns
    rw [setm_ml _ _ h3, h2]
  · obtain ⟨h1, h2, h3⟩ := tr_ok (show (tr r 2).sh = false from h)
    refine ⟨h1, ?_⟩
    show be 2 (nr r 2) ++ (tr r 2).ns = r.ns
    rw [nr, be_nb 2 _ h3 (tk_rng 2 hr), h2]
  · obtain ⟨h1, h2, h3⟩ := tr_ok (show (tr r 1).sh = false from h)
    refine ⟨h1, ?_⟩
    show be 1 (nr r 1) ++ (tr r 1).ns = r.ns
    rw [nr, be_nb 1 _ h3 (tk_rng 1 hr), h2]
  · obtain ⟨g1, g2, g3⟩ := tr_ok (show (tr (tr r 2) (nr r 2).toNat).sh = false from h)
    obtain ⟨h1, h2, h3⟩ := tr_ok g1
    refine ⟨h1, ?_⟩
    show (be 2 ((tk (tr r 2) (nr r 2).toNat).length : Int) ++ tk (tr r 2) (nr r 2).toNat) ++ (tr (tr r 2) (nr r 2).toNat).ns = r.ns
    have hp : 0 ≤ nr r 2 := (nb_fit 2 _ h3 (tk_rng 2 hr)).1
    rw [List.append_assoc, g2, g3, Int.toNat_of_nonneg hp, nr, be_nb 2 _ h3 (tk_rng 2 hr), h2]
theorem rf_k (j : Nat) (s : Nt × Rs) : (rf j s).1.k = s.1.k := by
  unfold rf
  split
  · rfl
  split
  · show (setm _ _).k = _
    unfold setm
    split <;> rfl
  split
  · rfl
  split <;> rfl
theorem ev_rf_k (F : Int) (j : Nat) (s : Nt × Rs) : (ev F rf j s).1.k = s.1.k := by
  unfold ev
  split
  · exact rf_k j s
  · rfl
theorem rf_rng (j : Nat) (s : Nt × Rs) (h : Rng s.2.ns) : Rng (rf j s).2.ns := by
  unfold rf
  split
  · exact tr_rng _ h
  split
  · exact tr_rng _ h
  split
  · exact tr_rng _ h
  split
  · exact tr_rng _ h
  · exact tr_rng _ (tr_rng _ h)
theorem ev_rf_rng (F : Int) (j : Nat) (s : Nt × Rs) (h : Rng s.2.ns) : Rng (ev F rf j s).2.ns := by
  unfold ev
  split
  · exact rf_rng j s h
  · exact h
theorem fb_setm (n : Nt) (l : List Int) (i : Nat) (hi : i ≠ 2) : fb (setm n l) i = fb n i := by
  unfold setm
  split
  · simp [fb, hi]
  · rfl
theorem fb_rf (i j : Nat) (hi : J5 i) (hj : J5 j) (hne : i ≠ j) (s : Nt × Rs) : fb (rf j s).1 i = fb s.1 i := by
  rcases hj with rfl | rfl | rfl | rfl | rfl <;> rcases hi with rfl | rfl | rfl | rfl | rfl <;> first | exact absurd rfl hne | rfl | exact fb_setm _ _ _ (by omega)
theorem fb_ev (F : Int) (i j : Nat) (hi : J5 i) (hj : J5 j) (hne : i ≠ j) (s : Nt × Rs) : fb (ev F rf j s).1 i = fb s.1 i := by
  unfold ev
  split
  · exact fb_rf i j hi hj hne s
  · rfl
def gb (F : Int) (n : Nt) (j : Nat) : List Int := if hs F j then fb n j else []
theorem ev_ok (F : Int) (j : Nat) (hj : J5 j) (s : Nt × Rs) (hr : Rng s.2.ns) (h : (ev F rf j s).2.sh = false) : s.2.sh = false ∧ gb F (ev F rf j s).1 j ++ (ev F rf j s).2.ns = s.2.ns := by
  unfold ev at h ⊢
  unfold gb
  cases hh : hs F j
  · rw [hh] at h
    simp at h ⊢
    exact h
  · rw [hh] at h
    simp at h ⊢
    exact rf_ok j hj s.1 s.2 hr h
theorem gb_ev (F : Int) (i j : Nat) (hi : J5 i) (hj : J5 j) (hne : i ≠ j) (s : Nt × Rs) : gb F (ev F rf j s).1 i = gb F s.1 i := by
  unfold gb
  rw [fb_ev F i j hi hj hne s]
theorem rn_ok (k : Int) (r : Rs) (hr : Rng r.ns) (h : (rn k r).2.sh = false) : r.sh = false ∧ tl (rn k r).1 ++ (rn k r).2.ns = r.ns ∧ (rn k r).1.k = k := by
  have j1 : J5 1 := by simp [J5]
  have j2 : J5 2 := by simp [J5]
  have j4 : J5 4 := by simp [J5]
  have j8 : J5 8 := by simp [J5]
  have j16 : J5 16 := by simp [J5]
  have hk : (rn k r).1.k = k := by unfold rn evs; rw [ev_rf_k, ev_rf_k, ev_rf_k, ev_rf_k, ev_rf_k]; rfl
  have R1 := ev_rf_rng (fo k) 1 (kn k, r) hr
  have R2 := ev_rf_rng (fo k) 2 _ R1
  have R4 := ev_rf_rng (fo k) 4 _ R2
  have R8 := ev_rf_rng (fo k) 8 _ R4
  obtain ⟨s16, t16⟩ := ev_ok (fo k) 16 j16 _ R8 h
  obtain ⟨s8, t8⟩ := ev_ok (fo k) 8 j8 _ R4 s16
  obtain ⟨s4, t4⟩ := ev_ok (fo k) 4 j4 _ R2 s8
  obtain ⟨s2, t2⟩ := ev_ok (fo k) 2 j2 _ R1 s4
  obtain ⟨s1, t1⟩ := ev_ok (fo k) 1 j1 _ hr s2
  refine ⟨s1, ?_, hk⟩
  have ef : ∀ j, fbs (rn k r).1 j = gb (fo k) (rn k r).1 j := fun j => by unfold fbs gb; rw [hk]
  have q8 : gb (fo k) (rn k r).1 8 = gb (fo k) (ev (fo k) rf 8 (ev (fo k) rf 4 (ev (fo k) rf 2 (ev (fo k) rf 1 (kn k, r))))).1 8 := gb_ev _ 8 16 j8 j16 (by omega) _
  have q4 : gb (fo k) (rn k r).1 4 = gb (fo k) (ev (fo k) rf 4 (ev (fo k) rf 2 (ev (fo k) rf 1 (kn k, r)))).1 4 := (gb_ev _ 4 16 j4 j16 (by omega) _).trans (gb_ev _ 4 8 j4 j8 (by omega) _)
  have q2 : gb (fo k) (rn k r).1 2 = gb (fo k) (ev (fo k) rf 2 (ev (fo k) rf 1 (kn k, r))).1 2 := ((gb_ev _ 2 16 j2 j16 (by omega) _).trans (gb_ev _ 2 8 j2 j8 (by omega) _)).trans (gb_ev _ 2 4 j2 j4 (by omega) _)
  have q1 : gb (fo k) (rn k r).1 1 = gb (fo k) (ev (fo k) rf 1 (kn k, r)).1 1 := (((gb_ev _ 1 16 j1 j16 (by omega) _).trans (gb_ev _ 1 8 j1 j8 (by omega) _)).trans (gb_ev _ 1 4 j1 j4 (by omega) _)).trans (gb_ev _ 1 2 j1 j2 (by omega) _)
  have q16 : gb (fo k) (rn k r).1 16 ++ (rn k r).2.ns = (ev (fo k) rf 8 (ev (fo k) rf 4 (ev (fo k) rf 2 (ev (fo k) rf 1 (kn k, r))))).2.ns := t16
  unfold tl
  rw [ef 1, ef 2, ef 4, ef 8, ef 16, List.append_assoc, List.append_assoc, List.append_assoc, List.append_assoc, q16, q8, t8, q4, t4, q2, t2, q1]
  exact t1
theorem dk_ok {b : List Int} (hr : Rng b) (h : wh (rpx b).2 = true) : enc (rpp b) = b := by
  simp only [wh, Bool.and_eq_true, Bool.not_eq_true'] at h
  obtain ⟨h1, h2⟩ := h
  have hn : (rpx b).2.ns = [] := List.eq_nil_of_length_eq_zero (by have := beq_iff_eq.1 h2; omega)
  have R0 : Rng (⟨b, false⟩ : Rs).ns := hr
  have R1 : Rng (rp1 b).ns := tr_rng 4 R0
  have R2 : Rng (rp2 b).ns := tr_rng 4 R1
  have R3 : Rng (rp3 b).ns := tr_rng 4 R2
  have R4 : Rng (rp4 b).ns := tr_rng 1 R3
  obtain ⟨s4, t5, hk⟩ := rn_ok _ _ R4 (show (rn (nr (rp3 b) 1) (rp4 b)).2.sh = false from h1)
  have t5' : tl (rpx b).1 ++ (rpx b).2.ns = (rp4 b).ns := t5
  have hk' : (rpx b).1.k = nr (rp3 b) 1 := hk
  obtain ⟨s3, t4, l4⟩ := tr_ok (show (tr (rp3 b) 1).sh = false from s4)
  obtain ⟨s2, t3, l3⟩ := tr_ok (show (tr (rp2 b) 4).sh = false from s3)
  obtain ⟨s1, t2, l2⟩ := tr_ok (show (tr (rp1 b) 4).sh = false from s2)
  obtain ⟨-, t1, l1⟩ := tr_ok (show (tr ⟨b, false⟩ 4).sh = false from s1)
  rw [hn, List.append_nil] at t5'
  have e : enc (rpp b) = be 4 (nr ⟨b, false⟩ 4) ++ (be 4 (nr (rp1 b) 4) ++ (be 4 (nr (rp2 b) 4) ++ (be 1 (rpx b).1.k ++ tl (rpx b).1))) := by simp [enc, hd, rpp]
  rw [e, hk', t5', nr, nr, nr, nr, be_nb 4 _ l1 (tk_rng 4 R0), be_nb 4 _ l2 (tk_rng 4 R1), be_nb 4 _ l3 (tk_rng 4 R2), be_nb 1 _ l4 (tk_rng 1 R3)]
  rw [show (rp4 b).ns = (tr (rp3 b) 1).ns from rfl, t4, show (rp3 b).ns = (tr (rp2 b) 4).ns from rfl, t3, show (rp2 b).ns = (tr (rp1 b) 4).ns from rfl, t2, show (rp1 b).ns = (tr ⟨b, false⟩ 4).ns from rfl, t1]
theorem dk_enc {p : Pk} (h : rtp p = true) : dk (enc p) = true ∧ dp (enc p) = p := by
  obtain ⟨h1, h2⟩ := rp_enc p h
  have e : dk (enc p) = true := by rw [dk, h1, h2, h]; rfl
  exact ⟨e, by rw [dp, e, if_pos rfl, h1]⟩
theorem dk_iff {b : List Int} (hr : Rng b) : dk b = true ↔ ∃ p, rtp p = true ∧ enc p = b := by
  constructor
  · intro h
    simp only [dk, Bool.and_eq_true] at h
    exact ⟨rpp b, h.2, dk_ok hr h.1⟩
  · rintro ⟨p, h1, rfl⟩
    exact (dk_enc h1).1
theorem dp_ok {b : List Int} (hr : Rng b) (h : dk b = true) : rtp (dp b) = true ∧ enc (dp b) = b := by
  have e : dp b = rpp b := by rw [dp, h, if_pos rfl]
  rw [e]
  simp only [dk, Bool.and_eq_true] at h
  exact ⟨h.2, dk_ok hr h.1⟩
theorem enc_inj {p q : Pk} (hp : rtp p = true) (hq : rtp q = true) (h : enc p = enc q) : p = q := by
  rw [← (dk_enc hp).2, h, (dk_enc hq).2]

/-- What the document takes out of bytes. -/
def cf (j : Nat) (s : Nt × List Int) : Nt × List Int :=
  if j = 1 then ({ s.1 with v := nb (s.2.take 2) }, s.2.drop 2) else if j = 2 then (setm s.1 (s.2.take 6), s.2.drop 6) else if j = 4 then ({ s.1 with p := nb (s.2.take 2) }, s.2.drop 2)
  else if j = 8 then ({ s.1 with s := s.2.getD 0 0 }, s.2.drop 1) else ({ s.1 with b := (s.2.drop 2).take (nb (s.2.take 2)).toNat }, s.2)
def cn (k : Int) (l : List Int) : Nt × List Int := evs (fo k) cf (kn k, l)
def pad (b : List Int) : List Int := b.drop 13 ++ List.replicate 20 0
def cd (b : List Int) : Pk := ⟨nb (b.take 4), nb ((b.drop 4).take 4), nb ((b.drop 8).take 4), (cn (b.getD 12 0) (pad b)).1⟩
def ck (b : List Int) : Bool := decide (13 ≤ b.length) && (rtp (cd b) && decide (enc (cd b) = b))
theorem cf_fb (j : Nat) (hj : J5 j) (x n : Nt) (l : List Int) (h : ft x j = true) : (cf j (n, fb x j ++ l)).1 = cp j x n ∧ (j < 16 → (cf j (n, fb x j ++ l)).2 = l) := by
  have nbe : ∀ (s : Nat) (y : Int), fit s y = true → nb (be s y) = y := fun s y f => nb_be s y (fit_and f).1 (fit_and f).2
  rcases hj with rfl | rfl | rfl | rfl | rfl
  · refine ⟨?_, fun _ => rfl⟩
    show ({ n with v := nb ((be 2 x.v ++ l).take 2) } : Nt) = _
    rw [show (be 2 x.v ++ l).take 2 = be 2 x.v from rfl, nbe 2 _ (ft_v h)]
    rfl
  · exact ⟨rfl, fun _ => rfl⟩
  · refine ⟨?_, fun _ => rfl⟩
    show ({ n with p := nb ((be 2 x.p ++ l).take 2) } : Nt) = _
    rw [show (be 2 x.p ++ l).take 2 = be 2 x.p from rfl, nbe 2 _ (ft_p h)]
    rfl
  · refine ⟨?_, fun _ => rfl⟩
    show ({ n with s := (be 1 x.s ++ l).getD 0 0 } : Nt) = _
    have := fit_and (ft_s h)
    rw [show (be 1 x.s ++ l).getD 0 0 = x.s % 256 from rfl, show x.s % 256 = x.s by simp at this; omega]
    rfl
  · refine ⟨?_, fun h => absurd h (by omega)⟩
    have h1 := ft_b h
    show ({ n with b := (((be 2 (x.b.length : Int) ++ x.b) ++ l).drop 2).take (nb (((be 2 (x.b.length : Int) ++ x.b) ++ l).take 2)).toNat } : Nt) = _
    rw [List.append_assoc, show (be 2 (x.b.length : Int) ++ (x.b ++ l)).take 2 = be 2 (x.b.length : Int) from rfl, show (be 2 (x.b.length : Int) ++ (x.b ++ l)).drop 2 = x.b ++ l from rfl, nbe 2 _ h1.1, Int.toNat_natCast, List.take_left]
    rfl
theorem ev_cf (j : Nat) (hj : J5 j) (x n : Nt) (l : List Int) (h : ff x j = true) (hn : bl n j = true) : (ev (fo x.k) cf j (n, fbs x j ++ l)).1 = cp j x n ∧ (j < 16 → (ev (fo x.k) cf j (n, fbs x j ++ l)).2 = l) := by
  unfold ff at h
  cases hh : hs (fo x.k) j
  · rw [hh] at h
    rw [ev_no hh, cp_blank j hj x n (by simpa using h) hn]
    simp [fbs, hh]
  · rw [hh] at h
    rw [ev_yes hh]
    have e : fbs x j = fb x j := by simp [fbs, hh]
    rw [e]
    exact cf_fb j hj x n l (by simpa using h)
theorem ev_cf' (j : Nat) (hj : J5 j) (h16 : j < 16) (x n : Nt) (l : List Int) (h : ff x j = true) (hn : bl n j = true) : ev (fo x.k) cf j (n, fbs x j ++ l) = (cp j x n, l) := by
  have := ev_cf j hj x n l h hn
  exact Prod.ext this.1 (this.2 h16)
theorem cn_tl (x : Nt) (h : rt x = true) (l : List Int) : (cn x.k (tl x ++ l)).1 = x := by
  simp only [rt, Bool.and_eq_true] at h
  obtain ⟨-, h1, h2, h4, h8, h16⟩ := h
  unfold cn evs tl
  simp only [List.append_assoc]
  rw [ev_cf' 1 (by simp [J5]) (by omega) x _ _ h1 rfl, ev_cf' 2 (by simp [J5]) (by omega) x _ _ h2 rfl, ev_cf' 4 (by simp [J5]) (by omega) x _ _ h4 rfl, ev_cf' 8 (by simp [J5]) (by omega) x _ _ h8 rfl]
  rw [(ev_cf 16 (by simp [J5]) x (cp 8 x (cp 4 x (cp 2 x (cp 1 x (kn x.k))))) l h16 rfl).1, cp_all]
theorem take_at (l m : List Int) (j : Nat) (h : l.length = j) : (l ++ m).take j = l := by subst h; exact List.take_left
theorem drop_at (l m : List Int) (j : Nat) (h : l.length = j) : (l ++ m).drop j = m := by subst h; exact List.drop_left
theorem cd_enc (p : Pk) (h : rtp p = true) : cd (enc p) = p := by
  simp only [rtp, Bool.and_eq_true, sq_iff] at h
  obtain ⟨hr, he, hq, ha⟩ := h
  have hk := rt_k hr
  have nbe : ∀ (s : Nat) (y : Int), fit s y = true → nb (be s y) = y := fun s y f => nb_be s y (fit_and f).1 (fit_and f).2
  have f1 := fit4 he.1 (by omega : p.e < 4294967296)
  have f2 := fit4 hq.1 (by omega : p.q < 4294967296)
  have f3 := fit4 ha.1 (by omega : p.a < 4294967296)
  have t1 : (enc p).take 4 = be 4 p.e := rfl
  have t2 : ((enc p).drop 4).take 4 = be 4 p.q := rfl
  have t3 : ((enc p).drop 8).take 4 = be 4 p.a := rfl
  have t4 : (enc p).getD 12 0 = p.n.k % 256 := rfl
  have t5 : (enc p).drop 13 = tl p.n := rfl
  rw [cd, pad, t1, t2, t3, t4, t5, nbe 4 _ f1, nbe 4 _ f2, nbe 4 _ f3, show p.n.k % 256 = p.n.k by omega, cn_tl _ hr]
theorem enc_len (p : Pk) : 13 ≤ (enc p).length := by
  rw [enc, List.length_append, hd_length]; omega
theorem ck_dk {b : List Int} (hr : Rng b) : ck b = dk b ∧ (ck b = true → cd b = dp b) := by
  have h1 : ck b = true → dk b = true ∧ cd b = dp b := by
    intro h
    simp only [ck, Bool.and_eq_true, decide_eq_true_eq] at h
    obtain ⟨-, h2, h3⟩ := h
    have := dk_enc h2
    rw [h3] at this
    exact ⟨this.1, this.2.symm⟩
  have h2 : dk b = true → ck b = true := by
    intro h
    obtain ⟨p, hp, rfl⟩ := (dk_iff hr).1 h
    simp only [ck, Bool.and_eq_true, decide_eq_true_eq]
    rw [cd_enc p hp]
    exact ⟨enc_len p, hp, rfl⟩
  refine ⟨?_, fun h => (h1 h).2⟩
  rw [Bool.eq_iff_iff]
  exact ⟨fun h => (h1 h).1, h2⟩
end Go.Proofs.YtijfcfpoimknmaaDoor
