/- Plain facts of what bytes tell: the reader, what the program's Decode and the document's take out of bytes; they are the inverse of Encode. · The reader: take, number, whole; Clone of bytes. · Contract of readField: one field of a note, as the reader has it. · Contract of readField: its Mac, its Body; then any of its fields. · The step that reads; contracts of readPacket and of the program's Decode. · Contract of the program's Decode. -/
import Derived.Test.YtgpdjfaklcmoiaaDoorM17
import Derived.PlainAid
import Derived.Laws.IdiomCopy
/- Plain facts of what bytes tell: the reader, what the program's Decode and the document's take out of bytes; they are the inverse of Encode. -/
namespace Go.Proofs.YtgpdjfaklcmoiaaDoor.Ctl
open Go.RowKit

structure Rs where
  ns : List Int
  sh : Bool
def tk (r : Rs) (j : Nat) : List Int := if r.ns.length < j then [] else r.ns.take j
def tr (r : Rs) (j : Nat) : Rs := if r.ns.length < j then ⟨r.ns, true⟩ else ⟨r.ns.drop j, r.sh⟩
def nr (r : Rs) (j : Nat) : Int := nb (tk r j)
def setm (n : Nt) (l : List Int) : Nt := match l with
  | [a, b, c, d, e, f] => { n with m0 := a, m1 := b, m2 := c, m3 := d, m4 := e, m5 := f }
  | _ => n
def rf (j : Nat) (s : Nt × Rs) : Nt × Rs :=
  if j = 1 then ({ s.1 with v := nr s.2 2 }, tr s.2 2) else if j = 2 then (setm s.1 (tk s.2 6), tr s.2 6) else if j = 4 then ({ s.1 with p := nr s.2 2 }, tr s.2 2)
  else if j = 8 then ({ s.1 with s := nr s.2 1 }, tr s.2 1) else ({ s.1 with b := tk (tr s.2 2) (nr s.2 2).toNat }, tr (tr s.2 2) (nr s.2 2).toNat)
def kn (k : Int) : Nt := { zeroN with k := k }
def rn (k : Int) (r : Rs) : Nt × Rs := evs (fo k) rf (kn k, r)
def rp1 (b : List Int) : Rs := tr ⟨b, false⟩ 4
def rp2 (b : List Int) : Rs := tr (rp1 b) 4
def rp3 (b : List Int) : Rs := tr (rp2 b) 4
def rp4 (b : List Int) : Rs := tr (rp3 b) 1
def rpx (b : List Int) : Nt × Rs := rn (nr (rp3 b) 1) (rp4 b)
def rpp (b : List Int) : Pk := ⟨nr ⟨b, false⟩ 4, nr (rp1 b) 4, nr (rp2 b) 4, (rpx b).1⟩
def wh (r : Rs) : Bool := !r.sh && ((r.ns.length : Int) == 0)
def dk (b : List Int) : Bool := wh (rpx b).2 && rtp (rpp b)
def dp (b : List Int) : Pk := if dk b then rpp b else zeroP
def dc (b : List Int) : Int := if dk b then 0 else 2

theorem tk_app (l m : List Int) (f : Bool) (j : Nat) (h : l.length = j) : tk ⟨l ++ m, f⟩ j = l := by
  subst h
  rw [tk, if_neg (by simp), List.take_left]
theorem tr_app (l m : List Int) (f : Bool) (j : Nat) (h : l.length = j) : tr ⟨l ++ m, f⟩ j = ⟨m, f⟩ := by
  subst h
  rw [tr, if_neg (by simp), List.drop_left]
theorem nr_app (s : Nat) (n : Int) (m : List Int) (f : Bool) (h : fit s n = true) : nr ⟨be s n ++ m, f⟩ s = n := by
  rw [nr, tk_app _ _ _ _ (be_length s n), nb_be s n (fit_and h).1 (fit_and h).2]
/-- A note with one field of another one's. -/
def cp (j : Nat) (x n : Nt) : Nt := if j = 1 then { n with v := x.v } else if j = 2 then { n with m0 := x.m0, m1 := x.m1, m2 := x.m2, m3 := x.m3, m4 := x.m4, m5 := x.m5 } else if j = 4 then { n with p := x.p } else if j = 8 then { n with s := x.s } else { n with b := x.b }
theorem cp_all (x : Nt) : cp 16 x (cp 8 x (cp 4 x (cp 2 x (cp 1 x (kn x.k))))) = x := rfl
theorem m0_iff (n : Nt) : m0 n = true ↔ n.m0 = 0 ∧ n.m1 = 0 ∧ n.m2 = 0 ∧ n.m3 = 0 ∧ n.m4 = 0 ∧ n.m5 = 0 := by
  simp [m0, eq6]
theorem bl_len {n : Nt} (h : bl n 16 = true) : n.b = [] := by
  have h1 : ((n.b.length : Int) == 0) = true := h
  exact List.eq_nil_of_length_eq_zero (by have := beq_iff_eq.1 h1; omega)
theorem cp_blank (j : Nat) (hj : J5 j) (x n : Nt) (hx : bl x j = true) (hn : bl n j = true) : cp j x n = n := by
  obtain ⟨k, v, a0, a1, a2, a3, a4, a5, p, s, b⟩ := n
  rcases hj with rfl | rfl | rfl | rfl | rfl
  · have h1 : (x.v == 0) = true := hx
    have h2 : (v == 0) = true := hn
    have e1 := beq_iff_eq.1 h1
    have e2 := beq_iff_eq.1 h2
    simp [cp, e1, e2]
  · have h1 := (m0_iff _).1 (show m0 x = true from hx)
    have h2 := (m0_iff _).1 (show m0 ⟨k, v, a0, a1, a2, a3, a4, a5, p, s, b⟩ = true from hn)
    simp at h2
    simp [cp, h1, h2]
  · have h1 : (x.p == 0) = true := hx
    have h2 : (p == 0) = true := hn
    have e1 := beq_iff_eq.1 h1
    have e2 := beq_iff_eq.1 h2
    simp [cp, e1, e2]
  · have h1 : (x.s == 0) = true := hx
    have h2 : (s == 0) = true := hn
    have e1 := beq_iff_eq.1 h1
    have e2 := beq_iff_eq.1 h2
    simp [cp, e1, e2]
  · have e1 := bl_len hx
    have e2 := bl_len hn
    simp at e2
    simp [cp, e1, e2]
theorem rf_fb (j : Nat) (hj : J5 j) (x n : Nt) (l : List Int) (h : ft x j = true) : rf j (n, ⟨fb x j ++ l, false⟩) = (cp j x n, ⟨l, false⟩) := by
  rcases hj with rfl | rfl | rfl | rfl | rfl
  · show ({ n with v := nr ⟨be 2 x.v ++ l, false⟩ 2 }, tr ⟨be 2 x.v ++ l, false⟩ 2) = _
    rw [nr_app 2 _ _ _ (ft_v h), tr_app _ _ _ _ (be_length _ _)]
    rfl
  · show (setm n (tk ⟨ml x ++ l, false⟩ 6), tr ⟨ml x ++ l, false⟩ 6) = _
    rw [tk_app _ _ _ 6 rfl, tr_app _ _ _ 6 rfl]
    rfl
  · show ({ n with p := nr ⟨be 2 x.p ++ l, false⟩ 2 }, tr ⟨be 2 x.p ++ l, false⟩ 2) = _
    rw [nr_app 2 _ _ _ (ft_p h), tr_app _ _ _ _ (be_length _ _)]
    rfl
  · show ({ n with s := nr ⟨be 1 x.s ++ l, false⟩ 1 }, tr ⟨be 1 x.s ++ l, false⟩ 1) = _
    rw [nr_app 1 _ _ _ (ft_s h), tr_app _ _ _ _ (be_length _ _)]
    rfl
  · have h1 := ft_b h
    show ({ n with b := tk (tr ⟨(be 2 (x.b.length : Int) ++ x.b) ++ l, false⟩ 2) (nr ⟨(be 2 (x.b.length : Int) ++ x.b) ++ l, false⟩ 2).toNat }, tr (tr ⟨(be 2 (x.b.length : Int) ++ x.b) ++ l, false⟩ 2) (nr ⟨(be 2 (x.b.length : Int) ++ x.b) ++ l, false⟩ 2).toNat) = _
    rw [List.append_assoc, nr_app 2 _ _ _ h1.1, tr_app _ _ _ _ (be_length _ _), Int.toNat_natCast, tk_app _ _ _ _ rfl, tr_app _ _ _ _ rfl]
    rfl
theorem ev_rf (j : Nat) (hj : J5 j) (x n : Nt) (l : List Int) (h : ff x j = true) (hn : bl n j = true) : ev (fo x.k) rf j (n, ⟨fbs x j ++ l, false⟩) = (cp j x n, ⟨l, false⟩) := by
  unfold ff at h
  cases hh : hs (fo x.k) j
  · rw [hh] at h
    rw [ev_no hh, cp_blank j hj x n (by simpa using h) hn]
    simp [fbs, hh]
  · rw [hh] at h
    rw [ev_yes hh]
    have e : fbs x j = fb x j := by simp [fbs, hh]
    rw [e]
    exact rf_fb j hj x n l (by simpa using h)
theorem rn_tl (x : Nt) (h : rt x = true) : rn x.k ⟨tl x, false⟩ = (x, ⟨[], false⟩) := by
  simp only [rt, Bool.and_eq_true] at h
  obtain ⟨-, h1, h2, h4, h8, h16⟩ := h
  unfold rn evs tl
  rw [ev_rf 1 (by simp [J5]) x _ _ h1 rfl, ev_rf 2 (by simp [J5]) x _ _ h2 rfl, ev_rf 4 (by simp [J5]) x _ _ h4 rfl, ev_rf 8 (by simp [J5]) x _ _ h8 rfl]
  have e := ev_rf 16 (by simp [J5]) x (cp 8 x (cp 4 x (cp 2 x (cp 1 x (kn x.k))))) [] h16 rfl
  rw [List.append_nil] at e
  rw [e, cp_all]
theorem rt_k {n : Nt} (h : rt n = true) : 0 ≤ n.k ∧ n.k ≤ 8 := by
  simp only [rt, Bool.and_eq_true] at h
  exact (wi_iff _ _ _).1 h.1
theorem rp_enc (p : Pk) (h : rtp p = true) : rpp (enc p) = p ∧ (rpx (enc p)).2 = ⟨[], false⟩ := by
  simp only [rtp, Bool.and_eq_true, sq_iff] at h
  obtain ⟨hr, he, hq, ha⟩ := h
  have hk := rt_k hr
  have e0 : enc p = be 4 p.e ++ (be 4 p.q ++ (be 4 p.a ++ (be 1 p.n.k ++ tl p.n))) := by simp [enc, hd]
  have f1 := fit4 he.1 (by omega : p.e < 4294967296)
  have f2 := fit4 hq.1 (by omega : p.q < 4294967296)
  have f3 := fit4 ha.1 (by omega : p.a < 4294967296)
  have f4 := fit1 hk.1 (by omega : p.n.k < 256)
  have e1 : rp1 (enc p) = ⟨be 4 p.q ++ (be 4 p.a ++ (be 1 p.n.k ++ tl p.n)), false⟩ := by rw [rp1, e0, tr_app _ _ _ _ (be_length _ _)]
  have e2 : rp2 (enc p) = ⟨be 4 p.a ++ (be 1 p.n.k ++ tl p.n), false⟩ := by rw [rp2, e1, tr_app _ _ _ _ (be_length _ _)]
  have e3 : rp3 (enc p) = ⟨be 1 p.n.k ++ tl p.n, false⟩ := by rw [rp3, e2, tr_app _ _ _ _ (be_length _ _)]
  have e4 : rp4 (enc p) = ⟨tl p.n, false⟩ := by rw [rp4, e3, tr_app _ _ _ _ (be_length _ _)]
  have ex : rpx (enc p) = (p.n, ⟨[], false⟩) := by rw [rpx, e3, e4, nr_app 1 _ _ _ f4, rn_tl _ hr]
  refine ⟨?_, by rw [ex]⟩
  rw [rpp, ex, e1, e2, nr_app 4 _ _ _ f2, nr_app 4 _ _ _ f3, e0, nr_app 4 _ _ _ f1]

/-- What is read is what there was. -/
theorem tr_ok {r : Rs} {j : Nat} (h : (tr r j).sh = false) : r.sh = false ∧ tk r j ++ (tr r j).ns = r.ns ∧ (tk r j).length = j := by
  unfold tr at h ⊢
  unfold tk
  split at h
  · cases h
  · rename_i hl
    rw [if_neg hl, if_neg hl]
    exact ⟨h, List.take_append_drop _ _, by rw [List.length_take]; omega⟩
theorem tr_rng {r : Rs} (j : Nat) (h : Rng r.ns) : Rng (tr r j).ns := by
  unfold tr
  split
  · exact h
  · exact rng_drop h j
theorem tk_rng {r : Rs} (j : Nat) (h : Rng r.ns) : Rng (tk r j) := by
  unfold tk
  split
  · exact rng_nil
  · exact rng_take h j
theorem setm_ml (n : Nt) (l : List Int) (h : l.length = 6) : ml (setm n l) = l := by
  match l, h with
  | [a, b, c, d, e, f], _ => rfl
theorem rf_ok (j : Nat) (hj : J5 j) (n : Nt) (r : Rs) (hr : Rng r.ns) (h : (rf j (n, r)).2.sh = false) : r.sh = false ∧ fb (rf j (n, r)).1 j ++ (rf j (n, r)).2.ns = r.ns := by
  rcases hj with rfl | rfl | rfl | rfl | rfl
  · obtain ⟨h1, h2, h3⟩ := tr_ok (show (tr r 2).sh = false from h)
    refine ⟨h1, ?_⟩
    show be 2 (nr r 2) ++ (tr r 2).ns = r.ns
    rw [nr, be_nb 2 _ h3 (tk_rng 2 hr), h2]
  · obtain ⟨h1, h2, h3⟩ := tr_ok (show (tr r 6).sh = false from h)
    refine ⟨h1, ?_⟩
    show ml (setm n (tk r 6)) ++ (tr r 6).ns = r.ns
    rw [setm_ml _ _ h3, h2]
  · obtain ⟨h1, h2, h3⟩ := tr_ok (show (tr r 2).sh = false from h)
    refine ⟨h1, ?_⟩
    show be 2 (nr r 2) ++ (tr r 2).ns = r.ns
    rw [nr, be_nb 2 _ h3 (tk_rng 2 hr), h2]
  · obtain ⟨h1, h2, h3⟩ := tr_ok (show (tr r 1).sh = false from h)
    refine ⟨h1, ?_⟩
    show be 1 (nr r 1) ++ (tr r 1).ns = r.ns
    rw [nr, be_nb 1 _ h3 (tk_rng 1 hr), h2]
  · obtain ⟨g1, g2, g3⟩ := tr_ok (show (tr (tr r 2) (nr r 2).toNat).sh = false from h)
    obtain ⟨h1, h2, h3⟩ := tr_ok g1
    refine ⟨h1, ?_⟩
    show (be 2 ((tk (tr r 2) (nr r 2).toNat).length : Int) ++ tk (tr r 2) (nr r 2).toNat) ++ (tr (tr r 2) (nr r 2).toNat).ns = r.ns
    have hp : 0 ≤ nr r 2 := (nb_fit 2 _ h3 (tk_rng 2 hr)).1
    rw [List.append_assoc, g2, g3, Int.toNat_of_nonneg hp, nr, be_nb 2 _ h3 (tk_rng 2 hr), h2]
theorem rf_k (j : Nat) (s : Nt × Rs) : (rf j s).1.k = s.1.k := by
  unfold rf
  split
  · rfl
  split
  · show (setm _ _).k = _
    unfold setm
    split <;> rfl
  split
  · rfl
  split <;> rfl
theorem ev_rf_k (F : Int) (j : Nat) (s : Nt × Rs) : (ev F rf j s).1.k = s.1.k := by
  unfold ev
  split
  · exact rf_k j s
  · rfl
theorem rf_rng (j : Nat) (s : Nt × Rs) (h : Rng s.2.ns) : Rng (rf j s).2.ns := by
  unfold rf
  split
  · exact tr_rng _ h
  split
  · exact tr_rng _ h
  split
  · exact tr_rng _ h
  split
  · exact tr_rng _ h
  · exact tr_rng _ (tr_rng _ h)
theorem ev_rf_rng (F : Int) (j : Nat) (s : Nt × Rs) (h : Rng s.2.ns) : Rng (ev F rf j s).2.ns := by
  unfold ev
  split
  · exact rf_rng j s h
  · exact h
theorem fb_setm (n : Nt) (l : List Int) (i : Nat) (hi : i ≠ 2) : fb (setm n l) i = fb n i := by
  unfold setm
  split
  · simp [fb, hi]
  · rfl
theorem fb_rf (i j : Nat) (hi : J5 i) (hj : J5 j) (hne : i ≠ j) (s : Nt × Rs) : fb (rf j s).1 i = fb s.1 i := by
  rcases hj with rfl | rfl | rfl | rfl | rfl <;> rcases hi with rfl | rfl | rfl | rfl | rfl <;> first | exact absurd rfl hne | rfl | exact fb_setm _ _ _ (by omega)
theorem fb_ev (F : Int) (i j : Nat) (hi : J5 i) (hj : J5 j) (hne : i ≠ j) (s : Nt × Rs) : fb (ev F rf j s).1 i = fb s.1 i := by
  unfold ev
  split
  · exact fb_rf i j hi hj hne s
  · rfl
def gb (F : Int) (n : Nt) (j : Nat) : List Int := if hs F j then fb n j else []
theorem ev_ok (F : Int) (j : Nat) (hj : J5 j) (s : Nt × Rs) (hr : Rng s.2.ns) (h : (ev F rf j s).2.sh = false) : s.2.sh = false ∧ gb F (ev F rf j s).1 j ++ (ev F rf j s).2.ns = s.2.ns := by
  unfold ev at h ⊢
  unfold gb
  cases hh : hs F j
  · rw [hh] at h
    simp at h ⊢
    exact h
  · rw [hh] at h
    simp at h ⊢
    exact rf_ok j hj s.1 s.2 hr h
theorem gb_ev (F : Int) (i j : Nat) (hi : J5 i) (hj : J5 j) (hne : i ≠ j) (s : Nt × Rs) : gb F (ev F rf j s).1 i = gb F s.1 i := by
  unfold gb
  rw [fb_ev F i j hi hj hne s]
theorem rn_ok (k : Int) (r : Rs) (hr : Rng r.ns) (h : (rn k r).2.sh = false) : r.sh = false ∧ tl (rn k r).1 ++ (rn k r).2.ns = r.ns ∧ (rn k r).1.k = k := by
  have j1 : J5 1 := by simp [J5]
  have j2 : J5 2 := by simp [J5]
  have j4 : J5 4 := by simp [J5]
  have j8 : J5 8 := by simp [J5]
  have j16 : J5 16 := by simp [J5]
  have hk : (rn k r).1.k = k := by unfold rn evs; rw [ev_rf_k, ev_rf_k, ev_rf_k, ev_rf_k, ev_rf_k]; rfl
  have R1 := ev_rf_rng (fo k) 1 (kn k, r) hr
  have R2 := ev_rf_rng (fo k) 2 _ R1
  have R4 := ev_rf_rng (fo k) 4 _ R2
  have R8 := ev_rf_rng (fo k) 8 _ R4
  obtain ⟨s16, t16⟩ := ev_ok (fo k) 16 j16 _ R8 h
  obtain ⟨s8, t8⟩ := ev_ok (fo k) 8 j8 _ R4 s16
  obtain ⟨s4, t4⟩ := ev_ok (fo k) 4 j4 _ R2 s8
  obtain ⟨s2, t2⟩ := ev_ok (fo k) 2 j2 _ R1 s4
  obtain ⟨s1, t1⟩ := ev_ok (fo k) 1 j1 _ hr s2
  refine ⟨s1, ?_, hk⟩
  have ef : ∀ j, fbs (rn k r).1 j = gb (fo k) (rn k r).1 j := fun j => by unfold fbs gb; rw [hk]
  have q8 : gb (fo k) (rn k r).1 8 = gb (fo k) (ev (fo k) rf 8 (ev (fo k) rf 4 (ev (fo k) rf 2 (ev (fo k) rf 1 (kn k, r))))).1 8 := gb_ev _ 8 16 j8 j16 (by omega) _
  have q4 : gb (fo k) (rn k r).1 4 = gb (fo k) (ev (fo k) rf 4 (ev (fo k) rf 2 (ev (fo k) rf 1 (kn k, r)))).1 4 := (gb_ev _ 4 16 j4 j16 (by omega) _).trans (gb_ev _ 4 8 j4 j8 (by omega) _)
  have q2 : gb (fo k) (rn k r).1 2 = gb (fo k) (ev (fo k) rf 2 (ev (fo k) rf 1 (kn k, r))).1 2 := ((gb_ev _ 2 16 j2 j16 (by omega) _).trans (gb_ev _ 2 8 j2 j8 (by omega) _)).trans (gb_ev _ 2 4 j2 j4 (by omega) _)
  have q1 : gb (fo k) (rn k r).1 1 = gb (fo k) (ev (fo k) rf 1 (kn k, r)).1 1 := (((gb_ev _ 1 16 j1 j16 (by omega) _).trans (gb_ev _ 1 8 j1 j8 (by omega) _)).trans (gb_ev _ 1 4 j1 j4 (by omega) _)).trans (gb_ev _ 1 2 j1 j2 (by omega) _)
  have q16 : gb (fo k) (rn k r).1 16 ++ (rn k r).2.ns = (ev (fo k) rf 8 (ev (fo k) rf 4 (ev (fo k) rf 2 (ev (fo k) rf 1 (kn k, r))))).2.ns := t16
  unfold tl
  rw [ef 1, ef 2, ef 4, ef 8, ef 16, List.append_assoc, List.append_assoc, List.append_assoc, List.append_assoc, q16, q8, t8, q4, t4, q2, t2, q1]
  exact t1
theorem dk_ok {b : List Int} (hr : Rng b) (h : wh (rpx b).2 = true) : enc (rpp b) = b := by
  simp only [wh, Bool.and_eq_true, Bool.not_eq_true'] at h
  obtain ⟨h1, h2⟩ := h
  have hn : (rpx b).2.ns = [] := List.eq_nil_of_length_eq_zero (by have := beq_iff_eq.1 h2; omega)
  have R0 : Rng (⟨b, false⟩ : Rs).ns := hr
  have R1 : Rng (rp1 b).ns := tr_rng 4 R0
  have R2 : Rng (rp2 b).ns := tr_rng 4 R1
  have R3 : Rng (rp3 b).ns := tr_rng 4 R2
  have R4 : Rng (rp4 b).ns := tr_rng 1 R3
  obtain ⟨s4, t5, hk⟩ := rn_ok _ _ R4 (show (rn (nr (rp3 b) 1) (rp4 b)).2.sh = false from h1)
  have t5' : tl (rpx b).1 ++ (rpx b).2.ns = (rp4 b).ns := t5
  have hk' : (rpx b).1.k = nr (rp3 b) 1 := hk
  obtain ⟨s3, t4, l4⟩ := tr_ok (show (tr (rp3 b) 1).sh = false from s4)
  obtain ⟨s2, t3, l3⟩ := tr_ok (show (tr (rp2 b) 4).sh = false from s3)
  obtain ⟨s1, t2, l2⟩ := tr_ok (show (tr (rp1 b) 4).sh = false from s2)
  obtain ⟨-, t1, l1⟩ := tr_ok (show (tr ⟨b, false⟩ 4).sh = false from s1)
  rw [hn, List.append_nil] at t5'
  have e : enc (rpp b) = be 4 (nr ⟨b, false⟩ 4) ++ (be 4 (nr (rp1 b) 4) ++ (be 4 (nr (rp2 b) 4) ++ (be 1 (rpx b).1.k ++ tl (rpx b).1))) := by simp [enc, hd, rpp]
  rw [e, hk', t5', nr, nr, nr, nr, be_nb 4 _ l1 (tk_rng 4 R0), be_nb 4 _ l2 (tk_rng 4 R1), be_nb 4 _ l3 (tk_rng 4 R2), be_nb 1 _ l4 (tk_rng 1 R3)]
  rw [show (rp4 b).ns = (tr (rp3 b) 1).ns from rfl, t4, show (rp3 b).ns = (tr (rp2 b) 4).ns from rfl, t3, show (rp2 b).ns = (tr (rp1 b) 4).ns from rfl, t2, show (rp1 b).ns = (tr ⟨b, false⟩ 4).ns from rfl, t1]
theorem dk_enc {p : Pk} (h : rtp p = true) : dk (enc p) = true ∧ dp (enc p) = p := by
  obtain ⟨h1, h2⟩ := rp_enc p h
  have e : dk (enc p) = true := by rw [dk, h1, h2, h]; rfl
  exact ⟨e, by rw [dp, e, if_pos rfl, h1]⟩
theorem dk_iff {b : List Int} (hr : Rng b) : dk b = true ↔ ∃ p, rtp p = true ∧ enc p = b := by
  constructor
  · intro h
    simp only [dk, Bool.and_eq_true] at h
    exact ⟨rpp b, h.2, dk_ok hr h.1⟩
  · rintro ⟨p, h1, rfl⟩
    exact (dk_enc h1).1
theorem dp_ok {b : List Int} (hr : Rng b) (h : dk b = true) : rtp (dp b) = true ∧ enc (dp b) = b := by
  have e : dp b = rpp b := by rw [dp, h, if_pos rfl]
  rw [e]
  simp only [dk, Bool.and_eq_true] at h
  exact ⟨h.2, dk_ok hr h.1⟩
theorem enc_inj {p q : Pk} (hp : rtp p = true) (hq : rtp q = true) (h : enc p = enc q) : p = q := by
  rw [← (dk_enc hp).2, h, (dk_enc hq).2]

/-- What the document takes out of bytes. -/
def cf (j : Nat) (s : Nt × List Int) : Nt × List Int :=
  if j = 1 then ({ s.1 with v := nb (s.2.take 2) }, s.2.drop 2) else if j = 2 then (setm s.1 (s.2.take 6), s.2.drop 6) else if j = 4 then ({ s.1 with p := nb (s.2.take 2) }, s.2.drop 2)
  else if j = 8 then ({ s.1 with s := s.2.getD 0 0 }, s.2.drop 1) else ({ s.1 with b := (s.2.drop 2).take (nb (s.2.take 2)).toNat }, s.2)
def cn (k : Int) (l : List Int) : Nt × List Int := evs (fo k) cf (kn k, l)
def pad (b : List Int) : List Int := b.drop 13 ++ List.replicate 20 0
def cd (b : List Int) : Pk := ⟨nb (b.take 4), nb ((b.drop 4).take 4), nb ((b.drop 8).take 4), (cn (b.getD 12 0) (pad b)).1⟩
def ck (b : List Int) : Bool := decide (13 ≤ b.length) && (rtp (cd b) && decide (enc (cd b) = b))
theorem cf_fb (j : Nat) (hj : J5 j) (x n : Nt) (l : List Int) (h : ft x j = true) : (cf j (n, fb x j ++ l)).1 = cp j x n ∧ (j < 16 → (cf j (n, fb x j ++ l)).2 = l) := by
  have nbe : ∀ (s : Nat) (y : Int), fit s y = true → nb (be s y) = y := fun s y f => nb_be s y (fit_and f).1 (fit_and f).2
  rcases hj with rfl | rfl | rfl | rfl | rfl
  · refine ⟨?_, fun _ => rfl⟩
    show ({ n with v := nb ((be 2 x.v ++ l).take 2) } : Nt) = _
    rw [show (be 2 x.v ++ l).take 2 = be 2 x.v from rfl, nbe 2 _ (ft_v h)]
    rfl
  · exact ⟨rfl, fun _ => rfl⟩
  · refine ⟨?_, fun _ => rfl⟩
    show ({ n with p := nb ((be 2 x.p ++ l).take 2) } : Nt) = _
    rw [show (be 2 x.p ++ l).take 2 = be 2 x.p from rfl, nbe 2 _ (ft_p h)]
    rfl
  · refine ⟨?_, fun _ => rfl⟩
    show ({ n with s := (be 1 x.s ++ l).getD 0 0 } : Nt) = _
    have := fit_and (ft_s h)
    rw [show (be 1 x.s ++ l).getD 0 0 = x.s % 256 from rfl, show x.s % 256 = x.s by simp at this; omega]
    rfl
  · refine ⟨?_, fun h => absurd h (by omega)⟩
    have h1 := ft_b h
    show ({ n with b := (((be 2 (x.b.length : Int) ++ x.b) ++ l).drop 2).take (nb (((be 2 (x.b.length : Int) ++ x.b) ++ l).take 2)).toNat } : Nt) = _
    rw [List.append_assoc, show (be 2 (x.b.length : Int) ++ (x.b ++ l)).take 2 = be 2 (x.b.length : Int) from rfl, show (be 2 (x.b.length : Int) ++ (x.b ++ l)).drop 2 = x.b ++ l from rfl, nbe 2 _ h1.1, Int.toNat_natCast, List.take_left]
    rfl
theorem ev_cf (j : Nat) (hj : J5 j) (x n : Nt) (l : List Int) (h : ff x j = true) (hn : bl n j = true) : (ev (fo x.k) cf j (n, fbs x j ++ l)).1 = cp j x n ∧ (j < 16 → (ev (fo x.k) cf j (n, fbs x j ++ l)).2 = l) := by
  unfold ff at h
  cases hh : hs (fo x.k) j
  · rw [hh] at h
    rw [ev_no hh, cp_blank j hj x n (by simpa using h) hn]
    simp [fbs, hh]
  · rw [hh] at h
    rw [ev_yes hh]
    have e : fbs x j = fb x j := by simp [fbs, hh]
    rw [e]
    exact cf_fb j hj x n l (by simpa using h)
theorem ev_cf' (j : Nat) (hj : J5 j) (h16 : j < 16) (x n : Nt) (l : List Int) (h : ff x j = true) (hn : bl n j = true) : ev (fo x.k) cf j (n, fbs x j ++ l) = (cp j x n, l) := by
  have := ev_cf j hj x n l h hn
  exact Prod.ext this.1 (this.2 h16)
theorem cn_tl (x : Nt) (h : rt x = true) (l : List Int) : (cn x.k (tl x ++ l)).1 = x := by
  simp only [rt, Bool.and_eq_true] at h
  obtain ⟨-, h1, h2, h4, h8, h16⟩ := h
  unfold cn evs tl
  simp only [List.append_assoc]
  rw [ev_cf' 1 (by simp [J5]) (by omega) x _ _ h1 rfl, ev_cf' 2 (by simp [J5]) (by omega) x _ _ h2 rfl, ev_cf' 4 (by simp [J5]) (by omega) x _ _ h4 rfl, ev_cf' 8 (by simp [J5]) (by omega) x _ _ h8 rfl]
  rw [(ev_cf 16 (by simp [J5]) x (cp 8 x (cp 4 x (cp 2 x (cp 1 x (kn x.k))))) l h16 rfl).1, cp_all]
theorem take_at (l m : List Int) (j : Nat) (h : l.length = j) : (l ++ m).take j = l := by subst h; exact List.take_left
theorem drop_at (l m : List Int) (j : Nat) (h : l.length = j) : (l ++ m).drop j = m := by subst h; exact List.drop_left
theorem cd_enc (p : Pk) (h : rtp p = true) : cd (enc p) = p := by
  simp only [rtp, Bool.and_eq_true, sq_iff] at h
  obtain ⟨hr, he, hq, ha⟩ := h
  have hk := rt_k hr
  have nbe : ∀ (s : Nat) (y : Int), fit s y = true → nb (be s y) = y := fun s y f => nb_be s y (fit_and f).1 (fit_and f).2
  have f1 := fit4 he.1 (by omega : p.e < 4294967296)
  have f2 := fit4 hq.1 (by omega : p.q < 4294967296)
  have f3 := fit4 ha.1 (by omega : p.a < 4294967296)
  have t1 : (enc p).take 4 = be 4 p.e := rfl
  have t2 : ((enc p).drop 4).take 4 = be 4 p.q := rfl
  have t3 : ((enc p).drop 8).take 4 = be 4 p.a := rfl
  have t4 : (enc p).getD 12 0 = p.n.k % 256 := rfl
  have t5 : (enc p).drop 13 = tl p.n := rfl
  rw [cd, pad, t1, t2, t3, t4, t5, nbe 4 _ f1, nbe 4 _ f2, nbe 4 _ f3, show p.n.k % 256 = p.n.k by omega, cn_tl _ hr]
theorem enc_len (p : Pk) : 13 ≤ (enc p).length := by
  rw [enc, List.length_append, hd_length]; omega
theorem ck_dk {b : List Int} (hr : Rng b) : ck b = dk b ∧ (ck b = true → cd b = dp b) := by
  have h1 : ck b = true → dk b = true ∧ cd b = dp b := by
    intro h
    simp only [ck, Bool.and_eq_true, decide_eq_true_eq] at h
    obtain ⟨-, h2, h3⟩ := h
    have := dk_enc h2
    rw [h3] at this
    exact ⟨this.1, this.2.symm⟩
  have h2 : dk b = true → ck b = true := by
    intro h
    obtain ⟨p, hp, rfl⟩ := (dk_iff hr).1 h
    simp only [ck, Bool.and_eq_true, decide_eq_true_eq]
    rw [cd_enc p hp]
    exact ⟨enc_len p, hp, rfl⟩
  refine ⟨?_, fun h => (h1 h).2⟩
  rw [Bool.eq_iff_iff]
  exact ⟨fun h => (h1 h).1, h2⟩
end Go.Proofs.YtgpdjfaklcmoiaaDoor.Ctl
/- The reader: take, number, whole; Clone of bytes. -/
namespace Go.Proofs.YtgpdjfaklcmoiaaDoor.Ctl
open Go.RowKit Go.PlainAid

/-- A reader in memory, and what it has yet; what it reads lies below it. -/
structure Rd (w : World) (R : Nat) (ao : Option Addr) (n c : Nat) (r : Rs) : Prop where
  bx : Box w R [.slice ao n c, .bool r.sh]
  byt : Byt w ao n c r.ns
  ne : ∀ b o, ao = some ⟨b, o, none⟩ → 0 < n → b < R
def RdE (R : Nat) (r : Rs) (w : World) : Prop := ∃ ao n c, Rd w R ao n c r
theorem RdE.below {w w1 : World} {R g : Nat} {r : Rs} (h : RdE R r w) (hg : R < g) (hb : Below g w w1) : RdE R r w1 := by
  obtain ⟨ao, n, c, h⟩ := h
  exact ⟨ao, n, c, h.bx.below hg hb, h.byt.below (fun b o e hp => by have := h.ne b o e hp; omega) hb, h.ne⟩
theorem RdE.lt {w : World} {R : Nat} {r : Rs} (h : RdE R r w) : R < w.heap.size := by
  obtain ⟨ao, n, c, h⟩ := h
  exact h.bx.lt
theorem RdE.on {w w1 : World} {R : Nat} {r : Rs} (h : RdE R r w) (hb : Below w.heap.size w w1) : RdE R r w1 := h.below h.lt hb
theorem RdE.kept {w w1 : World} {R k : Nat} {r : Rs} (h : RdE R r w) (hk : R < k) (hg : w.grownBy w1 (some k)) : RdE R r w1 := by
  obtain ⟨ao, n, c, h⟩ := h
  exact ⟨ao, n, c, h.bx.kept (by omega) hg, h.byt.kept (fun b o e hp => by have := h.ne b o e hp; omega) hg, h.ne⟩
theorem RdE.rng {w : World} {R : Nat} {r : Rs} (h : RdE R r w) : Rng r.ns := by
  obtain ⟨ao, n, c, h⟩ := h
  exact h.byt.rng
/-- What is told of bytes that were taken. -/
structure Tk (w w' : World) (R : Nat) (r : Rs) (j : Nat) (ao : Option Addr) (m c : Nat) : Prop where
  byt : Byt w' ao m c (tk r j)
  ne : ∀ b o, ao = some ⟨b, o, none⟩ → 0 < m → b < R
  rd : RdE R (tr r j) w'
  gr : w.grownBy w' (some R)
set_option maxRecDepth 100000 in
set_option maxHeartbeats 1000000 in
theorem take49_no (R j : Nat) (r : Rs) (ao : Option Addr) (n c : Nat) (w : World) (h : Rd w R ao n c r) (hj : r.ns.length < j) :
    Calls Tryd.prog 64 #[.pointer (some ⟨R, 0, none⟩), .int .i64 j] w fun e w' => ∃ ao m c, e = .returned (.slice ao m c) ∧ Tk w w' R r j ao m c := by
  have c0 := h.bx.cell 0 _ rfl
  have c1 := h.bx.cell 1 _ rfl
  have z1 := h.bx.free 1 (by simp)
  have H := hide h
  have hl := h.byt.len
  have hlt : (n : Int) < j := by omega
  have HJ := hide hj
  clear h hl hj
  go_enter Tryd.func64, Tryd.ntmps64
  go_wp2
  go_ret
  have g := setCell_grown w R 1 (.bool true)
  have e1 : tk r j = [] := by rw [tk, if_pos HJ.out]
  have e2 : tr r j = ⟨r.ns, true⟩ := by rw [tr, if_pos HJ.out]
  refine ⟨none, 0, 0, rfl, ⟨by rw [e1]; exact Byt.nothing _, fun b o e => (by cases e), ?_, g⟩⟩
  rw [e2]
  exact ⟨ao, n, c, Box.set (A := [.slice ao n c]) (C := []) H.out.bx rfl, H.out.byt.kept (fun b o e hp => by have := H.out.ne b o e hp; omega) g, H.out.ne⟩
theorem byt_take {w : World} {b o n c : Nat} {ns : List Int} (h : Byt w (some ⟨b, o, none⟩) n c ns) {j : Nat} (hj : j ≤ n) : Byt w (some ⟨b, o, none⟩) j c (ns.take j) :=
  ⟨by rw [List.length_take, h.len]; omega, fun e => (by cases e), fun i hi => by
    obtain ⟨b', o', e, hc⟩ := h.cell i (by omega)
    refine ⟨b', o', e, hc.trans ?_⟩
    simp [List.getD_eq_getElem?_getD, hi], Nat.le_trans hj h.le, h.mx, rng_take h.rng j⟩
theorem byt_drop {w : World} {b o n c : Nat} {ns : List Int} (h : Byt w (some ⟨b, o, none⟩) n c ns) {j : Nat} (hj : j ≤ n) {ao : Option Addr} (h1 : ¬ c = j → ao = some ⟨b, o + j, none⟩) (h2 : c = j → ao = some ⟨b, o, none⟩) : Byt w ao (n - j) (c - j) (ns.drop j) := by
  have hle := h.le
  refine ⟨by rw [List.length_drop, h.len], fun e => ?_, fun i hi => ?_, by omega, by have := h.mx; omega, rng_drop h.rng j⟩
  · by_cases hc : c = j
    · rw [h2 hc] at e; cases e
    · rw [h1 hc] at e; cases e
  · have hc : ¬ c = j := by omega
    refine ⟨b, o + j, h1 hc, ?_⟩
    obtain ⟨b', o', e, hcell⟩ := h.cell (j + i) (by omega)
    injection Option.some.inj e with e3 e4
    subst e3 e4
    rw [Nat.add_assoc, hcell]
    simp [List.getD_eq_getElem?_getD]
theorem Rd.took {w : World} {R b o n c : Nat} {r : Rs} (h : Rd w R (some ⟨b, o, none⟩) n c r) {j : Nat} (hj : j ≤ n) {ao : Option Addr} (h1 : ¬ c = j → ao = some ⟨b, o + j, none⟩) (h2 : c = j → ao = some ⟨b, o, none⟩) :
    Tk w (w.setCell ⟨R, 0, none⟩ (.slice ao (n - j) (c - j))) R r j (some ⟨b, o, none⟩) j c := by
  have g := setCell_grown w R 0 (.slice ao (n - j) (c - j))
  have hl := h.byt.len
  have hle := h.byt.le
  have e1 : tk r j = r.ns.take j := by rw [tk, if_neg (by omega)]
  have e2 : tr r j = ⟨r.ns.drop j, r.sh⟩ := by rw [tr, if_neg (by omega)]
  refine ⟨?_, fun b' o' e hp => h.ne b' o' e (by omega), ?_, g⟩
  · rw [e1]
    exact (byt_take h.byt hj).kept (fun b' o' e hp => by have := h.ne b' o' e (by omega); omega) g
  · rw [e2]
    refine ⟨ao, n - j, c - j, Box.set (A := []) (C := [.bool r.sh]) h.bx rfl, (byt_drop h.byt hj h1 h2).kept (fun b' o' e hp => ?_) g, fun b' o' e hp => ?_⟩
    · have hc : ¬ c = j := by omega
      rw [h1 hc] at e
      injection Option.some.inj e with e3 e4
      have := h.ne b o rfl (by omega)
      omega
    · have hc : ¬ c = j := by omega
      rw [h1 hc] at e
      injection Option.some.inj e with e3 e4
      have := h.ne b o rfl (by omega)
      omega
set_option maxRecDepth 100000 in
set_option maxHeartbeats 2000000 in
theorem take49_yes (R j b o n c : Nat) (r : Rs) (w : World) (h : Rd w R (some ⟨b, o, none⟩) n c r) (hj : j ≤ n) :
    Calls Tryd.prog 64 #[.pointer (some ⟨R, 0, none⟩), .int .i64 j] w fun e w' => ∃ ao m c, e = .returned (.slice ao m c) ∧ Tk w w' R r j ao m c := by
  have c0 := h.bx.cell 0 _ rfl
  have z0 := h.bx.free 0 (by simp)
  have H := hide h
  have hle := h.byt.le
  have hmx := h.byt.mx
  unfold maxLen at hmx
  have hj1 : (j : Int) ≤ n := by omega
  have hle1 : (n : Int) ≤ c := by omega
  have hjc : (j : Int) ≤ c := by omega
  clear h
  by_cases hcj : c = j
  · subst hcj
    go_enter Tryd.func64, Tryd.ntmps64
    go_wp2
    go_ret
    have hh := H.out.took hj (ao := some ⟨b, o, none⟩) (fun e => absurd rfl e) (fun _ => rfl)
    have e0 : n - c = 0 := by omega
    rw [Nat.sub_self, e0] at hh
    refine ⟨_, _, _, rfl, ?_⟩
    first | exact hh | (rw [Nat.sub_self, e0]; exact hh)
  · go_enter Tryd.func64, Tryd.ntmps64
    go_wp2
    go_ret
    exact ⟨_, _, _, rfl, H.out.took hj (fun _ => rfl) (fun e => absurd e hcj)⟩
theorem Rd.same {w : World} {R c : Nat} {ao : Option Addr} {r : Rs} (h : Rd w R ao 0 c r) : Tk w (w.setCell ⟨R, 0, none⟩ (.slice ao 0 c)) R r 0 ao 0 c := by
  have g := setCell_grown w R 0 (.slice ao 0 c)
  have hl := h.byt.len
  have hn : r.ns = [] := List.eq_nil_of_length_eq_zero hl
  have e1 : tk r 0 = [] := by simp [tk]
  have e2 : tr r 0 = r := by simp [tr]
  have Y := h.byt.kept (fun b o e hp => by omega) g
  refine ⟨?_, h.ne, ?_, g⟩
  · rw [e1]; rw [hn] at Y; exact Y
  · rw [e2]; exact ⟨ao, 0, c, Box.set (A := []) (C := [.bool r.sh]) h.bx rfl, Y, h.ne⟩
set_option maxRecDepth 100000 in
set_option maxHeartbeats 2000000 in
theorem take49_nil (R : Nat) (r : Rs) (w : World) (h : Rd w R none 0 0 r) :
    Calls Tryd.prog 64 #[.pointer (some ⟨R, 0, none⟩), .int .i64 (0 : Nat)] w fun e w' => ∃ ao m c, e = .returned (.slice ao m c) ∧ Tk w w' R r 0 ao m c := by
  have c0 := h.bx.cell 0 _ rfl
  have z0 := h.bx.free 0 (by simp)
  have H := hide h
  clear h
  go_enter Tryd.func64, Tryd.ntmps64
  go_wp2
  go_ret
  exact ⟨_, _, _, rfl, H.out.same⟩
set_option maxRecDepth 100000 in
set_option maxHeartbeats 2000000 in
theorem take49_emp (R : Nat) (ad : Addr) (c : Nat) (r : Rs) (w : World) (h : Rd w R (some ad) 0 c r) :
    Calls Tryd.prog 64 #[.pointer (some ⟨R, 0, none⟩), .int .i64 (0 : Nat)] w fun e w' => ∃ ao m c, e = .returned (.slice ao m c) ∧ Tk w w' R r 0 ao m c := by
  have c0 := h.bx.cell 0 _ rfl
  have z0 := h.bx.free 0 (by simp)
  have H := hide h
  clear h
  go_enter Tryd.func64, Tryd.ntmps64
  go_wp2
  go_ret
  exact ⟨_, _, _, rfl, H.out.same⟩
theorem take49 (R j : Nat) (r : Rs) (w : World) (h : RdE R r w) :
    Calls Tryd.prog 64 #[.pointer (some ⟨R, 0, none⟩), .int .i64 j] w fun e w' => ∃ ao m c, e = .returned (.slice ao m c) ∧ Tk w w' R r j ao m c := by
  obtain ⟨ao, n, c, h⟩ := h
  have hl := h.byt.len
  by_cases hj : r.ns.length < j
  · exact take49_no R j r ao n c w h hj
  · by_cases hn : 0 < n
    · obtain ⟨b, o, rfl, -, -⟩ := h.byt.at hn
      exact take49_yes R j b o n c r w h (by omega)
    · obtain rfl : n = 0 := by omega
      obtain rfl : j = 0 := by omega
      cases ao with
      | none =>
        obtain ⟨-, rfl⟩ := h.byt.nil rfl
        exact take49_nil R r w h
      | some ad => exact take49_emp R ad c r w h
theorem or_more (x y : Int) (h0 : 0 ≤ x) (h1 : x < 1099511627776) (g0 : 0 ≤ y) (g1 : y ≤ 255) : bits .or .i64 (x * 256) y = x * 256 + y := by
  obtain ⟨a, rfl⟩ := Int.eq_ofNat_of_zero_le h0
  obtain ⟨b, rfl⟩ := Int.eq_ofNat_of_zero_le g0
  have hx : a * 256 ||| b = a * 256 + b := by
    have := nat_join 8 ((a * 256 : Nat)) b (by omega) (by omega)
    simpa using this
  show IntKind.i64.wrap ((BitVec.ofInt 64 ((a : Int) * 256) ||| BitVec.ofInt 64 (b : Int)).toNat : Int) = _
  have e1 : BitVec.ofInt 64 ((a : Int) * 256) = BitVec.ofNat 64 (a * 256) := by rw [← BitVec.ofInt_natCast]; simp
  have e2 : BitVec.ofInt 64 (b : Int) = BitVec.ofNat 64 b := BitVec.ofInt_natCast 64 b
  rw [e1, e2, BitVec.toNat_or, BitVec.toNat_ofNat, BitVec.toNat_ofNat, Nat.mod_eq_of_lt (by omega), Nat.mod_eq_of_lt (by omega), hx]
  rw [IntWalk.i64_in _ (by omega)]
  omega
theorem take_snoc (ns : List Int) (m : Nat) (h : m < ns.length) : ns.take (m + 1) = ns.take m ++ [ns.getD m 0] := by
  rw [List.take_add_one, List.getD_eq_getElem?_getD, List.getElem?_eq_getElem h]
  rfl
theorem nb_le {l : List Int} (h : l.length ≤ 5) (hr : Rng l) : 0 ≤ nb l ∧ nb l < 1099511627776 := by
  have := nb_fit l.length l rfl hr
  refine ⟨this.1, ?_⟩
  have h2 := this.2
  rcases (show l.length = 0 ∨ l.length = 1 ∨ l.length = 2 ∨ l.length = 3 ∨ l.length = 4 ∨ l.length = 5 by omega) with e | e | e | e | e | e <;> rw [e] at h2 <;> omega
theorem tk_le (r : Rs) (j : Nat) : (tk r j).length ≤ j := by
  unfold tk
  split
  · simp
  · rw [List.length_take]; omega
set_option maxRecDepth 100000 in
set_option maxHeartbeats 4000000 in
theorem number45 (R j : Nat) (r : Rs) (w : World) (h : RdE R r w) (hj : j ≤ 4) :
    Calls Tryd.prog 47 #[.pointer (some ⟨R, 0, none⟩), .int .i64 j] w fun e w' => e = .returned (.int .i64 (nr r j)) ∧ RdE R (tr r j) w' ∧ w.grownBy w' (some R) := by
  have F := hide (take49 R j r w h)
  have hle := tk_le r j
  clear h
  go_enter Tryd.func47, Tryd.ntmps47
  go_wp2_with fail
  refine F.out.mono ?_
  rintro e w1 ⟨ao, m, c, rfl, T⟩
  have hl := T.byt.len
  have hr := hide T.byt.rng
  have HT := hide T
  have hm : m ≤ 4 := by omega
  clear F
  by_cases hp : 0 < m
  · obtain ⟨b, o, rfl, hc, -⟩ := T.byt.at hp
    have HC := hide hc
    have hcl := T.byt.le
    have hcl1 : (m : Int) ≤ c := by omega
    have hL := hide hl
    clear hc T hle hl
    go_wp2
    go_loop [5, 12] (fun x i => ∃ q : Nat, q ≤ m ∧ i = .int .i64 q ∧ x = .int .i64 (nb ((tk r j).take q))) (fun _ i => m - (intOf i).toNat)
    case atStart => exact ⟨0, by omega, rfl, rfl⟩
    case round =>
      obtain ⟨q, hq, rfl, rfl⟩ := hrel
      by_cases hlt : q < m
      · have hc := HC.out q hlt
        have hx := rng_getD hr.out q
        have hs := hide (take_snoc (tk r j) q (by have := hL.out; omega))
        have hn := nb_le (l := (tk r j).take q) (by rw [List.length_take]; omega) (rng_take hr.out q)
        have hs2 := hide (nb_snoc ((tk r j).take q) ((tk r j).getD q 0))
        generalize nb ((tk r j).take q) = x at *
        generalize (tk r j).getD q 0 = y at *
        have b1 : IntKind.i64.wrap y = y := IntWalk.i64_in _ (by omega)
        have b2 : IntKind.i64.wrap (x * 256) = x * 256 := IntWalk.i64_in _ (by omega)
        have b3 := or_more x y hn.1 hn.2 hx.1 hx.2
        have l1 : (q : Int) < m := by omega
        go_wp2
        go_round
        case rel => exact ⟨q + 1, by omega, by go_num, by rw [hs.out, hs2.out]⟩
        case measure => simp [intOf]; omega
      · obtain rfl : q = m := by omega
        go_wp2
        go_ret
        refine ⟨ret_int ?_, HT.out.rd, HT.out.gr⟩
        rw [nr, ← hL.out, List.take_length]
  · obtain rfl : m = 0 := by omega
    have E0 := hide (List.eq_nil_of_length_eq_zero hl)
    clear T hl hle hp
    go_wp2
    go_rounds 1
    go_ret
    exact ⟨ret_int (by rw [nr, E0.out]; rfl), HT.out.rd, HT.out.gr⟩
set_option maxRecDepth 100000 in
set_option maxHeartbeats 1000000 in
theorem whole40 (R : Nat) (r : Rs) (w : World) (h : RdE R r w) :
    Calls Tryd.prog 32 #[.pointer (some ⟨R, 0, none⟩)] w fun e w' => e = .returned (.bool (wh r)) ∧ w' = w := by
  obtain ⟨ao, n, c, h⟩ := h
  have c0 := h.bx.cell 0 _ rfl
  have c1 := h.bx.cell 1 _ rfl
  have HW : Hid (wh r = (!r.sh && ((n : Int) == 0))) := hide (by rw [wh, h.byt.len])
  clear h
  go_enter Tryd.func32, Tryd.ntmps32
  go_wp2
  all_goals
    go_ret
    exact ⟨ret_bool (by rw [HW.out]; simp [*]), rfl⟩
theorem own_byt2 {w : World} {base : Nat} {v : Value} {n : Nat} {ns : List Int} (h : Row w base v n ns) (hr : Rng ns) : ∃ ao c, v = .slice ao n c ∧ Byt w ao n c ns ∧ ∀ b o, ao = some ⟨b, o, none⟩ → base ≤ b := by
  obtain ⟨ao, c, hv, hb⟩ := h.byt hr
  refine ⟨ao, c, hv, hb, fun b o e => ?_⟩
  subst hv
  rcases h.2 with ⟨e1, -⟩ | ⟨g, cap, cur, e1, hg, -⟩
  · injection e1 with e2; rw [e2] at e; cases e
  · injection e1 with e2
    rw [e2] at e
    injection Option.some.inj e with e3
    omega
set_option maxRecDepth 100000 in
set_option maxHeartbeats 1000000 in
theorem clone50 (ao : Option Addr) (n c : Nat) (ns : List Int) (w : World) (h : Byt w ao n c ns) (hn : n ≤ 70000) :
    Calls Tryd.prog 35 #[.slice ao n c] w fun e w' => ∃ ao' c', e = .returned (.slice ao' n c') ∧ Byt w' ao' n c' ns ∧ (∀ b o, ao' = some ⟨b, o, none⟩ → w.heap.size ≤ b) ∧ Below w.heap.size w w' := by
  have q24 : ∀ (w : World) (a : Option Addr) (n c n' c' : Nat), (binOp .eql 24 (.slice a n c) (.slice none n' c')).run Tryd.prog w = .ok (.bool a.isNone) w := fun w a n c n' c' => Lib.run_eql_slice_nil w _ _ a n c n' c' Tryd.underlying24
  cases ao with
  | none =>
    obtain ⟨rfl, rfl⟩ := h.nil rfl
    go_enter Tryd.func35, Tryd.ntmps35
    go_wp2
    go_ret
    exact ⟨none, 0, rfl, h, fun b o e => (by cases e), Below.refl _ _⟩
  | some ad =>
    have hsrc := hide (h.alloc (.cells #[] 5))
    have HO : Hid (Row (w.alloc (.cells #[] 5)) w.heap.size (.slice (some ⟨w.heap.size, 0, none⟩) 0 0) 0 []) := hide (World.ownsRow_made w #[] 0 (Nat.le_refl _) (Nat.zero_le _) rfl)
    have HR := hide h.rng
    have HN := hide hn
    clear h hn
    go_enter Tryd.func35, Tryd.ntmps35
    go_wp2_with (at_builtin; refine wpl_app rfl (.tmp 5) (.tmp 6) rfl w.heap.size _ 0 [] rfl HO.out (some ad) n c ns rfl hsrc.out (by have := HN.out; omega) (by simp) ?_)
    intro v' w1 hR1 hB1
    have hB : Below w.heap.size w w1 := (below_alloc w _).trans hB1
    obtain ⟨ao', c', hv, hbyt, hnew⟩ := own_byt2 hR1 HR.out
    have HV := hide hv
    clear hsrc HO hv hB1 hR1
    go_wp2
    go_ret
    exact ⟨ao', c', by rw [HV.out]; simp, by simpa using hbyt, hnew, hB⟩
end Go.Proofs.YtgpdjfaklcmoiaaDoor.Ctl
/- Contract of readField: one field of a note, as the reader has it. -/
namespace Go.Proofs.YtgpdjfaklcmoiaaDoor.Ctl
open Go.RowKit

theorem res_note_cell {fn : Func} {p : Tmp} (h : fn.results = #[.cell p 46]) {tmps : Array Value} {w : World} {k : Nat} {x : Nt} {s : Value} (hp : tmps.getD p undef = .pointer (some ⟨k, 0, none⟩)) (hA : Box w k (ncl x s)) :
    (results fn tmps).run Tryd.prog w = .ok (.agg (NC x s)) w := by
  have hl := run_loadVar_mid (P := Tryd.prog) w k 0 46 _ _ hA.at_ Tryd.underlying46 rfl Tryd.size46
  have hp' : tmps[p]?.getD undef = .pointer (some ⟨k, 0, none⟩) := by simpa using hp
  simp only [results, h]
  simp [hp', asAddr, hl, NC]
/-- What a step of the reader answers. -/
structure RF (w w' : World) (R : Nat) (x : Nt × Rs) (a0 : Option Addr) (m0 : Nat) (a : Option Addr) (m c : Nat) : Prop where
  byt : Byt w' a m c x.1.b
  nw : ∀ b o, a = some ⟨b, o, none⟩ → 0 < m → (a = a0 ∧ m = m0) ∨ w.heap.size ≤ b
  rd : RdE R x.2 w'
  gr : w.grownBy w' (some R)
section
attribute [local go_sem] ZN
set_option maxRecDepth 100000 in
set_option maxHeartbeats 4000000 in
theorem read48_1 (n : Nt) (a : Option Addr) (m c R : Nat) (r : Rs) (w : World) (hY : Byt w a m c n.b) (hne : ∀ b o, a = some ⟨b, o, none⟩ → 0 < m → b ≠ R) (hR : RdE R r w) :
    Calls Tryd.prog 49 #[.pointer (some ⟨R, 0, none⟩), .agg (NC n (.slice a m c)), .int .i64 1] w fun e w' => ∃ a' m' c', e = .returned (.agg (NC (rf 1 (n, r)).1 (.slice a' m' c'))) ∧ RF w w' R (rf 1 (n, r)) a m a' m' c' := by
  have hlt := hR.lt
  have A0 : Box ((w.alloc (.cells (NC n (.slice a m c)) 46)).alloc (.cells (NC zeroN (.slice none 0 0)) 46)) w.heap.size (ncl n (.slice a m c)) := (Box.new w (ncl n (.slice a m c)) 46).alloc _
  have D0 : Box ((w.alloc (.cells (NC n (.slice a m c)) 46)).alloc (.cells (NC zeroN (.slice none 0 0)) 46)) (w.heap.size + 1) (ncl zeroN (.slice none 0 0)) := by
    have := Box.new (w.alloc (.cells (NC n (.slice a m c)) 46)) (ncl zeroN (.slice none 0 0)) 46
    rwa [World.size_alloc] at this
  have L0 : Below w.heap.size w ((w.alloc (.cells (NC n (.slice a m c)) 46)).alloc (.cells (NC zeroN (.slice none 0 0)) 46)) := by go_grown
  have G0 : w.grownBy ((w.alloc (.cells (NC n (.slice a m c)) 46)).alloc (.cells (NC zeroN (.slice none 0 0)) 46)) (some R) := grown_alloc (grown_alloc (World.grownBy.refl _ _) _) _
  have R0 := hR.on L0
  have Y0 := hY.on L0
  have HN := hide hne
  have HBB := hide hY.lt
  clear hY hne hR L0
  go_enter Tryd.func49, Tryd.ntmps49
  go_wp2_with fail
  refine (number45 R 2 r _ R0 (by omega)).mono ?_
  rintro e w1 ⟨rfl, R1, g1⟩
  have A1 := A0.kept (by omega) g1
  have D1 := D0.kept (by omega) g1
  have Y1 := Y0.kept HN.out g1
  replace G0 := grown_trans G0 g1
  have c1 := A1.cell 1 _ rfl
  have f1 := A1.free 1 (by rw [ncl_length]; omega)
  have g2 := setCell_grown w1 w.heap.size 1 (.int .i64 (nr r 2))
  have A2 : Box (w1.setCell ⟨w.heap.size, 1, none⟩ (.int .i64 (nr r 2))) w.heap.size (ncl { n with v := nr r 2 } (.slice a m c)) := Box.set (A := [.int .i64 n.k]) (C := (mcl n ++ [.int .i64 n.p, .int .i64 n.s, .slice a m c])) A1 rfl
  have A3 := A2.at_
  have D2 : Box (w1.setCell ⟨w.heap.size, 1, none⟩ (.int .i64 (nr r 2))) (w.heap.size + 1) ([] ++ ncl zeroN (.slice none 0 0)) := D1.kept (by omega) g2
  have R2 := R1.kept (by omega) g2
  have Y2 := Y1.kept (fun b o e hp => by have := HBB.out b o e hp; omega) g2
  have G2 := grown_new G0 g2 (Nat.le_refl _)
  clear A0 D0 R0 Y0 A1 D1 Y1 R1 g1 g2 G0 A2
  have tk2 : True := trivial
  have tk3 : True := trivial
  go_wp2_with (first | (have _t := tk2; refine wpl_note (.tmp 4) rfl A3 ?_ ?_ ?_; rfl; rfl; clear tk2) | (have _t := tk3; refine wpl_putN { n with v := nr r 2 } (.slice a m c) [] zeroN (.slice none 0 0) rfl (.tmp 6) (.tmp 38) rfl D2 rfl ?_ ?_ ?_ ?_; rfl; rfl; rfl; clear tk3; intro w6 D4 g4))
  have R4 := R2.kept (by omega) g4
  have Y4 := Y2.kept (fun b o e hp => by have := HBB.out b o e hp; omega) g4
  have G4 := grown_new G2 g4 (by omega)
  have D5 : Box w6 (w.heap.size + 1) (ncl { n with v := nr r 2 } (.slice a m c)) := D4
  exact bodyPost_ret (v := .agg (NC { n with v := nr r 2 } (.slice a m c))) (res_note_cell rfl rfl D5) rfl ⟨_, _, _, rfl, ⟨Y4, fun _ _ _ _ => Or.inl ⟨rfl, rfl⟩, R4, G4⟩⟩
set_option maxRecDepth 100000 in
set_option maxHeartbeats 4000000 in
theorem read48_4 (n : Nt) (a : Option Addr) (m c R : Nat) (r : Rs) (w : World) (hY : Byt w a m c n.b) (hne : ∀ b o, a = some ⟨b, o, none⟩ → 0 < m → b ≠ R) (hR : RdE R r w) :
    Calls Tryd.prog 49 #[.pointer (some ⟨R, 0, none⟩), .agg (NC n (.slice a m c)), .int .i64 4] w fun e w' => ∃ a' m' c', e = .returned (.agg (NC (rf 4 (n, r)).1 (.slice a' m' c'))) ∧ RF w w' R (rf 4 (n, r)) a m a' m' c' := by
  have hlt := hR.lt
  have A0 : Box ((w.alloc (.cells (NC n (.slice a m c)) 46)).alloc (.cells (NC zeroN (.slice none 0 0)) 46)) w.heap.size (ncl n (.slice a m c)) := (Box.new w (ncl n (.slice a m c)) 46).alloc _
  have D0 : Box ((w.alloc (.cells (NC n (.slice a m c)) 46)).alloc (.cells (NC zeroN (.slice none 0 0)) 46)) (w.heap.size + 1) (ncl zeroN (.slice none 0 0)) := by
    have := Box.new (w.alloc (.cells (NC n (.slice a m c)) 46)) (ncl zeroN (.slice none 0 0)) 46
    rwa [World.size_alloc] at this
  have L0 : Below w.heap.size w ((w.alloc (.cells (NC n (.slice a m c)) 46)).alloc (.cells (NC zeroN (.slice none 0 0)) 46)) := by go_grown
  have G0 : w.grownBy ((w.alloc (.cells (NC n (.slice a m c)) 46)).alloc (.cells (NC zeroN (.slice none 0 0)) 46)) (some R) := grown_alloc (grown_alloc (World.grownBy.refl _ _) _) _
  have R0 := hR.on L0
  have Y0 := hY.on L0
  have HN := hide hne
  have HBB := hide hY.lt
  clear hY hne hR L0
  go_enter Tryd.func49, Tryd.ntmps49
  go_wp2_with fail
  refine (number45 R 2 r _ R0 (by omega)).mono ?_
  rintro e w1 ⟨rfl, R1, g1⟩
  have A1 := A0.kept (by omega) g1
  have D1 := D0.kept (by omega) g1
  have Y1 := Y0.kept HN.out g1
  replace G0 := grown_trans G0 g1
  have c1 := A1.cell 8 _ rfl
  have f1 := A1.free 8 (by rw [ncl_length]; omega)
  have g2 := setCell_grown w1 w.heap.size 8 (.int .i64 (nr r 2))
  have A2 : Box (w1.setCell ⟨w.heap.size, 8, none⟩ (.int .i64 (nr r 2))) w.heap.size (ncl { n with p := nr r 2 } (.slice a m c)) := Box.set (A := (.int .i64 n.k :: .int .i64 n.v :: mcl n)) (C := [.int .i64 n.s, .slice a m c]) A1 rfl
  have A3 := A2.at_
  have D2 : Box (w1.setCell ⟨w.heap.size, 8, none⟩ (.int .i64 (nr r 2))) (w.heap.size + 1) ([] ++ ncl zeroN (.slice none 0 0)) := D1.kept (by omega) g2
  have R2 := R1.kept (by omega) g2
  have Y2 := Y1.kept (fun b o e hp => by have := HBB.out b o e hp; omega) g2
  have G2 := grown_new G0 g2 (Nat.le_refl _)
  clear A0 D0 R0 Y0 A1 D1 Y1 R1 g1 g2 G0 A2
  have tk2 : True := trivial
  have tk3 : True := trivial
  go_wp2_with (first | (have _t := tk2; refine wpl_note (.tmp 4) rfl A3 ?_ ?_ ?_; rfl; rfl; clear tk2) | (have _t := tk3; refine wpl_putN { n with p := nr r 2 } (.slice a m c) [] zeroN (.slice none 0 0) rfl (.tmp 6) (.tmp 38) rfl D2 rfl ?_ ?_ ?_ ?_; rfl; rfl; rfl; clear tk3; intro w6 D4 g4))
  have R4 := R2.kept (by omega) g4
  have Y4 := Y2.kept (fun b o e hp => by have := HBB.out b o e hp; omega) g4
  have G4 := grown_new G2 g4 (by omega)
  have D5 : Box w6 (w.heap.size + 1) (ncl { n with p := nr r 2 } (.slice a m c)) := D4
  exact bodyPost_ret (v := .agg (NC { n with p := nr r 2 } (.slice a m c))) (res_note_cell rfl rfl D5) rfl ⟨_, _, _, rfl, ⟨Y4, fun _ _ _ _ => Or.inl ⟨rfl, rfl⟩, R4, G4⟩⟩
set_option maxRecDepth 100000 in
set_option maxHeartbeats 4000000 in
theorem read48_8 (n : Nt) (a : Option Addr) (m c R : Nat) (r : Rs) (w : World) (hY : Byt w a m c n.b) (hne : ∀ b o, a = some ⟨b, o, none⟩ → 0 < m → b ≠ R) (hR : RdE R r w) :
    Calls Tryd.prog 49 #[.pointer (some ⟨R, 0, none⟩), .agg (NC n (.slice a m c)), .int .i64 8] w fun e w' => ∃ a' m' c', e = .returned (.agg (NC (rf 8 (n, r)).1 (.slice a' m' c'))) ∧ RF w w' R (rf 8 (n, r)) a m a' m' c' := by
  have hlt := hR.lt
  have A0 : Box ((w.alloc (.cells (NC n (.slice a m c)) 46)).alloc (.cells (NC zeroN (.slice none 0 0)) 46)) w.heap.size (ncl n (.slice a m c)) := (Box.new w (ncl n (.slice a m c)) 46).alloc _
  have D0 : Box ((w.alloc (.cells (NC n (.slice a m c)) 46)).alloc (.cells (NC zeroN (.slice none 0 0)) 46)) (w.heap.size + 1) (ncl zeroN (.slice none 0 0)) := by
    have := Box.new (w.alloc (.cells (NC n (.slice a m c)) 46)) (ncl zeroN (.slice none 0 0)) 46
    rwa [World.size_alloc] at this
  have L0 : Below w.heap.size w ((w.alloc (.cells (NC n (.slice a m c)) 46)).alloc (.cells (NC zeroN (.slice none 0 0)) 46)) := by go_grown
  have G0 : w.grownBy ((w.alloc (.cells (NC n (.slice a m c)) 46)).alloc (.cells (NC zeroN (.slice none 0 0)) 46)) (some R) := grown_alloc (grown_alloc (World.grownBy.refl _ _) _) _
  have R0 := hR.on L0
  have Y0 := hY.on L0
  have HN := hide hne
  have HBB := hide hY.lt
  clear hY hne hR L0
  go_enter Tryd.func49, Tryd.ntmps49
  go_wp2_with fail
  refine (number45 R 1 r _ R0 (by omega)).mono ?_
  rintro e w1 ⟨rfl, R1, g1⟩
  have A1 := A0.kept (by omega) g1
  have D1 := D0.kept (by omega) g1
  have Y1 := Y0.kept HN.out g1
  replace G0 := grown_trans G0 g1
  have c1 := A1.cell 9 _ rfl
  have f1 := A1.free 9 (by rw [ncl_length]; omega)
  have g2 := setCell_grown w1 w.heap.size 9 (.int .i64 (nr r 1))
  have A2 : Box (w1.setCell ⟨w.heap.size, 9, none⟩ (.int .i64 (nr r 1))) w.heap.size (ncl { n with s := nr r 1 } (.slice a m c)) := Box.set (A := (.int .i64 n.k :: .int .i64 n.v :: (mcl n ++ [.int .i64 n.p]))) (C := [.slice a m c]) A1 rfl
  have A3 := A2.at_
  have D2 : Box (w1.setCell ⟨w.heap.size, 9, none⟩ (.int .i64 (nr r 1))) (w.heap.size + 1) ([] ++ ncl zeroN (.slice none 0 0)) := D1.kept (by omega) g2
  have R2 := R1.kept (by omega) g2
  have Y2 := Y1.kept (fun b o e hp => by have := HBB.out b o e hp; omega) g2
  have G2 := grown_new G0 g2 (Nat.le_refl _)
  clear A0 D0 R0 Y0 A1 D1 Y1 R1 g1 g2 G0 A2
  have tk2 : True := trivial
  have tk3 : True := trivial
  go_wp2_with (first | (have _t := tk2; refine wpl_note (.tmp 4) rfl A3 ?_ ?_ ?_; rfl; rfl; clear tk2) | (have _t := tk3; refine wpl_putN { n with s := nr r 1 } (.slice a m c) [] zeroN (.slice none 0 0) rfl (.tmp 6) (.tmp 38) rfl D2 rfl ?_ ?_ ?_ ?_; rfl; rfl; rfl; clear tk3; intro w6 D4 g4))
  have R4 := R2.kept (by omega) g4
  have Y4 := Y2.kept (fun b o e hp => by have := HBB.out b o e hp; omega) g4
  have G4 := grown_new G2 g4 (by omega)
  have D5 : Box w6 (w.heap.size + 1) (ncl { n with s := nr r 1 } (.slice a m c)) := D4
  exact bodyPost_ret (v := .agg (NC { n with s := nr r 1 } (.slice a m c))) (res_note_cell rfl rfl D5) rfl ⟨_, _, _, rfl, ⟨Y4, fun _ _ _ _ => Or.inl ⟨rfl, rfl⟩, R4, G4⟩⟩
end
end Go.Proofs.YtgpdjfaklcmoiaaDoor.Ctl
/- Contract of readField: its Mac, its Body; then any of its fields. -/
namespace Go.Proofs.YtgpdjfaklcmoiaaDoor.Ctl
open Go.RowKit

theorem Tryd.size5 : (Tryd.prog.info? 5).map (·.size) = some 1 := by kernel_rfl
theorem RdE.drew {w : World} {R : Nat} {r : Rs} (h : RdE R r w) : RdE R r w.drew := by
  obtain ⟨ao, n, c, h⟩ := h
  exact ⟨ao, n, c, h.bx.drew, h.byt.drew, h.ne⟩
theorem tk6 (r : Rs) : (tk r 6).length = 6 ∨ tk r 6 = [] := by
  unfold tk
  split
  · exact Or.inr rfl
  · exact Or.inl (by rw [List.length_take]; omega)
theorem copyM {w1 : World} {N : Nat} {x : Nt} {s : Value} (A : Box w1 N (ncl x s)) {ao : Option Addr} {m c : Nat} {l : List Int} (Y : Byt w1 ao m c l) (hl : l.length = 6 ∨ l = []) :
    ∃ w2 q, (∀ ty, (Builtin.copy_ #[24, 24] ty #[.slice (some ⟨N, 2, none⟩) 6 6, .slice ao m c]).run Tryd.prog w1 = .ok q w2) ∧ Box w2 N (ncl (setm x l) s) ∧ w1.grownBy w2 (some N) := by
  have hlen := Y.len
  rcases hl with h6 | rfl
  · obtain ⟨b, o, rfl, -, -⟩ := Y.at (by omega)
    match l, h6, Y, hlen with
    | [a0, a1, a2, a3, a4, a5], _, Y, hlen =>
      obtain rfl : 6 = m := hlen
      refine ⟨_, _, fun ty => run_copy_cells w1 24 24 ty 5 N 2 6 6 ⟨b, o, none⟩ 6 c ([a0, a1, a2, a3, a4, a5].map (Value.int .u8)) Tryd.underlying24 Tryd.size5 rfl Y.src (fun j hj => ?_) (fun j hj => ?_) (one_u8 _), ?_, setCells_grown N _ 2 w1⟩
      · have := (A.th (2 + j) (by simp at hj; rw [ncl_length]; omega)).1
        rwa [Nat.zero_add] at this
      · have := (A.th (2 + j) (by simp at hj; rw [ncl_length]; omega)).2
        rwa [Nat.zero_add] at this
      · exact Box.put (A := [.int .i64 x.k, .int .i64 x.v]) (B := mcl x) (C := [.int .i64 x.p, .int .i64 x.s, s]) (B' := [.int .u8 a0, .int .u8 a1, .int .u8 a2, .int .u8 a3, .int .u8 a4, .int .u8 a5]) A rfl rfl
  · obtain rfl : m = 0 := by simpa using hlen.symm
    exact ⟨_, _, fun ty => run_copy_none w1 24 24 ty 5 _ ao 6 6 0 c Tryd.underlying24 Tryd.size5 rfl, A, World.grownBy.refl _ _⟩
section
attribute [local go_sem] ZN
set_option maxRecDepth 100000 in
set_option maxHeartbeats 4000000 in
theorem read48_2 (n : Nt) (a : Option Addr) (m c R : Nat) (r : Rs) (w : World) (hY : Byt w a m c n.b) (hne : ∀ b o, a = some ⟨b, o, none⟩ → 0 < m → b ≠ R) (hR : RdE R r w) :
    Calls Tryd.prog 49 #[.pointer (some ⟨R, 0, none⟩), .agg (NC n (.slice a m c)), .int .i64 2] w fun e w' => ∃ a' m' c', e = .returned (.agg (NC (rf 2 (n, r)).1 (.slice a' m' c'))) ∧ RF w w' R (rf 2 (n, r)) a m a' m' c' := by
  have hlt := hR.lt
  have A0 : Box ((w.alloc (.cells (NC n (.slice a m c)) 46)).alloc (.cells (NC zeroN (.slice none 0 0)) 46)) w.heap.size (ncl n (.slice a m c)) := (Box.new w (ncl n (.slice a m c)) 46).alloc _
  have D0 : Box ((w.alloc (.cells (NC n (.slice a m c)) 46)).alloc (.cells (NC zeroN (.slice none 0 0)) 46)) (w.heap.size + 1) (ncl zeroN (.slice none 0 0)) := by
    have := Box.new (w.alloc (.cells (NC n (.slice a m c)) 46)) (ncl zeroN (.slice none 0 0)) 46
    rwa [World.size_alloc] at this
  have L0 : Below w.heap.size w ((w.alloc (.cells (NC n (.slice a m c)) 46)).alloc (.cells (NC zeroN (.slice none 0 0)) 46)) := by go_grown
  have G0 : w.grownBy ((w.alloc (.cells (NC n (.slice a m c)) 46)).alloc (.cells (NC zeroN (.slice none 0 0)) 46)) (some R) := grown_alloc (grown_alloc (World.grownBy.refl _ _) _) _
  have R0 := hR.on L0
  have Y0 := hY.on L0
  have HN := hide hne
  have HBB := hide hY.lt
  clear hY hne hR L0
  have hN0 : w.heap.size ≠ R := by omega
  have T := take49 R 6 r _ R0.drew
  have A00 := A0.drew
  have HG := hide (grown_drew G0)
  go_enter Tryd.func49, Tryd.ntmps49
  go_wp2_with fail
  go_region_with (first | (go_at_call 64; refine T.mono ?_; rintro e w1 ⟨ao, q, cc, rfl, T1⟩; obtain ⟨w2, qq, hcp, A2, g2⟩ := copyM (A00.kept hN0 T1.gr) T1.byt (tk6 r)))
  have D2 : Box w2 (w.heap.size + 1) ([] ++ ncl zeroN (.slice none 0 0)) := (D0.drew.kept (by omega) T1.gr).kept (by omega) g2
  have R2 := T1.rd.kept (by omega) g2
  have Y2 := (Y0.drew.kept HN.out T1.gr).kept (fun b o e hp => by have := HBB.out b o e hp; omega) g2
  have G2 := grown_new (grown_trans HG.out T1.gr) g2 (Nat.le_refl _)
  have A3 := A2.at_
  have YS : Hid (Byt w2 a m c (setm n (tk r 6)).b) := by
    have e : (setm n (tk r 6)).b = n.b := by unfold setm; split <;> rfl
    rw [e]
    exact hide Y2
  clear T A00 HG A0 D0 R0 Y0 T1 g2 hcp A2 G0
  have tk2 : True := trivial
  have tk3 : True := trivial
  go_wp2_with (first | (have _t := tk2; refine wpl_note (.tmp 4) rfl A3 ?_ ?_ ?_; rfl; rfl; clear tk2) | (have _t := tk3; refine wpl_putN (setm n (tk r 6)) (.slice a m c) [] zeroN (.slice none 0 0) rfl (.tmp 6) (.tmp 38) rfl D2 rfl ?_ ?_ ?_ ?_; rfl; rfl; rfl; clear tk3; intro w6 D4 g4))
  have R4 := R2.kept (by omega) g4
  have Y4 := YS.out.kept (fun b o e hp => by have := HBB.out b o e hp; omega) g4
  have G4 := grown_new G2 g4 (by omega)
  have D5 : Box w6 (w.heap.size + 1) (ncl (setm n (tk r 6)) (.slice a m c)) := D4
  exact bodyPost_ret (v := .agg (NC (setm n (tk r 6)) (.slice a m c))) (res_note_cell rfl rfl D5) rfl ⟨_, _, _, rfl, ⟨Y4, fun _ _ _ _ => Or.inl ⟨rfl, rfl⟩, R4, G4⟩⟩
set_option maxRecDepth 100000 in
set_option maxHeartbeats 4000000 in
theorem read48_16 (n : Nt) (a : Option Addr) (m c R : Nat) (r : Rs) (w : World) (hY : Byt w a m c n.b) (hne : ∀ b o, a = some ⟨b, o, none⟩ → 0 < m → b ≠ R) (hR : RdE R r w) :
    Calls Tryd.prog 49 #[.pointer (some ⟨R, 0, none⟩), .agg (NC n (.slice a m c)), .int .i64 16] w fun e w' => ∃ a' m' c', e = .returned (.agg (NC (rf 16 (n, r)).1 (.slice a' m' c'))) ∧ RF w w' R (rf 16 (n, r)) a m a' m' c' := by
  have hlt := hR.lt
  have A0 : Box ((w.alloc (.cells (NC n (.slice a m c)) 46)).alloc (.cells (NC zeroN (.slice none 0 0)) 46)) w.heap.size (ncl n (.slice a m c)) := (Box.new w (ncl n (.slice a m c)) 46).alloc _
  have D0 : Box ((w.alloc (.cells (NC n (.slice a m c)) 46)).alloc (.cells (NC zeroN (.slice none 0 0)) 46)) (w.heap.size + 1) (ncl zeroN (.slice none 0 0)) := by
    have := Box.new (w.alloc (.cells (NC n (.slice a m c)) 46)) (ncl zeroN (.slice none 0 0)) 46
    rwa [World.size_alloc] at this
  have L0 : Below w.heap.size w ((w.alloc (.cells (NC n (.slice a m c)) 46)).alloc (.cells (NC zeroN (.slice none 0 0)) 46)) := by go_grown
  have G0 : w.grownBy ((w.alloc (.cells (NC n (.slice a m c)) 46)).alloc (.cells (NC zeroN (.slice none 0 0)) 46)) (some R) := grown_alloc (grown_alloc (World.grownBy.refl _ _) _) _
  have R0 := hR.on L0
  have Y0 := hY.on L0
  have HN := hide hne
  have HBB := hide hY.lt
  clear hY hne hR L0
  have hq0 := tk_rng 2 R0.rng
  have hql := tk_le r 2
  have hqr : 0 ≤ nr r 2 ∧ nr r 2 < 65536 := by
    have h1 := nb_fit _ (tk r 2) rfl hq0
    refine ⟨h1.1, ?_⟩
    have h2 := h1.2
    unfold nr
    rcases (show (tk r 2).length = 0 ∨ (tk r 2).length = 1 ∨ (tk r 2).length = 2 by omega) with e | e | e <;> rw [e] at h2 <;> omega
  obtain ⟨q, hq⟩ := Int.eq_ofNat_of_zero_le hqr.1
  have HX : Hid (rf 16 (n, r) = ({ n with b := tk (tr r 2) q }, tr (tr r 2) q)) := hide (by show ({ n with b := tk (tr r 2) (nr r 2).toNat }, tr (tr r 2) (nr r 2).toNat) = _; rw [hq]; rfl)
  have hq2 : q ≤ 65535 := by omega
  rw [HX.out]
  clear HX hq0 hql hqr Y0
  go_enter Tryd.func49, Tryd.ntmps49
  go_wp2_with fail
  refine (number45 R 2 r _ R0 (by omega)).mono ?_
  rw [hq]
  rintro e w1 ⟨rfl, R1, g1⟩
  have A1 := A0.kept (by omega) g1
  have D1 := D0.kept (by omega) g1
  replace G0 := grown_trans G0 g1
  clear A0 D0 R0 g1 hq
  go_wp2_with fail
  refine (take49 R q (tr r 2) _ R1).mono ?_
  rintro e w2 ⟨ao, m2, c2, rfl, T⟩
  replace A1 := A1.kept (by omega) T.gr
  replace D1 := D1.kept (by omega) T.gr
  replace G0 := grown_trans G0 T.gr
  have hm2 : m2 ≤ 70000 := by have := T.byt.len; have := tk_le (tr r 2) q; omega
  have hS2 := D1.lt
  have RT := T.rd
  have YT := T.byt
  clear T R1
  go_wp2_with fail
  refine (clone50 ao m2 c2 _ _ YT hm2).mono ?_
  rintro e w3 ⟨a3, c3, rfl, Y3, hnew, B3⟩
  replace A1 := A1.on B3
  replace D1 := D1.on B3
  replace RT := RT.on B3
  have hRl := RT.lt
  have hNE : Hid (∀ b o, a3 = some ⟨b, o, none⟩ → 0 < m2 → w.heap.size ≤ b ∧ b ≠ w.heap.size ∧ b ≠ w.heap.size + 1) := hide (fun b o e _ => by have h1 := hnew b o e; omega)
  replace G0 := grown_below G0 B3
  have c1 := A1.cell 10 _ rfl
  have f1 := A1.free 10 (by rw [ncl_length]; omega)
  have g2 := setCell_grown w3 w.heap.size 10 (.slice a3 m2 c3)
  have A2 : Box (w3.setCell ⟨w.heap.size, 10, none⟩ (.slice a3 m2 c3)) w.heap.size (ncl { n with b := tk (tr r 2) q } (.slice a3 m2 c3)) := Box.set (A := .int .i64 n.k :: .int .i64 n.v :: (mcl n ++ [.int .i64 n.p, .int .i64 n.s])) (C := []) A1 rfl
  have A3 := A2.at_
  have D2 : Box (w3.setCell ⟨w.heap.size, 10, none⟩ (.slice a3 m2 c3)) (w.heap.size + 1) ([] ++ ncl zeroN (.slice none 0 0)) := D1.kept (by omega) g2
  have R2 := RT.kept (by omega) g2
  have Y2 := Y3.kept (fun b o e hp => (hNE.out b o e hp).2.1) g2
  have G2 := grown_new G0 g2 (Nat.le_refl _)
  clear A1 D1 RT Y3 YT B3 g2 G0 A2 hnew hRl hS2
  have tk2 : True := trivial
  have tk3 : True := trivial
  go_wp2_with (first | (have _t := tk2; refine wpl_note (.tmp 4) rfl A3 ?_ ?_ ?_; rfl; rfl; clear tk2) | (have _t := tk3; refine wpl_putN { n with b := tk (tr r 2) q } (.slice a3 m2 c3) [] zeroN (.slice none 0 0) rfl (.tmp 6) (.tmp 38) rfl D2 rfl ?_ ?_ ?_ ?_; rfl; rfl; rfl; clear tk3; intro w6 D4 g4))
  have R4 := R2.kept (by omega) g4
  have Y4 := Y2.kept (fun b o e hp => (hNE.out b o e hp).2.2) g4
  have G4 := grown_new G2 g4 (by omega)
  have D5 : Box w6 (w.heap.size + 1) (ncl { n with b := tk (tr r 2) q } (.slice a3 m2 c3)) := D4
  exact bodyPost_ret (v := .agg (NC { n with b := tk (tr r 2) q } (.slice a3 m2 c3))) (res_note_cell rfl rfl D5) rfl ⟨_, _, _, rfl, ⟨Y4, fun b o e hp => Or.inr (hNE.out b o e hp).1, R4, G4⟩⟩
end
theorem read48 (n : Nt) (a : Option Addr) (m c R : Nat) (r : Rs) (j : Nat) (hj : J5 j) (w : World) (hY : Byt w a m c n.b) (hne : ∀ b o, a = some ⟨b, o, none⟩ → 0 < m → b ≠ R) (hR : RdE R r w) :
    Calls Tryd.prog 49 #[.pointer (some ⟨R, 0, none⟩), .agg (NC n (.slice a m c)), .int .i64 j] w fun e w' => ∃ a' m' c', e = .returned (.agg (NC (rf j (n, r)).1 (.slice a' m' c'))) ∧ RF w w' R (rf j (n, r)) a m a' m' c' := by
  rcases hj with rfl | rfl | rfl | rfl | rfl
  · exact read48_1 n a m c R r w hY hne hR
  · exact read48_2 n a m c R r w hY hne hR
  · exact read48_4 n a m c R r w hY hne hR
  · exact read48_8 n a m c R r w hY hne hR
  · exact read48_16 n a m c R r w hY hne hR
end Go.Proofs.YtgpdjfaklcmoiaaDoor.Ctl
/- The step that reads; contracts of readPacket and of the program's Decode. -/
namespace Go.Proofs.YtgpdjfaklcmoiaaDoor.Ctl
open Go.RowKit

structure RdI (w0 : World) (R N : Nat) (p : Pk) (r : Rs) (sa : Option Addr) (sm sc : Nat) (w : World) : Prop where
  rv : Box w N [.pointer (some ⟨R, 0, none⟩)]
  rs : Box w (N + 1) (pcl zeroP (.slice none 0 0))
  pk : Box w (N + 2) (pcl p (.slice sa sm sc))
  byt : Byt w sa sm sc p.n.b
  ne : ∀ b o, sa = some ⟨b, o, none⟩ → 0 < sm → N + 3 ≤ b
  rd : RdE R r w
  gr : w0.grownBy w (some R)
  lt : R < N
  n0 : N = w0.heap.size
theorem RdI.num {w0 : World} {R N : Nat} {p : Pk} {r : Rs} {sa : Option Addr} {sm sc : Nat} {w w1 : World} (h : RdI w0 R N p r sa sm sc w) {r' : Rs} (hr : RdE R r' w1) (hg : w.grownBy w1 (some R)) : RdI w0 R N p r' sa sm sc w1 := by
  have hlt := h.lt
  exact ⟨h.rv.kept (by omega) hg, h.rs.kept (by omega) hg, h.pk.kept (by omega) hg, h.byt.kept (fun b o e hp => by have := h.ne b o e hp; omega) hg, h.ne, hr, grown_trans h.gr hg, hlt, h.n0⟩
theorem RdI.put {w0 : World} {R N : Nat} {p p' : Pk} {r : Rs} {sa : Option Addr} {sm sc : Nat} {w w1 : World} (h : RdI w0 R N p r sa sm sc w) (hp : Box w1 (N + 2) (pcl p' (.slice sa sm sc))) (hb : p'.n.b = p.n.b) (hg : w.grownBy w1 (some (N + 2))) : RdI w0 R N p' r sa sm sc w1 := by
  have hlt := h.lt
  have hn := h.n0
  exact ⟨h.rv.kept (by omega) hg, h.rs.kept (by omega) hg, hp, by rw [hb]; exact h.byt.kept (fun b o e hp => by have := h.ne b o e hp; omega) hg, h.ne, h.rd.kept (by omega) hg, grown_new h.gr hg (by omega), hlt, h.n0⟩
set_option maxRecDepth 100000 in
set_option maxHeartbeats 2000000 in
theorem read47 (w0 : World) (R N : Nat) (e q a : Int) (j : Nat) (hj : J5 j) (x : Nt × Rs) (w : World) (h : ∃ sa sm sc, RdI w0 R N ⟨e, q, a, x.1⟩ x.2 sa sm sc w) :
    Calls Tryd.prog 48 #[.int .i64 j, .pointer (some ⟨N, 0, none⟩), .pointer (some ⟨N + 2, 0, none⟩)] w fun e' w' => e' = .returned (.tuple #[]) ∧ ∃ sa sm sc, RdI w0 R N ⟨e, q, a, (rf j x).1⟩ (rf j x).2 sa sm sc w' := by
  obtain ⟨sa, sm, sc, h⟩ := h
  obtain ⟨n, r⟩ := x
  have c0 := h.rv.cell 0 _ rfl
  have NA : w.rangeAt (N + 2) 3 (ncl n (.slice sa sm sc)) := h.pk.note
  have H := hide h
  have hlt := h.lt
  have hN0 := hide h.n0
  have hsz := h.pk.lt
  have F := hide (read48 n sa sm sc R r j hj w h.byt (fun b o e hp => by have := h.ne b o e hp; omega) h.rd)
  clear h hj
  have tk1 : True := trivial
  go_enter Tryd.func48, Tryd.ntmps48
  go_wp2_with (have _t := tk1; refine wpl_note (.tmp 5) rfl NA ?_ ?_ ?_; rfl; rfl; clear tk1)
  refine F.out.mono ?_
  rintro e' w1 ⟨sa', sm', sc', rfl, T⟩
  have hg1 := T.gr
  have A1 : Box w1 (N + 2) ([.int .i64 e, .int .i64 q, .int .i64 a] ++ ncl n (.slice sa sm sc)) := H.out.pk.kept (by omega) hg1
  have V1 := H.out.rv.kept (by omega) hg1
  have S1 := H.out.rs.kept (by omega) hg1
  have NE : Hid (∀ b o, sa' = some ⟨b, o, none⟩ → 0 < sm' → N + 3 ≤ b) := hide (fun b o e hp => by
    rcases T.nw b o e hp with ⟨e1, e2⟩ | h1
    · exact H.out.ne b o (by rw [← e1]; exact e) (by omega)
    · omega)
  have HT := hide T
  clear NA F T c0
  have tk2 : True := trivial
  go_wp2_with (have _t := tk2; refine wpl_putN (rf j (n, r)).1 (.slice sa' sm' sc') [.int .i64 e, .int .i64 q, .int .i64 a] n (.slice sa sm sc) rfl (.tmp 9) (.tmp 8) rfl A1 rfl ?_ ?_ ?_ ?_; rfl; rfl; rfl; clear tk2; intro w2 A2 g2)
  go_end0
  refine ⟨rfl, sa', sm', sc', ⟨V1.kept (by omega) g2, S1.kept (by omega) g2, A2, HT.out.byt.kept (fun b o e hp => by have := NE.out b o e hp; omega) g2, NE.out, HT.out.rd.kept (by omega) g2, grown_new (grown_trans H.out.gr HT.out.gr) g2 (by have := hN0.out; omega), hlt, hN0.out⟩⟩
theorem ent47 (args : Array Value) (w : World) : (callFunc 48 args).run Tryd.prog w = .ok (.enter 48 args) w := by
  kernel_rfl
theorem stepRd (w0 : World) (R N : Nat) (e q a F : Int) : StepC 48 #[.pointer (some ⟨N, 0, none⟩), .pointer (some ⟨N + 2, 0, none⟩)] F (fun _ x w => ∃ sa sm sc, RdI w0 R N ⟨e, q, a, x.1⟩ x.2 sa sm sc w) rf where
  run := fun j s w hj _ h => read47 w0 R N e q a j hj s w h
  skip := fun _ _ _ _ _ h => h
  ent := ent47
theorem res_pkt_cell {fn : Func} {p : Tmp} (h : fn.results = #[.cell p 48]) {tmps : Array Value} {w : World} {k : Nat} {x : Pk} {s : Value} (hp : tmps.getD p undef = .pointer (some ⟨k, 0, none⟩)) (hA : Box w k (pcl x s)) :
    (results fn tmps).run Tryd.prog w = .ok (.agg (PC x s)) w := by
  have hl := run_loadVar_mid (P := Tryd.prog) w k 0 48 _ _ hA.at_ Tryd.underlying48 rfl Tryd.size48
  have hp' : tmps[p]?.getD undef = .pointer (some ⟨k, 0, none⟩) := by simpa using hp
  simp only [results, h]
  simp [hp', asAddr, hl, PC]
section
attribute [local go_sem] ZP
set_option maxRecDepth 100000 in
set_option maxHeartbeats 4000000 in
theorem read39 (R : Nat) (b : List Int) (w : World) (hT : KT w) (hR0 : R ≠ 0) (hR : RdE R ⟨b, false⟩ w) :
    Calls Tryd.prog 31 #[.pointer (some ⟨R, 0, none⟩)] w fun e w' => ∃ sa sm sc, e = .returned (.agg (PC (rpp b) (.slice sa sm sc))) ∧ Byt w' sa sm sc (rpp b).n.b ∧ (∀ b' o, sa = some ⟨b', o, none⟩ → 0 < sm → w.heap.size ≤ b') ∧ RdE R (rpx b).2 w' ∧ w.grownBy w' (some R) := by
  have hmf : ∀ (fn : Fn) (first cap : Array Value) (w : World), (Instr.makeFunc fn first cap).run Tryd.prog w = .ok (.func fn first cap) w := fun _ _ _ _ => rfl
  have V0 : Box (((w.alloc (.cells #[.pointer (some ⟨R, 0, none⟩)] 86)).alloc (.cells (PC zeroP (.slice none 0 0)) 48)).alloc (.cells (PC zeroP (.slice none 0 0)) 48)) w.heap.size [.pointer (some ⟨R, 0, none⟩)] := ((Box.new w [.pointer (some ⟨R, 0, none⟩)] 86).alloc _).alloc _
  have S0 : Box (((w.alloc (.cells #[.pointer (some ⟨R, 0, none⟩)] 86)).alloc (.cells (PC zeroP (.slice none 0 0)) 48)).alloc (.cells (PC zeroP (.slice none 0 0)) 48)) (w.heap.size + 1) (pcl zeroP (.slice none 0 0)) := by
    have := (Box.new (w.alloc (.cells #[.pointer (some ⟨R, 0, none⟩)] 86)) (pcl zeroP (.slice none 0 0)) 48).alloc (.cells (PC zeroP (.slice none 0 0)) 48)
    rwa [World.size_alloc] at this
  have P0 : Box (((w.alloc (.cells #[.pointer (some ⟨R, 0, none⟩)] 86)).alloc (.cells (PC zeroP (.slice none 0 0)) 48)).alloc (.cells (PC zeroP (.slice none 0 0)) 48)) (w.heap.size + 2) (pcl zeroP (.slice none 0 0)) := by
    have := Box.new ((w.alloc (.cells #[.pointer (some ⟨R, 0, none⟩)] 86)).alloc (.cells (PC zeroP (.slice none 0 0)) 48)) (pcl zeroP (.slice none 0 0)) 48
    rwa [World.size_alloc, World.size_alloc] at this
  have L0 : Below w.heap.size w (((w.alloc (.cells #[.pointer (some ⟨R, 0, none⟩)] 86)).alloc (.cells (PC zeroP (.slice none 0 0)) 48)).alloc (.cells (PC zeroP (.slice none 0 0)) 48)) := by go_grown
  have I0 : RdI w R w.heap.size zeroP ⟨b, false⟩ none 0 0 (((w.alloc (.cells #[.pointer (some ⟨R, 0, none⟩)] 86)).alloc (.cells (PC zeroP (.slice none 0 0)) 48)).alloc (.cells (PC zeroP (.slice none 0 0)) 48)) :=
    ⟨V0, S0, P0, Byt.nothing _, fun b o e => (by cases e), hR.on L0, grown_alloc (grown_alloc (grown_alloc (World.grownBy.refl _ _) _) _) _, hR.lt, rfl⟩
  have K0 := hT.on L0
  have HI := hide I0
  have R0 := hide I0.rd
  have hlt := hR.lt
  have v0 := V0.cell 0 _ rfl
  clear hT hR V0 S0 P0 L0 I0
  go_enter Tryd.func31, Tryd.ntmps31
  go_wp2_with fail
  refine (number45 R 4 _ _ R0.out (by omega)).mono ?_
  rintro e w1 ⟨rfl, R1, g1⟩
  replace HI := hide (HI.out.num R1 g1)
  replace K0 := K0.kept hR0 g1
  have P1 := HI.out.pk
  have c1 := P1.cell 0 _ rfl
  have f1 := P1.free 0 (by rw [pcl_length]; omega)
  have g2 := setCell_grown w1 (w.heap.size + 2) 0 (.int .i64 (nr ⟨b, false⟩ 4))
  have P2 : Box (w1.setCell ⟨w.heap.size + 2, 0, none⟩ (.int .i64 (nr ⟨b, false⟩ 4))) (w.heap.size + 2) (pcl ⟨nr ⟨b, false⟩ 4, 0, 0, zeroN⟩ (.slice none 0 0)) := Box.set (A := []) (C := .int .i64 0 :: .int .i64 0 :: ncl zeroN (.slice none 0 0)) P1 rfl
  have HI2 := hide (HI.out.put P2 rfl g2)
  have v1 := HI2.out.rv.cell 0 _ rfl
  have R2 := hide HI2.out.rd
  replace K0 := K0.kept (by omega) g2
  clear v0 R0 R1 g1 P1 g2 P2 HI
  go_wp2_with fail
  refine (number45 R 4 _ _ R2.out (by omega)).mono ?_
  rintro e w2 ⟨rfl, R1, g1⟩
  have HI := hide (HI2.out.num R1 g1)
  replace K0 := K0.kept hR0 g1
  have P1 := HI.out.pk
  have c2 := P1.cell 1 _ rfl
  have f2 := P1.free 1 (by rw [pcl_length]; omega)
  have g2 := setCell_grown w2 (w.heap.size + 2) 1 (.int .i64 (nr (rp1 b) 4))
  have P2 : Box (w2.setCell ⟨w.heap.size + 2, 1, none⟩ (.int .i64 (nr (rp1 b) 4))) (w.heap.size + 2) (pcl ⟨nr ⟨b, false⟩ 4, nr (rp1 b) 4, 0, zeroN⟩ (.slice none 0 0)) := Box.set (A := [.int .i64 (nr ⟨b, false⟩ 4)]) (C := .int .i64 0 :: ncl zeroN (.slice none 0 0)) P1 rfl
  have HI3 := hide (HI.out.put P2 rfl g2)
  have v2 := HI3.out.rv.cell 0 _ rfl
  have R3 := hide HI3.out.rd
  replace K0 := K0.kept (by omega) g2
  rw [show nr (tr ⟨b, false⟩ 4) 4 = nr (rp1 b) 4 from rfl]
  clear v1 R2 R1 g1 P1 g2 P2 HI HI2 c1 f1
  go_wp2_with fail
  refine (number45 R 4 _ _ R3.out (by omega)).mono ?_
  rintro e w3 ⟨rfl, R1, g1⟩
  have HI := hide (HI3.out.num R1 g1)
  replace K0 := K0.kept hR0 g1
  have P1 := HI.out.pk
  have c1 := P1.cell 2 _ rfl
  have f1 := P1.free 2 (by rw [pcl_length]; omega)
  have g2 := setCell_grown w3 (w.heap.size + 2) 2 (.int .i64 (nr (rp2 b) 4))
  have P2 : Box (w3.setCell ⟨w.heap.size + 2, 2, none⟩ (.int .i64 (nr (rp2 b) 4))) (w.heap.size + 2) (pcl ⟨nr ⟨b, false⟩ 4, nr (rp1 b) 4, nr (rp2 b) 4, zeroN⟩ (.slice none 0 0)) := Box.set (A := [.int .i64 (nr ⟨b, false⟩ 4), .int .i64 (nr (rp1 b) 4)]) (C := ncl zeroN (.slice none 0 0)) P1 rfl
  have HI2 := hide (HI.out.put P2 rfl g2)
  have v1 := HI2.out.rv.cell 0 _ rfl
  have R2 := hide HI2.out.rd
  replace K0 := K0.kept (by omega) g2
  rw [show nr (tr (tr ⟨b, false⟩ 4) 4) 4 = nr (rp2 b) 4 from rfl]
  clear v2 R3 R1 g1 P1 g2 P2 HI HI3 c2 f2
  go_wp2_with fail
  refine (number45 R 1 _ _ R2.out (by omega)).mono ?_
  rintro e w4 ⟨rfl, R1, g1⟩
  have HI := hide (HI2.out.num R1 g1)
  replace K0 := K0.kept hR0 g1
  have P1 := HI.out.pk
  have c2 := P1.cell 3 _ rfl
  have f2 := P1.free 3 (by rw [pcl_length]; omega)
  have g2 := setCell_grown w4 (w.heap.size + 2) 3 (.int .i64 (nr (rp3 b) 1))
  have P2 : Box (w4.setCell ⟨w.heap.size + 2, 3, none⟩ (.int .i64 (nr (rp3 b) 1))) (w.heap.size + 2) (pcl ⟨nr ⟨b, false⟩ 4, nr (rp1 b) 4, nr (rp2 b) 4, kn (nr (rp3 b) 1)⟩ (.slice none 0 0)) := Box.set (A := [.int .i64 (nr ⟨b, false⟩ 4), .int .i64 (nr (rp1 b) 4), .int .i64 (nr (rp2 b) 4)]) (C := .int .i64 0 :: (mcl zeroN ++ [.int .i64 0, .int .i64 0, .slice none 0 0])) P1 rfl
  have k3 := P2.cell 3 (.int .i64 (nr (rp3 b) 1)) rfl
  have HI3 := hide (HI.out.put P2 rfl g2)
  replace K0 := K0.kept (by omega) g2
  rw [show nr (tr (tr (tr ⟨b, false⟩ 4) 4) 4) 1 = nr (rp3 b) 1 from rfl]
  clear v1 R2 R1 g1 P1 g2 P2 HI HI2 c1 f1
  go_wp2_with (go_at_call 28; refine (fields25 _ _ K0).mono ?_; rintro e w' ⟨rfl, rfl⟩)
  refine (each24 (stepRd w R w.heap.size (nr ⟨b, false⟩ 4) (nr (rp1 b) 4) (nr (rp2 b) 4) (fo (nr (rp3 b) 1))) (kn (nr (rp3 b) 1), rp4 b) _ ⟨none, 0, 0, HI3.out⟩).mono ?_
  rintro e w5 ⟨rfl, sa, sm, sc, I5⟩
  have P5 : Box w5 (w.heap.size + 2) (pcl (rpp b) (.slice sa sm sc)) := I5.pk
  have S5 := I5.rs
  have H5 := hide I5
  clear HI3 I5 K0 k3 c2 f2
  have tk1 : True := trivial
  have tk2 : True := trivial
  go_wp2_with (first | (have _t := tk1; refine wpl_pkt (.tmp 3) rfl P5 ?_ ?_ ?_; rfl; rfl; clear tk1) | (have _t := tk2; refine wpl_putP (rpp b) (.slice sa sm sc) zeroP (.slice none 0 0) rfl (.tmp 2) (.tmp 23) rfl S5 ?_ ?_ ?_ ?_; rfl; rfl; rfl; clear tk2; intro w6 S6 g6))
  have Y6 : Byt w6 sa sm sc (rpp b).n.b := H5.out.byt.kept (fun b o e hp => by have := H5.out.ne b o e hp; omega) g6
  have R6 : RdE R (rpx b).2 w6 := H5.out.rd.kept (by omega) g6
  exact bodyPost_ret (v := .agg (PC (rpp b) (.slice sa sm sc))) (res_pkt_cell rfl rfl S6) rfl ⟨sa, sm, sc, rfl, Y6, fun b' o e hp => by have := H5.out.ne b' o e hp; omega, R6, grown_new H5.out.gr g6 (by omega)⟩
end
end Go.Proofs.YtgpdjfaklcmoiaaDoor.Ctl
/- Contract of the program's Decode. -/
namespace Go.Proofs.YtgpdjfaklcmoiaaDoor.Ctl
open Go.RowKit

theorem setm_B {n : Nt} {l : List Int} (h : NtB n) (hl : Rng l) : NtB (setm n l) := by
  unfold setm
  split
  · exact ⟨hl, h.b⟩
  · exact h
theorem rf_B (j : Nat) (s : Nt × Rs) (h : NtB s.1) (hr : Rng s.2.ns) : NtB (rf j s).1 := by
  unfold rf
  split
  · exact ⟨h.m, h.b⟩
  split
  · exact setm_B h (tk_rng _ hr)
  split
  · exact ⟨h.m, h.b⟩
  split
  · exact ⟨h.m, h.b⟩
  · exact ⟨h.m, tk_rng _ (tr_rng _ hr)⟩
theorem ev_B (F : Int) (j : Nat) (s : Nt × Rs) (h : NtB s.1) (hr : Rng s.2.ns) : NtB (ev F rf j s).1 := by
  unfold ev
  split
  · exact rf_B j s h hr
  · exact h
theorem rpx_B {b : List Int} (hr : Rng b) : NtB (rpx b).1 := by
  have R4 : Rng (rp4 b).ns := tr_rng 1 (tr_rng 4 (tr_rng 4 (tr_rng 4 (r := ⟨b, false⟩) hr)))
  unfold rpx rn evs
  have B0 : NtB (kn (nr (rp3 b) 1)) := ⟨zero_ml, rng_nil⟩
  have R1 := ev_rf_rng (fo (nr (rp3 b) 1)) 1 (kn (nr (rp3 b) 1), rp4 b) R4
  have R2 := ev_rf_rng (fo (nr (rp3 b) 1)) 2 _ R1
  have R3 := ev_rf_rng (fo (nr (rp3 b) 1)) 4 _ R2
  have R5 := ev_rf_rng (fo (nr (rp3 b) 1)) 8 _ R3
  exact ev_B _ 16 _ (ev_B _ 8 _ (ev_B _ 4 _ (ev_B _ 2 _ (ev_B _ 1 _ B0 R4) R1) R2) R3) R5
theorem dp_B {b : List Int} (hr : Rng b) : NtB (dp b).n := by
  unfold dp
  split
  · exact rpx_B hr
  · exact zeroN_B
theorem res_pkt_tmp {fn : Func} {p u : Tmp} (h : fn.results = #[.cell p 48, .tmp u]) {tmps : Array Value} {w : World} {k : Nat} {l : Pk} {s : Value} (hp : tmps.getD p undef = .pointer (some ⟨k, 0, none⟩)) (hA : Box w k (pcl l s)) :
    (results fn tmps).run Tryd.prog w = .ok (.tuple #[.agg (PC l s), tmps.getD u undef]) w := by
  have hl := run_loadVar_mid (P := Tryd.prog) w k 0 48 _ _ hA.at_ Tryd.underlying48 rfl Tryd.size48
  have hp' : tmps[p]?.getD undef = .pointer (some ⟨k, 0, none⟩) := by simpa using hp
  simp only [results, h]
  simp [hp', asAddr, hl, PC]
section
attribute [local go_sem] ZP
set_option maxRecDepth 100000 in
set_option maxHeartbeats 4000000 in
theorem decode15 (ao : Option Addr) (n c : Nat) (b : List Int) (w : World) (hT : KT w) (hY : Byt w ao n c b) :
    Calls Tryd.prog 12 #[.slice ao n c] w fun e w' => ∃ sa sm sc, e = .returned (.tuple #[.agg (PC (dp b) (.slice sa sm sc)), .int .i64 (dc b)]) ∧ Byt w' sa sm sc (dp b).n.b ∧ Below w.heap.size w w' := by
  have D0 : Box ((w.alloc (.cells (PC zeroP (.slice none 0 0)) 48)).alloc (.cells #[.slice ao n c, .bool false] 84)) w.heap.size (pcl zeroP (.slice none 0 0)) := (Box.new w (pcl zeroP (.slice none 0 0)) 48).alloc _
  have L0 : Below w.heap.size w ((w.alloc (.cells (PC zeroP (.slice none 0 0)) 48)).alloc (.cells #[.slice ao n c, .bool false] 84)) := by go_grown
  have R0 : RdE (w.heap.size + 1) ⟨b, false⟩ ((w.alloc (.cells (PC zeroP (.slice none 0 0)) 48)).alloc (.cells #[.slice ao n c, .bool false] 84)) := by
    have := Box.new (w.alloc (.cells (PC zeroP (.slice none 0 0)) 48)) [.slice ao n c, .bool false] 84
    rw [World.size_alloc] at this
    exact ⟨ao, n, c, this, hY.on L0, fun b o e hp => by have := hY.lt b o e hp; omega⟩
  have K0 := hT.on L0
  have HR := hide R0
  clear hT hY R0
  go_enter Tryd.func12, Tryd.ntmps12
  go_wp2_with fail
  refine (read39 (w.heap.size + 1) b _ K0 (by omega) HR.out).mono ?_
  rintro e w1 ⟨sa, sm, sc, rfl, Y1, nw, R1, g1⟩
  have D1 := D0.kept (by omega) g1
  have L1 := below_grown L0 g1 (by omega) L0.size
  have K1 := K0.kept (by omega) g1
  have hlt1 := D1.lt
  have hltR := R1.lt
  have NE : Hid (∀ b' o, sa = some ⟨b', o, none⟩ → 0 < sm → w.heap.size + 2 ≤ b') := hide (fun b' o e hp => by have := nw b' o e hp; simpa using this)
  have BX := Box.new w1 (pcl zeroP (.slice none 0 0)) 48
  have g2 := World.grownBy_alloc w1 (.cells (PC zeroP (.slice none 0 0)) 48) none
  have D2 := D1.alloc (.cells (PC zeroP (.slice none 0 0)) 48)
  have Y2 := Y1.alloc (.cells (PC zeroP (.slice none 0 0)) 48)
  have R2 := R1.on (below_alloc w1 (.cells (PC zeroP (.slice none 0 0)) 48))
  have K2 := K1.alloc (.cells (PC zeroP (.slice none 0 0)) 48)
  have L2 := belowOn L1 (below_alloc w1 (.cells (PC zeroP (.slice none 0 0)) 48))
  have hYl := Y1.lt
  clear D0 K0 HR L0 g1 Y1 R1 K1 D1 L1 nw g2
  have tk1 : True := trivial
  go_wp2_with (first | (have _t := tk1; refine wpl_putP (rpp b) (.slice sa sm sc) zeroP (.slice none 0 0) rfl (.tmp 5) (.tmp 8) rfl BX ?_ ?_ ?_ ?_; rfl; rfl; rfl; clear tk1; intro w2 B2 g2))
  replace D2 := D2.kept (by omega) g2
  replace Y2 := Y2.kept (fun b' o e hp => by have := hYl b' o e hp; omega) g2
  replace R2 := R2.kept (by omega) g2
  replace K2 := K2.kept (by omega) g2
  replace L2 := below_grown L2 g2 (by omega) (by simp; omega)
  have hlt2 := B2.lt
  clear g2 BX hYl
  generalize w1.heap.size = P at *
  have HD : dk b = (wh (rpx b).2 && rtp (rpp b)) := rfl
  have Z0 : Box w2 w.heap.size (pcl zeroP (.slice none 0 0)) := D2
  cases hw : wh (rpx b).2
  · have e0 : dk b = false := by rw [HD, hw]; rfl
    have HE := hide (And.intro (show dp b = zeroP by rw [dp, e0]; rfl) (show dc b = 2 by rw [dc, e0]; rfl))
    clear HD e0
    have tk2 : True := trivial
    go_wp2_with (first | (go_at_call 32; refine (whole40 _ _ _ R2).mono ?_; rw [hw]; rintro e w' ⟨rfl, rfl⟩) | (have _t := tk2; refine wpl_putP zeroP (.slice none 0 0) zeroP (.slice none 0 0) rfl (.tmp 2) (.tmp 16) rfl Z0 ?_ ?_ ?_ ?_; rfl; rfl; rfl; clear tk2; intro w3 Z3 g3))
    refine bodyPost_ret (res_pkt_tmp rfl rfl Z3) rfl ⟨none, 0, 0, ?_, ?_, below_grown L2 g3 (Nat.le_refl _) (by omega)⟩
    · rw [HE.out.1, HE.out.2]; rfl
    · rw [HE.out.1]; exact Byt.nothing _
  · cases hr : rtp (rpp b)
    · have e0 : dk b = false := by rw [HD, hr]; simp
      have HE := hide (And.intro (show dp b = zeroP by rw [dp, e0]; rfl) (show dc b = 2 by rw [dc, e0]; rfl))
      clear HD e0
      have tk3 : True := trivial
      go_wp2_with (first | (go_at_call 32; refine (whole40 _ _ _ R2).mono ?_; rw [hw]; rintro e w' ⟨rfl, rfl⟩) | (have _t := tk3; refine wpl_pkt (.tmp 5) rfl B2 ?_ ?_ ?_; rfl; rfl; clear tk3))
      refine (right22 (rpp b) sa sm sc Y2.len _ K2).mono ?_
      rw [hr]
      rintro e w3 ⟨rfl, hb3⟩
      replace Z0 := Z0.on hb3
      replace L2 := belowOn L2 hb3
      have hs3 := hb3.size
      clear hb3 B2 R2 K2 D2 Y2
      have tk2 : True := trivial
      go_wp2_with (have _t := tk2; refine wpl_putP zeroP (.slice none 0 0) zeroP (.slice none 0 0) rfl (.tmp 2) (.tmp 16) rfl Z0 ?_ ?_ ?_ ?_; rfl; rfl; rfl; clear tk2; intro w4 Z3 g3)
      refine bodyPost_ret (res_pkt_tmp rfl rfl Z3) rfl ⟨none, 0, 0, ?_, ?_, below_grown L2 g3 (Nat.le_refl _) (by omega)⟩
      · rw [HE.out.1, HE.out.2]; rfl
      · rw [HE.out.1]; exact Byt.nothing _
    · have e0 : dk b = true := by rw [HD, hw, hr]; rfl
      have HE := hide (And.intro (show dp b = rpp b by rw [dp, e0]; rfl) (show dc b = 0 by rw [dc, e0]; rfl))
      clear HD e0
      have tk3 : True := trivial
      go_wp2_with (first | (go_at_call 32; refine (whole40 _ _ _ R2).mono ?_; rw [hw]; rintro e w' ⟨rfl, rfl⟩) | (have _t := tk3; refine wpl_pkt (.tmp 5) rfl B2 ?_ ?_ ?_; rfl; rfl; clear tk3))
      refine (right22 (rpp b) sa sm sc Y2.len _ K2).mono ?_
      rw [hr]
      rintro e w3 ⟨rfl, hb3⟩
      replace Z0 := Z0.on hb3
      replace L2 := belowOn L2 hb3
      replace B2 := B2.on hb3
      have HY := hide (Y2.on hb3)
      have hs3 := hb3.size
      clear hb3 R2 K2 D2 Y2
      have tk2 : True := trivial
      have tk4 : True := trivial
      go_wp2_with (first | (have _t := tk4; refine wpl_pkt (.tmp 5) rfl B2 ?_ ?_ ?_; rfl; rfl; clear tk4) | (have _t := tk2; refine wpl_putP (rpp b) (.slice sa sm sc) zeroP (.slice none 0 0) rfl (.tmp 2) (.tmp 17) rfl Z0 ?_ ?_ ?_ ?_; rfl; rfl; rfl; clear tk2; intro w4 Z3 g3))
      refine bodyPost_ret (res_pkt_tmp rfl rfl Z3) rfl ⟨sa, sm, sc, ?_, ?_, below_grown L2 g3 (Nat.le_refl _) (by omega)⟩
      · rw [HE.out.1, HE.out.2]; rfl
      · rw [HE.out.1]; exact HY.out.kept (fun b' o e hp => by have := NE.out b' o e hp; omega) g3
end
end Go.Proofs.YtgpdjfaklcmoiaaDoor.Ctl
