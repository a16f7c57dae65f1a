/- Contract: enter of the program's bridge. · Contract: way of the program's bridge. · Contract: Take of the program's bridge. · Contracts: New, Counts, Learned of the program's bridge. · Both bridges side by side: the program's and the document's, each of its own plain state. · A step at both bridges: what each kind starts from and ends with. · A step at both bridges: kind 1. -/
import Derived.Test.YtgpdjfaklcmoiaaGreatM13
import Derived.Test.YtgpdjfaklcmoiaaGreatM14
import Derived.Deep.DeepCutAuto
import Derived.Test.YtgpdjfaklcmoiaaGreatM12
import Derived.Test.YtgpdjfaklcmoiaaGreatM15
/- Contract: enter of the program's bridge. -/
namespace Go.Proofs.YtgpdjfaklcmoiaaGreat
open Go.RowKit Go.PlainAid

/-- The VLAN that enter tells. -/
def evl (B : Br) (p : Int) (f : Fd) (t : Int) : Int := if preW B p f t == 0 || preW B p f t == 5 then inV B.V p f else 0
theorem pre1 {B : Br} {p : Int} {f : Fd} {t : Int} (h : badW B p f t = true) : preW B p f t = 1 := by unfold preW; rw [h]; rfl
theorem pre2 {B : Br} {p : Int} {f : Fd} {t : Int} (h : badW B p f t = false) (h2 : rsv (mD f) = true) : preW B p f t = 2 := by unfold preW; rw [h, h2]; rfl
theorem pre3 {B : Br} {p : Int} {f : Fd} {t : Int} (h : badW B p f t = false) (h2 : rsv (mD f) = false) (h3 : (sta B p == 0) = true) : preW B p f t = 3 := by unfold preW; rw [h, h2, h3]; rfl
theorem pre4 {B : Br} {p : Int} {f : Fd} {t : Int} (h : badW B p f t = false) (h2 : rsv (mD f) = false) (h3 : (sta B p == 0) = false) (h4 : (inE B.V p f != 0) = true) : preW B p f t = 4 := by unfold preW; rw [h, h2, h3, h4]; rfl
theorem pre5 {B : Br} {p : Int} {f : Fd} {t : Int} (h : badW B p f t = false) (h2 : rsv (mD f) = false) (h3 : (sta B p == 0) = false) (h4 : (inE B.V p f != 0) = false) (h5 : grp (mS f) = true) : preW B p f t = 5 := by unfold preW; rw [h, h2, h3, h4, h5]; rfl
theorem pre0 {B : Br} {p : Int} {f : Fd} {t : Int} (h : badW B p f t = false) (h2 : rsv (mD f) = false) (h3 : (sta B p == 0) = false) (h4 : (inE B.V p f != 0) = false) (h5 : grp (mS f) = false) : preW B p f t = 0 := by unfold preW; rw [h, h2, h3, h4, h5]; rfl
theorem evl_no {B : Br} {p : Int} {f : Fd} {t k : Int} (h : preW B p f t = k) (h0 : k ≠ 0) (h5 : k ≠ 5) : evl B p f t = 0 := by
  unfold evl
  rw [h, if_neg (by simp [h0, h5])]
theorem evl_yes {B : Br} {p : Int} {f : Fd} {t : Int} (h : preW B p f t = 0 ∨ preW B p f t = 5) : evl B p f t = inV B.V p f := by
  unfold evl
  rw [if_pos (by rcases h with h | h <;> simp [h])]
set_option maxRecDepth 100000 in
set_option maxHeartbeats 8000000 in
theorem enterQ (A : PAd) (B : Br) (p : Int) (f : Fd) (a : Option Addr) (n c : Nat) (t : Int) (w : World) (H : PB w A B) (hl : f.bs.length = n) (hd : Mok (mD f)) (hs : Mok (mS f)) :
    Calls Tryz.prog 79 #[.pointer (some ⟨A.g, 0, none⟩), .int .i64 p, .agg (FC f (.slice a n c)), .int .i64 t] w fun e w' => e = .returned (.tuple #[.int .i64 (evl B p f t), .int .i64 (preW B p f t)]) ∧ Below w.heap.size w w' := by
  have HB := hide (below_alloc w (.cells (FC f (.slice a n c)) 38))
  have HX := hide (Box.new w (fcl f (.slice a n c)) 38)
  have HR := hide (H.on HB.out)
  have q1 := fun W H => hasPortQ A B p W H
  have q2 := fun W => right34 f a n c hl W
  have HL := hide hl
  have HMD := hide hd
  have HMS := hide hs
  clear H hl hd hs
  rcases Bool.eq_false_or_eq_true (hasP B.n p) with hp | hp
  rotate_left
  · have e1 := pre1 (B := B) (p := p) (f := f) (t := t) (by unfold badW; rw [hp]; simp)
    have E1 := hide e1
    have E2 := hide (evl_no e1 (by decide) (by decide))
    rw [hp] at q1
    clear e1 hp
    go_enter Tryz.func79, Tryz.ntmps79
    go_wp2_with (first | (go_at_call 55; refine (q1 _ HR.out).mono ?_; rintro e w' ⟨rfl, rfl⟩))
    go_ret2
    exact ⟨by rw [E1.out, E2.out]; rfl, HB.out⟩
  rw [hp] at q1
  have hb : badW B p f t = !(rt f && isT t) := by unfold badW; rw [hp, Bool.and_true]
  rcases Bool.eq_false_or_eq_true (rt f) with hr | hr
  rotate_left
  · have e1 := pre1 (B := B) (p := p) (f := f) (t := t) (by rw [hb, hr]; rfl)
    have E1 := hide e1
    have E2 := hide (evl_no e1 (by decide) (by decide))
    rw [hr] at q2
    clear e1 hp hb hr
    have tk1 : True := trivial
    go_enter Tryz.func79, Tryz.ntmps79
    go_wp2_with (first | (go_at_call 55; refine (q1 _ HR.out).mono ?_; rintro e w' ⟨rfl, rfl⟩) | (have _t := tk1; refine wpl_frame (.tmp 6) rfl HX.out ?_ ?_ ?_; rfl; rfl; clear tk1))
    refine (q2 _).mono ?_
    rintro e w1 ⟨rfl, B1⟩
    have HB1 := hide (belowOn HB.out B1)
    clear B1
    go_wp2
    go_ret2
    exact ⟨by rw [E1.out, E2.out]; rfl, HB1.out⟩
  rw [hr] at q2
  rw [hr, Bool.true_and] at hb
  by_cases ht : isT t = true
  rotate_left
  · have e1 := pre1 (B := B) (p := p) (f := f) (t := t) (by rw [hb, Bool.eq_false_iff.2 ht]; rfl)
    have E1 := hide e1
    have E2 := hide (evl_no e1 (by decide) (by decide))
    have h3 : t < 0 ∨ (¬ t < 0 ∧ 1099511627776 < t) := by
      have : ¬ (0 ≤ t ∧ t ≤ 1099511627776) := fun h => ht (isT_iff.2 h)
      omega
    clear e1 hp hb hr ht
    rcases h3 with h3 | ⟨h3, h4⟩
    all_goals
      have tk1 : True := trivial
      go_enter Tryz.func79, Tryz.ntmps79
      go_wp2_with (first | (go_at_call 55; refine (q1 _ HR.out).mono ?_; rintro e w' ⟨rfl, rfl⟩) | (have _t := tk1; refine wpl_frame (.tmp 6) rfl HX.out ?_ ?_ ?_; rfl; rfl; clear tk1))
      refine (q2 _).mono ?_
      rintro e w1 ⟨rfl, B1⟩
      have HB1 := hide (belowOn HB.out B1)
      clear B1
      go_wp2
      go_ret2
      exact ⟨by rw [E1.out, E2.out]; rfl, HB1.out⟩
  rw [ht] at hb
  have HBD : Hid (badW B p f t = false) := hide hb
  have t0 : ¬ t < 0 := by have := isT_iff.1 ht; omega
  have t1 : ¬ 1099511627776 < t := by have := isT_iff.1 ht; omega
  clear hp hb hr ht
  have tk1 : True := trivial
  go_enter Tryz.func79, Tryz.ntmps79
  go_wp2_with (first | (go_at_call 55; refine (q1 _ HR.out).mono ?_; rintro e w' ⟨rfl, rfl⟩) | (have _t := tk1; refine wpl_frame (.tmp 6) rfl HX.out ?_ ?_ ?_; rfl; rfl; clear tk1))
  refine (q2 _).mono ?_
  rintro e z1 ⟨rfl, bb⟩
  replace HR := hide (HR.out.on bb)
  replace HX := hide (HX.out.on bb)
  replace HB := hide (belowOn HB.out bb)
  clear bb q1 q2
  have tk2 : True := trivial
  go_wp2_with (first | (have _t := tk2; refine wpl_mac (.tmp 31) rfl (fcl_dst HX.out) ?_ ?_ ?_; rfl; rfl; clear tk2))
  clear t0 t1
  refine (reservedQ (mD f) _ HMD.out).mono ?_
  rintro e z3 ⟨rfl, bb⟩
  replace HR := hide (HR.out.on bb)
  replace HX := hide (HX.out.on bb)
  replace HB := hide (belowOn HB.out bb)
  clear bb
  rcases Bool.eq_false_or_eq_true (rsv (mD f)) with h2 | h2
  · have e1 := pre2 HBD.out h2
    have E1 := hide e1
    have E2 := hide (evl_no e1 (by decide) (by decide))
    rw [h2]
    clear h2 e1
    go_wp2
    go_ret2
    exact ⟨by rw [E1.out, E2.out]; rfl, HB.out⟩
  rw [h2]
  have H2 := hide h2
  clear h2
  have hst := fun W H => stateQ A B p W H
  rcases Bool.eq_false_or_eq_true (sta B p == 0) with h3 | h3
  · have e1 := pre3 HBD.out H2.out h3
    have E1 := hide e1
    have E2 := hide (evl_no e1 (by decide) (by decide))
    clear e1
    go_wp2_with (first | (go_at_call 22; refine (hst _ HR.out).mono ?_; rintro e w' ⟨rfl, rfl⟩))
    go_ret2
    exact ⟨by rw [E1.out, E2.out]; rfl, HB.out⟩
  have H3 := hide h3
  go_wp2_with (first | (go_at_call 22; refine (hst _ HR.out).mono ?_; rintro e w' ⟨rfl, hw⟩; obtain rfl : z3 = w' := hw.symm))
  clear h3 hst
  have bb := below_drew z3
  refine wp_region_held_drew (S := fun w' => w'.cell? ⟨A.g, 0, none⟩ = some (.pointer (some ⟨A.h + 2, 0, none⟩)) ∧ Box w' w.heap.size (fcl f (.slice a n c))) (by kernel_rfl) ⟨HR.out.bx.cell 0 _ rfl, HX.out.drew⟩ (fun hHeld => ?_)
  replace HR := hide (HR.out.on bb)
  replace HX := hide (HX.out.on bb)
  replace HB := hide (belowOn HB.out bb)
  clear bb
  generalize z3.drew = u0 at *
  refine wpAnyH_take (i := 0) (v := .pointer (some ⟨A.g, 0, none⟩)) rfl (by kernel_rfl) (by kernel_rfl) (by kernel_rfl) (fun _ _ _ h => h) (Or.inl ⟨by rfl, ?_⟩) hHeld ?_
  · intro W hW; (try dsimp only at hW); go_simp
  change wpAnyH _ _ _ _ _ _ _ ⟨#[.pointer (some ⟨A.g, 0, none⟩),.int .i64 p,_,.int .i64 t,_,_,.pointer (some ⟨w.heap.size, 0, none⟩),_,_,_,_,_,_,_,_,_,_,_,_,_,_,_,_,_,_,_,_,_,_,_,_,_,_,_,_,_,_,_,_,_,.pointer (some ⟨A.g, 0, none⟩),_,_,_,_,_,_,_,_,_,_,_,_,_,_,_,_,_], []⟩ _
  refine wpAnyH_take (i := 1) (v := .pointer (some ⟨A.g, 0, none⟩)) rfl (by kernel_rfl) (by kernel_rfl) (by kernel_rfl) (fun _ _ _ h => h) (Or.inl ⟨by rfl, ?_⟩) hHeld ?_
  · intro W hW; (try dsimp only at hW); go_simp
  change wpAnyH _ _ _ _ _ _ _ ⟨#[.pointer (some ⟨A.g, 0, none⟩),.int .i64 p,_,.int .i64 t,_,_,.pointer (some ⟨w.heap.size, 0, none⟩),_,_,_,_,_,_,_,_,_,_,_,_,_,_,_,_,_,_,_,_,_,_,_,_,_,_,_,_,_,_,_,_,_,.pointer (some ⟨A.g, 0, none⟩),.pointer (some ⟨A.g, 0, none⟩),_,_,_,_,_,_,_,_,_,_,_,_,_,_,_,_], []⟩ _
  refine wpAnyH_take (i := 2) (v := .pointer (some ⟨A.g, 0, none⟩)) rfl (by kernel_rfl) (by kernel_rfl) (by kernel_rfl) (fun _ _ _ h => h) (Or.inl ⟨by rfl, ?_⟩) hHeld ?_
  · intro W hW; (try dsimp only at hW); go_simp
  change wpAnyH _ _ _ _ _ _ _ ⟨#[.pointer (some ⟨A.g, 0, none⟩),.int .i64 p,_,.int .i64 t,_,_,.pointer (some ⟨w.heap.size, 0, none⟩),_,_,_,_,_,_,_,_,_,_,_,_,_,_,_,_,_,_,_,_,_,_,_,_,_,_,_,_,_,_,_,_,_,.pointer (some ⟨A.g, 0, none⟩),.pointer (some ⟨A.g, 0, none⟩),.pointer (some ⟨A.g, 0, none⟩),_,_,_,_,_,_,_,_,_,_,_,_,_,_,_], []⟩ _
  refine wpAnyH_take (i := 3) (v := .pointer (some ⟨A.h + 2, 0, none⟩)) rfl (by kernel_rfl) (by kernel_rfl) (by kernel_rfl) (fun _ _ _ h => h) (Or.inl ⟨by rfl, ?_⟩) hHeld ?_
  · intro W hW; (try dsimp only at hW); have hc := hW.1; clear hW; go_simp
  change wpAnyH _ _ _ _ _ _ _ ⟨#[.pointer (some ⟨A.g, 0, none⟩),.int .i64 p,_,.int .i64 t,_,_,.pointer (some ⟨w.heap.size, 0, none⟩),_,_,_,_,_,_,_,_,_,_,_,_,_,_,_,_,_,_,_,_,_,_,_,_,_,_,_,_,_,_,_,_,_,.pointer (some ⟨A.g, 0, none⟩),.pointer (some ⟨A.g, 0, none⟩),.pointer (some ⟨A.g, 0, none⟩),.pointer (some ⟨A.h + 2, 0, none⟩),_,_,_,_,_,_,_,_,_,_,_,_,_,_], []⟩ _
  refine wpAnyH_take (i := 4) (v := .int .i64 p) rfl (by kernel_rfl) (by kernel_rfl) (by kernel_rfl) (fun _ _ _ h => h) (Or.inl ⟨by rfl, ?_⟩) hHeld ?_
  · intro W hW; (try dsimp only at hW); go_simp
  change wpAnyH _ _ _ _ _ _ _ ⟨#[.pointer (some ⟨A.g, 0, none⟩),.int .i64 p,_,.int .i64 t,_,_,.pointer (some ⟨w.heap.size, 0, none⟩),_,_,_,_,_,_,_,_,_,_,_,_,_,_,_,_,_,_,_,_,_,_,_,_,_,_,_,_,_,_,_,_,_,.pointer (some ⟨A.g, 0, none⟩),.pointer (some ⟨A.g, 0, none⟩),.pointer (some ⟨A.g, 0, none⟩),.pointer (some ⟨A.h + 2, 0, none⟩),.int .i64 p,_,_,_,_,_,_,_,_,_,_,_,_,_], []⟩ _
  refine wpAnyH_take (i := 5) (v := .agg (FC f (.slice a n c))) rfl (by kernel_rfl) (by kernel_rfl) (by kernel_rfl) (fun _ _ _ h => h) (yieldsIf_load_mid (by rfl) 38 (.tmp 6) rfl w.heap.size 0 rfl (fcl f (.slice a n c)) _ (fun W hW => hW.2.at_) Tryz.underlying38 rfl Tryz.size38) hHeld ?_
  change wpAnyH _ _ _ _ _ _ _ ⟨#[.pointer (some ⟨A.g, 0, none⟩),.int .i64 p,_,.int .i64 t,_,_,.pointer (some ⟨w.heap.size, 0, none⟩),_,_,_,_,_,_,_,_,_,_,_,_,_,_,_,_,_,_,_,_,_,_,_,_,_,_,_,_,_,_,_,_,_,.pointer (some ⟨A.g, 0, none⟩),.pointer (some ⟨A.g, 0, none⟩),.pointer (some ⟨A.g, 0, none⟩),.pointer (some ⟨A.h + 2, 0, none⟩),.int .i64 p,.agg (FC f (.slice a n c)),_,_,_,_,_,_,_,_,_,_,_,_], []⟩ _
  refine wpAnyH_ready (rs := [6]) (by kernel_rfl) (by simp) ?_
  refine AllReadyH.cons rfl (fun K hK => ?_) AllReadyH.nil
  go_simp
  refine (in17 A.h B.V p f a n c HL.out _ HR.out.pv).mono ?_
  rintro e z4 ⟨rfl, bb⟩
  refine hK.out _ _ ⟨(HR.out.on bb).bx.cell 0 _ rfl, HX.out.on bb⟩ (fun hHeld => ?_)
  clear hK K
  replace HR := hide (HR.out.on bb)
  replace HX := hide (HX.out.on bb)
  replace HB := hide (belowOn HB.out bb)
  clear bb
  change wpAnyH _ _ _ _ _ _ _ ⟨#[.pointer (some ⟨A.g, 0, none⟩),.int .i64 p,_,.int .i64 t,_,_,.pointer (some ⟨w.heap.size, 0, none⟩),_,_,_,_,_,_,_,_,_,_,_,_,_,_,_,_,_,_,_,_,_,_,_,_,_,_,_,_,_,_,_,_,_,.pointer (some ⟨A.g, 0, none⟩),.pointer (some ⟨A.g, 0, none⟩),.pointer (some ⟨A.g, 0, none⟩),.pointer (some ⟨A.h + 2, 0, none⟩),.int .i64 p,.agg (FC f (.slice a n c)),.tuple #[.int .i64 (inV B.V p f), .int .i64 (inE B.V p f)],_,_,_,_,_,_,_,_,_,_,_], []⟩ _
  refine wpAnyH_take (i := 7) (v := .tuple #[.int .i64 (inV B.V p f), .int .i64 (inE B.V p f)]) rfl (by kernel_rfl) (by kernel_rfl) (by kernel_rfl) (fun _ _ _ h => h) (Or.inl ⟨by rfl, ?_⟩) hHeld ?_
  · intro W hW; (try dsimp only at hW); go_simp
  change wpAnyH _ _ _ _ _ _ _ ⟨#[.pointer (some ⟨A.g, 0, none⟩),.int .i64 p,_,.int .i64 t,_,_,.pointer (some ⟨w.heap.size, 0, none⟩),_,_,_,_,_,_,_,_,_,_,_,_,_,_,_,_,_,_,_,_,_,_,_,_,_,_,_,_,_,_,_,_,.tuple #[.int .i64 (inV B.V p f), .int .i64 (inE B.V p f)],.pointer (some ⟨A.g, 0, none⟩),.pointer (some ⟨A.g, 0, none⟩),.pointer (some ⟨A.g, 0, none⟩),.pointer (some ⟨A.h + 2, 0, none⟩),.int .i64 p,.agg (FC f (.slice a n c)),.tuple #[.int .i64 (inV B.V p f), .int .i64 (inE B.V p f)],_,_,_,_,_,_,_,_,_,_,_], []⟩ _
  refine wpAnyH_take (i := 8) (v := .int .i64 (inV B.V p f)) rfl (by kernel_rfl) (by kernel_rfl) (by kernel_rfl) (fun _ _ _ h => h) (Or.inl ⟨by rfl, ?_⟩) hHeld ?_
  · intro W hW; (try dsimp only at hW); go_simp
  change wpAnyH _ _ _ _ _ _ _ ⟨#[.pointer (some ⟨A.g, 0, none⟩),.int .i64 p,_,.int .i64 t,_,_,.pointer (some ⟨w.heap.size, 0, none⟩),_,_,_,_,_,_,_,_,_,_,_,_,_,_,_,_,_,_,_,_,_,_,_,_,_,_,_,_,_,_,_,_,.tuple #[.int .i64 (inV B.V p f), .int .i64 (inE B.V p f)],.pointer (some ⟨A.g, 0, none⟩),.pointer (some ⟨A.g, 0, none⟩),.pointer (some ⟨A.g, 0, none⟩),.pointer (some ⟨A.h + 2, 0, none⟩),.int .i64 p,.agg (FC f (.slice a n c)),.tuple #[.int .i64 (inV B.V p f), .int .i64 (inE B.V p f)],.int .i64 (inV B.V p f),_,_,_,_,_,_,_,_,_,_], []⟩ _
  refine wpAnyH_take (i := 9) (v := .int .i64 (inE B.V p f)) rfl (by kernel_rfl) (by kernel_rfl) (by kernel_rfl) (fun _ _ _ h => h) (Or.inl ⟨by rfl, ?_⟩) hHeld ?_
  · intro W hW; (try dsimp only at hW); go_simp
  change wpAnyH _ _ _ _ _ _ _ ⟨#[.pointer (some ⟨A.g, 0, none⟩),.int .i64 p,_,.int .i64 t,_,_,.pointer (some ⟨w.heap.size, 0, none⟩),_,_,_,_,_,_,_,_,_,_,_,_,_,_,_,_,_,_,_,_,_,_,_,_,_,_,_,_,_,_,_,_,.tuple #[.int .i64 (inV B.V p f), .int .i64 (inE B.V p f)],.pointer (some ⟨A.g, 0, none⟩),.pointer (some ⟨A.g, 0, none⟩),.pointer (some ⟨A.g, 0, none⟩),.pointer (some ⟨A.h + 2, 0, none⟩),.int .i64 p,.agg (FC f (.slice a n c)),.tuple #[.int .i64 (inV B.V p f), .int .i64 (inE B.V p f)],.int .i64 (inV B.V p f),.int .i64 (inE B.V p f),_,_,_,_,_,_,_,_,_], []⟩ _
  refine wpAnyH_take (i := 10) (v := .int .i64 (inV B.V p f)) rfl (by kernel_rfl) (by kernel_rfl) (by kernel_rfl) (fun _ _ _ h => h) (Or.inl ⟨by rfl, ?_⟩) hHeld ?_
  · intro W hW; (try dsimp only at hW); go_simp
  change wpAnyH _ _ _ _ _ _ _ ⟨#[.pointer (some ⟨A.g, 0, none⟩),.int .i64 p,_,.int .i64 t,_,_,.pointer (some ⟨w.heap.size, 0, none⟩),_,_,_,.int .i64 (inV B.V p f),_,_,_,_,_,_,_,_,_,_,_,_,_,_,_,_,_,_,_,_,_,_,_,_,_,_,_,_,.tuple #[.int .i64 (inV B.V p f), .int .i64 (inE B.V p f)],.pointer (some ⟨A.g, 0, none⟩),.pointer (some ⟨A.g, 0, none⟩),.pointer (some ⟨A.g, 0, none⟩),.pointer (some ⟨A.h + 2, 0, none⟩),.int .i64 p,.agg (FC f (.slice a n c)),.tuple #[.int .i64 (inV B.V p f), .int .i64 (inE B.V p f)],.int .i64 (inV B.V p f),.int .i64 (inE B.V p f),_,_,_,_,_,_,_,_,_], []⟩ _
  refine wpAnyH_take (i := 11) (v := .int .i64 (inE B.V p f)) rfl (by kernel_rfl) (by kernel_rfl) (by kernel_rfl) (fun _ _ _ h => h) (Or.inl ⟨by rfl, ?_⟩) hHeld ?_
  · intro W hW; (try dsimp only at hW); go_simp
  change wpAnyH _ _ _ _ _ _ _ ⟨#[.pointer (some ⟨A.g, 0, none⟩),.int .i64 p,_,.int .i64 t,_,_,.pointer (some ⟨w.heap.size, 0, none⟩),_,_,_,.int .i64 (inV B.V p f),.int .i64 (inE B.V p f),_,_,_,_,_,_,_,_,_,_,_,_,_,_,_,_,_,_,_,_,_,_,_,_,_,_,_,.tuple #[.int .i64 (inV B.V p f), .int .i64 (inE B.V p f)],.pointer (some ⟨A.g, 0, none⟩),.pointer (some ⟨A.g, 0, none⟩),.pointer (some ⟨A.g, 0, none⟩),.pointer (some ⟨A.h + 2, 0, none⟩),.int .i64 p,.agg (FC f (.slice a n c)),.tuple #[.int .i64 (inV B.V p f), .int .i64 (inE B.V p f)],.int .i64 (inV B.V p f),.int .i64 (inE B.V p f),_,_,_,_,_,_,_,_,_], []⟩ _
  refine wpAnyH_done (by kernel_rfl) ?_ _
  clear hHeld
  rcases Bool.eq_false_or_eq_true (inE B.V p f != 0) with h4 | h4
  · have e1 := pre4 HBD.out H2.out H3.out h4
    have E1 := hide e1
    have E2 := hide (evl_no e1 (by decide) (by decide))
    clear e1
    go_wp2
    go_ret2
    exact ⟨by rw [E1.out, E2.out]; rfl, HB.out⟩
  have H4 := hide h4
  have tk3 : True := trivial
  go_wp2_with (first | (have _t := tk3; refine wpl_mac (.tmp 53) rfl (fcl_src HX.out) ?_ ?_ ?_; rfl; rfl; clear tk3))
  clear h4
  refine (group53 (mS f) _ HMS.out).mono ?_
  rintro e z5 ⟨rfl, bb⟩
  replace HB := hide (belowOn HB.out bb)
  clear bb HX HR
  rcases Bool.eq_false_or_eq_true (grp (mS f)) with h5 | h5
  · have e1 := pre5 HBD.out H2.out H3.out H4.out h5
    have E1 := hide e1
    have E2 := hide (evl_yes (Or.inr e1))
    rw [h5]
    clear e1 h5
    go_wp2
    go_ret2
    exact ⟨by rw [E1.out, E2.out]; rfl, HB.out⟩
  · have e1 := pre0 HBD.out H2.out H3.out H4.out h5
    have E1 := hide e1
    have E2 := hide (evl_yes (Or.inl e1))
    rw [h5]
    clear e1 h5
    go_wp2
    go_ret2
    exact ⟨by rw [E1.out, E2.out]; rfl, HB.out⟩
end Go.Proofs.YtgpdjfaklcmoiaaGreat
/- Contract: way of the program's bridge. -/
namespace Go.Proofs.YtgpdjfaklcmoiaaGreat
open Go.RowKit Go.PlainAid

theorem fw_grp {T : FT} (H : FW T) {v : Int} {m : Mc} (h : fhs T.l v m = true) : grp m = false ∧ 0 ≤ (lk T.l v m).p := by
  have h1 := (H.gd _ (lk_mem h)).r
  have h2 := lk_ky _ _ _ h
  have h3 := (ky_iff _ _ _).1 h2
  have h4 := rgt_v h1
  rw [h3.2] at h4
  exact ⟨h4.2.2.2.2, h4.2.2.1⟩
/-- What goes out of a frame that is not at its port already. -/
theorem outW_q {B : Br} (H : Bw B) {v p : Int} {f : Fd} (hb : (fhs B.F.l v (mD f) && (lk B.F.l v (mD f)).p == p) = false) {l : List Ot} (hl : l = ols B v f (fun q => !fhs B.F.l v (mD f) || q == (lk B.F.l v (mD f)).p) (sel B p (mbs B.V.l v B.V.n))) :
    outW B v p f = if l.isEmpty then ⟨8, v, (lk B.F.l v (mD f)).p, []⟩ else ⟨0, v, (lk B.F.l v (mD f)).p, l⟩ := by
  rw [H.vn] at hl
  rcases Bool.eq_false_or_eq_true (fhs B.F.l v (mD f)) with h | h
  · obtain ⟨g, hp⟩ := fw_grp H.fw h
    rw [h, Bool.true_and] at hb
    rw [h] at hl
    by_cases hpos : 0 < (lk B.F.l v (mD f)).p
    · rw [outW_c2 h g rfl hb hpos]
      rw [ols_rly H v p (lk B.F.l v (mD f)).p f _ (fun q _ _ => by
        have : ((lk B.F.l v (mD f)).p == 0) = false := beq_eq_false_iff_ne.mpr (by omega)
        rw [this]; rfl) B.n (Nat.le_refl _)] at hl
      rw [hl]
    · rw [outW_c3 h g rfl hb hpos]
      rw [ols_none v p f _ (fun q hq => by
        have h0 : (lk B.F.l v (mD f)).p = 0 := by omega
        rw [h0]
        have : q ≠ 0 := fun e => by rw [e, sta_zero] at hq; cases hq
        simpa using this)] at hl
      rw [hl]
      rfl
  · rw [outW_a h, lk_no _ _ _ h]
    rw [h] at hl
    rw [ols_rly H v p 0 f (fun q => !false || q == (lk B.F.l v (mD f)).p) (fun _ _ _ => rfl) B.n (Nat.le_refl _)] at hl
    rw [hl]
    rfl
theorem outW_b7 {B : Br} (H : Bw B) {v p : Int} {f : Fd} (hb : (fhs B.F.l v (mD f) && (lk B.F.l v (mD f)).p == p) = true) : outW B v p f = ⟨7, v, 0, []⟩ := by
  rw [Bool.and_eq_true] at hb
  exact outW_c1 hb.1 (fw_grp H.fw hb.1).1 hb.2
theorem PB.grown {w z : World} {A : PAd} {B : Br} {k : Nat} (H : PB w A B) (g : w.grownBy z (some k)) (hk : A.hi ≤ k) : PB z A B :=
  H.keep (fun i _ h2 => g.block i (by have := H.lt; omega) (fun e => by have := Option.some.inj e; omega))
/-- What a way is answered with. -/
def WyQ (A : PAd) (W : Wy) (B' : Br) (w : World) (e : Ending) (w' : World) : Prop :=
  ∃ ao xs cc, e = .returned (.agg #[.int .i64 W.c, .int .i64 W.v, .int .i64 W.t, .slice ao xs.length cc]) ∧ Ots w' ao xs.length cc xs ∧ xs.map Ow.o = W.o ∧ PB w' A B' ∧ Mid A.lo A.hi w w' ∧ OwnO w ao xs
theorem OwnO.nil (w : World) : OwnO w none [] := ⟨fun b o e => (by cases e), fun x hx => (by cases hx)⟩
theorem wayP_no {B : Br} {p : Int} {f : Fd} {t : Int} (h : preW B p f t ≠ 0) : wayP B p f t = (⟨preW B p f t, evl B p f t, 0, []⟩, B) := by
  have e : (preW B p f t == 0) = false := beq_eq_false_iff_ne.mpr h
  unfold wayP evl
  rw [e]
  rfl
theorem wayP_yes {B : Br} {p : Int} {f : Fd} {t : Int} (h : preW B p f t = 0) : wayP B p f t = (if sta B p == 1 then (⟨6, inV B.V p f, 0, []⟩, lrn B (inV B.V p f) (mS f) p t) else (outW (lrn B (inV B.V p f) (mS f) p t) (inV B.V p f) p f, lrn B (inV B.V p f) (mS f) p t)) := by
  unfold wayP
  rw [h]
  rfl
theorem i64_inV {T : Tb} (H : Wf T) {p : Int} {f : Fd} : I64 (inV T p f) := by
  unfold inV
  split
  · split
    · rename_i h
      have := (isV_iff _).1 (H.has h).1
      exact ⟨by omega, by omega⟩
    · exact ⟨by decide, by decide⟩
  · exact ⟨by decide, by decide⟩
section
attribute [local go_sem] ZE
set_option maxRecDepth 100000 in
set_option maxHeartbeats 16000000 in
theorem wayQ (A : PAd) (B : Br) (p : Int) (f : Fd) (a : Option Addr) (n c : Nat) (t : Int) (w : World) (H : PB w A B) (hY : Byt w a n c f.bs) (hd : Mok (mD f)) (hs : Mok (mS f)) (hls : ∀ x ∈ B.ln, x + 1 < 1000000) (hya : ∀ b o, a = some ⟨b, o, none⟩ → 0 < n → b < A.lo ∨ A.hi ≤ b) :
    Calls Tryz.prog 53 #[.pointer (some ⟨A.g, 0, none⟩), .int .i64 p, .agg (FC f (.slice a n c)), .int .i64 t] w (WyQ A (wayP B p f t).1 (wayP B p f t).2 w) := by
  have b0 := below_alloc w (.cells (FC f (.slice a n c)) 38)
  have b1 := below_alloc (w.alloc (.cells (FC f (.slice a n c)) 38)) (.cells (wcl 0 0 0 (.slice none 0 0)).toArray 50)
  have X0 : Box ((w.alloc (.cells (FC f (.slice a n c)) 38)).alloc (.cells (wcl 0 0 0 (.slice none 0 0)).toArray 50)) w.heap.size (fcl f (.slice a n c)) := (Box.new w (fcl f (.slice a n c)) 38).alloc (.cells (wcl 0 0 0 (.slice none 0 0)).toArray 50)
  have K0 := Box.new (w.alloc (.cells (FC f (.slice a n c)) 38)) (wcl 0 0 0 (.slice none 0 0)) 50
  have hsz := World.size_alloc w (.cells (FC f (.slice a n c)) 38)
  rw [hsz] at K0
  have HB := hide (belowOn b0 b1)
  have HX := hide X0
  have K1 : Box ((w.alloc (.cells (FC f (.slice a n c)) 38)).alloc (.cells (wcl 0 0 0 (.slice none 0 0)).toArray 50)) (w.heap.size + 1) (wcl 0 0 0 (.slice none 0 0)) := K0
  have HK := hide K1
  have HR := hide (H.on HB.out)
  have HY := hide (hY.on HB.out)
  have HC : Hid (Mid A.lo A.hi w ((w.alloc (.cells (FC f (.slice a n c)) 38)).alloc (.cells (wcl 0 0 0 (.slice none 0 0)).toArray 50))) := hide (Mid.on (Mid.refl _ _ _) HB.out)
  have HKW : Hid (A.hi ≤ w.heap.size) := hide H.lt.2.2.2.2
  have HLN := hide hY.len
  have HYL := hide hY.lt
  have HYA : Hid (∀ b o, a = some ⟨b, o, none⟩ → 0 < n → b < A.lo ∨ A.hi ≤ b) := hide hya
  have HMD := hide hd
  have HMS := hide hs
  have HLS := hide hls
  have HWF := hide H.wf
  have hV := i64_inV (p := p) (f := f) H.wf.vw
  have HVI := hide hV
  clear b0 b1 X0 K0 K1 hsz hY HB H hd hs hls hV hya
  have tk1 : True := trivial
  go_enter Tryz.func53, Tryz.ntmps53
  have hz : ((w.alloc (.cells (FC f (.slice a n c)) 38)).alloc (.cells #[.int .i64 0, .int .i64 0, .int .i64 0, .slice none 0 0] 50)) = ((w.alloc (.cells (FC f (.slice a n c)) 38)).alloc (.cells (wcl 0 0 0 (.slice none 0 0)).toArray 50)) := rfl
  go_wp2_with (first | (have _t := tk1; refine wpl_frame (.tmp 6) rfl HX.out ?_ ?_ ?_; rfl; rfl; clear tk1))
  generalize ((w.alloc (.cells (FC f (.slice a n c)) 38)).alloc (.cells (wcl 0 0 0 (.slice none 0 0)).toArray 50)) = z0 at *
  clear hz
  refine (enterQ A B p f a n c t _ HR.out HLN.out HMD.out HMS.out).mono ?_
  rintro e z1 ⟨rfl, bb⟩
  replace HR := hide (HR.out.on bb)
  replace HX := hide (HX.out.on bb)
  replace HK := hide (HK.out.on bb)
  replace HY := hide (HY.out.on bb)
  replace HC := hide (Mid.on HC.out bb)
  clear bb
  by_cases hpre : preW B p f t = 0
  rotate_left
  · have hW := hide (wayP_no hpre)
    have hne : (preW B p f t != 0) = true := by simp [hpre]
    generalize preW B p f t = P0 at *
    generalize evl B p f t = V0 at *
    have tkE : True := trivial
    go_wp2_with (first | (have _t := tkE; refine wpl_putW P0 V0 0 none 0 0 _ (.tmp 8) (.tmp 26) rfl HK.out rfl ?_ ?_ ?_ ?_; rfl; rfl; rfl; clear tkE; intro z9 K9 G9; have HK9 := hide K9; have HG9 := hide G9; clear K9 G9) | (refine bodyPost_ret (res_way rfl rfl HK9.out) rfl ?_; rw [hW.out]; exact ⟨none, [], 0, rfl, Ots.nothing _, rfl, HR.out.grown HG9.out (Nat.le_succ_of_le HKW.out), HC.out.grown HG9.out (Or.inl (Nat.le_succ _)), OwnO.nil w⟩))
  have hW := hide (wayP_yes hpre)
  rw [hpre, evl_yes (Or.inl hpre)]
  clear hpre
  have tk4 : True := trivial
  go_wp2_with (first | (have _t := tk4; refine wpl_mac (.tmp 29) rfl (fcl_src HX.out) ?_ ?_ ?_; rfl; rfl; clear tk4))
  refine (learnQ A B (inV B.V p f) (mS f) p t _ HMS.out HR.out HLS.out).mono ?_
  rintro e z6 ⟨rfl, R1, C1⟩
  replace HX := hide (HX.out.block (C1.block _ HX.out.lt (Or.inr HKW.out)))
  replace HK := hide (HK.out.block (C1.block _ HK.out.lt (Or.inr (Nat.le_succ_of_le HKW.out))))
  replace HY := hide (byt_keep HY.out (fun b o _ e hp hc => C1.block b (World.block_lt_of_cell? _ _ hc) (HYA.out b o e hp)))
  replace HC := hide (HC.out.trans C1)
  replace HR := hide R1
  clear R1 C1
  obtain ⟨B1, hB1⟩ : ∃ B1, B1 = lrn B (inV B.V p f) (mS f) p t := ⟨_, rfl⟩
  have hst1 : sta B1 p = sta B p := by rw [hB1]; rfl
  rw [← hB1] at HR hW
  clear hB1
  have hst := fun W H => stateQ A B1 p W H
  rw [hst1] at hst
  generalize inV B.V p f = v at *
  rcases Bool.eq_false_or_eq_true (sta B p == 1) with h6 | h6
  · rw [h6, if_pos rfl] at hW
    have tkE : True := trivial
    go_wp2_with (first | (go_at_call 22; refine (hst _ HR.out).mono ?_; rintro e w' ⟨rfl, hw⟩; obtain rfl : z6 = w' := hw.symm) | (have _t := tkE; refine wpl_putW 6 v 0 none 0 0 _ (.tmp 8) (.tmp 39) rfl HK.out rfl ?_ ?_ ?_ ?_; rfl; rfl; rfl; clear tkE; intro z9 K9 G9; have HK9 := hide K9; have HG9 := hide G9; clear K9 G9) | (refine bodyPost_ret (res_way rfl rfl HK9.out) rfl ?_; rw [hW.out]; exact ⟨none, [], 0, rfl, Ots.nothing _, rfl, HR.out.grown HG9.out (Nat.le_succ_of_le HKW.out), HC.out.grown HG9.out (Or.inl (Nat.le_succ _)), OwnO.nil w⟩))
  rw [h6, if_neg (by simp)] at hW
  have HZ6 : Hid (w.heap.size + 1 < z6.heap.size) := hide HK.out.lt
  have SS : Hid (∀ z : World, Below z6.heap.size z6 z → (z.cell? ⟨A.g, 1, none⟩ = some (.pointer (some ⟨A.hf + 1, 0, none⟩)) ∧ Box z w.heap.size (fcl f (.slice a n c))) ∧ PB z A B1) := hide (fun z b => ⟨⟨(HR.out.on b).bx.cell 1 _ rfl, HX.out.on b⟩, HR.out.on b⟩)
  have BW : Hid (Below z6.heap.size z6 z6.drew) := hide (below_drew z6)
  obtain ⟨x, hx⟩ : ∃ x, x = lk B1.F.l v (mD f) := ⟨_, rfl⟩
  obtain ⟨is, his⟩ : ∃ is, is = fhs B1.F.l v (mD f) := ⟨_, rfl⟩
  have HXX := hide hx
  have HIS := hide his
  clear hx his
  go_upto_region 7 with (first | (go_at_call 22; refine (hst _ HR.out).mono ?_; rintro e w' ⟨rfl, hw⟩; obtain rfl : z6 = w' := hw.symm))
  clear hst h6
  go_cut [11, 12] from 13 (fun s11 s12 w' => Below z6.heap.size z6 w' ∧ ∃ k11 k12, s11 = .pointer (some ⟨k11, 0, none⟩) ∧ s12 = .pointer (some ⟨k12, 0, none⟩) ∧ Box w' k11 (ecl x) ∧ Box w' k12 [.bool is])
  case first =>
    go_wp2_with fail
    refine wp_region_held_drew (S := fun w' => w'.cell? ⟨A.g, 1, none⟩ = some (.pointer (some ⟨A.hf + 1, 0, none⟩)) ∧ Box w' w.heap.size (fcl f (.slice a n c))) (by kernel_rfl) (SS.out _ BW.out).1 (fun hHeld => ?_)
    generalize z6.drew = y0 at *
    refine wpAnyH_take (i := 0) (v := .pointer (some ⟨A.g, 0, none⟩)) rfl (by kernel_rfl) (by kernel_rfl) (by kernel_rfl) (fun _ _ _ h => h) (Or.inl ⟨by rfl, ?_⟩) hHeld ?_
    · intro W hW; (try dsimp only at hW); go_simp
    change wpAnyH _ _ _ _ _ _ _ ⟨#[.pointer (some ⟨A.g, 0, none⟩),.int .i64 p,_,.int .i64 t,_,_,.pointer (some ⟨w.heap.size, 0, none⟩),_,.pointer (some ⟨w.heap.size + 1, 0, none⟩),.int .i64 v,_,_,_,_,_,_,_,_,_,_,_,_,_,_,_,_,_,_,_,_,_,_,_,_,_,_,_,_,_,_,_,.pointer (some ⟨A.g, 0, none⟩),_,_,_,_,_,_,_,_,_,_,_,_,_,_,_,_,_,_,_,_,_,_,_,_,_,_,_,_,_,_,_,_,_,_,_], []⟩ _
    refine wpAnyH_take (i := 1) (v := .pointer (some ⟨A.g, 0, none⟩)) rfl (by kernel_rfl) (by kernel_rfl) (by kernel_rfl) (fun _ _ _ h => h) (Or.inl ⟨by rfl, ?_⟩) hHeld ?_
    · intro W hW; (try dsimp only at hW); go_simp
    change wpAnyH _ _ _ _ _ _ _ ⟨#[.pointer (some ⟨A.g, 0, none⟩),.int .i64 p,_,.int .i64 t,_,_,.pointer (some ⟨w.heap.size, 0, none⟩),_,.pointer (some ⟨w.heap.size + 1, 0, none⟩),.int .i64 v,_,_,_,_,_,_,_,_,_,_,_,_,_,_,_,_,_,_,_,_,_,_,_,_,_,_,_,_,_,_,_,.pointer (some ⟨A.g, 0, none⟩),.pointer (some ⟨A.g, 0, none⟩),_,_,_,_,_,_,_,_,_,_,_,_,_,_,_,_,_,_,_,_,_,_,_,_,_,_,_,_,_,_,_,_,_,_], []⟩ _
    refine wpAnyH_take (i := 2) (v := .pointer (some ⟨A.g, 1, none⟩)) rfl (by kernel_rfl) (by kernel_rfl) (by kernel_rfl) (fun _ _ _ h => h) (Or.inl ⟨by rfl, ?_⟩) hHeld ?_
    · intro W hW; (try dsimp only at hW); go_simp
    change wpAnyH _ _ _ _ _ _ _ ⟨#[.pointer (some ⟨A.g, 0, none⟩),.int .i64 p,_,.int .i64 t,_,_,.pointer (some ⟨w.heap.size, 0, none⟩),_,.pointer (some ⟨w.heap.size + 1, 0, none⟩),.int .i64 v,_,_,_,_,_,_,_,_,_,_,_,_,_,_,_,_,_,_,_,_,_,_,_,_,_,_,_,_,_,_,_,.pointer (some ⟨A.g, 0, none⟩),.pointer (some ⟨A.g, 0, none⟩),.pointer (some ⟨A.g, 1, none⟩),_,_,_,_,_,_,_,_,_,_,_,_,_,_,_,_,_,_,_,_,_,_,_,_,_,_,_,_,_,_,_,_,_], []⟩ _
    refine wpAnyH_take (i := 3) (v := .pointer (some ⟨A.hf + 1, 0, none⟩)) rfl (by kernel_rfl) (by kernel_rfl) (by kernel_rfl) (fun _ _ _ h => h) (Or.inl ⟨by rfl, ?_⟩) hHeld ?_
    · intro W hW; (try dsimp only at hW); have hc := hW.1; clear hW; go_simp
    change wpAnyH _ _ _ _ _ _ _ ⟨#[.pointer (some ⟨A.g, 0, none⟩),.int .i64 p,_,.int .i64 t,_,_,.pointer (some ⟨w.heap.size, 0, none⟩),_,.pointer (some ⟨w.heap.size + 1, 0, none⟩),.int .i64 v,_,_,_,_,_,_,_,_,_,_,_,_,_,_,_,_,_,_,_,_,_,_,_,_,_,_,_,_,_,_,_,.pointer (some ⟨A.g, 0, none⟩),.pointer (some ⟨A.g, 0, none⟩),.pointer (some ⟨A.g, 1, none⟩),.pointer (some ⟨A.hf + 1, 0, none⟩),_,_,_,_,_,_,_,_,_,_,_,_,_,_,_,_,_,_,_,_,_,_,_,_,_,_,_,_,_,_,_,_], []⟩ _
    refine wpAnyH_take (i := 4) (v := .int .i64 v) rfl (by kernel_rfl) (by kernel_rfl) (by kernel_rfl) (fun _ _ _ h => h) (Or.inl ⟨by rfl, ?_⟩) hHeld ?_
    · intro W hW; (try dsimp only at hW); go_simp
    change wpAnyH _ _ _ _ _ _ _ ⟨#[.pointer (some ⟨A.g, 0, none⟩),.int .i64 p,_,.int .i64 t,_,_,.pointer (some ⟨w.heap.size, 0, none⟩),_,.pointer (some ⟨w.heap.size + 1, 0, none⟩),.int .i64 v,_,_,_,_,_,_,_,_,_,_,_,_,_,_,_,_,_,_,_,_,_,_,_,_,_,_,_,_,_,_,_,.pointer (some ⟨A.g, 0, none⟩),.pointer (some ⟨A.g, 0, none⟩),.pointer (some ⟨A.g, 1, none⟩),.pointer (some ⟨A.hf + 1, 0, none⟩),.int .i64 v,_,_,_,_,_,_,_,_,_,_,_,_,_,_,_,_,_,_,_,_,_,_,_,_,_,_,_,_,_,_,_], []⟩ _
    refine wpAnyH_take (i := 5) (v := .pointer (some ⟨w.heap.size, 0, none⟩)) rfl (by kernel_rfl) (by kernel_rfl) (by kernel_rfl) (fun _ _ _ h => h) (Or.inl ⟨by rfl, ?_⟩) hHeld ?_
    · intro W hW; (try dsimp only at hW); go_simp
    change wpAnyH _ _ _ _ _ _ _ ⟨#[.pointer (some ⟨A.g, 0, none⟩),.int .i64 p,_,.int .i64 t,_,_,.pointer (some ⟨w.heap.size, 0, none⟩),_,.pointer (some ⟨w.heap.size + 1, 0, none⟩),.int .i64 v,_,_,_,_,_,_,_,_,_,_,_,_,_,_,_,_,_,_,_,_,_,_,_,_,_,_,_,_,_,_,_,.pointer (some ⟨A.g, 0, none⟩),.pointer (some ⟨A.g, 0, none⟩),.pointer (some ⟨A.g, 1, none⟩),.pointer (some ⟨A.hf + 1, 0, none⟩),.int .i64 v,.pointer (some ⟨w.heap.size, 0, none⟩),_,_,_,_,_,_,_,_,_,_,_,_,_,_,_,_,_,_,_,_,_,_,_,_,_,_,_,_,_,_], []⟩ _
    refine wpAnyH_take (i := 6) (v := .agg (MC (mD f))) rfl (by kernel_rfl) (by kernel_rfl) (by kernel_rfl) (fun _ _ _ h => h) (yieldsIf_load_mid (by rfl) 35 (.tmp 46) rfl w.heap.size 0 rfl (mcl (mD f)) _ (fun W hW => fcl_dst hW.2) Tryz.underlying35 rfl Tryz.size35) hHeld ?_
    change wpAnyH _ _ _ _ _ _ _ ⟨#[.pointer (some ⟨A.g, 0, none⟩),.int .i64 p,_,.int .i64 t,_,_,.pointer (some ⟨w.heap.size, 0, none⟩),_,.pointer (some ⟨w.heap.size + 1, 0, none⟩),.int .i64 v,_,_,_,_,_,_,_,_,_,_,_,_,_,_,_,_,_,_,_,_,_,_,_,_,_,_,_,_,_,_,_,.pointer (some ⟨A.g, 0, none⟩),.pointer (some ⟨A.g, 0, none⟩),.pointer (some ⟨A.g, 1, none⟩),.pointer (some ⟨A.hf + 1, 0, none⟩),.int .i64 v,.pointer (some ⟨w.heap.size, 0, none⟩),.agg (MC (mD f)),_,_,_,_,_,_,_,_,_,_,_,_,_,_,_,_,_,_,_,_,_,_,_,_,_,_,_,_,_], []⟩ _
    refine wpAnyH_ready (rs := [7, 11, 12]) (by kernel_rfl) (by simp) ?_
    refine AllReadyH.cons rfl (fun K hK => ?_) (AllReadyH.cons rfl (fun K hK => ?_) (AllReadyH.cons rfl (fun K hK => ?_) AllReadyH.nil))
    · skip
      go_simp
      obtain ⟨ps, hpf⟩ := (SS.out _ BW.out).2.pf
      refine (look11 A.hf ps B1.F v (mD f) _ HMD.out hpf).mono ?_
      rw [← HXX.out, ← HIS.out]
      rintro e y1 ⟨rfl, b1⟩
      replace BW := hide (belowOn BW.out b1)
      refine hK.out _ _ (SS.out _ BW.out).1 (fun hHeld => ?_)
      clear hK K b1 hpf
      change wpAnyH _ _ _ _ _ _ _ ⟨#[.pointer (some ⟨A.g, 0, none⟩),.int .i64 p,_,.int .i64 t,_,_,.pointer (some ⟨w.heap.size, 0, none⟩),_,.pointer (some ⟨w.heap.size + 1, 0, none⟩),.int .i64 v,_,_,_,_,_,_,_,_,_,_,_,_,_,_,_,_,_,_,_,_,_,_,_,_,_,_,_,_,_,_,_,.pointer (some ⟨A.g, 0, none⟩),.pointer (some ⟨A.g, 0, none⟩),.pointer (some ⟨A.g, 1, none⟩),.pointer (some ⟨A.hf + 1, 0, none⟩),.int .i64 v,.pointer (some ⟨w.heap.size, 0, none⟩),.agg (MC (mD f)),.tuple #[.agg (EC x), .bool is],_,_,_,_,_,_,_,_,_,_,_,_,_,_,_,_,_,_,_,_,_,_,_,_,_,_,_,_], []⟩ _
      refine wpAnyH_take (i := 8) (v := .tuple #[.agg (EC x), .bool is]) rfl (by kernel_rfl) (by kernel_rfl) (by kernel_rfl) (fun _ _ _ h => h) (Or.inl ⟨by rfl, ?_⟩) hHeld ?_
      · intro W hW; (try dsimp only at hW); go_simp
      change wpAnyH _ _ _ _ _ _ _ ⟨#[.pointer (some ⟨A.g, 0, none⟩),.int .i64 p,_,.int .i64 t,_,_,.pointer (some ⟨w.heap.size, 0, none⟩),_,.pointer (some ⟨w.heap.size + 1, 0, none⟩),.int .i64 v,_,_,_,_,_,_,_,_,_,_,_,_,_,_,_,_,_,_,_,_,_,_,_,_,_,_,_,_,_,_,.tuple #[.agg (EC x), .bool is],.pointer (some ⟨A.g, 0, none⟩),.pointer (some ⟨A.g, 0, none⟩),.pointer (some ⟨A.g, 1, none⟩),.pointer (some ⟨A.hf + 1, 0, none⟩),.int .i64 v,.pointer (some ⟨w.heap.size, 0, none⟩),.agg (MC (mD f)),.tuple #[.agg (EC x), .bool is],_,_,_,_,_,_,_,_,_,_,_,_,_,_,_,_,_,_,_,_,_,_,_,_,_,_,_,_], []⟩ _
      refine wpAnyH_take (i := 9) (v := .agg (EC x)) rfl (by kernel_rfl) (by kernel_rfl) (by kernel_rfl) (fun _ _ _ h => h) (Or.inl ⟨by rfl, ?_⟩) hHeld ?_
      · intro W hW; (try dsimp only at hW); go_simp
      change wpAnyH _ _ _ _ _ _ _ ⟨#[.pointer (some ⟨A.g, 0, none⟩),.int .i64 p,_,.int .i64 t,_,_,.pointer (some ⟨w.heap.size, 0, none⟩),_,.pointer (some ⟨w.heap.size + 1, 0, none⟩),.int .i64 v,_,_,_,_,_,_,_,_,_,_,_,_,_,_,_,_,_,_,_,_,_,_,_,_,_,_,_,_,_,_,.tuple #[.agg (EC x), .bool is],.pointer (some ⟨A.g, 0, none⟩),.pointer (some ⟨A.g, 0, none⟩),.pointer (some ⟨A.g, 1, none⟩),.pointer (some ⟨A.hf + 1, 0, none⟩),.int .i64 v,.pointer (some ⟨w.heap.size, 0, none⟩),.agg (MC (mD f)),.tuple #[.agg (EC x), .bool is],.agg (EC x),_,_,_,_,_,_,_,_,_,_,_,_,_,_,_,_,_,_,_,_,_,_,_,_,_,_,_], []⟩ _
      refine wpAnyH_take (i := 10) (v := .bool is) rfl (by kernel_rfl) (by kernel_rfl) (by kernel_rfl) (fun _ _ _ h => h) (Or.inl ⟨by rfl, ?_⟩) hHeld ?_
      · intro W hW; (try dsimp only at hW); go_simp
      change wpAnyH _ _ _ _ _ _ _ ⟨#[.pointer (some ⟨A.g, 0, none⟩),.int .i64 p,_,.int .i64 t,_,_,.pointer (some ⟨w.heap.size, 0, none⟩),_,.pointer (some ⟨w.heap.size + 1, 0, none⟩),.int .i64 v,_,_,_,_,_,_,_,_,_,_,_,_,_,_,_,_,_,_,_,_,_,_,_,_,_,_,_,_,_,_,.tuple #[.agg (EC x), .bool is],.pointer (some ⟨A.g, 0, none⟩),.pointer (some ⟨A.g, 0, none⟩),.pointer (some ⟨A.g, 1, none⟩),.pointer (some ⟨A.hf + 1, 0, none⟩),.int .i64 v,.pointer (some ⟨w.heap.size, 0, none⟩),.agg (MC (mD f)),.tuple #[.agg (EC x), .bool is],.agg (EC x),.bool is,_,_,_,_,_,_,_,_,_,_,_,_,_,_,_,_,_,_,_,_,_,_,_,_,_,_], []⟩ _
      refine wpAnyH_ready (rs := [11, 12]) (by kernel_rfl) (by simp) ?_
      refine AllReadyH.cons rfl (fun K hK => ?_) (AllReadyH.cons rfl (fun K hK => ?_) AllReadyH.nil)
      · skip
        go_simp
        have bz : Box (y1.alloc (.cells (EC zE) 61)) y1.heap.size (ecl zE) := Box.new y1 (ecl zE) 61
        have L11 : Hid (z6.heap.size ≤ y1.heap.size) := hide BW.out.size
        replace BW := hide (belowOn BW.out (below_alloc y1 (.cells (EC zE) 61)))
        generalize (y1.alloc (.cells (EC zE) 61)) = y2 at *
        generalize y1.heap.size = k11 at *
        have E11 := hide bz
        refine hK.out _ _ (SS.out _ BW.out).1 (fun hHeld => ?_)
        clear hK K bz
        change wpAnyH _ _ _ _ _ _ _ ⟨#[.pointer (some ⟨A.g, 0, none⟩),.int .i64 p,_,.int .i64 t,_,_,.pointer (some ⟨w.heap.size, 0, none⟩),_,.pointer (some ⟨w.heap.size + 1, 0, none⟩),.int .i64 v,_,.pointer (some ⟨k11, 0, none⟩),_,_,_,_,_,_,_,_,_,_,_,_,_,_,_,_,_,_,_,_,_,_,_,_,_,_,_,_,.tuple #[.agg (EC x), .bool is],.pointer (some ⟨A.g, 0, none⟩),.pointer (some ⟨A.g, 0, none⟩),.pointer (some ⟨A.g, 1, none⟩),.pointer (some ⟨A.hf + 1, 0, none⟩),.int .i64 v,.pointer (some ⟨w.heap.size, 0, none⟩),.agg (MC (mD f)),.tuple #[.agg (EC x), .bool is],.agg (EC x),.bool is,_,_,_,_,_,_,_,_,_,_,_,_,_,_,_,_,_,_,_,_,_,_,_,_,_,_], []⟩ _
        refine wpAnyH_ready (rs := [12]) (by kernel_rfl) (by simp) ?_
        refine AllReadyH.cons rfl (fun K hK => ?_) AllReadyH.nil
        · skip
          go_simp
          have bz : Box (y2.alloc (.cells #[.bool false] 4)) y2.heap.size [.bool false] := Box.new y2 [.bool false] 4
          have L12 : Hid (z6.heap.size ≤ y2.heap.size) := hide BW.out.size
          have NE : Hid (k11 ≠ y2.heap.size) := hide (by have := E11.out.lt; omega)
          replace E11 := hide (E11.out.on (below_alloc y2 (.cells #[.bool false] 4)))
          replace BW := hide (belowOn BW.out (below_alloc y2 (.cells #[.bool false] 4)))
          generalize (y2.alloc (.cells #[.bool false] 4)) = y3 at *
          generalize y2.heap.size = k12 at *
          have E12 := hide bz
          refine hK.out _ _ (SS.out _ BW.out).1 (fun hHeld => ?_)
          clear hK K bz
          change wpAnyH _ _ _ _ _ _ _ ⟨#[.pointer (some ⟨A.g, 0, none⟩),.int .i64 p,_,.int .i64 t,_,_,.pointer (some ⟨w.heap.size, 0, none⟩),_,.pointer (some ⟨w.heap.size + 1, 0, none⟩),.int .i64 v,_,.pointer (some ⟨k11, 0, none⟩),.pointer (some ⟨k12, 0, none⟩),_,_,_,_,_,_,_,_,_,_,_,_,_,_,_,_,_,_,_,_,_,_,_,_,_,_,_,.tuple #[.agg (EC x), .bool is],.pointer (some ⟨A.g, 0, none⟩),.pointer (some ⟨A.g, 0, none⟩),.pointer (some ⟨A.g, 1, none⟩),.pointer (some ⟨A.hf + 1, 0, none⟩),.int .i64 v,.pointer (some ⟨w.heap.size, 0, none⟩),.agg (MC (mD f)),.tuple #[.agg (EC x), .bool is],.agg (EC x),.bool is,_,_,_,_,_,_,_,_,_,_,_,_,_,_,_,_,_,_,_,_,_,_,_,_,_,_], []⟩ _
          have NE12 : k12 ≠ k11 := by first | exact NE.out | exact fun h => NE.out h.symm
          refine wpAnyH_ready (rs := [13]) (by kernel_rfl) (by simp) ?_
          refine AllReadyH.cons rfl (fun K hK => ?_) AllReadyH.nil
          rw [if_pos (by rfl)]
          refine wp_store_mid 61 (.tmp 11) (.tmp 49) rfl k11 0 (EC x) rfl rfl E11.out.th Tryz.size61 (one_EC x) ?_
          have G3 := setCells_grown k11 (ecl x) 0 y3
          have bf := E11.out.self (cs' := ecl x) rfl
          have BW3 := below_grown BW.out G3 L11.out BW.out.size
          have B12 := E12.out.kept (r := k11) NE12 G3
          have e4 : World.setCells y3 k11 0 (EC x).toList = World.setCells y3 k11 0 (ecl x) := rfl
          rw [e4]
          generalize World.setCells y3 k11 0 (ecl x) = y4 at *
          refine hK.out _ _ (SS.out _ BW3).1 (fun hHeld => ?_)
          replace E11 := hide bf
          replace E12 := hide B12
          replace BW := hide BW3
          clear hK K G3 bf BW3 e4 B12
          change wpAnyH _ _ _ _ _ _ _ ⟨#[.pointer (some ⟨A.g, 0, none⟩),.int .i64 p,_,.int .i64 t,_,_,.pointer (some ⟨w.heap.size, 0, none⟩),_,.pointer (some ⟨w.heap.size + 1, 0, none⟩),.int .i64 v,_,.pointer (some ⟨k11, 0, none⟩),.pointer (some ⟨k12, 0, none⟩),_,_,_,_,_,_,_,_,_,_,_,_,_,_,_,_,_,_,_,_,_,_,_,_,_,_,_,.tuple #[.agg (EC x), .bool is],.pointer (some ⟨A.g, 0, none⟩),.pointer (some ⟨A.g, 0, none⟩),.pointer (some ⟨A.g, 1, none⟩),.pointer (some ⟨A.hf + 1, 0, none⟩),.int .i64 v,.pointer (some ⟨w.heap.size, 0, none⟩),.agg (MC (mD f)),.tuple #[.agg (EC x), .bool is],.agg (EC x),.bool is,_,_,_,_,_,_,_,_,_,_,_,_,_,_,_,_,_,_,_,_,_,_,_,_,_,_], []⟩ _
          refine wpAnyH_ready (rs := [14]) (by kernel_rfl) (by simp) ?_
          refine AllReadyH.cons rfl (fun K hK => ?_) AllReadyH.nil
          rw [if_pos (by rfl)]
          have hc12 := E12.out.cell 0 _ rfl
          have hf12 := E12.out.free 0 (by simp)
          have G4 := setCell_grown y4 k12 0 (.bool is)
          have bg := E12.out.setAt (j := 0) (by simp) (.bool is)
          have BW4 := below_grown BW.out G4 L12.out BW.out.size
          have B11 := E11.out.kept (r := k12) (Ne.symm NE12) G4
          go_simp
          generalize World.setCell y4 ⟨k12, 0, none⟩ (.bool is) = y5 at *
          refine hK.out _ _ (SS.out _ BW4).1 (fun hHeld => ?_)
          replace E11 := hide B11
          have E12b : Hid (Box y5 k12 [.bool is]) := hide bg
          replace BW := hide BW4
          clear hK K G4 bg BW4 B11 hc12 hf12 E12
          change wpAnyH _ _ _ _ _ _ _ ⟨#[.pointer (some ⟨A.g, 0, none⟩),.int .i64 p,_,.int .i64 t,_,_,.pointer (some ⟨w.heap.size, 0, none⟩),_,.pointer (some ⟨w.heap.size + 1, 0, none⟩),.int .i64 v,_,.pointer (some ⟨k11, 0, none⟩),.pointer (some ⟨k12, 0, none⟩),_,_,_,_,_,_,_,_,_,_,_,_,_,_,_,_,_,_,_,_,_,_,_,_,_,_,_,.tuple #[.agg (EC x), .bool is],.pointer (some ⟨A.g, 0, none⟩),.pointer (some ⟨A.g, 0, none⟩),.pointer (some ⟨A.g, 1, none⟩),.pointer (some ⟨A.hf + 1, 0, none⟩),.int .i64 v,.pointer (some ⟨w.heap.size, 0, none⟩),.agg (MC (mD f)),.tuple #[.agg (EC x), .bool is],.agg (EC x),.bool is,_,_,_,_,_,_,_,_,_,_,_,_,_,_,_,_,_,_,_,_,_,_,_,_,_,_], []⟩ _
          refine wpAnyH_done (by kernel_rfl) ?_ _
          go_wp2_with fail
          go_meet
          case rel => exact ⟨BW.out, k11, k12, rfl, rfl, E11.out, E12b.out⟩
      · skip
        go_simp
        have bz : Box (y1.alloc (.cells #[.bool false] 4)) y1.heap.size [.bool false] := Box.new y1 [.bool false] 4
        have L12 : Hid (z6.heap.size ≤ y1.heap.size) := hide BW.out.size
        replace BW := hide (belowOn BW.out (below_alloc y1 (.cells #[.bool false] 4)))
        generalize (y1.alloc (.cells #[.bool false] 4)) = y6 at *
        generalize y1.heap.size = k12 at *
        have E12 := hide bz
        refine hK.out _ _ (SS.out _ BW.out).1 (fun hHeld => ?_)
        clear hK K bz
        change wpAnyH _ _ _ _ _ _ _ ⟨#[.pointer (some ⟨A.g, 0, none⟩),.int .i64 p,_,.int .i64 t,_,_,.pointer (some ⟨w.heap.size, 0, none⟩),_,.pointer (some ⟨w.heap.size + 1, 0, none⟩),.int .i64 v,_,_,.pointer (some ⟨k12, 0, none⟩),_,_,_,_,_,_,_,_,_,_,_,_,_,_,_,_,_,_,_,_,_,_,_,_,_,_,_,.tuple #[.agg (EC x), .bool is],.pointer (some ⟨A.g, 0, none⟩),.pointer (some ⟨A.g, 0, none⟩),.pointer (some ⟨A.g, 1, none⟩),.pointer (some ⟨A.hf + 1, 0, none⟩),.int .i64 v,.pointer (some ⟨w.heap.size, 0, none⟩),.agg (MC (mD f)),.tuple #[.agg (EC x), .bool is],.agg (EC x),.bool is,_,_,_,_,_,_,_,_,_,_,_,_,_,_,_,_,_,_,_,_,_,_,_,_,_,_], []⟩ _
        refine wpAnyH_ready (rs := [11]) (by kernel_rfl) (by simp) ?_
        refine AllReadyH.cons rfl (fun K hK => ?_) AllReadyH.nil
        · skip
          go_simp
          have bz : Box (y6.alloc (.cells (EC zE) 61)) y6.heap.size (ecl zE) := Box.new y6 (ecl zE) 61
          have L11 : Hid (z6.heap.size ≤ y6.heap.size) := hide BW.out.size
          have NE : Hid (k12 ≠ y6.heap.size) := hide (by have := E12.out.lt; omega)
          replace E12 := hide (E12.out.on (below_alloc y6 (.cells (EC zE) 61)))
          replace BW := hide (belowOn BW.out (below_alloc y6 (.cells (EC zE) 61)))
          generalize (y6.alloc (.cells (EC zE) 61)) = y7 at *
          generalize y6.heap.size = k11 at *
          have E11 := hide bz
          refine hK.out _ _ (SS.out _ BW.out).1 (fun hHeld => ?_)
          clear hK K bz
          change wpAnyH _ _ _ _ _ _ _ ⟨#[.pointer (some ⟨A.g, 0, none⟩),.int .i64 p,_,.int .i64 t,_,_,.pointer (some ⟨w.heap.size, 0, none⟩),_,.pointer (some ⟨w.heap.size + 1, 0, none⟩),.int .i64 v,_,.pointer (some ⟨k11, 0, none⟩),.pointer (some ⟨k12, 0, none⟩),_,_,_,_,_,_,_,_,_,_,_,_,_,_,_,_,_,_,_,_,_,_,_,_,_,_,_,.tuple #[.agg (EC x), .bool is],.pointer (some ⟨A.g, 0, none⟩),.pointer (some ⟨A.g, 0, none⟩),.pointer (some ⟨A.g, 1, none⟩),.pointer (some ⟨A.hf + 1, 0, none⟩),.int .i64 v,.pointer (some ⟨w.heap.size, 0, none⟩),.agg (MC (mD f)),.tuple #[.agg (EC x), .bool is],.agg (EC x),.bool is,_,_,_,_,_,_,_,_,_,_,_,_,_,_,_,_,_,_,_,_,_,_,_,_,_,_], []⟩ _
          have NE12 : k12 ≠ k11 := by first | exact NE.out | exact fun h => NE.out h.symm
          refine wpAnyH_ready (rs := [13]) (by kernel_rfl) (by simp) ?_
          refine AllReadyH.cons rfl (fun K hK => ?_) AllReadyH.nil
          rw [if_pos (by rfl)]
          refine wp_store_mid 61 (.tmp 11) (.tmp 49) rfl k11 0 (EC x) rfl rfl E11.out.th Tryz.size61 (one_EC x) ?_
          have G3 := setCells_grown k11 (ecl x) 0 y7
          have bf := E11.out.self (cs' := ecl x) rfl
          have BW3 := below_grown BW.out G3 L11.out BW.out.size
          have B12 := E12.out.kept (r := k11) NE12 G3
          have e4 : World.setCells y7 k11 0 (EC x).toList = World.setCells y7 k11 0 (ecl x) := rfl
          rw [e4]
          generalize World.setCells y7 k11 0 (ecl x) = y8 at *
          refine hK.out _ _ (SS.out _ BW3).1 (fun hHeld => ?_)
          replace E11 := hide bf
          replace E12 := hide B12
          replace BW := hide BW3
          clear hK K G3 bf BW3 e4 B12
          change wpAnyH _ _ _ _ _ _ _ ⟨#[.pointer (some ⟨A.g, 0, none⟩),.int .i64 p,_,.int .i64 t,_,_,.pointer (some ⟨w.heap.size, 0, none⟩),_,.pointer (some ⟨w.heap.size + 1, 0, none⟩),.int .i64 v,_,.pointer (some ⟨k11, 0, none⟩),.pointer (some ⟨k12, 0, none⟩),_,_,_,_,_,_,_,_,_,_,_,_,_,_,_,_,_,_,_,_,_,_,_,_,_,_,_,.tuple #[.agg (EC x), .bool is],.pointer (some ⟨A.g, 0, none⟩),.pointer (some ⟨A.g, 0, none⟩),.pointer (some ⟨A.g, 1, none⟩),.pointer (some ⟨A.hf + 1, 0, none⟩),.int .i64 v,.pointer (some ⟨w.heap.size, 0, none⟩),.agg (MC (mD f)),.tuple #[.agg (EC x), .bool is],.agg (EC x),.bool is,_,_,_,_,_,_,_,_,_,_,_,_,_,_,_,_,_,_,_,_,_,_,_,_,_,_], []⟩ _
          refine wpAnyH_ready (rs := [14]) (by kernel_rfl) (by simp) ?_
          refine AllReadyH.cons rfl (fun K hK => ?_) AllReadyH.nil
          rw [if_pos (by rfl)]
          have hc12 := E12.out.cell 0 _ rfl
          have hf12 := E12.out.free 0 (by simp)
          have G4 := setCell_grown y8 k12 0 (.bool is)
          have bg := E12.out.setAt (j := 0) (by simp) (.bool is)
          have BW4 := below_grown BW.out G4 L12.out BW.out.size
          have B11 := E11.out.kept (r := k12) (Ne.symm NE12) G4
          go_simp
          generalize World.setCell y8 ⟨k12, 0, none⟩ (.bool is) = y9 at *
          refine hK.out _ _ (SS.out _ BW4).1 (fun hHeld => ?_)
          replace E11 := hide B11
          have E12b : Hid (Box y9 k12 [.bool is]) := hide bg
          replace BW := hide BW4
          clear hK K G4 bg BW4 B11 hc12 hf12 E12
          change wpAnyH _ _ _ _ _ _ _ ⟨#[.pointer (some ⟨A.g, 0, none⟩),.int .i64 p,_,.int .i64 t,_,_,.pointer (some ⟨w.heap.size, 0, none⟩),_,.pointer (some ⟨w.heap.size + 1, 0, none⟩),.int .i64 v,_,.pointer (some ⟨k11, 0, none⟩),.pointer (some ⟨k12, 0, none⟩),_,_,_,_,_,_,_,_,_,_,_,_,_,_,_,_,_,_,_,_,_,_,_,_,_,_,_,.tuple #[.agg (EC x), .bool is],.pointer (some ⟨A.g, 0, none⟩),.pointer (some ⟨A.g, 0, none⟩),.pointer (some ⟨A.g, 1, none⟩),.pointer (some ⟨A.hf + 1, 0, none⟩),.int .i64 v,.pointer (some ⟨w.heap.size, 0, none⟩),.agg (MC (mD f)),.tuple #[.agg (EC x), .bool is],.agg (EC x),.bool is,_,_,_,_,_,_,_,_,_,_,_,_,_,_,_,_,_,_,_,_,_,_,_,_,_,_], []⟩ _
          refine wpAnyH_done (by kernel_rfl) ?_ _
          go_wp2_with fail
          go_meet
          case rel => exact ⟨BW.out, k11, k12, rfl, rfl, E11.out, E12b.out⟩
    · skip
      go_simp
      have bz : Box (y0.alloc (.cells (EC zE) 61)) y0.heap.size (ecl zE) := Box.new y0 (ecl zE) 61
      have L11 : Hid (z6.heap.size ≤ y0.heap.size) := hide BW.out.size
      replace BW := hide (belowOn BW.out (below_alloc y0 (.cells (EC zE) 61)))
      generalize (y0.alloc (.cells (EC zE) 61)) = y10 at *
      generalize y0.heap.size = k11 at *
      have E11 := hide bz
      refine hK.out _ _ (SS.out _ BW.out).1 (fun hHeld => ?_)
      clear hK K bz
      change wpAnyH _ _ _ _ _ _ _ ⟨#[.pointer (some ⟨A.g, 0, none⟩),.int .i64 p,_,.int .i64 t,_,_,.pointer (some ⟨w.heap.size, 0, none⟩),_,.pointer (some ⟨w.heap.size + 1, 0, none⟩),.int .i64 v,_,.pointer (some ⟨k11, 0, none⟩),_,_,_,_,_,_,_,_,_,_,_,_,_,_,_,_,_,_,_,_,_,_,_,_,_,_,_,_,_,.pointer (some ⟨A.g, 0, none⟩),.pointer (some ⟨A.g, 0, none⟩),.pointer (some ⟨A.g, 1, none⟩),.pointer (some ⟨A.hf + 1, 0, none⟩),.int .i64 v,.pointer (some ⟨w.heap.size, 0, none⟩),.agg (MC (mD f)),_,_,_,_,_,_,_,_,_,_,_,_,_,_,_,_,_,_,_,_,_,_,_,_,_,_,_,_,_], []⟩ _
      refine wpAnyH_ready (rs := [7, 12]) (by kernel_rfl) (by simp) ?_
      refine AllReadyH.cons rfl (fun K hK => ?_) (AllReadyH.cons rfl (fun K hK => ?_) AllReadyH.nil)
      · skip
        go_simp
        obtain ⟨ps, hpf⟩ := (SS.out _ BW.out).2.pf
        refine (look11 A.hf ps B1.F v (mD f) _ HMD.out hpf).mono ?_
        rw [← HXX.out, ← HIS.out]
        rintro e y11 ⟨rfl, b1⟩
        replace BW := hide (belowOn BW.out b1)
        replace E11 := hide (E11.out.on b1)
        refine hK.out _ _ (SS.out _ BW.out).1 (fun hHeld => ?_)
        clear hK K b1 hpf
        change wpAnyH _ _ _ _ _ _ _ ⟨#[.pointer (some ⟨A.g, 0, none⟩),.int .i64 p,_,.int .i64 t,_,_,.pointer (some ⟨w.heap.size, 0, none⟩),_,.pointer (some ⟨w.heap.size + 1, 0, none⟩),.int .i64 v,_,.pointer (some ⟨k11, 0, none⟩),_,_,_,_,_,_,_,_,_,_,_,_,_,_,_,_,_,_,_,_,_,_,_,_,_,_,_,_,_,.pointer (some ⟨A.g, 0, none⟩),.pointer (some ⟨A.g, 0, none⟩),.pointer (some ⟨A.g, 1, none⟩),.pointer (some ⟨A.hf + 1, 0, none⟩),.int .i64 v,.pointer (some ⟨w.heap.size, 0, none⟩),.agg (MC (mD f)),.tuple #[.agg (EC x), .bool is],_,_,_,_,_,_,_,_,_,_,_,_,_,_,_,_,_,_,_,_,_,_,_,_,_,_,_,_], []⟩ _
        refine wpAnyH_take (i := 8) (v := .tuple #[.agg (EC x), .bool is]) rfl (by kernel_rfl) (by kernel_rfl) (by kernel_rfl) (fun _ _ _ h => h) (Or.inl ⟨by rfl, ?_⟩) hHeld ?_
        · intro W hW; (try dsimp only at hW); go_simp
        change wpAnyH _ _ _ _ _ _ _ ⟨#[.pointer (some ⟨A.g, 0, none⟩),.int .i64 p,_,.int .i64 t,_,_,.pointer (some ⟨w.heap.size, 0, none⟩),_,.pointer (some ⟨w.heap.size + 1, 0, none⟩),.int .i64 v,_,.pointer (some ⟨k11, 0, none⟩),_,_,_,_,_,_,_,_,_,_,_,_,_,_,_,_,_,_,_,_,_,_,_,_,_,_,_,_,.tuple #[.agg (EC x), .bool is],.pointer (some ⟨A.g, 0, none⟩),.pointer (some ⟨A.g, 0, none⟩),.pointer (some ⟨A.g, 1, none⟩),.pointer (some ⟨A.hf + 1, 0, none⟩),.int .i64 v,.pointer (some ⟨w.heap.size, 0, none⟩),.agg (MC (mD f)),.tuple #[.agg (EC x), .bool is],_,_,_,_,_,_,_,_,_,_,_,_,_,_,_,_,_,_,_,_,_,_,_,_,_,_,_,_], []⟩ _
        refine wpAnyH_take (i := 9) (v := .agg (EC x)) rfl (by kernel_rfl) (by kernel_rfl) (by kernel_rfl) (fun _ _ _ h => h) (Or.inl ⟨by rfl, ?_⟩) hHeld ?_
        · intro W hW; (try dsimp only at hW); go_simp
        change wpAnyH _ _ _ _ _ _ _ ⟨#[.pointer (some ⟨A.g, 0, none⟩),.int .i64 p,_,.int .i64 t,_,_,.pointer (some ⟨w.heap.size, 0, none⟩),_,.pointer (some ⟨w.heap.size + 1, 0, none⟩),.int .i64 v,_,.pointer (some ⟨k11, 0, none⟩),_,_,_,_,_,_,_,_,_,_,_,_,_,_,_,_,_,_,_,_,_,_,_,_,_,_,_,_,.tuple #[.agg (EC x), .bool is],.pointer (some ⟨A.g, 0, none⟩),.pointer (some ⟨A.g, 0, none⟩),.pointer (some ⟨A.g, 1, none⟩),.pointer (some ⟨A.hf + 1, 0, none⟩),.int .i64 v,.pointer (some ⟨w.heap.size, 0, none⟩),.agg (MC (mD f)),.tuple #[.agg (EC x), .bool is],.agg (EC x),_,_,_,_,_,_,_,_,_,_,_,_,_,_,_,_,_,_,_,_,_,_,_,_,_,_,_], []⟩ _
        refine wpAnyH_take (i := 10) (v := .bool is) rfl (by kernel_rfl) (by kernel_rfl) (by kernel_rfl) (fun _ _ _ h => h) (Or.inl ⟨by rfl, ?_⟩) hHeld ?_
        · intro W hW; (try dsimp only at hW); go_simp
        change wpAnyH _ _ _ _ _ _ _ ⟨#[.pointer (some ⟨A.g, 0, none⟩),.int .i64 p,_,.int .i64 t,_,_,.pointer (some ⟨w.heap.size, 0, none⟩),_,.pointer (some ⟨w.heap.size + 1, 0, none⟩),.int .i64 v,_,.pointer (some ⟨k11, 0, none⟩),_,_,_,_,_,_,_,_,_,_,_,_,_,_,_,_,_,_,_,_,_,_,_,_,_,_,_,_,.tuple #[.agg (EC x), .bool is],.pointer (some ⟨A.g, 0, none⟩),.pointer (some ⟨A.g, 0, none⟩),.pointer (some ⟨A.g, 1, none⟩),.pointer (some ⟨A.hf + 1, 0, none⟩),.int .i64 v,.pointer (some ⟨w.heap.size, 0, none⟩),.agg (MC (mD f)),.tuple #[.agg (EC x), .bool is],.agg (EC x),.bool is,_,_,_,_,_,_,_,_,_,_,_,_,_,_,_,_,_,_,_,_,_,_,_,_,_,_], []⟩ _
        refine wpAnyH_ready (rs := [12]) (by kernel_rfl) (by simp) ?_
        refine AllReadyH.cons rfl (fun K hK => ?_) AllReadyH.nil
        · skip
          go_simp
          have bz : Box (y11.alloc (.cells #[.bool false] 4)) y11.heap.size [.bool false] := Box.new y11 [.bool false] 4
          have L12 : Hid (z6.heap.size ≤ y11.heap.size) := hide BW.out.size
          have NE : Hid (k11 ≠ y11.heap.size) := hide (by have := E11.out.lt; omega)
          replace E11 := hide (E11.out.on (below_alloc y11 (.cells #[.bool false] 4)))
          replace BW := hide (belowOn BW.out (below_alloc y11 (.cells #[.bool false] 4)))
          generalize (y11.alloc (.cells #[.bool false] 4)) = y12 at *
          generalize y11.heap.size = k12 at *
          have E12 := hide bz
          refine hK.out _ _ (SS.out _ BW.out).1 (fun hHeld => ?_)
          clear hK K bz
          change wpAnyH _ _ _ _ _ _ _ ⟨#[.pointer (some ⟨A.g, 0, none⟩),.int .i64 p,_,.int .i64 t,_,_,.pointer (some ⟨w.heap.size, 0, none⟩),_,.pointer (some ⟨w.heap.size + 1, 0, none⟩),.int .i64 v,_,.pointer (some ⟨k11, 0, none⟩),.pointer (some ⟨k12, 0, none⟩),_,_,_,_,_,_,_,_,_,_,_,_,_,_,_,_,_,_,_,_,_,_,_,_,_,_,_,.tuple #[.agg (EC x), .bool is],.pointer (some ⟨A.g, 0, none⟩),.pointer (some ⟨A.g, 0, none⟩),.pointer (some ⟨A.g, 1, none⟩),.pointer (some ⟨A.hf + 1, 0, none⟩),.int .i64 v,.pointer (some ⟨w.heap.size, 0, none⟩),.agg (MC (mD f)),.tuple #[.agg (EC x), .bool is],.agg (EC x),.bool is,_,_,_,_,_,_,_,_,_,_,_,_,_,_,_,_,_,_,_,_,_,_,_,_,_,_], []⟩ _
          have NE12 : k12 ≠ k11 := by first | exact NE.out | exact fun h => NE.out h.symm
          refine wpAnyH_ready (rs := [13]) (by kernel_rfl) (by simp) ?_
          refine AllReadyH.cons rfl (fun K hK => ?_) AllReadyH.nil
          rw [if_pos (by rfl)]
          refine wp_store_mid 61 (.tmp 11) (.tmp 49) rfl k11 0 (EC x) rfl rfl E11.out.th Tryz.size61 (one_EC x) ?_
          have G3 := setCells_grown k11 (ecl x) 0 y12
          have bf := E11.out.self (cs' := ecl x) rfl
          have BW3 := below_grown BW.out G3 L11.out BW.out.size
          have B12 := E12.out.kept (r := k11) NE12 G3
          have e4 : World.setCells y12 k11 0 (EC x).toList = World.setCells y12 k11 0 (ecl x) := rfl
          rw [e4]
          generalize World.setCells y12 k11 0 (ecl x) = y13 at *
          refine hK.out _ _ (SS.out _ BW3).1 (fun hHeld => ?_)
          replace E11 := hide bf
          replace E12 := hide B12
          replace BW := hide BW3
          clear hK K G3 bf BW3 e4 B12
          change wpAnyH _ _ _ _ _ _ _ ⟨#[.pointer (some ⟨A.g, 0, none⟩),.int .i64 p,_,.int .i64 t,_,_,.pointer (some ⟨w.heap.size, 0, none⟩),_,.pointer (some ⟨w.heap.size + 1, 0, none⟩),.int .i64 v,_,.pointer (some ⟨k11, 0, none⟩),.pointer (some ⟨k12, 0, none⟩),_,_,_,_,_,_,_,_,_,_,_,_,_,_,_,_,_,_,_,_,_,_,_,_,_,_,_,.tuple #[.agg (EC x), .bool is],.pointer (some ⟨A.g, 0, none⟩),.pointer (some ⟨A.g, 0, none⟩),.pointer (some ⟨A.g, 1, none⟩),.pointer (some ⟨A.hf + 1, 0, none⟩),.int .i64 v,.pointer (some ⟨w.heap.size, 0, none⟩),.agg (MC (mD f)),.tuple #[.agg (EC x), .bool is],.agg (EC x),.bool is,_,_,_,_,_,_,_,_,_,_,_,_,_,_,_,_,_,_,_,_,_,_,_,_,_,_], []⟩ _
          refine wpAnyH_ready (rs := [14]) (by kernel_rfl) (by simp) ?_
          refine AllReadyH.cons rfl (fun K hK => ?_) AllReadyH.nil
          rw [if_pos (by rfl)]
          have hc12 := E12.out.cell 0 _ rfl
          have hf12 := E12.out.free 0 (by simp)
          have G4 := setCell_grown y13 k12 0 (.bool is)
          have bg := E12.out.setAt (j := 0) (by simp) (.bool is)
          have BW4 := below_grown BW.out G4 L12.out BW.out.size
          have B11 := E11.out.kept (r := k12) (Ne.symm NE12) G4
          go_simp
          generalize World.setCell y13 ⟨k12, 0, none⟩ (.bool is) = y14 at *
          refine hK.out _ _ (SS.out _ BW4).1 (fun hHeld => ?_)
          replace E11 := hide B11
          have E12b : Hid (Box y14 k12 [.bool is]) := hide bg
          replace BW := hide BW4
          clear hK K G4 bg BW4 B11 hc12 hf12 E12
          change wpAnyH _ _ _ _ _ _ _ ⟨#[.pointer (some ⟨A.g, 0, none⟩),.int .i64 p,_,.int .i64 t,_,_,.pointer (some ⟨w.heap.size, 0, none⟩),_,.pointer (some ⟨w.heap.size + 1, 0, none⟩),.int .i64 v,_,.pointer (some ⟨k11, 0, none⟩),.pointer (some ⟨k12, 0, none⟩),_,_,_,_,_,_,_,_,_,_,_,_,_,_,_,_,_,_,_,_,_,_,_,_,_,_,_,.tuple #[.agg (EC x), .bool is],.pointer (some ⟨A.g, 0, none⟩),.pointer (some ⟨A.g, 0, none⟩),.pointer (some ⟨A.g, 1, none⟩),.pointer (some ⟨A.hf + 1, 0, none⟩),.int .i64 v,.pointer (some ⟨w.heap.size, 0, none⟩),.agg (MC (mD f)),.tuple #[.agg (EC x), .bool is],.agg (EC x),.bool is,_,_,_,_,_,_,_,_,_,_,_,_,_,_,_,_,_,_,_,_,_,_,_,_,_,_], []⟩ _
          refine wpAnyH_done (by kernel_rfl) ?_ _
          go_wp2_with fail
          go_meet
          case rel => exact ⟨BW.out, k11, k12, rfl, rfl, E11.out, E12b.out⟩
      · skip
        go_simp
        have bz : Box (y10.alloc (.cells #[.bool false] 4)) y10.heap.size [.bool false] := Box.new y10 [.bool false] 4
        have L12 : Hid (z6.heap.size ≤ y10.heap.size) := hide BW.out.size
        have NE : Hid (k11 ≠ y10.heap.size) := hide (by have := E11.out.lt; omega)
        replace E11 := hide (E11.out.on (below_alloc y10 (.cells #[.bool false] 4)))
        replace BW := hide (belowOn BW.out (below_alloc y10 (.cells #[.bool false] 4)))
        generalize (y10.alloc (.cells #[.bool false] 4)) = y15 at *
        generalize y10.heap.size = k12 at *
        have E12 := hide bz
        refine hK.out _ _ (SS.out _ BW.out).1 (fun hHeld => ?_)
        clear hK K bz
        change wpAnyH _ _ _ _ _ _ _ ⟨#[.pointer (some ⟨A.g, 0, none⟩),.int .i64 p,_,.int .i64 t,_,_,.pointer (some ⟨w.heap.size, 0, none⟩),_,.pointer (some ⟨w.heap.size + 1, 0, none⟩),.int .i64 v,_,.pointer (some ⟨k11, 0, none⟩),.pointer (some ⟨k12, 0, none⟩),_,_,_,_,_,_,_,_,_,_,_,_,_,_,_,_,_,_,_,_,_,_,_,_,_,_,_,_,.pointer (some ⟨A.g, 0, none⟩),.pointer (some ⟨A.g, 0, none⟩),.pointer (some ⟨A.g, 1, none⟩),.pointer (some ⟨A.hf + 1, 0, none⟩),.int .i64 v,.pointer (some ⟨w.heap.size, 0, none⟩),.agg (MC (mD f)),_,_,_,_,_,_,_,_,_,_,_,_,_,_,_,_,_,_,_,_,_,_,_,_,_,_,_,_,_], []⟩ _
        refine wpAnyH_ready (rs := [7]) (by kernel_rfl) (by simp) ?_
        refine AllReadyH.cons rfl (fun K hK => ?_) AllReadyH.nil
        · skip
          go_simp
          obtain ⟨ps, hpf⟩ := (SS.out _ BW.out).2.pf
          refine (look11 A.hf ps B1.F v (mD f) _ HMD.out hpf).mono ?_
          rw [← HXX.out, ← HIS.out]
          rintro e y16 ⟨rfl, b1⟩
          replace BW := hide (belowOn BW.out b1)
          replace E11 := hide (E11.out.on b1)
          replace E12 := hide (E12.out.on b1)
          refine hK.out _ _ (SS.out _ BW.out).1 (fun hHeld => ?_)
          clear hK K b1 hpf
          change wpAnyH _ _ _ _ _ _ _ ⟨#[.pointer (some ⟨A.g, 0, none⟩),.int .i64 p,_,.int .i64 t,_,_,.pointer (some ⟨w.heap.size, 0, none⟩),_,.pointer (some ⟨w.heap.size + 1, 0, none⟩),.int .i64 v,_,.pointer (some ⟨k11, 0, none⟩),.pointer (some ⟨k12, 0, none⟩),_,_,_,_,_,_,_,_,_,_,_,_,_,_,_,_,_,_,_,_,_,_,_,_,_,_,_,_,.pointer (some ⟨A.g, 0, none⟩),.pointer (some ⟨A.g, 0, none⟩),.pointer (some ⟨A.g, 1, none⟩),.pointer (some ⟨A.hf + 1, 0, none⟩),.int .i64 v,.pointer (some ⟨w.heap.size, 0, none⟩),.agg (MC (mD f)),.tuple #[.agg (EC x), .bool is],_,_,_,_,_,_,_,_,_,_,_,_,_,_,_,_,_,_,_,_,_,_,_,_,_,_,_,_], []⟩ _
          refine wpAnyH_take (i := 8) (v := .tuple #[.agg (EC x), .bool is]) rfl (by kernel_rfl) (by kernel_rfl) (by kernel_rfl) (fun _ _ _ h => h) (Or.inl ⟨by rfl, ?_⟩) hHeld ?_
          · intro W hW; (try dsimp only at hW); go_simp
          change wpAnyH _ _ _ _ _ _ _ ⟨#[.pointer (some ⟨A.g, 0, none⟩),.int .i64 p,_,.int .i64 t,_,_,.pointer (some ⟨w.heap.size, 0, none⟩),_,.pointer (some ⟨w.heap.size + 1, 0, none⟩),.int .i64 v,_,.pointer (some ⟨k11, 0, none⟩),.pointer (some ⟨k12, 0, none⟩),_,_,_,_,_,_,_,_,_,_,_,_,_,_,_,_,_,_,_,_,_,_,_,_,_,_,_,.tuple #[.agg (EC x), .bool is],.pointer (some ⟨A.g, 0, none⟩),.pointer (some ⟨A.g, 0, none⟩),.pointer (some ⟨A.g, 1, none⟩),.pointer (some ⟨A.hf + 1, 0, none⟩),.int .i64 v,.pointer (some ⟨w.heap.size, 0, none⟩),.agg (MC (mD f)),.tuple #[.agg (EC x), .bool is],_,_,_,_,_,_,_,_,_,_,_,_,_,_,_,_,_,_,_,_,_,_,_,_,_,_,_,_], []⟩ _
          refine wpAnyH_take (i := 9) (v := .agg (EC x)) rfl (by kernel_rfl) (by kernel_rfl) (by kernel_rfl) (fun _ _ _ h => h) (Or.inl ⟨by rfl, ?_⟩) hHeld ?_
          · intro W hW; (try dsimp only at hW); go_simp
          change wpAnyH _ _ _ _ _ _ _ ⟨#[.pointer (some ⟨A.g, 0, none⟩),.int .i64 p,_,.int .i64 t,_,_,.pointer (some ⟨w.heap.size, 0, none⟩),_,.pointer (some ⟨w.heap.size + 1, 0, none⟩),.int .i64 v,_,.pointer (some ⟨k11, 0, none⟩),.pointer (some ⟨k12, 0, none⟩),_,_,_,_,_,_,_,_,_,_,_,_,_,_,_,_,_,_,_,_,_,_,_,_,_,_,_,.tuple #[.agg (EC x), .bool is],.pointer (some ⟨A.g, 0, none⟩),.pointer (some ⟨A.g, 0, none⟩),.pointer (some ⟨A.g, 1, none⟩),.pointer (some ⟨A.hf + 1, 0, none⟩),.int .i64 v,.pointer (some ⟨w.heap.size, 0, none⟩),.agg (MC (mD f)),.tuple #[.agg (EC x), .bool is],.agg (EC x),_,_,_,_,_,_,_,_,_,_,_,_,_,_,_,_,_,_,_,_,_,_,_,_,_,_,_], []⟩ _
          refine wpAnyH_take (i := 10) (v := .bool is) rfl (by kernel_rfl) (by kernel_rfl) (by kernel_rfl) (fun _ _ _ h => h) (Or.inl ⟨by rfl, ?_⟩) hHeld ?_
          · intro W hW; (try dsimp only at hW); go_simp
          change wpAnyH _ _ _ _ _ _ _ ⟨#[.pointer (some ⟨A.g, 0, none⟩),.int .i64 p,_,.int .i64 t,_,_,.pointer (some ⟨w.heap.size, 0, none⟩),_,.pointer (some ⟨w.heap.size + 1, 0, none⟩),.int .i64 v,_,.pointer (some ⟨k11, 0, none⟩),.pointer (some ⟨k12, 0, none⟩),_,_,_,_,_,_,_,_,_,_,_,_,_,_,_,_,_,_,_,_,_,_,_,_,_,_,_,.tuple #[.agg (EC x), .bool is],.pointer (some ⟨A.g, 0, none⟩),.pointer (some ⟨A.g, 0, none⟩),.pointer (some ⟨A.g, 1, none⟩),.pointer (some ⟨A.hf + 1, 0, none⟩),.int .i64 v,.pointer (some ⟨w.heap.size, 0, none⟩),.agg (MC (mD f)),.tuple #[.agg (EC x), .bool is],.agg (EC x),.bool is,_,_,_,_,_,_,_,_,_,_,_,_,_,_,_,_,_,_,_,_,_,_,_,_,_,_], []⟩ _
          have NE12 : k12 ≠ k11 := by first | exact NE.out | exact fun h => NE.out h.symm
          refine wpAnyH_ready (rs := [13]) (by kernel_rfl) (by simp) ?_
          refine AllReadyH.cons rfl (fun K hK => ?_) AllReadyH.nil
          rw [if_pos (by rfl)]
          refine wp_store_mid 61 (.tmp 11) (.tmp 49) rfl k11 0 (EC x) rfl rfl E11.out.th Tryz.size61 (one_EC x) ?_
          have G3 := setCells_grown k11 (ecl x) 0 y16
          have bf := E11.out.self (cs' := ecl x) rfl
          have BW3 := below_grown BW.out G3 L11.out BW.out.size
          have B12 := E12.out.kept (r := k11) NE12 G3
          have e4 : World.setCells y16 k11 0 (EC x).toList = World.setCells y16 k11 0 (ecl x) := rfl
          rw [e4]
          generalize World.setCells y16 k11 0 (ecl x) = y17 at *
          refine hK.out _ _ (SS.out _ BW3).1 (fun hHeld => ?_)
          replace E11 := hide bf
          replace E12 := hide B12
          replace BW := hide BW3
          clear hK K G3 bf BW3 e4 B12
          change wpAnyH _ _ _ _ _ _ _ ⟨#[.pointer (some ⟨A.g, 0, none⟩),.int .i64 p,_,.int .i64 t,_,_,.pointer (some ⟨w.heap.size, 0, none⟩),_,.pointer (some ⟨w.heap.size + 1, 0, none⟩),.int .i64 v,_,.pointer (some ⟨k11, 0, none⟩),.pointer (some ⟨k12, 0, none⟩),_,_,_,_,_,_,_,_,_,_,_,_,_,_,_,_,_,_,_,_,_,_,_,_,_,_,_,.tuple #[.agg (EC x), .bool is],.pointer (some ⟨A.g, 0, none⟩),.pointer (some ⟨A.g, 0, none⟩),.pointer (some ⟨A.g, 1, none⟩),.pointer (some ⟨A.hf + 1, 0, none⟩),.int .i64 v,.pointer (some ⟨w.heap.size, 0, none⟩),.agg (MC (mD f)),.tuple #[.agg (EC x), .bool is],.agg (EC x),.bool is,_,_,_,_,_,_,_,_,_,_,_,_,_,_,_,_,_,_,_,_,_,_,_,_,_,_], []⟩ _
          refine wpAnyH_ready (rs := [14]) (by kernel_rfl) (by simp) ?_
          refine AllReadyH.cons rfl (fun K hK => ?_) AllReadyH.nil
          rw [if_pos (by rfl)]
          have hc12 := E12.out.cell 0 _ rfl
          have hf12 := E12.out.free 0 (by simp)
          have G4 := setCell_grown y17 k12 0 (.bool is)
          have bg := E12.out.setAt (j := 0) (by simp) (.bool is)
          have BW4 := below_grown BW.out G4 L12.out BW.out.size
          have B11 := E11.out.kept (r := k12) (Ne.symm NE12) G4
          go_simp
          generalize World.setCell y17 ⟨k12, 0, none⟩ (.bool is) = y18 at *
          refine hK.out _ _ (SS.out _ BW4).1 (fun hHeld => ?_)
          replace E11 := hide B11
          have E12b : Hid (Box y18 k12 [.bool is]) := hide bg
          replace BW := hide BW4
          clear hK K G4 bg BW4 B11 hc12 hf12 E12
          change wpAnyH _ _ _ _ _ _ _ ⟨#[.pointer (some ⟨A.g, 0, none⟩),.int .i64 p,_,.int .i64 t,_,_,.pointer (some ⟨w.heap.size, 0, none⟩),_,.pointer (some ⟨w.heap.size + 1, 0, none⟩),.int .i64 v,_,.pointer (some ⟨k11, 0, none⟩),.pointer (some ⟨k12, 0, none⟩),_,_,_,_,_,_,_,_,_,_,_,_,_,_,_,_,_,_,_,_,_,_,_,_,_,_,_,.tuple #[.agg (EC x), .bool is],.pointer (some ⟨A.g, 0, none⟩),.pointer (some ⟨A.g, 0, none⟩),.pointer (some ⟨A.g, 1, none⟩),.pointer (some ⟨A.hf + 1, 0, none⟩),.int .i64 v,.pointer (some ⟨w.heap.size, 0, none⟩),.agg (MC (mD f)),.tuple #[.agg (EC x), .bool is],.agg (EC x),.bool is,_,_,_,_,_,_,_,_,_,_,_,_,_,_,_,_,_,_,_,_,_,_,_,_,_,_], []⟩ _
          refine wpAnyH_done (by kernel_rfl) ?_ _
          go_wp2_with fail
          go_meet
          case rel => exact ⟨BW.out, k11, k12, rfl, rfl, E11.out, E12b.out⟩
    · skip
      go_simp
      have bz : Box (y0.alloc (.cells #[.bool false] 4)) y0.heap.size [.bool false] := Box.new y0 [.bool false] 4
      have L12 : Hid (z6.heap.size ≤ y0.heap.size) := hide BW.out.size
      replace BW := hide (belowOn BW.out (below_alloc y0 (.cells #[.bool false] 4)))
      generalize (y0.alloc (.cells #[.bool false] 4)) = y19 at *
      generalize y0.heap.size = k12 at *
      have E12 := hide bz
      refine hK.out _ _ (SS.out _ BW.out).1 (fun hHeld => ?_)
      clear hK K bz
      change wpAnyH _ _ _ _ _ _ _ ⟨#[.pointer (some ⟨A.g, 0, none⟩),.int .i64 p,_,.int .i64 t,_,_,.pointer (some ⟨w.heap.size, 0, none⟩),_,.pointer (some ⟨w.heap.size + 1, 0, none⟩),.int .i64 v,_,_,.pointer (some ⟨k12, 0, none⟩),_,_,_,_,_,_,_,_,_,_,_,_,_,_,_,_,_,_,_,_,_,_,_,_,_,_,_,_,.pointer (some ⟨A.g, 0, none⟩),.pointer (some ⟨A.g, 0, none⟩),.pointer (some ⟨A.g, 1, none⟩),.pointer (some ⟨A.hf + 1, 0, none⟩),.int .i64 v,.pointer (some ⟨w.heap.size, 0, none⟩),.agg (MC (mD f)),_,_,_,_,_,_,_,_,_,_,_,_,_,_,_,_,_,_,_,_,_,_,_,_,_,_,_,_,_], []⟩ _
      refine wpAnyH_ready (rs := [7, 11]) (by kernel_rfl) (by simp) ?_
      refine AllReadyH.cons rfl (fun K hK => ?_) (AllReadyH.cons rfl (fun K hK => ?_) AllReadyH.nil)
      · skip
        go_simp
        obtain ⟨ps, hpf⟩ := (SS.out _ BW.out).2.pf
        refine (look11 A.hf ps B1.F v (mD f) _ HMD.out hpf).mono ?_
        rw [← HXX.out, ← HIS.out]
        rintro e y20 ⟨rfl, b1⟩
        replace BW := hide (belowOn BW.out b1)
        replace E12 := hide (E12.out.on b1)
        refine hK.out _ _ (SS.out _ BW.out).1 (fun hHeld => ?_)
        clear hK K b1 hpf
        change wpAnyH _ _ _ _ _ _ _ ⟨#[.pointer (some ⟨A.g, 0, none⟩),.int .i64 p,_,.int .i64 t,_,_,.pointer (some ⟨w.heap.size, 0, none⟩),_,.pointer (some ⟨w.heap.size + 1, 0, none⟩),.int .i64 v,_,_,.pointer (some ⟨k12, 0, none⟩),_,_,_,_,_,_,_,_,_,_,_,_,_,_,_,_,_,_,_,_,_,_,_,_,_,_,_,_,.pointer (some ⟨A.g, 0, none⟩),.pointer (some ⟨A.g, 0, none⟩),.pointer (some ⟨A.g, 1, none⟩),.pointer (some ⟨A.hf + 1, 0, none⟩),.int .i64 v,.pointer (some ⟨w.heap.size, 0, none⟩),.agg (MC (mD f)),.tuple #[.agg (EC x), .bool is],_,_,_,_,_,_,_,_,_,_,_,_,_,_,_,_,_,_,_,_,_,_,_,_,_,_,_,_], []⟩ _
        refine wpAnyH_take (i := 8) (v := .tuple #[.agg (EC x), .bool is]) rfl (by kernel_rfl) (by kernel_rfl) (by kernel_rfl) (fun _ _ _ h => h) (Or.inl ⟨by rfl, ?_⟩) hHeld ?_
        · intro W hW; (try dsimp only at hW); go_simp
        change wpAnyH _ _ _ _ _ _ _ ⟨#[.pointer (some ⟨A.g, 0, none⟩),.int .i64 p,_,.int .i64 t,_,_,.pointer (some ⟨w.heap.size, 0, none⟩),_,.pointer (some ⟨w.heap.size + 1, 0, none⟩),.int .i64 v,_,_,.pointer (some ⟨k12, 0, none⟩),_,_,_,_,_,_,_,_,_,_,_,_,_,_,_,_,_,_,_,_,_,_,_,_,_,_,_,.tuple #[.agg (EC x), .bool is],.pointer (some ⟨A.g, 0, none⟩),.pointer (some ⟨A.g, 0, none⟩),.pointer (some ⟨A.g, 1, none⟩),.pointer (some ⟨A.hf + 1, 0, none⟩),.int .i64 v,.pointer (some ⟨w.heap.size, 0, none⟩),.agg (MC (mD f)),.tuple #[.agg (EC x), .bool is],_,_,_,_,_,_,_,_,_,_,_,_,_,_,_,_,_,_,_,_,_,_,_,_,_,_,_,_], []⟩ _
        refine wpAnyH_take (i := 9) (v := .agg (EC x)) rfl (by kernel_rfl) (by kernel_rfl) (by kernel_rfl) (fun _ _ _ h => h) (Or.inl ⟨by rfl, ?_⟩) hHeld ?_
        · intro W hW; (try dsimp only at hW); go_simp
        change wpAnyH _ _ _ _ _ _ _ ⟨#[.pointer (some ⟨A.g, 0, none⟩),.int .i64 p,_,.int .i64 t,_,_,.pointer (some ⟨w.heap.size, 0, none⟩),_,.pointer (some ⟨w.heap.size + 1, 0, none⟩),.int .i64 v,_,_,.pointer (some ⟨k12, 0, none⟩),_,_,_,_,_,_,_,_,_,_,_,_,_,_,_,_,_,_,_,_,_,_,_,_,_,_,_,.tuple #[.agg (EC x), .bool is],.pointer (some ⟨A.g, 0, none⟩),.pointer (some ⟨A.g, 0, none⟩),.pointer (some ⟨A.g, 1, none⟩),.pointer (some ⟨A.hf + 1, 0, none⟩),.int .i64 v,.pointer (some ⟨w.heap.size, 0, none⟩),.agg (MC (mD f)),.tuple #[.agg (EC x), .bool is],.agg (EC x),_,_,_,_,_,_,_,_,_,_,_,_,_,_,_,_,_,_,_,_,_,_,_,_,_,_,_], []⟩ _
        refine wpAnyH_take (i := 10) (v := .bool is) rfl (by kernel_rfl) (by kernel_rfl) (by kernel_rfl) (fun _ _ _ h => h) (Or.inl ⟨by rfl, ?_⟩) hHeld ?_
        · intro W hW; (try dsimp only at hW); go_simp
        change wpAnyH _ _ _ _ _ _ _ ⟨#[.pointer (some ⟨A.g, 0, none⟩),.int .i64 p,_,.int .i64 t,_,_,.pointer (some ⟨w.heap.size, 0, none⟩),_,.pointer (some ⟨w.heap.size + 1, 0, none⟩),.int .i64 v,_,_,.pointer (some ⟨k12, 0, none⟩),_,_,_,_,_,_,_,_,_,_,_,_,_,_,_,_,_,_,_,_,_,_,_,_,_,_,_,.tuple #[.agg (EC x), .bool is],.pointer (some ⟨A.g, 0, none⟩),.pointer (some ⟨A.g, 0, none⟩),.pointer (some ⟨A.g, 1, none⟩),.pointer (some ⟨A.hf + 1, 0, none⟩),.int .i64 v,.pointer (some ⟨w.heap.size, 0, none⟩),.agg (MC (mD f)),.tuple #[.agg (EC x), .bool is],.agg (EC x),.bool is,_,_,_,_,_,_,_,_,_,_,_,_,_,_,_,_,_,_,_,_,_,_,_,_,_,_], []⟩ _
        refine wpAnyH_ready (rs := [11]) (by kernel_rfl) (by simp) ?_
        refine AllReadyH.cons rfl (fun K hK => ?_) AllReadyH.nil
        · skip
          go_simp
          have bz : Box (y20.alloc (.cells (EC zE) 61)) y20.heap.size (ecl zE) := Box.new y20 (ecl zE) 61
          have L11 : Hid (z6.heap.size ≤ y20.heap.size) := hide BW.out.size
          have NE : Hid (k12 ≠ y20.heap.size) := hide (by have := E12.out.lt; omega)
          replace E12 := hide (E12.out.on (below_alloc y20 (.cells (EC zE) 61)))
          replace BW := hide (belowOn BW.out (below_alloc y20 (.cells (EC zE) 61)))
          generalize (y20.alloc (.cells (EC zE) 61)) = y21 at *
          generalize y20.heap.size = k11 at *
          have E11 := hide bz
          refine hK.out _ _ (SS.out _ BW.out).1 (fun hHeld => ?_)
          clear hK K bz
          change wpAnyH _ _ _ _ _ _ _ ⟨#[.pointer (some ⟨A.g, 0, none⟩),.int .i64 p,_,.int .i64 t,_,_,.pointer (some ⟨w.heap.size, 0, none⟩),_,.pointer (some ⟨w.heap.size + 1, 0, none⟩),.int .i64 v,_,.pointer (some ⟨k11, 0, none⟩),.pointer (some ⟨k12, 0, none⟩),_,_,_,_,_,_,_,_,_,_,_,_,_,_,_,_,_,_,_,_,_,_,_,_,_,_,_,.tuple #[.agg (EC x), .bool is],.pointer (some ⟨A.g, 0, none⟩),.pointer (some ⟨A.g, 0, none⟩),.pointer (some ⟨A.g, 1, none⟩),.pointer (some ⟨A.hf + 1, 0, none⟩),.int .i64 v,.pointer (some ⟨w.heap.size, 0, none⟩),.agg (MC (mD f)),.tuple #[.agg (EC x), .bool is],.agg (EC x),.bool is,_,_,_,_,_,_,_,_,_,_,_,_,_,_,_,_,_,_,_,_,_,_,_,_,_,_], []⟩ _
          have NE12 : k12 ≠ k11 := by first | exact NE.out | exact fun h => NE.out h.symm
          refine wpAnyH_ready (rs := [13]) (by kernel_rfl) (by simp) ?_
          refine AllReadyH.cons rfl (fun K hK => ?_) AllReadyH.nil
          rw [if_pos (by rfl)]
          refine wp_store_mid 61 (.tmp 11) (.tmp 49) rfl k11 0 (EC x) rfl rfl E11.out.th Tryz.size61 (one_EC x) ?_
          have G3 := setCells_grown k11 (ecl x) 0 y21
          have bf := E11.out.self (cs' := ecl x) rfl
          have BW3 := below_grown BW.out G3 L11.out BW.out.size
          have B12 := E12.out.kept (r := k11) NE12 G3
          have e4 : World.setCells y21 k11 0 (EC x).toList = World.setCells y21 k11 0 (ecl x) := rfl
          rw [e4]
          generalize World.setCells y21 k11 0 (ecl x) = y22 at *
          refine hK.out _ _ (SS.out _ BW3).1 (fun hHeld => ?_)
          replace E11 := hide bf
          replace E12 := hide B12
          replace BW := hide BW3
          clear hK K G3 bf BW3 e4 B12
          change wpAnyH _ _ _ _ _ _ _ ⟨#[.pointer (some ⟨A.g, 0, none⟩),.int .i64 p,_,.int .i64 t,_,_,.pointer (some ⟨w.heap.size, 0, none⟩),_,.pointer (some ⟨w.heap.size + 1, 0, none⟩),.int .i64 v,_,.pointer (some ⟨k11, 0, none⟩),.pointer (some ⟨k12, 0, none⟩),_,_,_,_,_,_,_,_,_,_,_,_,_,_,_,_,_,_,_,_,_,_,_,_,_,_,_,.tuple #[.agg (EC x), .bool is],.pointer (some ⟨A.g, 0, none⟩),.pointer (some ⟨A.g, 0, none⟩),.pointer (some ⟨A.g, 1, none⟩),.pointer (some ⟨A.hf + 1, 0, none⟩),.int .i64 v,.pointer (some ⟨w.heap.size, 0, none⟩),.agg (MC (mD f)),.tuple #[.agg (EC x), .bool is],.agg (EC x),.bool is,_,_,_,_,_,_,_,_,_,_,_,_,_,_,_,_,_,_,_,_,_,_,_,_,_,_], []⟩ _
          refine wpAnyH_ready (rs := [14]) (by kernel_rfl) (by simp) ?_
          refine AllReadyH.cons rfl (fun K hK => ?_) AllReadyH.nil
          rw [if_pos (by rfl)]
          have hc12 := E12.out.cell 0 _ rfl
          have hf12 := E12.out.free 0 (by simp)
          have G4 := setCell_grown y22 k12 0 (.bool is)
          have bg := E12.out.setAt (j := 0) (by simp) (.bool is)
          have BW4 := below_grown BW.out G4 L12.out BW.out.size
          have B11 := E11.out.kept (r := k12) (Ne.symm NE12) G4
          go_simp
          generalize World.setCell y22 ⟨k12, 0, none⟩ (.bool is) = y23 at *
          refine hK.out _ _ (SS.out _ BW4).1 (fun hHeld => ?_)
          replace E11 := hide B11
          have E12b : Hid (Box y23 k12 [.bool is]) := hide bg
          replace BW := hide BW4
          clear hK K G4 bg BW4 B11 hc12 hf12 E12
          change wpAnyH _ _ _ _ _ _ _ ⟨#[.pointer (some ⟨A.g, 0, none⟩),.int .i64 p,_,.int .i64 t,_,_,.pointer (some ⟨w.heap.size, 0, none⟩),_,.pointer (some ⟨w.heap.size + 1, 0, none⟩),.int .i64 v,_,.pointer (some ⟨k11, 0, none⟩),.pointer (some ⟨k12, 0, none⟩),_,_,_,_,_,_,_,_,_,_,_,_,_,_,_,_,_,_,_,_,_,_,_,_,_,_,_,.tuple #[.agg (EC x), .bool is],.pointer (some ⟨A.g, 0, none⟩),.pointer (some ⟨A.g, 0, none⟩),.pointer (some ⟨A.g, 1, none⟩),.pointer (some ⟨A.hf + 1, 0, none⟩),.int .i64 v,.pointer (some ⟨w.heap.size, 0, none⟩),.agg (MC (mD f)),.tuple #[.agg (EC x), .bool is],.agg (EC x),.bool is,_,_,_,_,_,_,_,_,_,_,_,_,_,_,_,_,_,_,_,_,_,_,_,_,_,_], []⟩ _
          refine wpAnyH_done (by kernel_rfl) ?_ _
          go_wp2_with fail
          go_meet
          case rel => exact ⟨BW.out, k11, k12, rfl, rfl, E11.out, E12b.out⟩
      · skip
        go_simp
        have bz : Box (y19.alloc (.cells (EC zE) 61)) y19.heap.size (ecl zE) := Box.new y19 (ecl zE) 61
        have L11 : Hid (z6.heap.size ≤ y19.heap.size) := hide BW.out.size
        have NE : Hid (k12 ≠ y19.heap.size) := hide (by have := E12.out.lt; omega)
        replace E12 := hide (E12.out.on (below_alloc y19 (.cells (EC zE) 61)))
        replace BW := hide (belowOn BW.out (below_alloc y19 (.cells (EC zE) 61)))
        generalize (y19.alloc (.cells (EC zE) 61)) = y24 at *
        generalize y19.heap.size = k11 at *
        have E11 := hide bz
        refine hK.out _ _ (SS.out _ BW.out).1 (fun hHeld => ?_)
        clear hK K bz
        change wpAnyH _ _ _ _ _ _ _ ⟨#[.pointer (some ⟨A.g, 0, none⟩),.int .i64 p,_,.int .i64 t,_,_,.pointer (some ⟨w.heap.size, 0, none⟩),_,.pointer (some ⟨w.heap.size + 1, 0, none⟩),.int .i64 v,_,.pointer (some ⟨k11, 0, none⟩),.pointer (some ⟨k12, 0, none⟩),_,_,_,_,_,_,_,_,_,_,_,_,_,_,_,_,_,_,_,_,_,_,_,_,_,_,_,_,.pointer (some ⟨A.g, 0, none⟩),.pointer (some ⟨A.g, 0, none⟩),.pointer (some ⟨A.g, 1, none⟩),.pointer (some ⟨A.hf + 1, 0, none⟩),.int .i64 v,.pointer (some ⟨w.heap.size, 0, none⟩),.agg (MC (mD f)),_,_,_,_,_,_,_,_,_,_,_,_,_,_,_,_,_,_,_,_,_,_,_,_,_,_,_,_,_], []⟩ _
        refine wpAnyH_ready (rs := [7]) (by kernel_rfl) (by simp) ?_
        refine AllReadyH.cons rfl (fun K hK => ?_) AllReadyH.nil
        · skip
          go_simp
          obtain ⟨ps, hpf⟩ := (SS.out _ BW.out).2.pf
          refine (look11 A.hf ps B1.F v (mD f) _ HMD.out hpf).mono ?_
          rw [← HXX.out, ← HIS.out]
          rintro e y25 ⟨rfl, b1⟩
          replace BW := hide (belowOn BW.out b1)
          replace E11 := hide (E11.out.on b1)
          replace E12 := hide (E12.out.on b1)
          refine hK.out _ _ (SS.out _ BW.out).1 (fun hHeld => ?_)
          clear hK K b1 hpf
          change wpAnyH _ _ _ _ _ _ _ ⟨#[.pointer (some ⟨A.g, 0, none⟩),.int .i64 p,_,.int .i64 t,_,_,.pointer (some ⟨w.heap.size, 0, none⟩),_,.pointer (some ⟨w.heap.size + 1, 0, none⟩),.int .i64 v,_,.pointer (some ⟨k11, 0, none⟩),.pointer (some ⟨k12, 0, none⟩),_,_,_,_,_,_,_,_,_,_,_,_,_,_,_,_,_,_,_,_,_,_,_,_,_,_,_,_,.pointer (some ⟨A.g, 0, none⟩),.pointer (some ⟨A.g, 0, none⟩),.pointer (some ⟨A.g, 1, none⟩),.pointer (some ⟨A.hf + 1, 0, none⟩),.int .i64 v,.pointer (some ⟨w.heap.size, 0, none⟩),.agg (MC (mD f)),.tuple #[.agg (EC x), .bool is],_,_,_,_,_,_,_,_,_,_,_,_,_,_,_,_,_,_,_,_,_,_,_,_,_,_,_,_], []⟩ _
          refine wpAnyH_take (i := 8) (v := .tuple #[.agg (EC x), .bool is]) rfl (by kernel_rfl) (by kernel_rfl) (by kernel_rfl) (fun _ _ _ h => h) (Or.inl ⟨by rfl, ?_⟩) hHeld ?_
          · intro W hW; (try dsimp only at hW); go_simp
          change wpAnyH _ _ _ _ _ _ _ ⟨#[.pointer (some ⟨A.g, 0, none⟩),.int .i64 p,_,.int .i64 t,_,_,.pointer (some ⟨w.heap.size, 0, none⟩),_,.pointer (some ⟨w.heap.size + 1, 0, none⟩),.int .i64 v,_,.pointer (some ⟨k11, 0, none⟩),.pointer (some ⟨k12, 0, none⟩),_,_,_,_,_,_,_,_,_,_,_,_,_,_,_,_,_,_,_,_,_,_,_,_,_,_,_,.tuple #[.agg (EC x), .bool is],.pointer (some ⟨A.g, 0, none⟩),.pointer (some ⟨A.g, 0, none⟩),.pointer (some ⟨A.g, 1, none⟩),.pointer (some ⟨A.hf + 1, 0, none⟩),.int .i64 v,.pointer (some ⟨w.heap.size, 0, none⟩),.agg (MC (mD f)),.tuple #[.agg (EC x), .bool is],_,_,_,_,_,_,_,_,_,_,_,_,_,_,_,_,_,_,_,_,_,_,_,_,_,_,_,_], []⟩ _
          refine wpAnyH_take (i := 9) (v := .agg (EC x)) rfl (by kernel_rfl) (by kernel_rfl) (by kernel_rfl) (fun _ _ _ h => h) (Or.inl ⟨by rfl, ?_⟩) hHeld ?_
          · intro W hW; (try dsimp only at hW); go_simp
          change wpAnyH _ _ _ _ _ _ _ ⟨#[.pointer (some ⟨A.g, 0, none⟩),.int .i64 p,_,.int .i64 t,_,_,.pointer (some ⟨w.heap.size, 0, none⟩),_,.pointer (some ⟨w.heap.size + 1, 0, none⟩),.int .i64 v,_,.pointer (some ⟨k11, 0, none⟩),.pointer (some ⟨k12, 0, none⟩),_,_,_,_,_,_,_,_,_,_,_,_,_,_,_,_,_,_,_,_,_,_,_,_,_,_,_,.tuple #[.agg (EC x), .bool is],.pointer (some ⟨A.g, 0, none⟩),.pointer (some ⟨A.g, 0, none⟩),.pointer (some ⟨A.g, 1, none⟩),.pointer (some ⟨A.hf + 1, 0, none⟩),.int .i64 v,.pointer (some ⟨w.heap.size, 0, none⟩),.agg (MC (mD f)),.tuple #[.agg (EC x), .bool is],.agg (EC x),_,_,_,_,_,_,_,_,_,_,_,_,_,_,_,_,_,_,_,_,_,_,_,_,_,_,_], []⟩ _
          refine wpAnyH_take (i := 10) (v := .bool is) rfl (by kernel_rfl) (by kernel_rfl) (by kernel_rfl) (fun _ _ _ h => h) (Or.inl ⟨by rfl, ?_⟩) hHeld ?_
          · intro W hW; (try dsimp only at hW); go_simp
          change wpAnyH _ _ _ _ _ _ _ ⟨#[.pointer (some ⟨A.g, 0, none⟩),.int .i64 p,_,.int .i64 t,_,_,.pointer (some ⟨w.heap.size, 0, none⟩),_,.pointer (some ⟨w.heap.size + 1, 0, none⟩),.int .i64 v,_,.pointer (some ⟨k11, 0, none⟩),.pointer (some ⟨k12, 0, none⟩),_,_,_,_,_,_,_,_,_,_,_,_,_,_,_,_,_,_,_,_,_,_,_,_,_,_,_,.tuple #[.agg (EC x), .bool is],.pointer (some ⟨A.g, 0, none⟩),.pointer (some ⟨A.g, 0, none⟩),.pointer (some ⟨A.g, 1, none⟩),.pointer (some ⟨A.hf + 1, 0, none⟩),.int .i64 v,.pointer (some ⟨w.heap.size, 0, none⟩),.agg (MC (mD f)),.tuple #[.agg (EC x), .bool is],.agg (EC x),.bool is,_,_,_,_,_,_,_,_,_,_,_,_,_,_,_,_,_,_,_,_,_,_,_,_,_,_], []⟩ _
          have NE12 : k12 ≠ k11 := by first | exact NE.out | exact fun h => NE.out h.symm
          refine wpAnyH_ready (rs := [13]) (by kernel_rfl) (by simp) ?_
          refine AllReadyH.cons rfl (fun K hK => ?_) AllReadyH.nil
          rw [if_pos (by rfl)]
          refine wp_store_mid 61 (.tmp 11) (.tmp 49) rfl k11 0 (EC x) rfl rfl E11.out.th Tryz.size61 (one_EC x) ?_
          have G3 := setCells_grown k11 (ecl x) 0 y25
          have bf := E11.out.self (cs' := ecl x) rfl
          have BW3 := below_grown BW.out G3 L11.out BW.out.size
          have B12 := E12.out.kept (r := k11) NE12 G3
          have e4 : World.setCells y25 k11 0 (EC x).toList = World.setCells y25 k11 0 (ecl x) := rfl
          rw [e4]
          generalize World.setCells y25 k11 0 (ecl x) = y26 at *
          refine hK.out _ _ (SS.out _ BW3).1 (fun hHeld => ?_)
          replace E11 := hide bf
          replace E12 := hide B12
          replace BW := hide BW3
          clear hK K G3 bf BW3 e4 B12
          change wpAnyH _ _ _ _ _ _ _ ⟨#[.pointer (some ⟨A.g, 0, none⟩),.int .i64 p,_,.int .i64 t,_,_,.pointer (some ⟨w.heap.size, 0, none⟩),_,.pointer (some ⟨w.heap.size + 1, 0, none⟩),.int .i64 v,_,.pointer (some ⟨k11, 0, none⟩),.pointer (some ⟨k12, 0, none⟩),_,_,_,_,_,_,_,_,_,_,_,_,_,_,_,_,_,_,_,_,_,_,_,_,_,_,_,.tuple #[.agg (EC x), .bool is],.pointer (some ⟨A.g, 0, none⟩),.pointer (some ⟨A.g, 0, none⟩),.pointer (some ⟨A.g, 1, none⟩),.pointer (some ⟨A.hf + 1, 0, none⟩),.int .i64 v,.pointer (some ⟨w.heap.size, 0, none⟩),.agg (MC (mD f)),.tuple #[.agg (EC x), .bool is],.agg (EC x),.bool is,_,_,_,_,_,_,_,_,_,_,_,_,_,_,_,_,_,_,_,_,_,_,_,_,_,_], []⟩ _
          refine wpAnyH_ready (rs := [14]) (by kernel_rfl) (by simp) ?_
          refine AllReadyH.cons rfl (fun K hK => ?_) AllReadyH.nil
          rw [if_pos (by rfl)]
          have hc12 := E12.out.cell 0 _ rfl
          have hf12 := E12.out.free 0 (by simp)
          have G4 := setCell_grown y26 k12 0 (.bool is)
          have bg := E12.out.setAt (j := 0) (by simp) (.bool is)
          have BW4 := below_grown BW.out G4 L12.out BW.out.size
          have B11 := E11.out.kept (r := k12) (Ne.symm NE12) G4
          go_simp
          generalize World.setCell y26 ⟨k12, 0, none⟩ (.bool is) = y27 at *
          refine hK.out _ _ (SS.out _ BW4).1 (fun hHeld => ?_)
          replace E11 := hide B11
          have E12b : Hid (Box y27 k12 [.bool is]) := hide bg
          replace BW := hide BW4
          clear hK K G4 bg BW4 B11 hc12 hf12 E12
          change wpAnyH _ _ _ _ _ _ _ ⟨#[.pointer (some ⟨A.g, 0, none⟩),.int .i64 p,_,.int .i64 t,_,_,.pointer (some ⟨w.heap.size, 0, none⟩),_,.pointer (some ⟨w.heap.size + 1, 0, none⟩),.int .i64 v,_,.pointer (some ⟨k11, 0, none⟩),.pointer (some ⟨k12, 0, none⟩),_,_,_,_,_,_,_,_,_,_,_,_,_,_,_,_,_,_,_,_,_,_,_,_,_,_,_,.tuple #[.agg (EC x), .bool is],.pointer (some ⟨A.g, 0, none⟩),.pointer (some ⟨A.g, 0, none⟩),.pointer (some ⟨A.g, 1, none⟩),.pointer (some ⟨A.hf + 1, 0, none⟩),.int .i64 v,.pointer (some ⟨w.heap.size, 0, none⟩),.agg (MC (mD f)),.tuple #[.agg (EC x), .bool is],.agg (EC x),.bool is,_,_,_,_,_,_,_,_,_,_,_,_,_,_,_,_,_,_,_,_,_,_,_,_,_,_], []⟩ _
          refine wpAnyH_done (by kernel_rfl) ?_ _
          go_wp2_with fail
          go_meet
          case rel => exact ⟨BW.out, k11, k12, rfl, rfl, E11.out, E12b.out⟩
  case rest =>
  obtain ⟨bb, k11, k12, rfl, rfl, he, hi⟩ := hcut
  have E11 := hide he
  have E12 := hide hi
  replace HR := hide (HR.out.on bb)
  replace HX := hide (HX.out.on bb)
  replace HK := hide (HK.out.on bb)
  replace HY := hide (HY.out.on bb)
  replace HC := hide (Mid.on HC.out bb)
  clear he hi SS BW bb
  have c12 := E12.out.cell 0 _ rfl
  have c7 := E11.out.cell 7 _ rfl
  rcases Bool.eq_false_or_eq_true (is && x.p == p) with hq | hq
  · replace hW := hide (hW.out.trans (by rw [outW_b7 HR.out.wf (by rw [← HXX.out, ← HIS.out]; exact hq)]))
    rw [Bool.and_eq_true] at hq
    obtain ⟨hq1, hq2⟩ := hq
    subst hq1
    have tkE : True := trivial
    go_wp2_with (first | (have _t := tkE; refine wpl_putW 7 v 0 none 0 0 _ (.tmp 8) (.tmp 59) rfl HK.out rfl ?_ ?_ ?_ ?_; rfl; rfl; rfl; clear tkE; intro z9 K9 G9; have HK9 := hide K9; have HG9 := hide G9; clear K9 G9) | (refine bodyPost_ret (res_way rfl rfl HK9.out) rfl ?_; rw [hW.out]; exact ⟨none, [], 0, rfl, Ots.nothing _, rfl, HR.out.grown HG9.out (Nat.le_succ_of_le HKW.out), HC.out.grown HG9.out (Or.inl (Nat.le_succ _)), OwnO.nil w⟩))
  have HQ := hide hq
  have hi2 : is = false ∨ (is = true ∧ (x.p == p) = false) := by
    cases is
    · exact Or.inl rfl
    · exact Or.inr ⟨rfl, by simpa using hq⟩
  replace hW := hide (hW.out.trans (by rw [outW_q HR.out.wf (by rw [← HXX.out, ← HIS.out]; exact hq) rfl]))
  rw [← HXX.out, ← HIS.out] at hW
  clear hq
  have tkR : True := trivial
  have bA := below_alloc wc (.cells #[.int .i64 0, .int .i64 0, .int .i64 0, .slice none 0 0] 50)
  have KA : Box (wc.alloc (.cells #[.int .i64 0, .int .i64 0, .int .i64 0, .slice none 0 0] 50)) wc.heap.size (wcl 0 0 0 (.slice none 0 0)) := Box.new wc (wcl 0 0 0 (.slice none 0 0)) 50
  have HKA := hide KA
  have HBA := hide bA
  have HLW : Hid (w.heap.size + 1 < wc.heap.size) := hide HK.out.lt
  clear bA KA
  rcases hi2 with hi2 | ⟨hi2, hq2⟩
  all_goals
    subst hi2
    have tk5 : True := trivial
    have tk6 : True := trivial
    go_wp2_with (first | (have _t := tk5; refine wpl_putW 0 v x.p none 0 0 _ (.tmp 13) (.tmp 63) rfl HKA.out rfl ?_ ?_ ?_ ?_; rfl; rfl; rfl; clear tk5; intro z9 K9 G9; have BB9 : Below wc.heap.size wc z9 := below_grown HBA.out G9 (Nat.le_refl _) HBA.out.size; have HX9 := hide (HX.out.on BB9); have HK13 := hide K9; have HB9 := hide BB9; clear K9 G9 BB9) | (have _t := tk6; refine wpl_frame (.tmp 6) rfl HX9.out ?_ ?_ ?_; rfl; rfl; clear tk6))
    replace HR := hide (HR.out.on HB9.out)
    replace HK := hide (HK.out.on HB9.out)
    replace HY := hide (HY.out.on HB9.out)
    replace HC := hide (Mid.on HC.out HB9.out)
    replace E11 := hide (E11.out.on HB9.out)
    replace E12 := hide (E12.out.on HB9.out)
    have hk13 : wc.heap.size < z9.heap.size := HK13.out.lt
    obtain ⟨k13, hk⟩ : ∃ k13, k13 = wc.heap.size := ⟨_, rfl⟩
    rw [← hk] at HK13 hk13 HLW
    rw [← hk]
    have HKL := hide hk13
    clear hk13 HX HX9 HKA HBA HB9 hk c12 c7
    refine (outsB A B1 v p f a n c k12 k11 _ x z9 HR.out HY.out HVI.out ⟨E12.out, E11.out⟩).mono ?_
    rintro e z8 ⟨ao, xs, cc, rfl, hO, hm, bb, hown⟩
    have HO := hide hO
    have HM := hide hm
    have HOW := hide hown
    have HLZ : Hid (z9.heap.size ≤ z8.heap.size) := hide bb.size
    replace HR := hide (HR.out.on bb)
    replace HK := hide (HK.out.on bb)
    replace HC := hide (Mid.on HC.out bb)
    have HK8 := hide (HK13.out.on bb)
    clear hO hm bb hown HY E11 E12 HK13
    have c3 := HK8.out.cell 3 _ rfl
    have f3 := HK8.out.free 3 (by simp [wcl])
    have Ks : Box (z8.setCell ⟨k13, 3, none⟩ (.slice ao xs.length cc)) k13 (wcl 0 v x.p (.slice ao xs.length cc)) := HK8.out.setAt (j := 3) (by simp [wcl]) (.slice ao xs.length cc)
    have G8 := setCell_grown z8 k13 3 (.slice ao xs.length cc)
    have apO : ∀ b o, ao = some ⟨b, o, none⟩ → b ≠ k13 := fun b o e => by have := HOW.out.1 b o e; have := HKL.out; omega
    have apX : ∀ y ∈ xs, ∀ b o, y.a = some ⟨b, o, none⟩ → 0 < y.n → b ≠ k13 := fun y hy b o e hp => by have := HOW.out.2 y hy b o e hp; have := HKL.out; omega
    have apO8 : ∀ b o, ao = some ⟨b, o, none⟩ → b ≠ w.heap.size + 1 := fun b o e => by have := HOW.out.1 b o e; have := HKL.out; have := HLW.out; omega
    have apX8 : ∀ y ∈ xs, ∀ b o, y.a = some ⟨b, o, none⟩ → 0 < y.n → b ≠ w.heap.size + 1 := fun y hy b o e hp => by have := HOW.out.2 y hy b o e hp; have := HKL.out; have := HLW.out; omega
    have HA1 := hide apX
    have HA2 := hide apX8
    have HA3 := hide apO
    have HA4 := hide apO8
    replace HO := hide (ots_apart HO.out G8 HA3.out HA1.out)
    replace HR := hide (HR.out.grown G8 (by have := HLW.out; have := HKW.out; omega))
    replace HK := hide (HK.out.kept (r := k13) (by have := HLW.out; omega) G8)
    replace HC := hide (HC.out.grown G8 (Or.inl (by have := HLW.out; omega)))
    have HOW2 : Hid (OwnO w ao xs) := hide (HOW.out.from (by have := HLW.out; have := HKL.out; omega))
    have HKS := hide Ks
    have d3 := Ks.cell 3 _ rfl
    have hW2 : Hid (wayP B p f t = ((if xs.length = 0 then ⟨8, v, x.p, []⟩ else ⟨0, v, x.p, xs.map Ow.o⟩), B1)) := hide (by
      rw [hW.out, ← HM.out]
      cases xs <;> simp)
    clear apO apX apO8 apX8 Ks HOW HLZ HKL HK8 HM hW G8
    by_cases hx0 : xs.length = 0
    · have hx2 : xs.map Ow.o = [] := by rw [List.eq_nil_of_length_eq_zero hx0]; rfl
      rw [if_pos hx0] at hW2
      have hx1 : ((xs.length : Int) == 0) = true := by simp [hx0]
      have HX2 := hide hx2
      have HX0 := hide hx0
      clear hx2 hx0
      have d0 := HKS.out.cell 0 _ rfl
      have fd0 := HKS.out.free 0 (by simp [wcl])
      have Kt : Box ((z8.setCell ⟨k13, 3, none⟩ (.slice ao xs.length cc)).setCell ⟨k13, 0, none⟩ (.int .i64 8)) k13 (wcl 8 v x.p (.slice ao xs.length cc)) := HKS.out.setAt (j := 0) (by simp [wcl]) (.int .i64 8)
      have G7 := setCell_grown (z8.setCell ⟨k13, 3, none⟩ (.slice ao xs.length cc)) k13 0 (.int .i64 8)
      replace HO := hide (ots_apart HO.out G7 HA3.out HA1.out)
      replace HR := hide (HR.out.grown G7 (by have := HLW.out; have := HKW.out; omega))
      replace HK := hide (HK.out.kept (r := k13) (by have := HLW.out; omega) G7)
      replace HC := hide (HC.out.grown G7 (Or.inl (by have := HLW.out; omega)))
      have HKT := hide Kt
      clear Kt G7
      have tk7 : True := trivial
      go_wp2_with (first | (refine wpl_wayL (.tmp 13) rfl HKT.out rfl rfl ?_) | (have _t := tk7; refine wpl_putW 8 v x.p ao xs.length cc _ (.tmp 8) (.tmp 76) rfl HK.out rfl ?_ ?_ ?_ ?_; rfl; rfl; rfl; clear tk7; intro z7 K9 G9; have HK9 := hide K9; have HG9 := hide G9; clear K9 G9) | (refine bodyPost_ret (res_way rfl rfl HK9.out) rfl ?_; rw [hW2.out]; exact ⟨ao, xs, cc, rfl, ots_apart HO.out HG9.out HA4.out HA2.out, HX2.out, HR.out.grown HG9.out (Nat.le_succ_of_le HKW.out), HC.out.grown HG9.out (Or.inl (Nat.le_succ _)), HOW2.out⟩))
    · rw [if_neg hx0] at hW2
      have hx1 : ((xs.length : Int) == 0) = false := beq_eq_false_iff_ne.mpr (by omega)
      have tk7 : True := trivial
      go_wp2_with (first | (refine wpl_wayL (.tmp 13) rfl HKS.out rfl rfl ?_) | (have _t := tk7; refine wpl_putW 0 v x.p ao xs.length cc _ (.tmp 8) (.tmp 76) rfl HK.out rfl ?_ ?_ ?_ ?_; rfl; rfl; rfl; clear tk7; intro z7 K9 G9; have HK9 := hide K9; have HG9 := hide G9; clear K9 G9) | (refine bodyPost_ret (res_way rfl rfl HK9.out) rfl ?_; rw [hW2.out]; exact ⟨ao, xs, cc, rfl, ots_apart HO.out HG9.out HA4.out HA2.out, rfl, HR.out.grown HG9.out (Nat.le_succ_of_le HKW.out), HC.out.grown HG9.out (Or.inl (Nat.le_succ _)), HOW2.out⟩))
end
end Go.Proofs.YtgpdjfaklcmoiaaGreat
/- Contract: Take of the program's bridge. -/
namespace Go.Proofs.YtgpdjfaklcmoiaaGreat
open Go.RowKit Go.PlainAid

theorem ots_mid {w z : World} {N M : Nat} {ao : Option Addr} {n c : Nat} {xs : List Ow} (O : Ots w ao n c xs) (g : Mid N M w z) (h1 : ∀ b o, ao = some ⟨b, o, none⟩ → M ≤ b) (h2 : ∀ x ∈ xs, ∀ b o, x.a = some ⟨b, o, none⟩ → 0 < x.n → M ≤ b) : Ots z ao n c xs :=
  ⟨O.len, O.nil, fun j x hj => by
    obtain ⟨b, o, e, r⟩ := O.at_ j x hj
    refine ⟨b, o, e, fun i v hi => ?_⟩
    rw [World.cell?_of_block (a := ⟨b, o + j * 18 + i, none⟩) (g.block b (World.block_lt_of_cell? w _ (r i v hi)) (Or.inr (h1 b o e)))]
    exact r i v hi, O.le, O.mx, fun x hx => byt_keep (O.byt x hx) (fun b o v e hp hc => g.block b (World.block_lt_of_cell? w _ hc) (Or.inr (h2 x hx b o e hp)))⟩
set_option maxRecDepth 100000 in
set_option maxHeartbeats 8000000 in
theorem takeQ (A : PAd) (B : Br) (p : Int) (f : Fd) (a : Option Addr) (n c : Nat) (t : Int) (w : World) (H : PB w A B) (hY : Byt w a n c f.bs) (hd : Mok (mD f)) (hs : Mok (mS f)) (hls : ∀ x ∈ B.ln, x + 1 < 1000000) (hcs : ∀ x ∈ B.ct, x + 1 < 1000000) (hya : ∀ b o, a = some ⟨b, o, none⟩ → 0 < n → b < A.lo ∨ A.hi ≤ b) :
    Calls Tryz.prog 19 #[.pointer (some ⟨A.g, 0, none⟩), .int .i64 p, .agg (FC f (.slice a n c)), .int .i64 t] w (WyQ A (tk B p f t).1 (tk B p f t).2 w) := by
  have b0 := below_alloc w (.cells (FC f (.slice a n c)) 38)
  have b1 := below_alloc (w.alloc (.cells (FC f (.slice a n c)) 38)) (.cells (wcl 0 0 0 (.slice none 0 0)).toArray 50)
  have X0 : Box ((w.alloc (.cells (FC f (.slice a n c)) 38)).alloc (.cells (wcl 0 0 0 (.slice none 0 0)).toArray 50)) w.heap.size (fcl f (.slice a n c)) := (Box.new w (fcl f (.slice a n c)) 38).alloc (.cells (wcl 0 0 0 (.slice none 0 0)).toArray 50)
  have K0 := Box.new (w.alloc (.cells (FC f (.slice a n c)) 38)) (wcl 0 0 0 (.slice none 0 0)) 50
  have hsz := World.size_alloc w (.cells (FC f (.slice a n c)) 38)
  rw [hsz] at K0
  have K1 : Box ((w.alloc (.cells (FC f (.slice a n c)) 38)).alloc (.cells (wcl 0 0 0 (.slice none 0 0)).toArray 50)) (w.heap.size + 1) (wcl 0 0 0 (.slice none 0 0)) := K0
  have HB := hide (belowOn b0 b1)
  have HX := hide X0
  have HK := hide K1
  have HKW : Hid (A.hi ≤ w.heap.size) := hide H.lt.2.2.2.2
  have HW := hide (fun z (b : Below w.heap.size w z) => wayQ A B p f a n c t z (H.on b) (hY.on b) hd hs hls hya)
  have HC : Hid (Mid A.lo A.hi w ((w.alloc (.cells (FC f (.slice a n c)) 38)).alloc (.cells (wcl 0 0 0 (.slice none 0 0)).toArray 50))) := hide (Mid.on (Mid.refl _ _ _) HB.out)
  have HCS := hide hcs
  have HCL := hide H.wf.cl
  clear b0 b1 X0 K0 K1 hsz H hY hd hs hls hcs hya
  have tk1 : True := trivial
  go_enter Tryz.func19, Tryz.ntmps19
  have hz : ((w.alloc (.cells (FC f (.slice a n c)) 38)).alloc (.cells #[.int .i64 0, .int .i64 0, .int .i64 0, .slice none 0 0] 50)) = ((w.alloc (.cells (FC f (.slice a n c)) 38)).alloc (.cells (wcl 0 0 0 (.slice none 0 0)).toArray 50)) := rfl
  go_wp2_with (first | (have _t := tk1; refine wpl_frame (.tmp 6) rfl HX.out ?_ ?_ ?_; rfl; rfl; clear tk1))
  generalize ((w.alloc (.cells (FC f (.slice a n c)) 38)).alloc (.cells (wcl 0 0 0 (.slice none 0 0)).toArray 50)) = z0 at *
  clear hz
  refine (HW.out z0 HB.out).mono ?_
  rintro e z1 ⟨ao, xs, cc, rfl, hO, hm, hR, hC, hown⟩
  have HOWN := hide hown
  have HTK : Hid (tk B p f t = ((wayP B p f t).1, { (wayP B p f t).2 with ct := inc (wayP B p f t).2.ct (wayP B p f t).1.c.toNat })) := hide rfl
  have hct := wayP_ct B p f t
  have hcb := wayP_c B p f t
  generalize (wayP B p f t) = WB at *
  obtain ⟨W, B1⟩ := WB
  obtain ⟨C, v, tt, oo⟩ := W
  dsimp only at *
  obtain ⟨j, rfl⟩ := Int.eq_ofNat_of_zero_le hcb.1
  have hj : j < 9 := by omega
  have HJ := hide hj
  have HO := hide hO
  have HM := hide hm
  have HR := hide hR
  have HZ0 : Hid (w.heap.size + 1 < z0.heap.size) := hide HK.out.lt
  have hK1 : Box z1 (w.heap.size + 1) (wcl 0 0 0 (.slice none 0 0)) := HK.out.block (hC.block _ HK.out.lt (Or.inr (by have := HKW.out; omega)))
  replace HK := hide hK1
  have HC2 := hide (HC.out.trans hC)
  have HCT := hide hct
  clear hO hm hR hC hK1 hct hcb hj HC hown
  obtain ⟨z2, hz2⟩ : ∃ z2, z2 = z1.alloc (.cells #[.int .i64 (j : Int), .int .i64 v, .int .i64 tt, .slice ao xs.length cc] 50) := ⟨_, rfl⟩
  have hz2' : z1.alloc (.cells #[.int .i64 (j : Int), .int .i64 v, .int .i64 tt, .slice ao xs.length cc] 50) = z2 := hz2.symm
  have B2 : Below z1.heap.size z1 z2 := by rw [hz2]; exact below_alloc z1 _
  have K9 : Box z2 z1.heap.size (wcl (j : Int) v tt (.slice ao xs.length cc)) := by rw [hz2]; exact Box.new z1 (wcl (j : Int) v tt (.slice ao xs.length cc)) 50
  have HK9 := hide K9
  have HR2 := hide (HR.out.on B2)
  have hcell := HR2.out.bx.cell (3 + j) _ (pbc_getC _ _ (j := j) (by rw [HCT.out, HCL.out]; exact HJ.out))
  have hfree := HR2.out.bx.free (3 + j) (by rw [pbc_len _ _ HR2.out.wf.cl HR2.out.wf.ll]; have := HJ.out; omega)
  have hinc := hide (HR2.out.incC (j := j) HJ.out (by rw [HCT.out]; exact HCS.out))
  have c0 := K9.cell 0 _ rfl
  have j0 : (0 : Int) ≤ (j : Int) := by omega
  have j1 : (j : Int) < 9 := by have := HJ.out; omega
  have HB2 := hide B2
  have HN1 : Hid (A.hi ≤ z1.heap.size) := hide HR.out.lt.2.2.2.2
  clear hz2 K9 B2
  have hwr : IntKind.i64.wrap (B1.ct.getD j 0 + 1) = B1.ct.getD j 0 + 1 := by
    have hm : B1.ct.getD j 0 ∈ B1.ct := by
      rw [List.getD_eq_getElem?_getD, List.getElem?_eq_getElem (by rw [HCT.out, HCL.out]; exact HJ.out)]
      exact List.getElem_mem _
    have h1 := HCS.out _ (by rw [← HCT.out]; exact hm)
    have h0 := (HR2.out.wf.cs _ hm).1
    exact IntWalk.i64_in _ (by omega)
  generalize B1.ct.getD j 0 = q0 at *
  go_wp2_with fail
  go_region
  have md : ∀ z : World, Mid A.lo A.hi z z.drew := fun z => Mid.on (Mid.refl _ _ _) ⟨rfl, rfl, rfl, Nat.le_refl _, fun _ _ => rfl⟩
  have hdm := hinc.out.2.trans (md _)
  have HR3 := hide hinc.out.1.drew
  have HC3 := hide ((Mid.on HC2.out HB2.out).trans hdm)
  have HN2 : Hid (z1.heap.size < z2.heap.size) := hide HK9.out.lt
  replace HK9 := hide (HK9.out.block (hdm.block _ HN2.out (Or.inr HN1.out)))
  have hK2 := HK.out.on HB2.out
  replace HK := hide (hK2.block (hdm.block _ hK2.lt (Or.inr (by have := HKW.out; omega))))
  have HO3 := hide (ots_mid (HO.out.on HB2.out) hdm (fun b o e => by have := HOWN.out.1 b o e; have := HKW.out; have := HZ0.out; omega) (fun x hx b o e hp => by have := HOWN.out.2 x hx b o e hp; have := HKW.out; have := HZ0.out; omega))
  clear hK2 hinc HR HC2 HO HR2 hcell hfree c0 hz2' HB2 hdm md
  generalize (z2.setCell ⟨A.g, 3 + j, none⟩ (.int .i64 (q0 + 1))).drew = z3 at *
  have HAP : Hid ((∀ b o, ao = some ⟨b, o, none⟩ → b ≠ w.heap.size + 1) ∧ ∀ x ∈ xs, ∀ b o, x.a = some ⟨b, o, none⟩ → 0 < x.n → b ≠ w.heap.size + 1) := hide ⟨fun b o e => by have := HOWN.out.1 b o e; have := HZ0.out; omega, fun x hx b o e hp => by have := HOWN.out.2 x hx b o e hp; have := HZ0.out; omega⟩
  have HOW2 : Hid (OwnO w ao xs) := hide (HOWN.out.from (by have := HZ0.out; omega))
  have tkE : True := trivial
  go_wp2_with (first | (refine wpl_wayL (.tmp 9) rfl HK9.out rfl rfl ?_) | (have _t := tkE; refine wpl_putW (j : Int) v tt ao xs.length cc _ (.tmp 8) (.tmp 26) rfl HK.out rfl ?_ ?_ ?_ ?_; rfl; rfl; rfl; clear tkE; intro z9 K9 G9; have HKZ := hide K9; have HG9 := hide G9; clear K9 G9) | (refine bodyPost_ret (res_way rfl rfl HKZ.out) rfl ?_; rw [HTK.out]; exact ⟨ao, xs, cc, rfl, ots_apart HO3.out HG9.out HAP.out.1 HAP.out.2, HM.out, HR3.out.grown HG9.out (Nat.le_succ_of_le HKW.out), HC3.out.grown HG9.out (Or.inl (Nat.le_succ _)), HOW2.out⟩))
end Go.Proofs.YtgpdjfaklcmoiaaGreat
/- Contracts: New, Counts, Learned of the program's bridge. -/
namespace Go.Proofs.YtgpdjfaklcmoiaaGreat
open Go.RowKit Go.PlainAid

set_option maxRecDepth 100000 in
set_option maxHeartbeats 2000000 in
theorem newQ (n r : Nat) (w : World) (h1 : 1 ≤ n) (h2 : n ≤ 63) (r1 : 1 ≤ r) (r2 : r ≤ 1024) :
    Calls Tryz.prog 12 #[.int .i64 n, .int .i64 r] w fun e w' => ∃ A, e = .returned (.tuple #[.pointer (some ⟨A.g, 0, none⟩), .int .i64 0]) ∧ PB w' A (bNew n r) ∧ w.heap.size ≤ A.lo ∧ Below w.heap.size w w' := by
  obtain ⟨i0, hi, hz0, hz1, hz2⟩ := info_parts Tryz.info3
  have a1 : ¬ (n : Int) < 1 := by omega
  have a3 : IntKind.i64.wrap ((n : Int) + 1) = ((n + 1 : Nat) : Int) := by rw [IntWalk.i64_in _ (by omega)]; omega
  have HW := hide (bw_new h1 h2 r1 r2)
  have N2 := hide h2
  have hv := hide (new25 (n + 1) w (by omega) (by omega))
  have hf := hide (fun z => new17 r z r1 r2)
  clear h1 h2 r1 r2
  go_enter Tryz.func12, Tryz.ntmps12
  go_wp2_with fail
  refine hv.out.mono ?_
  rintro e w1 ⟨rfl, RT1, B1⟩
  have HT := hide RT1
  have HB := hide B1
  clear RT1 B1
  go_wp2_with fail
  refine (hf.out w1).mono ?_
  rintro e w2 ⟨h, ps, rfl, RF1, hh, B2⟩
  have HF := hide RF1
  have HT2 := hide (HT.out.on B2)
  have HB2 := hide (belowOn HB.out B2)
  have HH := hide hh
  have S1 := hide HT.out.lt
  have S2 := hide HF.out.lt
  clear RF1 hh B2 HT
  go_wp2_with (at_make; refine wpList_make_row _ rfl _ _ 52 rfl 3 i0 (.int .i64 0) Tryz.underlying52 hi hz0 hz1 rfl .i64 .i64 (n + 1) rfl rfl (by rw [hz2]; have := N2.out; omega) (by have := N2.out; omega) ?_)
  go_ret2
  have BM := below_alloc w2 (.cells (madeCells #[.int .i64 0] (n + 1)) 3)
  have hsz := World.size_alloc w2 (.cells (madeCells #[.int .i64 0] (n + 1)) 3)
  have bxm := box_made w2 (n + 1)
  generalize hw3 : w2.alloc (.cells (madeCells #[.int .i64 0] (n + 1)) 3) = w3 at *
  have BA := below_alloc w3 (.cells (pbc ⟨w.heap.size, w2.heap.size + 2, w2.heap.size + 1, w2.heap.size, w.heap.size, h⟩ (bNew n r)).toArray 83)
  have bx := Box.new w3 (pbc ⟨w.heap.size, w2.heap.size + 2, w2.heap.size + 1, w2.heap.size, w.heap.size, h⟩ (bNew n r)) 83
  have hs3 := World.size_alloc w3 (.cells (pbc ⟨w.heap.size, w2.heap.size + 2, w2.heap.size + 1, w2.heap.size, w.heap.size, h⟩ (bNew n r)).toArray 83)
  rw [hsz] at bx
  have o1 := S1.out
  have o2 := S2.out
  have oh := HH.out
  have ob := HB.out.size
  have ob2 := HB2.out.size
  exact ⟨⟨w.heap.size, w2.heap.size + 2, w2.heap.size + 1, w2.heap.size, w.heap.size, h⟩, rfl, ⟨bx, bxm.on BA, (HT2.out.on BM).on BA, ⟨ps, (HF.out.on BM).on BA⟩, HW.out, by
    refine ⟨Nat.le_refl _, ?_, ?_, ?_, ?_, ?_, ?_, ?_⟩ <;> (dsimp only; first | omega | (rw [World.size_alloc]; omega))⟩, Nat.le_refl _, (belowOn (belowOn HB2.out BM) BA)⟩
set_option maxRecDepth 100000 in
set_option maxHeartbeats 2000000 in
theorem newQ_no (n r : Int) (w : World) (hi : I64 n) (h : ¬ ((1 ≤ n ∧ n ≤ 63) ∧ 1 ≤ r ∧ r ≤ 1024)) :
    Calls Tryz.prog 12 #[.int .i64 n, .int .i64 r] w fun e w' => e = .returned (.tuple #[.pointer none, .int .i64 1]) ∧ Below w.heap.size w w' := by
  obtain ⟨m, hm⟩ : ∃ m, m = IntKind.i64.wrap (n + 1) := ⟨_, rfl⟩
  have hmn : (n < 9223372036854775807 → m = n + 1) ∧ (n = 9223372036854775807 → m = -9223372036854775808) := by
    refine ⟨fun h => ?_, fun h => ?_⟩
    · rw [hm]; exact IntWalk.i64_in _ (by have := hi.1; omega)
    · rw [hm, h]; decide
  have hi1 := hi.1
  have hi2 := hi.2
  have HMM := hide hm.symm
  have hcase : (1 ≤ m ∧ m ≤ 64) ∨ ¬ (1 ≤ m ∧ m ≤ 64) := Classical.em _
  have hr : (1 ≤ r ∧ r ≤ 1024) ∨ ¬ (1 ≤ r ∧ r ≤ 1024) := Classical.em _
  have hn1 : n < 1 ∨ ¬ n < 1 := Classical.em _
  rcases hcase with hc | hc
  · obtain ⟨k, hk⟩ := Int.eq_ofNat_of_zero_le (show 0 ≤ m by omega)
    have hv := hide (new25 k w (by omega) (by omega))
    rw [hk] at HMM
    rcases hr with hr | hr
    · obtain ⟨q, rfl⟩ := Int.eq_ofNat_of_zero_le (show 0 ≤ r by omega)
      have hf := hide (fun z => new17 q z (by omega) (by omega))
      have hn : n < 1 := by omega
      have hw := HMM.out
      clear hc hr hn1 hm h hmn hi hi1 hi2 hk
      go_enter Tryz.func12, Tryz.ntmps12
      go_wp2_with fail
      refine hv.out.mono ?_
      rintro e w1 ⟨rfl, -, B1⟩
      have HB := hide B1
      clear B1
      go_wp2_with fail
      refine (hf.out w1).mono ?_
      rintro e w2 ⟨h, ps, rfl, -, -, B2⟩
      have HB2 := hide (belowOn HB.out B2)
      clear B2
      go_wp2
      go_ret2
      exact ⟨rfl, HB2.out⟩
    · have hf := hide (fun z => new17_no r z hr)
      have hw := HMM.out
      clear hc hr hm h hmn hi hi1 hi2 hk
      rcases hn1 with hn | hn
      all_goals
        go_enter Tryz.func12, Tryz.ntmps12
        go_wp2_with fail
        refine hv.out.mono ?_
        rintro e w1 ⟨rfl, -, B1⟩
        have HB := hide B1
        clear B1
        go_wp2_with fail
        refine (hf.out w1).mono ?_
        rintro e w2 ⟨rfl, rfl⟩
        go_wp2
        go_ret2
        exact ⟨rfl, HB.out⟩
  · have hv := hide (new25_no m w hc)
    rcases hr with hr | hr
    · obtain ⟨q, rfl⟩ := Int.eq_ofNat_of_zero_le (show 0 ≤ r by omega)
      have hf := hide (fun z => new17 q z (by omega) (by omega))
      have hw := HMM.out
      clear hc hr hm h hmn hi hi1 hi2
      rcases hn1 with hn | hn
      all_goals
        go_enter Tryz.func12, Tryz.ntmps12
        go_wp2_with fail
        refine hv.out.mono ?_
        rintro e w1 ⟨rfl, rfl⟩
        go_wp2_with fail
        refine (hf.out w1).mono ?_
        rintro e w2 ⟨h, ps, rfl, -, -, B2⟩
        have HB2 := hide B2
        clear B2
        go_wp2
        go_ret2
        exact ⟨rfl, HB2.out⟩
    · have hf := hide (fun z => new17_no r z hr)
      have hw := HMM.out
      clear hc hr hm h hmn hi hi1 hi2
      rcases hn1 with hn | hn
      all_goals
        go_enter Tryz.func12, Tryz.ntmps12
        go_wp2_with fail
        refine hv.out.mono ?_
        rintro e w1 ⟨rfl, rfl⟩
        go_wp2_with fail
        refine (hf.out w1).mono ?_
        rintro e w2 ⟨rfl, rfl⟩
        go_wp2
        go_ret2
        exact ⟨rfl, Below.refl _ _⟩
theorem pbc_counts {w : World} {A : PAd} {B : Br} (H : PB w A B) : w.rangeAt A.g 3 (nsl B.ct) :=
  rangeAt_left (B := nsl B.ln) (rangeAt_right (A := [.pointer (some ⟨A.h + 2, 0, none⟩), .pointer (some ⟨A.hf + 1, 0, none⟩), .slice (some ⟨A.gs, 0, none⟩) (B.n + 1) (B.n + 1)]) (q := 3) H.bx.at_ rfl)
theorem pbc_learned {w : World} {A : PAd} {B : Br} (H : PB w A B) : w.rangeAt A.g 12 (nsl B.ln) := by
  have h := rangeAt_right (A := [.pointer (some ⟨A.h + 2, 0, none⟩), .pointer (some ⟨A.hf + 1, 0, none⟩), .slice (some ⟨A.gs, 0, none⟩) (B.n + 1) (B.n + 1)]) (q := 3) H.bx.at_ rfl
  exact rangeAt_right (A := nsl B.ct) (q := 12) h (by simp [nsl, H.wf.cl])
theorem Tryz.size46 : (Tryz.prog.info? 46).map (·.size) = some 9 := by kernel_rfl
theorem Tryz.size81 : (Tryz.prog.info? 81).map (·.size) = some 3 := by kernel_rfl
theorem one_nsl (l : List Int) : ∀ v ∈ nsl l, v.oneCell' = true := by
  intro v hv
  simp only [nsl, List.mem_map] at hv
  obtain ⟨x, -, rfl⟩ := hv
  rfl
theorem wpl_putA {ops : Array Oper} {rest : List Oper} {op : Oper} {a : Act} {w : World} {Q : Exit → Act → World → Prop} {k : Nat} (ty : TypeId) (l l0 : List Int) (x y : Operand) (ho : op.op = .store ty x y) (hb : Box w k (nsl l0)) (hl : l.length = l0.length) (hz : (Tryz.prog.info? ty).map (·.size) = some l0.length) (hw : Region.wanted op (yielded ops a.tmps) = true) (hx : a.eval x = .pointer (some ⟨k, 0, none⟩)) (hy : a.eval y = .agg (nsl l).toArray)
    (h : ∀ w', Box w' k (nsl l) → w.grownBy w' (some k) → wpList Tryz.prog ops Q rest (a.put op.dst undef) w') : wpList Tryz.prog ops Q (op :: rest) a w :=
  wpList_step fun K hK => by
    rw [if_pos hw]
    have ht := hb.th
    rw [show (nsl l0).length = (nsl l).toArray.size by simp [nsl, hl]] at ht
    refine wp_store_mid ty x y ho k 0 (nsl l).toArray hx hy ht (by rw [hz]; simp [nsl, hl]) (all_oneCell_toArray (one_nsl l)) (hK _ _ (h _ ?_ (setCells_grown k _ 0 w)))
    exact hb.self (cs' := nsl l) (by simp [nsl, hl])
theorem res_arr {fn : Func} {p : Tmp} {ty : TypeId} {d : TypeDesc} (h : fn.results = #[.cell p ty]) {tmps : Array Value} {w : World} {k : Nat} {l : List Int} (hu : Tryz.prog.underlying ty = some d) (hd : d.isRow = true) (hz : (Tryz.prog.info? ty).map (·.size) = some l.length) (hp : tmps.getD p undef = .pointer (some ⟨k, 0, none⟩)) (hA : Box w k (nsl l)) :
    (results fn tmps).run Tryz.prog w = .ok (.agg (nsl l).toArray) w := by
  have hl := run_loadVar_mid (P := Tryz.prog) w k 0 ty _ _ hA.at_ hu hd (by rw [hz]; simp [nsl])
  have hp' : tmps[p]?.getD undef = .pointer (some ⟨k, 0, none⟩) := by simpa using hp
  simp only [results, h]
  simp [hp', asAddr, hl]
set_option maxRecDepth 100000 in
set_option maxHeartbeats 2000000 in
theorem countsQ (A : PAd) (B : Br) (w : World) (H : PB w A B) : Calls Tryz.prog 18 #[.pointer (some ⟨A.g, 0, none⟩)] w fun e w' => e = .returned (.agg (nsl B.ct).toArray) ∧ Below w.heap.size w w' := by
  have b0 := below_alloc w (.cells (nsl (List.replicate 9 0)).toArray 46)
  have X0 := Box.new w (nsl (List.replicate 9 0)) 46
  have HB := hide b0
  have HX := hide X0
  have HR := hide (pbc_counts (H.on b0))
  have HL := hide H.wf.cl
  clear b0 X0 H
  generalize B.ct = l at *
  have tk1 : True := trivial
  have tk2 : True := trivial
  go_enter Tryz.func18, Tryz.ntmps18
  go_wp2_with (first | (have _t := tk1; refine wpl_load 46 (.tmp 5) rfl A.g 3 (nsl l) _ HR.out Tryz.underlying46 rfl (by rw [show (nsl l).length = l.length by simp [nsl], HL.out]; exact Tryz.size46) ?_ ?_ ?_; rfl; rfl; clear tk1) | (have _t := tk2; refine wpl_putA 46 l (List.replicate 9 0) (.tmp 2) (.tmp 6) rfl HX.out HL.out Tryz.size46 ?_ ?_ ?_ ?_; rfl; rfl; rfl; clear tk2; intro z9 K9 G9; have HK9 := hide K9; have HG9 := hide G9; clear K9 G9) | (refine bodyPost_ret (res_arr rfl Tryz.underlying46 rfl (by rw [HL.out]; exact Tryz.size46) rfl HK9.out) rfl ?_; exact ⟨rfl, below_grown HB.out HG9.out (Nat.le_refl _) HB.out.size⟩))
set_option maxRecDepth 100000 in
set_option maxHeartbeats 2000000 in
theorem learnedQ (A : PAd) (B : Br) (w : World) (H : PB w A B) : Calls Tryz.prog 52 #[.pointer (some ⟨A.g, 0, none⟩)] w fun e w' => e = .returned (.agg (nsl B.ln).toArray) ∧ Below w.heap.size w w' := by
  have b0 := below_alloc w (.cells (nsl (List.replicate 3 0)).toArray 81)
  have X0 := Box.new w (nsl (List.replicate 3 0)) 81
  have HB := hide b0
  have HX := hide X0
  have HR := hide (pbc_learned (H.on b0))
  have HL := hide H.wf.ll
  clear b0 X0 H
  generalize B.ln = l at *
  have tk1 : True := trivial
  have tk2 : True := trivial
  go_enter Tryz.func52, Tryz.ntmps52
  go_wp2_with (first | (have _t := tk1; refine wpl_load 81 (.tmp 5) rfl A.g 12 (nsl l) _ HR.out Tryz.underlying81 rfl (by rw [show (nsl l).length = l.length by simp [nsl], HL.out]; exact Tryz.size81) ?_ ?_ ?_; rfl; rfl; clear tk1) | (have _t := tk2; refine wpl_putA 81 l (List.replicate 3 0) (.tmp 2) (.tmp 6) rfl HX.out HL.out Tryz.size81 ?_ ?_ ?_ ?_; rfl; rfl; rfl; clear tk2; intro z9 K9 G9; have HK9 := hide K9; have HG9 := hide G9; clear K9 G9) | (refine bodyPost_ret (res_arr rfl Tryz.underlying81 rfl (by rw [HL.out]; exact Tryz.size81) rfl HK9.out) rfl ?_; exact ⟨rfl, below_grown HB.out HG9.out (Nat.le_refl _) HB.out.size⟩))
end Go.Proofs.YtgpdjfaklcmoiaaGreat
/- Both bridges side by side: the program's and the document's, each of its own plain state. -/
namespace Go.Proofs.YtgpdjfaklcmoiaaGreat
open Go.RowKit Go.PlainAid

def nxt (B : Br) (x : Stp) : Br :=
  if x.d = 0 then (tk B x.p x.f x.t).2 else if x.d = 1 then tSet B x.p x.n else if x.d = 2 then { B with V := tAdd B.V x.v x.p x.g } else if x.d = 3 then { B with V := tNat B.V x.p x.v }
  else if x.d = 4 then { B with V := tRm B.V x.v x.p } else if x.d = 5 then { B with F := aT B.F x.t x.n } else if x.d = 6 then { B with F := pT B.F x.v (mS x.f) x.p } else B
/-- The blocks of both. -/
def D2 (A : RAd) (P : PAd) (i : Nat) : Prop := Dm A i ∨ (P.lo ≤ i ∧ i < P.hi)
structure Bh (w : World) (A : RAd) (P : PAd) (B Z : Br) : Prop where
  r : RB w A Z
  p : PB w P B
  ap : ∀ i, Dm A i → i < P.lo ∨ P.hi ≤ i
theorem Bh.lt {w : World} {A : RAd} {P : PAd} {B Z : Br} (H : Bh w A P B Z) : ∀ i, D2 A P i → i < w.heap.size := by
  intro i hi
  rcases hi with hi | hi
  · exact H.r.lt i hi
  · have := H.p.lt
    omega
theorem Bh.on {w w1 : World} {A : RAd} {P : PAd} {B Z : Br} (H : Bh w A P B Z) (hb : Below w.heap.size w w1) : Bh w1 A P B Z := ⟨H.r.on hb, H.p.on hb, H.ap⟩
theorem Bh.drew {w : World} {A : RAd} {P : PAd} {B Z : Br} (H : Bh w A P B Z) : Bh w.drew A P B Z := ⟨H.r.drew, H.p.drew, H.ap⟩
/-- The program did something: the document's stays. -/
theorem Bh.mid {w w1 : World} {A : RAd} {P : PAd} {B Z : Br} (H : Bh w A P B Z) (m : Mid P.lo P.hi w w1) : RB w1 A Z := H.r.keep (fun i hi => m.block i (H.r.lt i hi) (H.ap i hi))
/-- Both did the same. -/
theorem Bh.both {w w1 w2 w3 : World} {A A' : RAd} {P : PAd} {B B1 Z Z1 : Br} (H : Bh w A P B Z) (hp : PB w1 P B1) (m : Mid P.lo P.hi w w1) (b : Below w1.heap.size w1 w2) (hr : RB w3 A' Z1) (c : Ch (Dm A) (Dm A') w2 w3) :
    Bh w3 A' P B1 Z1 ∧ Ch (D2 A P) (D2 A' P) w w3 := by
  have hl := hp.lt
  have h2 := hp.on b
  have s1 := m.size
  have s2 := b.size
  have hl0 := H.p.lt
  refine ⟨⟨hr, h2.keep (fun k k1 k2 => c.block k (by omega) (fun hd => by have := H.ap k hd; omega)), fun i hi => ?_⟩, ?_⟩
  · rcases c.dom i hi with h | h
    · exact H.ap i h
    · exact Or.inr (by omega)
  · refine ⟨c.os.trans (b.os.trans m.os), c.tape.trans (b.tape.trans m.tape), c.output.trans (b.output.trans m.output), Nat.le_trans (Nat.le_trans s1 s2) c.size, fun i hi ho => ?_, fun i hi => ?_⟩
    · exact (c.block i (by omega) (fun h => ho (Or.inl h))).trans ((b.block i (by omega)).trans (m.block i hi (by
        by_cases h1 : i < P.lo
        · exact Or.inl h1
        · exact Or.inr (Nat.le_of_not_lt (fun h2 => ho (Or.inr ⟨by omega, h2⟩))))))
    · rcases hi with hi | hi
      · rcases c.dom i hi with h | h
        · exact Or.inl (Or.inl h)
        · exact Or.inr (by omega)
      · exact Or.inl (Or.inr hi)
end Go.Proofs.YtgpdjfaklcmoiaaGreat
/- A step at both bridges: what each kind starts from and ends with. -/
namespace Go.Proofs.YtgpdjfaklcmoiaaGreat
open Go.RowKit Go.PlainAid

def SPC (x : Stp) : Array Value := (stc x).toArray
/-- What a step leaves. -/
def StP (A : RAd) (P : PAd) (B Z : Br) (x : Stp) (w : World) (e : Ending) (w' : World) : Prop := ∃ q, e = .returned (.bool q) ∧ (B = Z → q = true) ∧ ∃ A', Bh w' A' P (nxt B x) (nxt Z x) ∧ Ch (D2 A P) (D2 A' P) w w' ∧ A'.g = A.g
def Okb (B : Br) : Prop := (∀ y ∈ B.ln, y + 1 < 1000000) ∧ (∀ y ∈ B.ct, y + 1 < 1000000) ∧ B.V.l.length ≤ 1000
/-- What a step wants. -/
structure Gst (A : RAd) (P : PAd) (B Z : Br) (x : Stp) (w : World) : Prop where
  byt : Byt w x.a x.k x.c x.f.bs
  md : Mok (mD x.f)
  ms : Mok (mS x.f)
  ya : ∀ b o, x.a = some ⟨b, o, none⟩ → 0 < x.k → ¬ D2 A P b
  ob : Okb B
  oz : Okb Z
  vx : I64 x.v
theorem mid_wide {a b N M : Nat} {w w1 : World} (h : Mid a b w w1) (h1 : N ≤ a) (h2 : b ≤ M) : Mid N M w w1 := ⟨h.os, h.tape, h.output, h.size, fun i hi ho => h.block i hi (by omega)⟩
theorem tAdd_n (T : Tb) (v p : Int) (g : Bool) : (tAdd T v p g).n = T.n := by unfold tAdd; split <;> rfl
theorem tNat_n (T : Tb) (p v : Int) : (tNat T p v).n = T.n := by unfold tNat; split <;> rfl
theorem tRm_n (T : Tb) (v p : Int) : (tRm T v p).n = T.n := by unfold tRm; split <;> rfl
theorem pT_n (T : FT) (v : Int) (m : Mc) (p : Int) : (pT T v m p).n = T.n := by
  unfold pT sT
  split
  · split <;> rfl
  · rfl
theorem aT_n (T : FT) (a b : Int) : (aT T a b).n = T.n := by
  unfold aT
  split <;> rfl
theorem stc_frame {w : World} {k : Nat} {x : Stp} (h : Box w k (stc x)) : w.rangeAt k 5 (fcl x.f (.slice x.a x.k x.c)) :=
  rangeAt_left (B := [.int .i64 x.t]) (rangeAt_right (A := [.int .i64 x.d, .int .i64 x.p, .int .i64 x.n, .int .i64 x.v, .bool x.g]) (q := 5) h.at_ rfl)
theorem wpl_sf {ops : Array Oper} {rest : List Oper} {op : Oper} {a : Act} {w : World} {Q : Exit → Act → World → Prop} {k : Nat} {y : Stp} (x : Operand) (ho : op.op = .load 38 x) (hA : Box w k (stc y)) (hw : Region.wanted op (yielded ops a.tmps) = true) (hx : a.eval x = .pointer (some ⟨k, 5, none⟩))
    (h : wpList Tryz.prog ops Q rest (a.put op.dst (.agg (FC y.f (.slice y.a y.k y.c)))) w) : wpList Tryz.prog ops Q (op :: rest) a w :=
  wpl_load 38 x ho k 5 _ _ (stc_frame hA) Tryz.underlying38 rfl Tryz.size38 hw hx h
theorem stc_src {w : World} {k : Nat} {x : Stp} (h : Box w k (stc x)) : w.rangeAt k 11 (mcl (mS x.f)) :=
  rangeAt_left (B := [.bool x.f.tg, .int .i64 x.f.vl, .int .i64 x.f.pr, .int .i64 x.f.ty, .slice x.a x.k x.c]) (rangeAt_right (A := dcl x.f) (q := 11) (stc_frame h) rfl)
end Go.Proofs.YtgpdjfaklcmoiaaGreat
/- A step at both bridges: kind 1. -/
namespace Go.Proofs.YtgpdjfaklcmoiaaGreat
open Go.RowKit Go.PlainAid
set_option maxRecDepth 100000 in
set_option maxHeartbeats 8000000 in
theorem step1 (A : RAd) (P : PAd) (B Z : Br) (x : Stp) (w : World) (H : Bh w A P B Z) (hd : x.d = 1) (G : Gst A P B Z x w) :
    Calls Tryz.prog 14 #[.pointer (some ⟨P.g, 0, none⟩), .pointer (some ⟨A.g, 0, none⟩), .agg (SPC x)] w (StP A P B Z x w) := by
  obtain ⟨hY, hm, hs, hya, hob, hoz, hvx⟩ := G
  have b0 := below_alloc w (.cells (SPC x) 40)
  have X0 : Box (w.alloc (.cells (SPC x) 40)) w.heap.size (stc x) := Box.new w (stc x) 40
  have HN : Hid (∀ B : Br, nxt B x = tSet B x.p x.n) := hide (fun B => by unfold nxt; rw [hd, if_neg (by decide), if_pos rfl])
  have c0 := X0.cell 0 _ rfl
  have c1 := X0.cell 1 _ rfl
  have c2 := X0.cell 2 _ rfl
  rw [hd] at c0
  have HH := hide (H.on b0)
  have HB := hide b0
  have HX := hide X0
  have HP : Hid (P.hi ≤ w.heap.size) := hide H.p.lt.2.2.2.2
  have Q1 := hide (fun z (h : PB z P B) => setQ P B x.p x.n z h)
  have Q2 := hide (fun z (h : RB z A Z) => setR A Z x.p x.n z h)
  clear b0 X0 H hd hY hm hs hya hob hoz hvx
  go_enter Tryz.func14, Tryz.ntmps14
  go_wp2_with fail
  generalize (w.alloc (.cells (SPC x) 40)) = z0 at *
  refine (Q1.out _ HH.out.p).mono ?_
  rintro e z1 ⟨rfl, hP, hM⟩
  have HX1 := hide (HX.out.block (hM.block _ HX.out.lt (Or.inr (by have := HP.out; omega))))
  have c1 := HX1.out.cell 1 _ rfl
  have c2 := HX1.out.cell 2 _ rfl
  have HPP := hide hP
  have HMM := hide hM
  clear hP hM
  go_wp2_with fail
  refine (Q2.out _ (HH.out.mid HMM.out)).mono ?_
  rintro e z2 ⟨rfl, hR, hC⟩
  have HF := hide (HH.out.both HPP.out HMM.out (Below.refl _ _) hR hC)
  clear hR hC
  go_wp2_with (go_ret; exact ⟨_, rfl, fun h => (by rw [h]; simp), A, by rw [HN.out, HN.out]; exact HF.out.1, Ch.pre HB.out HF.out.2, rfl⟩)
end Go.Proofs.YtgpdjfaklcmoiaaGreat
