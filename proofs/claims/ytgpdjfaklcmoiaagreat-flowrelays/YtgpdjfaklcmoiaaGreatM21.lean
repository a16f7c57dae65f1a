/- A step at both bridges: kind 7. -/
import Derived.Test.YtgpdjfaklcmoiaaGreatM16
namespace Go.Proofs.YtgpdjfaklcmoiaaGreat
open Go.RowKit Go.PlainAid
set_option maxRecDepth 100000 in
set_option maxHeartbeats 8000000 in
theorem step7 (A : RAd) (P : PAd) (B Z : Br) (x : Stp) (w : World) (H : Bh w A P B Z) (hd : ¬ (0 ≤ x.d ∧ x.d ≤ 6)) (G : Gst A P B Z x w) :
    Calls Tryz.prog 14 #[.pointer (some ⟨P.g, 0, none⟩), .pointer (some ⟨A.g, 0, none⟩), .agg (SPC x)] w (StP A P B Z x w) := by
  obtain ⟨hY, hm, hs, hya, hob, hoz, hvx⟩ := G
  have b0 := below_alloc w (.cells (SPC x) 40)
  have X0 : Box (w.alloc (.cells (SPC x) 40)) w.heap.size (stc x) := Box.new w (stc x) 40
  have HN : Hid (∀ B : Br, nxt B x = B) := hide (fun B => by unfold nxt; rw [if_neg (by omega), if_neg (by omega), if_neg (by omega), if_neg (by omega), if_neg (by omega), if_neg (by omega), if_neg (by omega)])
  have c0 := X0.cell 0 _ rfl
  have c1 := X0.cell 1 _ rfl
  have c2 := X0.cell 2 _ rfl
  have c3 := X0.cell 3 _ rfl
  have e0 : (x.d == 0) = false := beq_eq_false_iff_ne.mpr (by omega)
  have e1 : (x.d == 1) = false := beq_eq_false_iff_ne.mpr (by omega)
  have e2 : (x.d == 2) = false := beq_eq_false_iff_ne.mpr (by omega)
  have e3 : (x.d == 3) = false := beq_eq_false_iff_ne.mpr (by omega)
  have e4 : (x.d == 4) = false := beq_eq_false_iff_ne.mpr (by omega)
  have e5 : (x.d == 5) = false := beq_eq_false_iff_ne.mpr (by omega)
  have e6 : (x.d == 6) = false := beq_eq_false_iff_ne.mpr (by omega)
  have HH := hide (H.on b0)
  have HB := hide b0
  have HX := hide X0
  have HY := hide (hY.on b0)
  have HVX := hide hvx
  clear b0 X0 H hd hY hm hs hya hob hoz hvx
  have tk1 : True := trivial
  go_enter Tryz.func14, Tryz.ntmps14
  go_wp2_with (first | (have _t := tk1; refine wpl_sf (.tmp 170) rfl HX.out ?_ ?_ ?_; rfl; rfl; clear tk1))
  generalize (w.alloc (.cells (SPC x) 40)) = z0 at *
  refine (relayQ P B x.v x.p x.n x.f x.a x.k x.c _ HH.out.p HY.out HVX.out).mono ?_
  rintro e z1 ⟨ao, xs, cc, rfl, hO, hm1, b1, _⟩
  replace HH := hide (HH.out.on b1)
  replace HX := hide (HX.out.on b1)
  replace HY := hide (HY.out.on b1)
  replace HB := hide (belowOn HB.out b1)
  have HO := hide hO
  have HM := hide hm1
  have c1 := HX.out.cell 1 _ rfl
  have c2 := HX.out.cell 2 _ rfl
  have c3 := HX.out.cell 3 _ rfl
  clear b1 hO hm1 c0 e0 e1 e2 e3 e4 e5 e6
  have tk2 : True := trivial
  go_wp2_with (first | (have _t := tk2; refine wpl_sf (.tmp 181) rfl HX.out ?_ ?_ ?_; rfl; rfl; clear tk2))
  refine (relayR A Z x.v x.p x.n x.f x.a x.k x.c _ HH.out.r HY.out).mono ?_
  rintro e z2 ⟨ao2, xs2, cc2, rfl, hO2, hm2, b1, _, _⟩
  replace HH := hide (HH.out.on b1)
  replace HO := hide (HO.out.on b1)
  replace HB := hide (belowOn HB.out b1)
  have HO2 := hide hO2
  have HE : Hid (B = Z → xs.map Ow.o = xs2.map Ow.o) := hide (fun h => by rw [HM.out, hm2, h])
  clear b1 hO2 hm2 c1 c2 c3
  go_wp2_with fail
  refine (sameOutsRg ao ao2 _ _ _ _ xs xs2 _ HO.out HO2.out).mono ?_
  rintro e z3 ⟨qq, rfl, hqq, b1⟩
  have HQQ : Hid (B = Z → qq = true) := hide (fun h => hqq (HE.out h))
  replace HH := hide (HH.out.on b1)
  replace HB := hide (belowOn HB.out b1)
  clear b1
  go_wp2_with (go_ret; exact ⟨qq, rfl, HQQ.out, A, by rw [HN.out, HN.out]; exact HH.out, Ch.of_below HB.out, rfl⟩)
end Go.Proofs.YtgpdjfaklcmoiaaGreat
