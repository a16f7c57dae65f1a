/- Contracts of the document's Look; New of both. -/
import Derived.Test.YtgpdjfaklcmoiaaGreatM03
import Derived.Test.YtgpdjfaklcmoiaaGreatM04
import Derived.Laws.MakeOwn
namespace Go.Proofs.YtgpdjfaklcmoiaaGreat
open Go.RowKit Go.PlainAid

theorem fx_there {l : List En} {v : Int} {m : Mc} (h : fhs l v m = true) : ffx l v m = (fix l v m : Int) := by rw [ffx, h]; rfl
theorem fx_none {l : List En} {v : Int} {m : Mc} (h : fhs l v m = false) : ffx l v m = -1 := by rw [ffx, h]; rfl
attribute [local go_sem] ZE
set_option maxRecDepth 100000 in
set_option maxHeartbeats 2000000 in
theorem look12 (g : Nat) (lv : Value) (T : FT) (v : Int) (m : Mc) (w : World) (H : RF w g lv T) :
    Calls Tryz.prog 95 #[.pointer (some ⟨g, 0, none⟩), .int .i64 v, .agg (MC m)] w fun e w' => e = .returned (.tuple #[.agg (EC (lk T.l v m)), .bool (fhs T.l v m)]) ∧ Below w.heap.size w w' := by
  have M0 : Box ((w.alloc (.cells (MC m) 35)).alloc (.cells (EC zE) 61)) w.heap.size (mcl m) := (box_m w m).alloc _
  have Z0 : Box ((w.alloc (.cells (MC m) 35)).alloc (.cells (EC zE) 61)) (w.heap.size + 1) (ecl zE) := by
    have := box_e (w.alloc (.cells (MC m) 35)) zE
    rwa [World.size_alloc] at this
  have W0 : Hid (Below w.heap.size w ((w.alloc (.cells (MC m) 35)).alloc (.cells (EC zE) 61))) := hide (by go_grown)
  have A0 := M0.at_
  have HZ0 := hide Z0
  have HH := hide H
  have hlt := H.lt
  clear H M0 Z0
  have tk1 : True := trivial
  have tk2 : True := trivial
  have tk3 : True := trivial
  go_enter Tryz.func95, Tryz.ntmps95
  go_wp2_with (first | (have _t := tk1; refine wpl_mac (.tmp 5) rfl A0 ?_ ?_ ?_; rfl; rfl; clear tk1))
  refine (find28 g lv T v m _ (HH.out.on W0.out)).mono ?_
  rintro e w1 ⟨rfl, hb⟩
  have H1 := HH.out.on (belowOn W0.out hb)
  have HB1 := hide (belowOn W0.out hb)
  have HZ1 := hide (HZ0.out.on hb)
  clear hb A0 HZ0
  rcases Bool.eq_false_or_eq_true (fhs T.l v m) with hh | hh
  · rw [fx_there hh]
    rcases H1.at with ⟨_, hl⟩ | ⟨b, cap, rfl, hgb, hbl, hn, hmx, hbx⟩
    · rw [hl] at hh; cases hh
    · have hix := (fhs_ix T.l v m).1 hh
      have A1 := hbx.ent (fix_get T.l v m hh)
      have c1 := H1.bx.cell 1 _ rfl
      have hix2 : (fix T.l v m : Int) < T.l.length := by omega
      have HHS := hide hh
      clear H1 hbx hh
      unfold maxLen at hmx
      have HK1 : Hid (w.heap.size ≤ w.heap.size + 1) := hide (Nat.le_succ _)
      generalize fix T.l v m = k at *
      generalize w.heap.size + 1 = k1 at *
      go_wp2_with (first | (have _t := tk2; refine wpl_ent (.tmp 21) rfl A1 ?_ ?_ ?_; rfl; rfl; clear tk2) | (have _t := tk3; refine wpl_putE (lk T.l v m) zE (.tmp 6) (.tmp 22) rfl HZ1.out ?_ rfl rfl ?_; rfl; clear tk3))
      intro w2 Y G
      have HY := hide Y
      have hk1 : Hid (w.heap.size ≤ k1) := HK1
      have HB2 := hide (below_grown HB1.out G hk1.out HB1.out.size)
      clear Y G
      go_wp2
      exact bodyPost_ret (res_ent_tmp rfl rfl HY.out) rfl ⟨by rw [HHS.out]; rfl, HB2.out⟩
  · rw [fx_none hh]
    have HHS := hide hh
    clear H1 hh
    have HK1 : Hid (w.heap.size ≤ w.heap.size + 1) := hide (Nat.le_succ _)
    generalize w.heap.size + 1 = k1 at *
    go_wp2_with (first | (have _t := tk3; refine wpl_putE zE zE (.tmp 6) (.tmp 15) rfl HZ1.out ?_ rfl rfl ?_; rfl; clear tk3))
    intro w2 Y G
    have HY := hide Y
    have HB2 := hide (below_grown HB1.out G HK1.out HB1.out.size)
    clear Y G
    go_wp2
    exact bodyPost_ret (res_ent_tmp rfl rfl HY.out) rfl ⟨by rw [HHS.out, lk_no _ _ _ HHS.out]; rfl, HB2.out⟩
end Go.Proofs.YtgpdjfaklcmoiaaGreat
