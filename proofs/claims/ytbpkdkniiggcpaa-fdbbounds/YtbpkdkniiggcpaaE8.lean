/- Contracts of the document's Remove. -/
import Derived.Test.YtbpkdkniiggcpaaE2
import Derived.Test.YtbpkdkniiggcpaaE3
import Derived.Test.YtbpkdkniiggcpaaB3
namespace Go.Proofs.Ytbpkdkniiggcpaa
open Go.RowKit Go.PlainAid

theorem fin42 {w w1 w3 : World} {g : Nat} {lv v3 : Value} {T : Tb} {v : Int} {m : Mc} {k n : Nat} (H : RT w g lv T) (HW : Wf ⟨T.n, rm T.l v m⟩) (B : Below w.heap.size w w1) (B2 : Below w1.heap.size w1 w3) (hgl : g + 1 ≤ w.heap.size) (hg1 : g < w1.heap.size) (HRM : T.l.take k ++ T.l.drop (k + 1) = rm T.l v m) (HL : (T.l.take k ++ T.l.drop (k + 1)).length = n) (R : w3.ownsRow w1.heap.size 33 10 v3 n (es (([] ++ T.l.take k) ++ T.l.drop (k + 1)))) :
    RT (w3.setCell ⟨g, 1, none⟩ v3) g v3 ⟨T.n, rm T.l v m⟩ ∧ Below g w (w3.setCell ⟨g, 1, none⟩ v3) := by
  refine H.fresh (T' := ⟨T.n, rm T.l v m⟩) ((B.mono hgl).trans (B2.mono hg1)) rfl HW ?_
  show w3.ownsRow (g + 1) 33 10 v3 (rm T.l v m).length (es (rm T.l v m))
  rw [← HRM, HL]
  exact row_mono hg1 R
set_option maxRecDepth 100000 in
set_option maxHeartbeats 4000000 in
theorem remove42_there (g b cap : Nat) (T : Tb) (v : Int) (m : Mc) (w : World) (H : RT w g (.slice (some ⟨b, 0, none⟩) T.l.length cap) T) (hh : hs T.l v m = true) (hn : T.l.length ≤ cap) (hmx : cap ≤ maxLen) (hbx : Box w b (es T.l)) :
    Calls Try.prog 42 #[.pointer (some ⟨g, 0, none⟩), .int .i64 v, .agg (MC m)] w fun e w' => e = .returned (.bool true) ∧ (∃ lv', RT w' g lv' ⟨T.n, rm T.l v m⟩) ∧ Below g w w' := by
  have hix := (hs_ix T.l v m).1 hh
  have hle := H.wf.le
  have n2 := H.wf.n2
  have HRM := hide (rm_cut H.wf.srt hh)
  have HWF := hide (rm_wf H.wf v m)
  have HRT := hide H
  have HGL : Hid (g + 1 ≤ w.heap.size) := hide H.bx.lt
  have W0 := hide (below_alloc w (.cells (MC m) 24))
  have A0 := (box_m w m).at_
  have q := find28 g _ T v m _ (H.on W0.out)
  rw [fx_there hh] at q
  have HQ := hide q
  have HBX := hide hbx
  unfold maxLen at hmx
  clear H hh hbx q
  generalize ix T.l v m = k at *
  have tk1 : True := trivial
  go_enter Try.func42, Try.ntmps42
  go_wp2_with (first | (have _t := tk1; refine wpl_mac (.tmp 5) rfl A0 ?_ ?_ ?_; rfl; rfl; clear tk1))
  refine HQ.out.mono ?_
  rintro e w1 ⟨rfl, hb⟩
  have HB1 := hide (belowOn W0.out hb)
  have HL1 := hide (HBX.out.on HB1.out)
  have HG := hide (HRT.out.on HB1.out).bx
  have e1 : IntKind.i64.wrap ((k : Int) + 1) = (k : Int) + 1 := IntWalk.i64_in _ (by omega)
  have k1 : ¬ (k : Int) < 0 := by omega
  have k2 : (k : Int) ≤ cap := by omega
  have k3 : (k : Int) + 1 ≤ T.l.length := by omega
  have k4 : (T.l.length : Int) ≤ cap := by omega
  have ga := below_alloc w1 (.cells #[] 33)
  have O1 : Hid (((w1.alloc (.cells #[] 33)).drew).ownsRow w1.heap.size 33 10 (.slice (some ⟨w1.heap.size, 0, none⟩) 0 0) 0 (es [])) := hide (World.ownsRow_lit w1 #[] 0 (Nat.le_refl _) (by unfold maxLen; omega) rfl)
  have M1 : Hid (Ers (w1.alloc (.cells #[] 33)).drew (some ⟨b, 0, none⟩) k cap (T.l.take k)) := hide (ers_take (HL1.out.alloc (.cells #[] 33)).drew (k := k) (by omega) cap)
  have B0 : Hid (Below w1.heap.size w1 (w1.alloc (.cells #[] 33)).drew) := hide ga.drew
  have hlt1 : Hid (w1.heap.size ≤ ((w1.alloc (.cells #[] 33)).drew).heap.size) := hide ga.size
  have hgl : Hid (g < w1.heap.size) := hide HG.out.lt
  have hbl : Hid (b < w1.heap.size) := hide HL1.out.lt
  have c1 := HG.out.cell 1 _ rfl
  have c1a : (w1.alloc (.cells #[] 33)).cell? ⟨g, 1, none⟩ = some (.slice (some ⟨b, 0, none⟩) T.l.length cap) := (HG.out.alloc (.cells #[] 33)).cell 1 _ rfl
  have HG2 : Hid (1 < [Value.int .i64 T.n, .slice (some ⟨b, 0, none⟩) T.l.length cap].length) := hide (by simp)
  have k5 : (0 : Int) ≤ (k : Int) + 1 := by omega
  have HL : Hid ((T.l.take k ++ T.l.drop (k + 1)).length = 0 + k + (T.l.length - (k + 1))) := hide (by simp; omega)
  have tk1 : True := trivial
  have tk2 : True := trivial
  clear hb A0 HQ HBX ga
  go_wp2_with fail
  go_region_law (first | (have _t := tk1; refine step_eapp rfl rfl (.tmp 15) (.tmp 21) rfl w1.heap.size _ 0 [] rfl O1.out _ _ _ _ rfl M1.out (by omega) hlt1.out ?_; intro v2 w2 R1 G1; have B1 := hide (B0.out.grown G1 hlt1.out (fun r hr => (O1.out.lt r hr).1)); have c1b := (HG.out.below hgl.out B1.out).cell 1 _ rfl; have M3 := hide (ers_drop (HL1.out.below hbl.out B1.out) (k := k + 1) (by omega) cap (by omega)); have hlt2 : Hid (w1.heap.size ≤ w2.heap.size) := (hide B1.out.size); clear tk1 G1) | (have _t := tk2; refine step_eapp rfl rfl (.tmp 22) (.tmp 29) rfl w1.heap.size _ _ _ rfl R1 _ _ _ _ rfl M3.out (by omega) hlt2.out ?_; intro v3 w3 R2 G2; obtain ⟨ao2, c2, rfl⟩ := own_form R2; have B2 := hide (B1.out.grown G2 hlt2.out (fun r hr => (R1.lt r hr).1)); have c1c := (HG.out.below hgl.out B2.out).cell 1 _ rfl; have c1f := (HG.out.below hgl.out B2.out).free 1 HG2.out; have F := hide (fin42 HRT.out HWF.out HB1.out B2.out HGL.out hgl.out HRM.out HL.out R2); clear tk2 R2 G2))
  all_goals go_wp2
  all_goals
    go_ret
    have F' := F.out
    simp only [Nat.zero_add] at F'
    exact ⟨rfl, ⟨_, F'.1⟩, F'.2⟩
set_option maxRecDepth 100000 in
set_option maxHeartbeats 2000000 in
theorem remove42_none (g : Nat) (lv : Value) (T : Tb) (v : Int) (m : Mc) (w : World) (H : RT w g lv T) (hh : hs T.l v m = false) :
    Calls Try.prog 42 #[.pointer (some ⟨g, 0, none⟩), .int .i64 v, .agg (MC m)] w fun e w' => e = .returned (.bool false) ∧ Below w.heap.size w w' := by
  have W0 := hide (below_alloc w (.cells (MC m) 24))
  have A0 := (box_m w m).at_
  have q := find28 g _ T v m _ (H.on W0.out)
  rw [fx_none hh] at q
  have HQ := hide q
  clear H hh q
  have tk1 : True := trivial
  go_enter Try.func42, Try.ntmps42
  go_wp2_with (first | (have _t := tk1; refine wpl_mac (.tmp 5) rfl A0 ?_ ?_ ?_; rfl; rfl; clear tk1))
  refine HQ.out.mono ?_
  rintro e w1 ⟨rfl, hb⟩
  have HB1 := hide (belowOn W0.out hb)
  clear hb A0 HQ
  go_wp2
  go_ret
  exact ⟨rfl, HB1.out⟩
theorem remove42 (g : Nat) (lv : Value) (T : Tb) (v : Int) (m : Mc) (w : World) (H : RT w g lv T) :
    Calls Try.prog 42 #[.pointer (some ⟨g, 0, none⟩), .int .i64 v, .agg (MC m)] w fun e w' => e = .returned (.bool (hs T.l v m)) ∧ (∃ lv', RT w' g lv' ⟨T.n, rm T.l v m⟩) ∧ Below g w w' := by
  rcases Bool.eq_false_or_eq_true (hs T.l v m) with hh | hh
  · rw [hh]
    rcases H.at with ⟨_, hl⟩ | ⟨b, cap, rfl, hgb, hbl, hn, hmx, hbx⟩
    · rw [hl] at hh; cases hh
    · exact remove42_there g b cap T v m w H hh hn hmx hbx
  · rw [hh, rm_no hh]
    refine (remove42_none g lv T v m w H hh).mono ?_
    rintro e w' ⟨rfl, hb⟩
    exact ⟨rfl, ⟨lv, H.on hb⟩, hb.mono (Nat.le_of_succ_le H.lt)⟩
end Go.Proofs.Ytbpkdkniiggcpaa
