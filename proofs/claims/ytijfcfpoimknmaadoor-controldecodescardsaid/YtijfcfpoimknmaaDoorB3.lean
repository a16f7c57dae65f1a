/- The step that asks; contracts of the program's Right and rightPacket. -/
import Derived.Test.YtijfcfpoimknmaaDoorA3
import Derived.Test.YtijfcfpoimknmaaDoorB1
import Derived.Test.YtijfcfpoimknmaaDoorB2
namespace Go.Proofs.YtijfcfpoimknmaaDoor
open Go.RowKit
structure RtI (n : Nt) (s : Value) (w0 : World) (N : Nat) (b : Bool) (w : World) : Prop where
  nt : Box w N (ncl n s)
  vr : Box w (N + 1) [.bool b]
  bl : Below N w0 w
  kt : KT w
theorem RtI.on {n : Nt} {s : Value} {w0 : World} {N : Nat} {b : Bool} {w w1 : World} (h : RtI n s w0 N b w) (hb : Below w.heap.size w w1) : RtI n s w0 N b w1 :=
  ⟨h.nt.on hb, h.vr.on hb, h.bl.trans (hb.mono (Nat.le_of_lt h.nt.lt)), h.kt.on hb⟩
theorem RtI.put {n : Nt} {s : Value} {w0 : World} {N : Nat} {b : Bool} {w : World} (h : RtI n s w0 N b w) (b' : Bool) : RtI n s w0 N b' (w.setCell ⟨N + 1, 0, none⟩ (.bool b')) := by
  have g := setCell_grown w (N + 1) 0 (.bool b')
  exact ⟨h.nt.kept (by omega) g, Box.set (A := []) (C := []) h.vr rfl, below_grown h.bl g (by omega) (Nat.le_of_lt h.nt.lt), h.kt.kept (by omega) g⟩
section
attribute [local go_sem] NC0
set_option maxRecDepth 100000 in
set_option maxHeartbeats 2000000 in
theorem right36 (n : Nt) (a : Option Addr) (m c : Nat) (hl : n.b.length = m) (w0 : World) (N : Nat) (j : Nat) (hj : J5 j) (b : Bool) (w : World) (h : RtI n (.slice a m c) w0 N b w) :
    Calls Tryd.prog 36 #[.int .i64 j, .pointer (some ⟨N, 0, none⟩), .pointer (some ⟨N + 1, 0, none⟩)] w fun e w' => e = .returned (.tuple #[]) ∧ RtI n (.slice a m c) w0 N (b && ff n j) w' := by
  have c0 := h.nt.cell 0 _ rfl
  have v0 := h.vr.cell 0 _ rfl
  have z0 := h.vr.free 0 (by simp)
  have NA := h.nt.at_
  have K := h.kt
  have H := hide h
  rcases Bool.eq_false_or_eq_true (hs (fo n.k) j) with hf | hf
  · have hx : (bits .and .i64 (fo n.k) (j : Int) != 0) = true := hs_ne hf
    have e : ff n j = ft n j := by simp [ff, hf]
    rw [e]
    have C := hide (fun w => fits37 n a m c hl j hj w)
    clear e hf hj h
    cases b
    · go_enter Tryd.func36, Tryd.ntmps36
      go_wp2_with (go_at_call 25; refine (fields25 _ _ K).mono ?_; rintro e w' ⟨rfl, rfl⟩)
      go_end0
      exact ⟨rfl, H.out.put false⟩
    · go_enter Tryd.func36, Tryd.ntmps36
      go_wp2_with (first | (go_at_call 25; refine (fields25 _ _ K).mono ?_; rintro e w' ⟨rfl, rfl⟩) | (refine wpl_note (.tmp 1) rfl NA ?_ ?_ ?_; rfl; rfl))
      refine (C.out _).mono ?_
      rintro e w1 ⟨rfl, hb⟩
      replace H := hide (H.out.on hb)
      have v1 := H.out.vr.cell 0 _ rfl
      have z1 := H.out.vr.free 0 (by simp)
      clear hb c0 v0 z0 NA K C
      go_wp2
      go_end0
      exact ⟨rfl, H.out.put _⟩
  · have hx : (bits .and .i64 (fo n.k) (j : Int) != 0) = false := hs_ne hf
    have e : ff n j = bl n j := by simp [ff, hf]
    rw [e]
    have C := hide (fun w => blank38 n a m c hl j hj w)
    clear e hf hj h
    cases b
    · go_enter Tryd.func36, Tryd.ntmps36
      go_wp2_with (go_at_call 25; refine (fields25 _ _ K).mono ?_; rintro e w' ⟨rfl, rfl⟩)
      go_end0
      exact ⟨rfl, H.out.put false⟩
    · go_enter Tryd.func36, Tryd.ntmps36
      go_wp2_with (first | (go_at_call 25; refine (fields25 _ _ K).mono ?_; rintro e w' ⟨rfl, rfl⟩) | (refine wpl_note (.tmp 1) rfl NA ?_ ?_ ?_; rfl; rfl))
      refine (C.out _).mono ?_
      rintro e w1 ⟨rfl, hb⟩
      replace H := hide (H.out.on hb)
      have v1 := H.out.vr.cell 0 _ rfl
      have z1 := H.out.vr.free 0 (by simp)
      clear hb c0 v0 z0 NA K C
      go_wp2
      go_end0
      exact ⟨rfl, H.out.put _⟩
theorem ent36 (args : Array Value) (w : World) : (callFunc 36 args).run Tryd.prog w = .ok (.enter 36 args) w := by
  kernel_rfl
theorem stepRt (n : Nt) (a : Option Addr) (m c : Nat) (hl : n.b.length = m) (w0 : World) (N : Nat) : StepC 36 #[.pointer (some ⟨N, 0, none⟩), .pointer (some ⟨N + 1, 0, none⟩)] 31 (fun _ b w => RtI n (.slice a m c) w0 N b w) (fun j b => b && ff n j) where
  run := fun j s w hj _ h => right36 n a m c hl w0 N j hj s w h
  skip := fun j _ _ hj hf _ => by rw [hs31 j hj] at hf; cases hf
  ent := ent36
theorem evs31 (n : Nt) : evs 31 (fun j b => b && ff n j) true = (ff n 1 && (ff n 2 && (ff n 4 && (ff n 8 && ff n 16)))) := by
  simp only [evs]
  rw [ev_yes (hs31 1 (by simp)), ev_yes (hs31 2 (by simp)), ev_yes (hs31 4 (by simp)), ev_yes (hs31 8 (by simp)), ev_yes (hs31 16 (by simp))]
  simp only [Bool.true_and, Bool.and_assoc]
set_option maxRecDepth 100000 in
set_option maxHeartbeats 2000000 in
theorem right13 (n : Nt) (a : Option Addr) (m c : Nat) (hl : n.b.length = m) (w : World) (hT : KT w) :
    Calls Tryd.prog 13 #[.agg (NC n (.slice a m c))] w fun e w' => e = .returned (.bool (rt n)) ∧ Below w.heap.size w w' := by
  have B0 := below_alloc w (.cells (NC n (.slice a m c)) 26)
  cases hk : wi n.k 0 8
  · have e : rt n = false := by simp [rt, hk]
    rw [e]
    clear e
    go_enter Tryd.func13, Tryd.ntmps13
    go_wp2_with (go_at_call 35; refine (known35 _ _).mono ?_; rw [hk]; rintro e w' ⟨rfl, rfl⟩)
    go_ret
    exact ⟨rfl, B0⟩
  · have e : rt n = evs 31 (fun j b => b && ff n j) true := by rw [evs31, rt, hk, Bool.true_and]
    rw [e]
    have A0 : Box (w.alloc (.cells (NC n (.slice a m c)) 26)) w.heap.size (ncl n (.slice a m c)) := Box.new w (ncl n (.slice a m c)) 26
    have V0 : Box ((w.alloc (.cells (NC n (.slice a m c)) 26)).alloc (.cells #[.bool true] 4)) (w.heap.size + 1) [.bool true] := by
      have := Box.new (w.alloc (.cells (NC n (.slice a m c)) 26)) [.bool true] 4
      rwa [World.size_alloc] at this
    have I0 : Hid (RtI n (.slice a m c) w w.heap.size true ((w.alloc (.cells (NC n (.slice a m c)) 26)).alloc (.cells #[.bool true] 4))) :=
      hide ⟨A0.alloc _, V0, B0.trans ((below_alloc _ _).mono (by simp)), (hT.alloc _).alloc _⟩
    have C := hide (stepRt n a m c hl w w.heap.size)
    clear e A0 V0
    go_enter Tryd.func13, Tryd.ntmps13
    go_wp2_with (go_at_call 35; refine (known35 _ _).mono ?_; rw [hk]; rintro e w' ⟨rfl, rfl⟩)
    refine (each24 C.out true _ I0.out).mono ?_
    rintro e w1 ⟨rfl, I1⟩
    have v1 := I1.vr.cell 0 _ rfl
    have b1 := I1.bl
    clear I1 I0 C
    go_wp2
    go_ret
    exact ⟨rfl, b1⟩
end
section
attribute [local go_sem] PC0 PC1 PC2
set_option maxRecDepth 100000 in
set_option maxHeartbeats 2000000 in
theorem right22 (p : Pk) (a : Option Addr) (m c : Nat) (hl : p.n.b.length = m) (w : World) (hT : KT w) :
    Calls Tryd.prog 22 #[.agg (PC p (.slice a m c))] w fun e w' => e = .returned (.bool (rtp p)) ∧ Below w.heap.size w w' := by
  have A0 : Box (w.alloc (.cells (PC p (.slice a m c)) 28)) w.heap.size (pcl p (.slice a m c)) := Box.new w (pcl p (.slice a m c)) 28
  have B0 := below_alloc w (.cells (PC p (.slice a m c)) 28)
  have N0 := A0.note
  have K0 := hT.alloc (.cells (PC p (.slice a m c)) 28)
  go_enter Tryd.func22, Tryd.ntmps22
  have tk1 : True := trivial
  go_wp2_with (have _t := tk1; refine wpl_note (.tmp 3) rfl N0 ?_ ?_ ?_; rfl; rfl; clear tk1)
  refine (right13 p.n a m c hl _ K0).mono ?_
  rintro e w1 ⟨rfl, hb⟩
  replace A0 := A0.on hb
  have c0 := A0.cell 0 _ rfl
  have c1 := A0.cell 1 _ rfl
  have c2 := A0.cell 2 _ rfl
  replace B0 := belowOn B0 hb
  clear hb K0 N0 A0 hT
  go_wp2_with (go_at_call 43; refine (seq43 _ _).mono ?_; rintro e w' ⟨rfl, rfl⟩)
  all_goals
    go_ret
    exact ⟨ret_bool (by unfold rtp; simp [*]), B0⟩
end
end Go.Proofs.YtijfcfpoimknmaaDoor
