/- Contract of Put of the document's queue. -/
import Derived.Test.YtmdbclhdbglppaaRa
namespace Go.Proofs.Ytmdbclhdbglppaa
open Go.RowKit Go.PlainAid

theorem pE_out {n : Nat} {L : List Wt} {k : Int} (h : isC k = false) : pE n L k = 1 := by unfold pE; rw [h]; rfl
theorem pE_full {n : Nat} {L : List Wt} {k : Int} (h : isC k = true) (hn : n ≤ cnt L k) : pE n L k = 3 := by unfold pE; rw [h, if_pos rfl, if_pos hn]
theorem pE_ok {n : Nat} {L : List Wt} {k : Int} (h : isC k = true) (hn : ¬ n ≤ cnt L k) : pE n L k = 0 := by unfold pE; rw [h, if_pos rfl, if_neg hn]
theorem up1_length (g : List Nat) (k : Nat) : (up1 g k).length = g.length := by simp [up1]
theorem RQ.drewN {w : World} {g : Nat} {F : Nat → Prop} {n : Nat} {ao : Option Addr} {m c : Nat} {V : List Wv} {L : List Wt} {ls : List Nat} (h : RQ w g F n ao m c V L ls) (q : Nat) : RQ (w.drewN q) g F n ao m c V L ls := h.keep ⟨Nat.le_refl _, fun _ _ _ => rfl⟩
theorem RQ.drew {w : World} {g : Nat} {F : Nat → Prop} {n : Nat} {ao : Option Addr} {m c : Nat} {V : List Wv} {L : List Wt} {ls : List Nat} (h : RQ w g F n ao m c V L ls) : RQ w.drew g F n ao m c V L ls := h.keep ⟨Nat.le_refl _, fun _ _ _ => rfl⟩
theorem qcl_set {n : Nat} {lv : Value} {ls : List Nat} {k x : Nat} (h : k < ls.length) : qcl n lv ls = ([Value.int .i64 n, lv] ++ (ls.take k).map (fun x : Nat => Value.int .i64 x)) ++ (Value.int .i64 (ls[k]?.getD 0 : Nat) :: (ls.drop (k + 1)).map (fun x : Nat => Value.int .i64 x)) ∧ qcl n lv (ls.set k x) = ([Value.int .i64 n, lv] ++ (ls.take k).map (fun x : Nat => Value.int .i64 x)) ++ (Value.int .i64 x :: (ls.drop (k + 1)).map (fun x : Nat => Value.int .i64 x)) := by
  have e : ls = ls.take k ++ (ls[k] :: ls.drop (k + 1)) := by rw [List.getElem_cons_drop, List.take_append_drop]
  constructor
  · show [Value.int .i64 n, lv] ++ ls.map (fun x : Nat => Value.int .i64 x) = _
    rw [List.getElem?_eq_getElem h]
    conv => lhs; rw [e]
    rw [List.map_append, List.map_cons, List.append_assoc]; rfl
  · show [Value.int .i64 n, lv] ++ (ls.set k x).map _ = _
    rw [List.set_eq_take_append_cons_drop, if_pos h]
    simp
theorem box_lost {w : World} {g n : Nat} {lv : Value} {ls : List Nat} {k x : Nat} (h : Box w g (qcl n lv ls)) (hk : k < ls.length) : Box (w.setCell ⟨g, 2 + k, none⟩ (.int .i64 x)) g (qcl n lv (ls.set k x)) := by
  obtain ⟨e1, e2⟩ := qcl_set (n := n) (lv := lv) (x := x) hk
  rw [e1] at h
  rw [e2]
  exact Box.set h (by simp; omega)
theorem belowN {N : Nat} {w w1 : World} (h : Below N w w1) (n : Nat) : Below N w (w1.drewN n) := ⟨h.os, h.tape, h.output, h.size, h.block⟩
theorem mid_at {w : World} {g k : Nat} {v : Value} : Mid g (g + 1) w (w.setCell ⟨g, k, none⟩ v) := (Mid.refl g (g + 1) w).grown (setCell_grown w g k v) (Or.inr ⟨Nat.le_refl _, by omega⟩)
theorem RQ.lost1 {w : World} {g : Nat} {F : Nat → Prop} {n : Nat} {ao : Option Addr} {m c : Nat} {V : List Wv} {L : List Wt} {ls : List Nat} (h : RQ w g F n ao m c V L ls) {k : Nat} (hk : k < 8) :
    RQ (w.setCell ⟨g, 2 + k, none⟩ (.int .i64 (((ls[k]?.getD 0 : Nat) : Int) + 1))) g F n ao m c V L (up1 ls k) := by
  have b := box_lost (x := ls[k]?.getD 0 + 1) h.bx (by rw [h.ll]; exact hk)
  rw [show ((ls[k]?.getD 0 + 1 : Nat) : Int) = ((ls[k]?.getD 0 : Nat) : Int) + 1 by omega] at b
  have e : Kp F w (w.setCell ⟨g, 2 + k, none⟩ (.int .i64 (((ls[k]?.getD 0 : Nat) : Int) + 1))) := kp_mid mid_at (fun i hi => Or.inr (by have := (h.ng i hi).1; omega))
  exact ⟨b, by rw [up1_length]; exact h.ll, h.sl.keep e, h.mt.keep e, fun i hi => ⟨(h.ng i hi).1, Nat.lt_of_lt_of_le (h.ng i hi).2 e.size⟩, h.n1, h.n2⟩
set_option maxRecDepth 100000 in
set_option maxHeartbeats 2000000 in
theorem putR_out (g : Nat) (ab : Option Addr) (nb cb : Nat) (k : Int) (w : World) (hk : isC k = false) :
    Calls Try.prog 19 #[.pointer (some ⟨g, 0, none⟩), .int .i64 k, .slice ab nb cb] w fun e w' => e = .returned (.int .i64 1) ∧ w' = w := by
  have hk2 : ¬ (0 ≤ k ∧ k < 8) := fun h => by rw [isC_iff.2 h] at hk; cases hk
  clear hk
  rcases (show k < 0 ∨ (¬ k < 0 ∧ 8 ≤ k) by omega) with h1 | ⟨h1, h2⟩
  · clear hk2
    go_enter Try.func19, Try.ntmps19
    go_wp2
    go_ret
    exact ⟨rfl, rfl⟩
  · clear hk2
    go_enter Try.func19, Try.ntmps19
    go_wp2
    go_ret
    exact ⟨rfl, rfl⟩
set_option maxRecDepth 100000 in
set_option maxHeartbeats 4000000 in
theorem putR_full (g : Nat) (F : Nat → Prop) (n : Nat) (ao : Option Addr) (m c : Nat) (V : List Wv) (L : List Wt) (ls : List Nat) (k : Nat) (ab : Option Addr) (nb cb : Nat) (w : World) (H : RQ w g F n ao m c V L ls) (hL : L.length ≤ 100000) (hk : k < 8) (hf : n ≤ cnt L k) (hs : ls[k]?.getD 0 ≤ 1000000) :
    Calls Try.prog 19 #[.pointer (some ⟨g, 0, none⟩), .int .i64 k, .slice ab nb cb] w fun e w' => e = .returned (.int .i64 3) ∧ RQ w' g F n ao m c V L (up1 ls k) ∧ Mid g (g + 1) w w' := by
  have h1 : ¬ (k : Int) < 0 := by omega
  have h2 : ¬ (8 : Int) ≤ (k : Int) := by omega
  have h3 : (k : Int) < 8 := by omega
  have HL := hide hL
  have c0 := H.bx.cell 0 _ rfl
  have HR := hide H
  have HK := hide hk
  obtain ⟨y, hy⟩ : ∃ y, y = cnt L k := ⟨_, rfl⟩
  have HY := hide hy
  rw [← hy] at hf
  have d1 : decide ((n : Int) ≤ (y : Int)) = true := by simp; omega
  have hny : (n : Int) ≤ (y : Int) := by omega
  have q1 : Hid (∀ q, Calls Try.prog 13 #[.pointer (some ⟨g, 0, none⟩), .int .i64 k] (w.drewN q) fun e w' => e = .returned (.int .i64 y) ∧ w' = w.drewN q) := hide fun q => by
    rw [HY.out]; exact lenR g F n ao m c V L ls k _ (HR.out.drewN _) HL.out
  clear H hL hy hf
  go_enter Try.func19, Try.ntmps19
  go_wp2_with fail
  go_quiet ((go_at_call 13; exact Calls.quiet_of_same (q1.out _)))
  have HR1 := hide (HR.out.drewN nq)
  have M1 : Hid (Mid g (g + 1) w (w.drewN nq)) := hide ((Mid.refl g (g + 1) w).on (belowN (Below.refl _ _) nq))
  clear c0 d1 hny q1 HR HY HL
  generalize w.drewN nq = u at *
  obtain ⟨x, hx⟩ : ∃ x, x = ls[k]?.getD 0 := ⟨_, rfl⟩
  have c2 := HR1.out.bx.cell (2 + k) _ (qcl_ls (by rw [HR1.out.ll]; exact hk))
  have f2 := HR1.out.bx.free (2 + k) (by simp [qcl, HR1.out.ll]; omega)
  rw [← hx] at c2 hs
  have HX := hide hx
  have e3 : IntKind.i64.wrap ((x : Int) + 1) = ((x + 1 : Nat) : Int) := by
    rw [IntWalk.i64_in _ (by omega)]; omega
  clear hx hs
  go_wp2_with fail
  go_region
  have R2 : Hid (RQ (u.setCell ⟨g, 2 + k, none⟩ (.int .i64 ((x : Int) + 1))).drew g F n ao m c V L (up1 ls k)) := hide (by
    have h := HR1.out.lost1 HK.out
    rw [← HX.out] at h
    exact h.drew)
  have M2 : Hid (Mid g (g + 1) w (u.setCell ⟨g, 2 + k, none⟩ (.int .i64 ((x : Int) + 1))).drew) := hide (by
    have h := M1.out.trans (mid_at (k := 2 + k) (v := .int .i64 ((x : Int) + 1)))
    exact ⟨h.os, h.tape, h.output, h.size, h.block⟩)
  clear HR1 M1 c2 f2 e3
  generalize (u.setCell ⟨g, 2 + k, none⟩ (.int .i64 ((x : Int) + 1))).drew = u2 at *
  go_wp2
  go_ret
  exact ⟨rfl, R2.out, M2.out⟩
end Go.Proofs.Ytmdbclhdbglppaa
