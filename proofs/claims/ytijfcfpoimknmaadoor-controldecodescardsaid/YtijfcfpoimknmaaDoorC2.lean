/- Contract of appendField: one field's bytes, put to a slice that has room. -/
import Derived.Test.YtijfcfpoimknmaaDoorB2
import Derived.Test.YtijfcfpoimknmaaDoorC1
namespace Go.Proofs.YtijfcfpoimknmaaDoor
open Go.RowKit

theorem ms_le (k : Int) : ms k ≤ 250 := by unfold ms; split; omega; split <;> omega
theorem fit2 {n : Int} (h0 : 0 ≤ n) (h1 : n < 65536) : fit 2 n = true := decide_eq_true ⟨h0, by simpa using h1⟩
theorem fit1 {n : Int} (h0 : 0 ≤ n) (h1 : n < 256) : fit 1 n = true := decide_eq_true ⟨h0, by simpa using h1⟩
theorem fit4 {n : Int} (h0 : 0 ≤ n) (h1 : n < 4294967296) : fit 4 n = true := decide_eq_true ⟨h0, by simpa using h1⟩
theorem ft_v {n : Nt} (h : ft n 1 = true) : fit 2 n.v = true := by
  have := (wi_iff n.v 1 4094).1 h
  exact fit2 (by omega) (by omega)
theorem ft_p {n : Nt} (h : ft n 4 = true) : fit 2 n.p = true := by
  have := (wi_iff n.p 0 1000).1 h
  exact fit2 (by omega) (by omega)
theorem ft_s {n : Nt} (h : ft n 8 = true) : fit 1 n.s = true := by
  have := (wi_iff n.s 0 (ms n.k)).1 h
  have := ms_le n.k
  exact fit1 (by omega) (by omega)
theorem ft_b {n : Nt} (h : ft n 16 = true) : fit 2 (n.b.length : Int) = true ∧ n.b.length ≤ 1600 := by
  have : (n.b.length : Int) ≤ 1600 := of_decide_eq_true h
  exact ⟨fit2 (by omega) (by omega), by omega⟩
def fz (n : Nt) (j : Nat) : Nat := if j = 1 then 2 else if j = 2 then 6 else if j = 4 then 2 else if j = 8 then 1 else 2 + n.b.length
theorem fb_length (n : Nt) (j : Nat) : (fb n j).length = fz n j := by
  unfold fb fz
  split
  · exact be_length _ _
  split
  · rfl
  split
  · exact be_length _ _
  split
  · exact be_length _ _
  rw [List.length_append, be_length]
/-- The six bytes of a note in memory, as a slice. -/
theorem macByt {w : World} {k : Nat} {x : Nt} {s : Value} (h : Box w k (ncl x s)) (hr : Rng (ml x)) : Byt w (some ⟨k, 2, none⟩) 6 6 (ml x) := by
  refine ⟨rfl, fun e => (by cases e), fun j hj => ⟨k, 2, rfl, ?_⟩, Nat.le_refl _, by unfold maxLen; omega, hr⟩
  refine h.mac j _ ?_
  rcases (show j = 0 ∨ j = 1 ∨ j = 2 ∨ j = 3 ∨ j = 4 ∨ j = 5 by omega) with rfl | rfl | rfl | rfl | rfl | rfl <;> rfl
section
attribute [local go_sem] NC1 NC8 NC9 NC10
set_option maxRecDepth 100000 in
set_option maxHeartbeats 4000000 in
theorem field27 (n : Nt) (a : Option Addr) (m c : Nat) (hB : Rng (ml n)) (j : Nat) (hj : J5 j) (hf : ft n j = true) (G C K : Nat) (ns : List Int) (w : World) (hO : Own w G C K ns) (hY : Byt w a m c n.b)
    (hne : ∀ b o, a = some ⟨b, o, none⟩ → 0 < m → b ≠ G) (hC : K + fz n j ≤ C) :
    Calls Tryd.prog 27 #[.slice (some ⟨G, 0, none⟩) K C, .agg (NC n (.slice a m c)), .int .i64 j] w fun e w' => e = .returned (.slice (some ⟨G, 0, none⟩) (K + fz n j) C) ∧ Own w' G C (K + fz n j) (ns ++ fb n j) ∧ w.grownBy w' (some G) := by
  have A0 : Box (w.alloc (.cells (NC n (.slice a m c)) 26)) w.heap.size (ncl n (.slice a m c)) := Box.new w (ncl n (.slice a m c)) 26
  have O0 := hO.alloc (.cells (NC n (.slice a m c)) 26)
  have Y0 := hY.alloc (.cells (NC n (.slice a m c)) 26)
  have G0 : w.grownBy (w.alloc (.cells (NC n (.slice a m c)) 26)) (some G) := grown_alloc (World.grownBy.refl _ _) _
  rcases hj with rfl | rfl | rfl | rfl | rfl
  · have F := hide (fun W h1 h2 => put23_2 n.v (ft_v hf) G C K ns W h1 h2)
    have e1 : fz n 1 = 2 := rfl
    have e2 : fb n 1 = be 2 n.v := rfl
    rw [e1] at hC
    rw [e1, e2]
    have HC := hide hC
    clear hf hO hY hne e1 e2 A0 Y0 hB hC
    go_enter Tryd.func27, Tryd.ntmps27
    go_wp2_with fail
    refine (F.out _ O0 HC.out).mono ?_
    rintro e w1 ⟨rfl, O1, g1⟩
    clear F O0
    go_wp2
    go_ret
    exact ⟨rfl, O1, grown_trans G0 g1⟩
  · have e1 : fz n 2 = 6 := rfl
    have e2 : fb n 2 = ml n := rfl
    rw [e1] at hC
    rw [e1, e2]
    have YM := hide (macByt A0 hB)
    have HO := hide O0
    have HC := hide hC
    clear hf hO hY hne e1 e2 Y0 hB hC O0
    go_enter Tryd.func27, Tryd.ntmps27
    go_wp2_with (at_builtin; refine wpl_fit rfl (.tmp 16) (.tmp 18) rfl G C K (K + 6) ns rfl HO.out _ 6 6 _ rfl YM.out rfl HC.out ?_)
    intro w1 O1 g1
    clear HO YM
    go_wp2
    go_ret
    exact ⟨rfl, O1, grown_trans G0 g1⟩
  · have F := hide (fun W h1 h2 => put23_2 n.p (ft_p hf) G C K ns W h1 h2)
    have e1 : fz n 4 = 2 := rfl
    have e2 : fb n 4 = be 2 n.p := rfl
    rw [e1] at hC
    rw [e1, e2]
    have HC := hide hC
    clear hf hO hY hne e1 e2 A0 Y0 hB hC
    go_enter Tryd.func27, Tryd.ntmps27
    go_wp2_with fail
    refine (F.out _ O0 HC.out).mono ?_
    rintro e w1 ⟨rfl, O1, g1⟩
    clear F O0
    go_wp2
    go_ret
    exact ⟨rfl, O1, grown_trans G0 g1⟩
  · have F := hide (fun W h1 h2 => put23_1 n.s (ft_s hf) G C K ns W h1 h2)
    have e1 : fz n 8 = 1 := rfl
    have e2 : fb n 8 = be 1 n.s := rfl
    rw [e1] at hC
    rw [e1, e2]
    have HC := hide hC
    clear hf hO hY hne e1 e2 A0 Y0 hB hC
    go_enter Tryd.func27, Tryd.ntmps27
    go_wp2_with fail
    refine (F.out _ O0 HC.out).mono ?_
    rintro e w1 ⟨rfl, O1, g1⟩
    clear F O0
    go_wp2
    go_ret
    exact ⟨rfl, O1, grown_trans G0 g1⟩
  · have hl := hY.len
    have F := hide (fun W h1 h2 => put23_2 (n.b.length : Int) (ft_b hf).1 G C K ns W h1 h2)
    have e1 : fz n 16 = 2 + m := by rw [← hl]; rfl
    have e2 : fb n 16 = be 2 (n.b.length : Int) ++ n.b := rfl
    rw [e1] at hC
    rw [e1, e2]
    rw [hl] at F ⊢
    have HC := hide hC
    have HN := hide hne
    have HL := hide (show w.heap.size ≠ G by have := hO.lt; omega)
    clear hf hO hY hne e1 e2 hB hC hl
    go_enter Tryd.func27, Tryd.ntmps27
    go_wp2_with fail
    refine (F.out _ O0 (by have := HC.out; omega)).mono ?_
    rintro e w1 ⟨rfl, O1, g1⟩
    replace A0 := A0.kept HL.out g1
    replace Y0 := hide (Y0.kept HN.out g1)
    replace G0 := grown_trans G0 g1
    have c10 := A0.cell 10 (.slice a m c) rfl
    have HO := hide O1
    clear F O0 A0 O1 g1
    go_wp2_with (at_builtin; refine wpl_fit rfl (.tmp 37) (.tmp 39) rfl G C (K + 2) (K + (2 + m)) _ rfl HO.out _ m c _ rfl Y0.out (by omega) HC.out ?_)
    intro w2 O2 g2
    clear HO Y0 c10
    go_wp2
    go_ret
    exact ⟨rfl, O2, grown_trans G0 g2⟩
end
end Go.Proofs.YtijfcfpoimknmaaDoor
