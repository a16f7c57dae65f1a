/- Contract of the document's Learn. -/
import Derived.Test.YtbpkdkniiggcpaaE9
namespace Go.Proofs.Ytbpkdkniiggcpaa
open Go.RowKit Go.PlainAid

theorem ecl_parts (x : En) : ecl x = (.int .i64 x.v :: mcl x.m) ++ ([.int .i64 x.p, .int .i64 x.t] ++ [.bool x.s]) := rfl
theorem RT.learnAt {w : World} {g b cap : Nat} {T : Tb} (H : RT w g (.slice (some ⟨b, 0, none⟩) T.l.length cap) T) {y : En} {k : Nat} {v p t : Int} {m : Mc} (hy : T.l[k]? = some y) (hv : y.v = v) (hm : y.m = m) (hs : y.s = false) (hx : Gd ⟨v, m, p, t, false⟩) :
    RT ((w.setCell ⟨b, k * 10 + 7, none⟩ (.int .i64 p)).setCell ⟨b, k * 10 + 8, none⟩ (.int .i64 t)) g (.slice (some ⟨b, 0, none⟩) T.l.length cap) ⟨T.n, up T.l ⟨v, m, p, t, false⟩⟩ ∧ w.grownBy ((w.setCell ⟨b, k * 10 + 7, none⟩ (.int .i64 p)).setCell ⟨b, k * 10 + 8, none⟩ (.int .i64 t)) (some b) := by
  have he : ke y = ke ⟨v, m, p, t, false⟩ := by simp [ke, hv, hm]
  have hs1 := up_set H.wf.srt hy he
  have hl : (up T.l ⟨v, m, p, t, false⟩).length = T.l.length := by rw [← hs1, List.length_set]
  obtain ⟨p1, p2, p3, p4, p5⟩ := box_of_row H.row (es_length _)
  have hG := setCells_grown b [.int .i64 p, .int .i64 t] (k * 10 + 7) w
  refine ⟨⟨H.bx.kept (by omega) hG, ?_, up_wf H.wf hx (by rw [hl]; exact H.wf.le)⟩, hG⟩
  show World.ownsRow _ (g + 1) 33 10 (.slice (some ⟨b, 0, none⟩) T.l.length cap) (up T.l ⟨v, m, p, t, false⟩).length (es (up T.l ⟨v, m, p, t, false⟩))
  rw [hl, ← hs1, es_set ⟨v, m, p, t, false⟩ hy]
  have h1 := row_sm [.int .i64 p, .int .i64 t] (k * 10 + 7) w (g + 1) b T.l.length cap (es T.l) H.row
  have e1 : es T.l = (es (T.l.take k) ++ (.int .i64 y.v :: mcl y.m)) ++ ([.int .i64 y.p, .int .i64 y.t] ++ ([.bool y.s] ++ es (T.l.drop (k + 1)))) := by
    rw [es_parts hy, ecl_parts y]
    simp only [List.append_assoc]
  have h2 := sm_parts [.int .i64 p, .int .i64 t] (es (T.l.take k) ++ (.int .i64 y.v :: mcl y.m)) [.int .i64 y.p, .int .i64 y.t] ([.bool y.s] ++ es (T.l.drop (k + 1))) rfl
  have e2 : (es (T.l.take k) ++ (.int .i64 y.v :: mcl y.m)).length = k * 10 + 7 := by rw [List.length_append, es_take_len hy]; rfl
  rw [e2, ← e1] at h2
  rw [h2] at h1
  have e3 : es (T.l.take k) ++ (ecl ⟨v, m, p, t, false⟩ ++ es (T.l.drop (k + 1))) = (es (T.l.take k) ++ (.int .i64 y.v :: mcl y.m)) ++ ([.int .i64 p, .int .i64 t] ++ ([.bool y.s] ++ es (T.l.drop (k + 1)))) := by
    rw [ecl_parts ⟨v, m, p, t, false⟩, hv, hm, hs]
    simp only [List.append_assoc]
  rw [e3]
  exact h1
section
set_option maxRecDepth 100000 in
set_option maxHeartbeats 2000000 in
theorem learn39_no (g : Nat) (v : Int) (m : Mc) (p t : Int) (w : World) (hm : Mok m) (hr : lOk v m p t = false) :
    Calls Try.prog 39 #[.pointer (some ⟨g, 0, none⟩), .int .i64 v, .agg (MC m), .int .i64 p, .int .i64 t] w fun e w' => e = .returned (.tuple #[.int .i64 0, .int .i64 1]) ∧ Below w.heap.size w w' := by
  have A0 := (box_m w m).at_
  have W0 : Hid (Below w.heap.size w (w.alloc (.cells (MC m) 24))) := hide (below_alloc w _)
  have q1 := fun w => right55 v m p w hm
  rw [lOk] at hr
  have tk1 : True := trivial
  rcases Bool.eq_false_or_eq_true (rgt v m p) with hv | hv
  · rw [hv, Bool.true_and] at hr
    rw [hv] at q1
    have hc : t < 0 ∨ 1099511627776 < t := by
      have h : ¬ (0 ≤ t ∧ t ≤ 1099511627776) := fun h => by rw [isT_iff.2 h] at hr; cases hr
      omega
    clear hr
    by_cases h1 : t < 0
    · clear hc
      go_enter Try.func39, Try.ntmps39
      go_wp2_with (first | (have _t := tk1; refine wpl_mac (.tmp 7) rfl A0 ?_ ?_ ?_; rfl; rfl; clear tk1) | (go_at_call 55; refine (q1 _).mono ?_; rintro e w1 ⟨rfl, hb⟩))
      go_ret2
      exact ⟨rfl, belowOn W0.out hb⟩
    · have h2 : 1099511627776 < t := by omega
      clear hc
      go_enter Try.func39, Try.ntmps39
      go_wp2_with (first | (have _t := tk1; refine wpl_mac (.tmp 7) rfl A0 ?_ ?_ ?_; rfl; rfl; clear tk1) | (go_at_call 55; refine (q1 _).mono ?_; rintro e w1 ⟨rfl, hb⟩))
      go_ret2
      exact ⟨rfl, belowOn W0.out hb⟩
  · rw [hv] at q1
    clear hr
    go_enter Try.func39, Try.ntmps39
    go_wp2_with (first | (have _t := tk1; refine wpl_mac (.tmp 7) rfl A0 ?_ ?_ ?_; rfl; rfl; clear tk1) | (go_at_call 55; refine (q1 _).mono ?_; rintro e w1 ⟨rfl, hb⟩))
    go_ret2
    exact ⟨rfl, belowOn W0.out hb⟩
end
end Go.Proofs.Ytbpkdkniiggcpaa
