/- Contract of find. -/
import Derived.Test.YtjlmheecefobaaaM8
namespace Go.Proofs.Ytjlmheecefobaaa
open Go.RowKit Go.PlainAid

theorem drop_one {l : List En} {k : Nat} {y : En} (h : l[k]? = some y) : l.drop k = y :: l.drop (k + 1) := by
  obtain ⟨hl, e⟩ := List.getElem?_eq_some_iff.1 h
  rw [List.drop_eq_getElem_cons hl, e]
attribute [local go_sem] ZE
set_option maxRecDepth 100000 in
set_option maxHeartbeats 4000000 in
theorem find23 (ao : Option Addr) (n c : Nat) (l : List En) (x : En) (w : World) (hl : Sl ecl 10 w w.heap.size ao n c l) :
    Calls Try.prog 23 #[.slice ao n c, .agg (EC x)] w fun e w' => e = .returned (.tuple #[.agg (EC (lk l x.v x.m)), .bool (hs l x.v x.m)]) ∧ Below w.heap.size w w' := by
  have HL := hide hl
  have HN : Hid (l.length = n) := hide hl.len
  have hnc := hl.le
  have hmx := hl.mx
  unfold maxLen at hmx
  have X0 : Box ((w.alloc (.cells (EC x) 36)).alloc (.cells (EC zE) 36)) w.heap.size (ecl x) := (box_e w x).alloc _
  have Z0 : Box ((w.alloc (.cells (EC x) 36)).alloc (.cells (EC zE) 36)) (w.heap.size + 1) (ecl zE) := by
    have := box_e (w.alloc (.cells (EC x) 36)) zE
    rwa [World.size_alloc] at this
  have W0 : Below w.heap.size w ((w.alloc (.cells (EC x) 36)).alloc (.cells (EC zE) 36)) := by go_grown
  have HX0 := hide X0
  have HZ0 := hide Z0
  have HW0 := hide W0
  clear hl X0 Z0 W0
  obtain ⟨k0, hk0⟩ : ∃ k0, k0 = w.heap.size := ⟨_, rfl⟩
  have HK0 := hide hk0
  go_enter Try.func23, Try.ntmps23
  go_wp2
  rw [← hk0] at HX0 HZ0 HW0 ⊢
  clear hk0
  generalize (w.alloc (.cells (EC x) 36)).alloc (.cells (EC zE) 36) = W1 at *
  go_loopw [6] (fun i wr => ∃ k q : Nat, k ≤ n ∧ i = .int .i64 k ∧ hs l x.v x.m = hs (l.drop k) x.v x.m ∧ lk l x.v x.m = lk (l.drop k) x.v x.m ∧ wr = W1.drewN q) (fun i _ => n - (intOf i).toNat)
  case atStart => exact ⟨0, 0, Nat.zero_le _, rfl, by simp, by simp, rfl⟩
  case round =>
    obtain ⟨k, q, hk, rfl, h1, h2, rfl⟩ := hrel
    have HH := hide (And.intro h1 h2)
    clear h1 h2
    have HX : Hid (Box (W1.drewN q) k0 (ecl x)) := hide (boxN HX0.out q)
    have HZ : Hid (∀ m, Box ((W1.drewN q).drewN m) (k0 + 1) (ecl zE)) := hide (fun m => boxN (boxN HZ0.out q) m)
    have HB : Hid (∀ m, Below k0 w ((W1.drewN q).drewN m)) := hide (fun m => belowN (belowN HW0.out q) m)
    have HZ1 : Hid (Box (W1.drewN q) (k0 + 1) (ecl zE)) := hide (boxN HZ0.out q)
    have HB1 : Hid (Below k0 w (W1.drewN q)) := hide (belowN HW0.out q)
    by_cases hkn : k < n
    · obtain ⟨y, hy⟩ : ∃ y, l[k]? = some y := ⟨_, List.getElem?_eq_getElem (by rw [HN.out]; exact hkn)⟩
      have HLQ : Sl ecl 10 W1 w.heap.size ao n c l := HL.out.below (by rw [← HK0.out]; exact HW0.out)
      obtain ⟨b0, o0, rfl, hG, hA⟩ := HLQ.cell k y hy
      have hA2 : Hid (∀ m, ((W1.drewN q).drewN m).rangeAt b0 (o0 + k * 10) (ecl y)) := hide (fun m => hA)
      obtain ⟨d0, d1, d2, d3, d4, d5, d6, -, -, -⟩ := range_cells hA
      obtain ⟨f0, f1, f2, f3, f4, f5, f6, -, -, -⟩ := range_cells HX0.out.at_
      have hd := drop_one hy
      have HE := hide (show ky y x.v x.m = (y.v == x.v && eqM y.m x.m) from rfl)
      have HD : Hid (hs (l.drop k) x.v x.m = (ky y x.v x.m || hs (l.drop (k + 1)) x.v x.m) ∧ lk (l.drop k) x.v x.m = if ky y x.v x.m then y else lk (l.drop (k + 1)) x.v x.m) := hide (by rw [hd]; exact ⟨rfl, rfl⟩)
      have q3 := eqMac y.m x.m
      rw [mc_def', mc_def'] at q3
      have hk2 : (k : Int) < (n : Int) := by omega
      have e1 : IntKind.i64.wrap ((k : Int) + 1) = (k : Int) + 1 := IntWalk.i64_in _ (by omega)
      clear hy hG hA hd HLQ
      have nxt9 : Hid (ky y x.v x.m = false → hs l x.v x.m = hs (l.drop (k + 1)) x.v x.m ∧ lk l x.v x.m = lk (l.drop (k + 1)) x.v x.m) := hide (fun h => by
        have := HD.out
        rw [h] at this
        simp at this
        exact ⟨HH.out.1.trans this.1, HH.out.2.trans this.2⟩)
      rcases Bool.eq_false_or_eq_true (y.v == x.v) with h1 | h1
      · rcases Bool.eq_false_or_eq_true (eqM y.m x.m) with h2 | h2
        · have HR : Hid (hs l x.v x.m = true ∧ lk l x.v x.m = y) := hide (by
            have h := HD.out
            rw [HE.out, h1, h2] at h
            simp at h
            exact ⟨HH.out.1.trans h.1, HH.out.2.trans h.2⟩)
          rw [h2] at q3
          clear h2 nxt9
          go_wp2_with fail
          go_quiet (fail)
          have A1 := hA2.out nq
          have Z1 := hide (HZ.out nq)
          have B1 := hide (HB.out nq)
          clear d0 d1 d2 d3 d4 d5 d6 f0 f1 f2 f3 f4 f5 f6 q3 HZ HB hA2
          generalize World.drewN _ nq = wq at *
          have tk1 : True := trivial
          have tk2 : True := trivial
          go_wp2_with (first | (have _t := tk1; refine wpl_ent (.tmp 33) rfl A1 ?_ ?_ ?_; rfl; rfl; clear tk1) | (have _t := tk2; refine wpl_putE y zE (.tmp 4) (.tmp 34) rfl Z1.out ?_ rfl rfl ?_; rfl; clear tk2))
          intro w5 Y5 G5
          have HY := hide Y5
          have B5 : Hid (Below k0 w w5) := hide (below_grown B1.out G5 (by omega) (by have := B1.out.size; have := HK0.out; omega))
          clear Y5 G5 Z1 B1 A1
          go_wp2
          refine bodyPost_ret (res_ent_tmp rfl rfl HY.out) rfl ⟨?_, by rw [← HK0.out]; exact B5.out⟩
          rw [HR.out.1, HR.out.2]; rfl
        · have HKY : Hid (ky y x.v x.m = false) := hide (by rw [HE.out, h1, h2]; rfl)
          rw [h2] at q3
          clear h2
          go_wp2_with fail
          go_quiet (fail)
          have hn := hide (nxt9.out HKY.out)
          go_wp2
          go_roundw
          case rel => exact ⟨k + 1, q + nq, by omega, by go_num, hn.out.1, hn.out.2, rfl⟩
          case measure => simp [intOf]; omega
      · have HKY : Hid (ky y x.v x.m = false) := hide (by rw [HE.out, h1]; rfl)
        clear q3
        go_wp2_with fail
        go_quiet (fail)
        have hn := hide (nxt9.out HKY.out)
        go_wp2
        go_roundw
        case rel => exact ⟨k + 1, q + nq, by omega, by go_num, hn.out.1, hn.out.2, rfl⟩
        case measure => simp [intOf]; omega
    · have hk2 : ¬ (k : Int) < (n : Int) := by omega
      have hdn : l.drop k = [] := List.drop_eq_nil_of_le (by rw [HN.out]; omega)
      have HR : Hid (hs l x.v x.m = false ∧ lk l x.v x.m = zE) := hide ⟨by rw [HH.out.1, hdn]; rfl, by rw [HH.out.2, hdn]; rfl⟩
      clear hdn
      have tk2 : True := trivial
      go_wp2_with (first | (have _t := tk2; refine wpl_putE zE zE (.tmp 4) (.tmp 35) rfl HZ1.out ?_ rfl rfl ?_; rfl; clear tk2))
      intro w5 Y5 G5
      have HY := hide Y5
      have B5 : Hid (Below k0 w w5) := hide (below_grown HB1.out G5 (by omega) (by have := HB1.out.size; have := HK0.out; omega))
      clear Y5 G5
      go_wp2
      refine bodyPost_ret (res_ent_tmp rfl rfl HY.out) rfl ⟨?_, by rw [← HK0.out]; exact B5.out⟩
      rw [HR.out.1, HR.out.2]; rfl
end Go.Proofs.Ytjlmheecefobaaa
