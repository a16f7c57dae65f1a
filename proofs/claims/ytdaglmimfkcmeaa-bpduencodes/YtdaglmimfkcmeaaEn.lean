/- Contract of Encode, as the program has it. -/
import Derived.Test.YtdaglmimfkcmeaaSf
import Derived.Test.YtdaglmimfkcmeaaSe
namespace Go.Proofs.Ytdaglmimfkcmeaa
open Go.RowKit

set_option maxRecDepth 100000 in
set_option maxHeartbeats 1000000 in
theorem encode10_no (p : Bpd) (w : World) (hp : BpdB p) (hr : brt p = false) :
    Calls Try.prog 10 #[.agg (BC p)] w fun e w' => e = .returned (.tuple #[.slice none 0 0, .int .i64 1]) ∧ Below w.heap.size w w' := by
  have A0 : Box (w.alloc (.cells (BC p) 27)) w.heap.size (bcl p) := Box.new w (bcl p) 27
  have tk1 : True := trivial
  go_enter Try.func10, Try.ntmps10
  go_wp2_with (have _t := tk1; refine wpl_bpdu (.tmp 1) rfl A0 ?_ ?_ ?_; rfl; rfl; clear tk1)
  refine (right12 p _ hp).mono ?_
  rintro e w1 ⟨rfl, hb1⟩
  clear A0
  go_wp2
  go_ret2
  exact ⟨rfl, belowOn (below_alloc _ _) hb1⟩
set_option maxRecDepth 100000 in
set_option maxHeartbeats 4000000 in
theorem encode10_yes (p : Bpd) (w : World) (hp : BpdB p) (hr : brt p = true) :
    Calls Try.prog 10 #[.agg (BC p)] w fun e w' => ∃ g cap, e = .returned (.tuple #[.slice (some ⟨g, 0, none⟩) (enc p).length cap, .int .i64 0]) ∧ Byt w' (some ⟨g, 0, none⟩) (enc p).length cap (enc p) ∧ Below w.heap.size w w' := by
  have HR := hide (enc_rng hp hr)
  have HW := hide (wEnc hp hr)
  have hmf : ∀ (fn : Fn) (first cap : Array Value) (w : World), (Instr.makeFunc fn first cap).run Try.prog w = .ok (.func fn first cap) w := fun _ _ _ _ => rfl
  obtain ⟨i0, hi, hz0, hz1, hz2⟩ := info_parts Try.info5
  have A0 : Box (w.alloc (.cells (BC p) 27)) w.heap.size (bcl p) := Box.new w (bcl p) 27
  have W0 := below_alloc w (.cells (BC p) 27)
  have tk1 : True := trivial
  go_enter Try.func10, Try.ntmps10
  go_wp2_with (have _t := tk1; refine wpl_bpdu (.tmp 1) rfl A0 ?_ ?_ ?_; rfl; rfl; clear tk1)
  refine (right12 p _ hp).mono ?_
  rintro e w1 ⟨rfl, hb1⟩
  replace A0 := A0.on hb1
  replace W0 := belowOn W0 hb1
  clear hb1
  go_wp2_with (at_make; refine wpList_make_own _ rfl _ _ 29 rfl w1.heap.size 5 i0 (.int .u8 0) 1 Try.underlying29 hi hz0 hz1 .i64 .i64 _ 36 rfl rfl rfl (by rw [hz2]; omega) (by unfold maxLen; omega) (Nat.le_refl _) ?_)
  intro w2 hown hgrow
  have B2 : Below w1.heap.size w1 w2 := (Below.refl _ _).grown hgrow (Nat.le_refl _) (fun k hk => by cases hk)
  have hO : Own w2 w1.heap.size 0 [] := ⟨hown, (hown.lt _ rfl).2⟩
  have LG : w.heap.size < w1.heap.size := A0.lt
  replace A0 := (A0.on B2).alloc (.cells #[.slice (some ⟨w1.heap.size, 0, none⟩) 0 36] 29)
  replace W0 := belowOn (belowOn W0 B2) (below_alloc w2 (.cells #[.slice (some ⟨w1.heap.size, 0, none⟩) 0 36] 29))
  have I0 : Put w1.heap.size w2.heap.size [] (w2.alloc (.cells #[.slice (some ⟨w1.heap.size, 0, none⟩) 0 36] 29)) :=
    ⟨by simp, World.frozen?_alloc_at _ _ _ _ rfl, hO.alloc _, hO.lt, by simp⟩
  have HI := hide I0
  have LN : w1.heap.size ≤ (w2.alloc (.cells #[.slice (some ⟨w1.heap.size, 0, none⟩) 0 36] 29)).heap.size := by have := hO.lt; simp; omega
  have HL := hide LN
  clear hgrow B2 hown hO hi hz0 hz1 hz2 hr I0 LN
  have tk1 : True := trivial
  go_wp2_with (have _t := tk1; refine wpl_bpdu (.tmp 1) rfl A0 ?_ ?_ ?_; rfl; rfl; clear tk1)
  refine (walk18 (stepEnc w1.heap.size w2.heap.size) [] p hp _ _ HI.out HW.out).mono ?_
  rintro e w3 ⟨M, ⟨h, -⟩ | ⟨s', m, h, rfl, P⟩⟩
  · cases h
  injection h with h; injection h with h1 h2
  subst h1 h2
  have c1 := P.at_
  have HP := hide P
  have W1 := W0.trans ((M.below HL.out).mono (Nat.le_of_lt LG))
  clear A0 W0 M P HI HW HL
  go_wp2
  go_ret2
  obtain ⟨ao, c, e, hb⟩ := own_byt HP.out.own.row HR.out
  injection e with e1 e2 e3
  subst e1 e3
  exact ⟨_, _, rfl, hb, W1⟩
theorem encode10 (p : Bpd) (w : World) (hp : BpdB p) :
    Calls Try.prog 10 #[.agg (BC p)] w fun e w' => ∃ ao n c, e = .returned (.tuple #[.slice ao n c, .int .i64 (ec p)]) ∧ Byt w' ao n c (eb p) ∧ Below w.heap.size w w' := by
  cases hr : brt p
  · rw [eb_no hr, ec_no hr]
    exact (encode10_no p w hp hr).mono fun e w' ⟨he, hB⟩ => ⟨none, 0, 0, he, Byt.nothing w', hB⟩
  · rw [eb_yes hr, ec_yes hr]
    exact (encode10_yes p w hp hr).mono fun e w' ⟨g, cap, he, hb, hB⟩ => ⟨some ⟨g, 0, none⟩, _, cap, he, hb, hB⟩
end Go.Proofs.Ytdaglmimfkcmeaa
