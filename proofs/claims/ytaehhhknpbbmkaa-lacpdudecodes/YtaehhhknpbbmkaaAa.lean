/- Contract of the document's own bytes of an info. -/
import Derived.Test.YtaehhhknpbbmkaaA4
namespace Go.Proofs.Ytaehhhknpbbmkaa
open Go.RowKit

set_option maxRecDepth 100000 in
set_option maxHeartbeats 1000000 in
theorem two24 (n : Int) (w : World) (h0 : 0 ≤ n) (h1 : n ≤ 65535) :
    Calls Try.prog 24 #[.int .i64 n] w fun e w' => e = .returned (.slice (some ⟨w.heap.size, 0, none⟩) 2 2) ∧ w' = w.alloc (.cells #[.int .u8 (n / 256), .int .u8 (n % 256)] 5) := by
  have q1 := u8_div n h0 h1
  have q2 : IntKind.u8.wrap (n % 256) = n % 256 := by rw [u8_mod]; omega
  go_enter Try.func24, Try.ntmps24
  go_wp2
  go_ret
  exact ⟨rfl, rfl⟩
theorem two24' (n : Int) (w : World) (h0 : 0 ≤ n) (h1 : n ≤ 65535) :
    Calls Try.prog 24 #[.int .i64 n] w fun e w' => ∃ ao, e = .returned (.slice ao 2 2) ∧ Byt w' ao 2 2 [n / 256, n % 256] ∧ Below w.heap.size w w' :=
  (two24 n w h0 h1).mono fun e w' ⟨he, hw⟩ => ⟨_, he, by rw [hw]; exact byt2 w _ _ (by omega) (by omega), by rw [hw]; exact below_alloc _ _⟩
theorem Row.lit {w : World} {base : Nat} (cs : Array Value) (ns : List Int) (n : Nat) (hc : cs.toList = ns.map (Value.int .u8)) (hl : cs.size = n) (hn : n ≤ 1000) (hb : base ≤ w.heap.size) : Row (w.alloc (.cells cs 5)) base (.slice (some ⟨w.heap.size, 0, none⟩) n n) n ns := by
  unfold Row
  rw [← hc]
  exact World.ownsRow_lit w cs n hb (by unfold maxLen; omega) (by omega)
set_option maxRecDepth 100000 in
set_option maxHeartbeats 8000000 in
theorem bytes23 (x : Inf) (w : World) (hx : irt x = true) (hr : Rng (ml x)) :
    Calls Try.prog 23 #[.agg (IC x)] w fun e w' => ∃ ao c, e = .returned (.slice ao 18 c) ∧ Byt w' ao 18 c (ibs x) ∧ Below w.heap.size w w' := by
  obtain ⟨⟨a1, c1⟩, ⟨a2, c2⟩, ⟨a3, c3⟩, ⟨a4, c4⟩, ⟨a5, c5⟩⟩ := irt_and hx
  have q5 : IntKind.u8.wrap x.st = x.st := by rw [u8_mod]; omega
  have b1 : ∀ j, 0 ≤ (ml x).getD j 0 ∧ (ml x).getD j 0 ≤ 255 := rng_getD hr
  replace b1 := hide b1
  have HI := hide (ibs_rng hr hx)
  have A00 : Box (w.alloc (.cells (IC x) 25)) w.heap.size (icl x) := Box.new w (icl x) 25
  obtain ⟨W, hW⟩ : ∃ W, W = w.alloc (.cells (IC x) 25) := ⟨_, rfl⟩
  have A0 : Box W w.heap.size (icl x) := by rw [hW]; exact A00
  have W0 : Below w.heap.size w W := by rw [hW]; exact below_alloc _ _
  have hS : W.heap.size = w.heap.size + 1 := by rw [hW]; simp
  have ck0 := A00.cell 0 (.int .i64 x.sp) rfl
  have HW := hide hW
  clear hr hx hW A00
  go_enter Try.func23, Try.ntmps23
  go_wp2_with fail
  refine (two24 x.sp _ a1 c1).mono ?_
  rintro e w1 ⟨rfl, hw1⟩
  have R1 : Row w1 (w.heap.size + 1) (.slice (some ⟨w.heap.size + 1, 0, none⟩) 2 2) 2 [x.sp / 256, x.sp % 256] := by
    rw [hw1, ← HW.out, ← hS]
    exact Row.lit _ _ 2 rfl rfl (by omega) (Nat.le_refl _)
  have B1 : Below (w.heap.size + 1) W w1 := by
    rw [hw1, ← HW.out, ← hS]
    exact below_alloc _ _
  clear hw1 HW ck0
  go_wp2
  go_loopw [3, 4] (fun v i wr => ∃ k : Nat, k ≤ 6 ∧ i = .int .i64 k ∧ Row wr (w.heap.size + 1) v (2 + k) ([x.sp / 256, x.sp % 256] ++ (ml x).take k) ∧ Below (w.heap.size + 1) W wr) (fun _ i _ => 6 - (intOf i).toNat)
  case atStart => exact ⟨0, by omega, rfl, R1, B1⟩
  case round =>
    clear B1 R1
    obtain ⟨k, hk, rfl, hR, hB⟩ := hrel
    replace b1 := b1.out
    have hk7 : k = 0 ∨ k = 1 ∨ k = 2 ∨ k = 3 ∨ k = 4 ∨ k = 5 ∨ k = 6 := by omega
    rcases hk7 with e | e | e | e | e | e | e <;> subst e
    · have AA := A0.below (by omega) hB
      have ck := AA.cell 1 (.int .u8 x.m0) rfl
      have lt := AA.lt
      have HX := hide (b1 0)
      have hz : w.heap.size + 1 ≤ wr.heap.size := by omega
      have BB := hide (byt1 wr x.m0 HX.out)
      clear AA HX
      go_wp2_with (at_builtin; refine wpl_app rfl (.tmp 12) (.tmp 17) rfl (w.heap.size + 1) _ 2 [x.sp / 256, x.sp % 256] rfl (hR.alloc _) _ 1 1 _ rfl BB.out (by omega) (by simp; omega) ?_)
      intro v' w2 hR2 hB2
      have hB3 : Below (w.heap.size + 1) W w2 := (hB.alloc hz _).trans hB2
      clear hB hB2 hR ck lt hz BB
      go_wp2
      go_roundw
      case rel => exact ⟨1, by omega, rfl, hR2, hB3⟩
      case measure => simp [intOf]
    · have AA := A0.below (by omega) hB
      have ck := AA.cell 2 (.int .u8 x.m1) rfl
      have lt := AA.lt
      have HX := hide (b1 1)
      have hz : w.heap.size + 1 ≤ wr.heap.size := by omega
      have BB := hide (byt1 wr x.m1 HX.out)
      clear AA HX
      go_wp2_with (at_builtin; refine wpl_app rfl (.tmp 12) (.tmp 17) rfl (w.heap.size + 1) _ 3 [x.sp / 256, x.sp % 256, x.m0] rfl (hR.alloc _) _ 1 1 _ rfl BB.out (by omega) (by simp; omega) ?_)
      intro v' w2 hR2 hB2
      have hB3 : Below (w.heap.size + 1) W w2 := (hB.alloc hz _).trans hB2
      clear hB hB2 hR ck lt hz BB
      go_wp2
      go_roundw
      case rel => exact ⟨2, by omega, rfl, hR2, hB3⟩
      case measure => simp [intOf]
    · have AA := A0.below (by omega) hB
      have ck := AA.cell 3 (.int .u8 x.m2) rfl
      have lt := AA.lt
      have HX := hide (b1 2)
      have hz : w.heap.size + 1 ≤ wr.heap.size := by omega
      have BB := hide (byt1 wr x.m2 HX.out)
      clear AA HX
      go_wp2_with (at_builtin; refine wpl_app rfl (.tmp 12) (.tmp 17) rfl (w.heap.size + 1) _ 4 [x.sp / 256, x.sp % 256, x.m0, x.m1] rfl (hR.alloc _) _ 1 1 _ rfl BB.out (by omega) (by simp; omega) ?_)
      intro v' w2 hR2 hB2
      have hB3 : Below (w.heap.size + 1) W w2 := (hB.alloc hz _).trans hB2
      clear hB hB2 hR ck lt hz BB
      go_wp2
      go_roundw
      case rel => exact ⟨3, by omega, rfl, hR2, hB3⟩
      case measure => simp [intOf]
    · have AA := A0.below (by omega) hB
      have ck := AA.cell 4 (.int .u8 x.m3) rfl
      have lt := AA.lt
      have HX := hide (b1 3)
      have hz : w.heap.size + 1 ≤ wr.heap.size := by omega
      have BB := hide (byt1 wr x.m3 HX.out)
      clear AA HX
      go_wp2_with (at_builtin; refine wpl_app rfl (.tmp 12) (.tmp 17) rfl (w.heap.size + 1) _ 5 [x.sp / 256, x.sp % 256, x.m0, x.m1, x.m2] rfl (hR.alloc _) _ 1 1 _ rfl BB.out (by omega) (by simp; omega) ?_)
      intro v' w2 hR2 hB2
      have hB3 : Below (w.heap.size + 1) W w2 := (hB.alloc hz _).trans hB2
      clear hB hB2 hR ck lt hz BB
      go_wp2
      go_roundw
      case rel => exact ⟨4, by omega, rfl, hR2, hB3⟩
      case measure => simp [intOf]
    · have AA := A0.below (by omega) hB
      have ck := AA.cell 5 (.int .u8 x.m4) rfl
      have lt := AA.lt
      have HX := hide (b1 4)
      have hz : w.heap.size + 1 ≤ wr.heap.size := by omega
      have BB := hide (byt1 wr x.m4 HX.out)
      clear AA HX
      go_wp2_with (at_builtin; refine wpl_app rfl (.tmp 12) (.tmp 17) rfl (w.heap.size + 1) _ 6 [x.sp / 256, x.sp % 256, x.m0, x.m1, x.m2, x.m3] rfl (hR.alloc _) _ 1 1 _ rfl BB.out (by omega) (by simp; omega) ?_)
      intro v' w2 hR2 hB2
      have hB3 : Below (w.heap.size + 1) W w2 := (hB.alloc hz _).trans hB2
      clear hB hB2 hR ck lt hz BB
      go_wp2
      go_roundw
      case rel => exact ⟨5, by omega, rfl, hR2, hB3⟩
      case measure => simp [intOf]
    · have AA := A0.below (by omega) hB
      have ck := AA.cell 6 (.int .u8 x.m5) rfl
      have lt := AA.lt
      have HX := hide (b1 5)
      have hz : w.heap.size + 1 ≤ wr.heap.size := by omega
      have BB := hide (byt1 wr x.m5 HX.out)
      clear AA HX
      go_wp2_with (at_builtin; refine wpl_app rfl (.tmp 12) (.tmp 17) rfl (w.heap.size + 1) _ 7 [x.sp / 256, x.sp % 256, x.m0, x.m1, x.m2, x.m3, x.m4] rfl (hR.alloc _) _ 1 1 _ rfl BB.out (by omega) (by simp; omega) ?_)
      intro v' w2 hR2 hB2
      have hB3 : Below (w.heap.size + 1) W w2 := (hB.alloc hz _).trans hB2
      clear hB hB2 hR ck lt hz BB
      go_wp2
      go_roundw
      case rel => exact ⟨6, by omega, rfl, hR2, hB3⟩
      case measure => simp [intOf]
    · clear b1 a1 c1
      have AA := A0.below (by omega) hB
      have ck := AA.cell 7 (.int .i64 x.ky) rfl
      have lt := AA.lt
      have hz : w.heap.size + 1 ≤ wr.heap.size := by omega
      clear AA
      go_wp2_with fail
      refine (two24' x.ky _ a2 c2).mono ?_
      rintro e u1 ⟨ao, rfl, hY, hb1⟩
      replace hR := hR.on hb1
      replace hB := hB.trans (hb1.mono hz)
      replace hz : w.heap.size + 1 ≤ u1.heap.size := Nat.le_trans hz hb1.size
      have HR := hide hR
      have HY := hide hY
      clear hb1 ck lt hR hY
      go_wp2_with (at_builtin; refine wpl_app rfl (.tmp 19) (.tmp 22) rfl (w.heap.size + 1) _ 8 _ rfl HR.out _ 2 2 _ rfl HY.out (by omega) hz ?_)
      intro v' u2 hR hB2
      replace hB := hB.trans hB2
      clear hB2 hz HR HY
      have AA := A0.below (by omega) hB
      have ck := AA.cell 8 (.int .i64 x.pp) rfl
      have lt := AA.lt
      have hz : w.heap.size + 1 ≤ u2.heap.size := by omega
      clear AA
      go_wp2_with fail
      refine (two24' x.pp _ a3 c3).mono ?_
      rintro e u3 ⟨ao, rfl, hY, hb1⟩
      replace hR := hR.on hb1
      replace hB := hB.trans (hb1.mono hz)
      replace hz : w.heap.size + 1 ≤ u3.heap.size := Nat.le_trans hz hb1.size
      have HR := hide hR
      have HY := hide hY
      clear hb1 ck lt hR hY
      go_wp2_with (at_builtin; refine wpl_app rfl (.tmp 24) (.tmp 27) rfl (w.heap.size + 1) _ 10 _ rfl HR.out _ 2 2 _ rfl HY.out (by omega) hz ?_)
      intro v' u4 hR hB2
      replace hB := hB.trans hB2
      clear hB2 hz HR HY
      have AA := A0.below (by omega) hB
      have ck := AA.cell 9 (.int .i64 x.po) rfl
      have lt := AA.lt
      have hz : w.heap.size + 1 ≤ u4.heap.size := by omega
      clear AA
      go_wp2_with fail
      refine (two24' x.po _ a4 c4).mono ?_
      rintro e u5 ⟨ao, rfl, hY, hb1⟩
      replace hR := hR.on hb1
      replace hB := hB.trans (hb1.mono hz)
      replace hz : w.heap.size + 1 ≤ u5.heap.size := Nat.le_trans hz hb1.size
      have HR := hide hR
      have HY := hide hY
      clear hb1 ck lt hR hY
      go_wp2_with (at_builtin; refine wpl_app rfl (.tmp 29) (.tmp 32) rfl (w.heap.size + 1) _ 12 _ rfl HR.out _ 2 2 _ rfl HY.out (by omega) hz ?_)
      intro v' u6 hR hB2
      replace hB := hB.trans hB2
      clear hB2 hz HR HY
      have AA := A0.below (by omega) hB
      have ck := AA.cell 10 (.int .i64 x.st) rfl
      have lt := AA.lt
      have hz : w.heap.size + 1 ≤ u6.heap.size := by omega
      have HR := hide (hR.alloc (.cells #[.int .u8 x.st, .int .u8 0, .int .u8 0, .int .u8 0] 5))
      have BB := hide (byt4 u6 x.st 0 0 0 ⟨a5, c5⟩ (by omega) (by omega) (by omega))
      clear AA hR
      go_wp2_with (at_builtin; refine wpl_app rfl (.tmp 34) (.tmp 38) rfl (w.heap.size + 1) _ 14 _ rfl HR.out _ 4 4 _ rfl BB.out (by omega) (by simp; omega) ?_)
      intro v' u7 hR hB2
      replace hB := (hB.alloc hz _).trans hB2
      have HRR := hide hR
      clear hB2 hz HR BB lt ck hR
      go_wp2
      go_ret
      obtain ⟨ao, c, hv, hy⟩ := Row.byt (ns := ibs x) HRR.out HI.out
      exact ⟨ao, c, by rw [hv]; rfl, hy, W0.trans (hB.mono (by omega))⟩
end Go.Proofs.Ytaehhhknpbbmkaa
