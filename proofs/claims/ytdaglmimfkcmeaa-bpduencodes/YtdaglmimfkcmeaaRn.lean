/- Contracts of the document's own bytes of a number and of an id. -/
import Derived.Test.YtdaglmimfkcmeaaA7
import Derived.Test.YtdaglmimfkcmeaaA3
import Derived.Laws.MakeOwn
namespace Go.Proofs.Ytdaglmimfkcmeaa
open Go.RowKit

theorem made_u8 (n : Nat) : madeCells #[.int .u8 0] n = (List.replicate n (Value.int .u8 0)).toArray := by
  apply Array.ext'
  simp [madeCells]
  apply List.ext_getElem
  · simp
  · intro i h1 h2
    simp [Nat.mod_one]
theorem make2 (w : World) : (Instr.makeSlice 29 (.int .i64 2) (.int .i64 2)).run Try.prog w = .ok (.slice (some ⟨w.heap.size, 0, none⟩) 2 2) (w.alloc (.cells #[.int .u8 0, .int .u8 0] 5)) := by
  obtain ⟨i0, hi, hz0, hz1, hz2⟩ := info_parts Try.info5
  rw [run_makeSlice w 29 5 i0 (.int .u8 0) Try.underlying29 hi hz0 .i64 .i64 2 2 (by omega) (by omega) (by rw [hz1]; decide) (by rw [hz2]; decide) (by omega), hz1, show (Value.int .u8 0).cells = #[.int .u8 0] from rfl, made_u8]
  rfl
theorem make4 (w : World) : (Instr.makeSlice 29 (.int .i64 4) (.int .i64 4)).run Try.prog w = .ok (.slice (some ⟨w.heap.size, 0, none⟩) 4 4) (w.alloc (.cells #[.int .u8 0, .int .u8 0, .int .u8 0, .int .u8 0] 5)) := by
  obtain ⟨i0, hi, hz0, hz1, hz2⟩ := info_parts Try.info5
  rw [run_makeSlice w 29 5 i0 (.int .u8 0) Try.underlying29 hi hz0 .i64 .i64 4 4 (by omega) (by omega) (by rw [hz1]; decide) (by rw [hz2]; decide) (by omega), hz1, show (Value.int .u8 0).cells = #[.int .u8 0] from rfl, made_u8]
  rfl
set_option maxRecDepth 100000 in
set_option maxHeartbeats 2000000 in
theorem number21_2 (n : Int) (w : World) (f : fit 2 n = true) :
    Calls Try.prog 21 #[.int .i64 n, .int .i64 2] w fun e w' => e = .returned (.slice (some ⟨w.heap.size, 0, none⟩) 2 2) ∧ w' = w.alloc (.cells #[.int .u8 (n / 256 % 256), .int .u8 (n % 256)] 5) := by
  obtain ⟨h0, h1⟩ := fit_and f
  have h2 : n < 65536 := by simpa using h1
  have hm := make2
  clear f h1
  go_enter Try.func21, Try.ntmps21
  go_wp2
  go_rounds 3
  go_ret
  exact ⟨rfl, rfl⟩
theorem number21_2' (n : Int) (w : World) (f : fit 2 n = true) :
    Calls Try.prog 21 #[.int .i64 n, .int .i64 2] w fun e w' => ∃ ao, e = .returned (.slice ao 2 2) ∧ Byt w' ao 2 2 (be 2 n) ∧ Below w.heap.size w w' :=
  (number21_2 n w f).mono fun e w' ⟨he, hw⟩ => ⟨_, he, by rw [hw]; exact byt_of_new w _ (be 2 n) 2 rfl (be_length _ _) (by omega) (be_rng _ _), by rw [hw]; exact below_alloc _ _⟩
set_option maxRecDepth 100000 in
set_option maxHeartbeats 2000000 in
theorem number21_4 (n : Int) (w : World) (f : fit 4 n = true) :
    Calls Try.prog 21 #[.int .i64 n, .int .i64 4] w fun e w' => e = .returned (.slice (some ⟨w.heap.size, 0, none⟩) 4 4) ∧ w' = w.alloc (.cells #[.int .u8 (n / 256 / 256 / 256 % 256), .int .u8 (n / 256 / 256 % 256), .int .u8 (n / 256 % 256), .int .u8 (n % 256)] 5) := by
  obtain ⟨h0, h1⟩ := fit_and f
  have h2 : n < 4294967296 := by simpa using h1
  have hm := make4
  clear f h1
  go_enter Try.func21, Try.ntmps21
  go_wp2
  go_rounds 5
  go_ret
  exact ⟨rfl, rfl⟩
theorem number21_4' (n : Int) (w : World) (f : fit 4 n = true) :
    Calls Try.prog 21 #[.int .i64 n, .int .i64 4] w fun e w' => ∃ ao, e = .returned (.slice ao 4 4) ∧ Byt w' ao 4 4 (be 4 n) ∧ Below w.heap.size w w' :=
  (number21_4 n w f).mono fun e w' ⟨he, hw⟩ => ⟨_, he, by rw [hw]; exact byt_of_new w _ (be 4 n) 4 rfl (be_length _ _) (by omega) (be_rng _ _), by rw [hw]; exact below_alloc _ _⟩
set_option maxRecDepth 100000 in
set_option maxHeartbeats 8000000 in
theorem id20 (x : Idn) (w : World) (hx : fit 2 x.pr = true) (hr : Rng (ml x)) :
    Calls Try.prog 20 #[.agg (IC x)] w fun e w' => ∃ ao c, e = .returned (.slice ao 8 c) ∧ Byt w' ao 8 c (ib x) ∧ Below w.heap.size w w' := by
  have b1 : ∀ j, 0 ≤ (ml x).getD j 0 ∧ (ml x).getD j 0 ≤ 255 := rng_getD hr
  replace b1 := hide b1
  have HI := hide (ib_rng hr)
  have A00 : Box (w.alloc (.cells (IC x) 25)) w.heap.size (icl x) := Box.new w (icl x) 25
  obtain ⟨W, hW⟩ : ∃ W, W = w.alloc (.cells (IC x) 25) := ⟨_, rfl⟩
  have A0 : Box W w.heap.size (icl x) := by rw [hW]; exact A00
  have W0 : Below w.heap.size w W := by rw [hW]; exact below_alloc _ _
  have hS : W.heap.size = w.heap.size + 1 := by rw [hW]; simp
  have ck0 := A00.cell 0 (.int .i64 x.pr) rfl
  have HW := hide hW
  have HX := hide hx
  clear hr hx hW A00
  go_enter Try.func20, Try.ntmps20
  go_wp2_with fail
  refine (number21_2 x.pr _ HX.out).mono ?_
  rintro e w1 ⟨rfl, hw1⟩
  have R1 : Row w1 (w.heap.size + 1) (.slice (some ⟨w.heap.size + 1, 0, none⟩) 2 2) 2 (be 2 x.pr) := by
    rw [hw1, ← HW.out, ← hS]
    exact Row.lit _ _ 2 rfl rfl (by omega) (Nat.le_refl _)
  have B1 : Below (w.heap.size + 1) W w1 := by
    rw [hw1, ← HW.out, ← hS]
    exact below_alloc _ _
  clear hw1 HW ck0 HX
  go_wp2
  go_loopw [3, 4] (fun v i wr => ∃ k : Nat, k ≤ 6 ∧ i = .int .i64 k ∧ Row wr (w.heap.size + 1) v (2 + k) (be 2 x.pr ++ (ml x).take k) ∧ Below (w.heap.size + 1) W wr) (fun _ i _ => 6 - (intOf i).toNat)
  case atStart => exact ⟨0, by omega, rfl, by rw [List.take_zero, List.append_nil]; exact R1, B1⟩
  case round =>
    clear B1 R1
    obtain ⟨k, hk, rfl, hR, hB⟩ := hrel
    replace b1 := b1.out
    have hk7 : k = 0 ∨ k = 1 ∨ k = 2 ∨ k = 3 ∨ k = 4 ∨ k = 5 ∨ k = 6 := by omega
    rcases hk7 with e | e | e | e | e | e | e <;> subst e
    · have AA := A0.below (by omega) hB
      have ck := AA.cell 1 (.int .u8 x.m0) rfl
      have lt := AA.lt
      have HX := hide (b1 0)
      have hz : w.heap.size + 1 ≤ wr.heap.size := by omega
      have BB := hide (byt1 wr x.m0 HX.out)
      generalize hL : be 2 x.pr ++ (ml x).take 0 = L at hR
      have hN : Hid (be 2 x.pr ++ (ml x).take 1 = L ++ [x.m0]) := by
        rw [← hL, List.append_assoc]
        exact hide rfl
      clear AA HX hL b1
      go_wp2_with (at_builtin; refine wpl_app rfl (.tmp 12) (.tmp 17) rfl (w.heap.size + 1) _ 2 L rfl (hR.alloc _) _ 1 1 _ rfl BB.out (by omega) (by simp; omega) ?_)
      intro v' w2 hR2 hB2
      have hB3 : Below (w.heap.size + 1) W w2 := (hB.alloc hz _).trans hB2
      clear hB hB2 hR ck lt hz BB
      go_wp2
      go_roundw
      case rel => exact ⟨1, by omega, rfl, by rw [hN.out]; exact hR2, hB3⟩
      case measure => simp [intOf]
    · have AA := A0.below (by omega) hB
      have ck := AA.cell 2 (.int .u8 x.m1) rfl
      have lt := AA.lt
      have HX := hide (b1 1)
      have hz : w.heap.size + 1 ≤ wr.heap.size := by omega
      have BB := hide (byt1 wr x.m1 HX.out)
      generalize hL : be 2 x.pr ++ (ml x).take 1 = L at hR
      have hN : Hid (be 2 x.pr ++ (ml x).take 2 = L ++ [x.m1]) := by
        rw [← hL, List.append_assoc]
        exact hide rfl
      clear AA HX hL b1
      go_wp2_with (at_builtin; refine wpl_app rfl (.tmp 12) (.tmp 17) rfl (w.heap.size + 1) _ 3 L rfl (hR.alloc _) _ 1 1 _ rfl BB.out (by omega) (by simp; omega) ?_)
      intro v' w2 hR2 hB2
      have hB3 : Below (w.heap.size + 1) W w2 := (hB.alloc hz _).trans hB2
      clear hB hB2 hR ck lt hz BB
      go_wp2
      go_roundw
      case rel => exact ⟨2, by omega, rfl, by rw [hN.out]; exact hR2, hB3⟩
      case measure => simp [intOf]
    · have AA := A0.below (by omega) hB
      have ck := AA.cell 3 (.int .u8 x.m2) rfl
      have lt := AA.lt
      have HX := hide (b1 2)
      have hz : w.heap.size + 1 ≤ wr.heap.size := by omega
      have BB := hide (byt1 wr x.m2 HX.out)
      generalize hL : be 2 x.pr ++ (ml x).take 2 = L at hR
      have hN : Hid (be 2 x.pr ++ (ml x).take 3 = L ++ [x.m2]) := by
        rw [← hL, List.append_assoc]
        exact hide rfl
      clear AA HX hL b1
      go_wp2_with (at_builtin; refine wpl_app rfl (.tmp 12) (.tmp 17) rfl (w.heap.size + 1) _ 4 L rfl (hR.alloc _) _ 1 1 _ rfl BB.out (by omega) (by simp; omega) ?_)
      intro v' w2 hR2 hB2
      have hB3 : Below (w.heap.size + 1) W w2 := (hB.alloc hz _).trans hB2
      clear hB hB2 hR ck lt hz BB
      go_wp2
      go_roundw
      case rel => exact ⟨3, by omega, rfl, by rw [hN.out]; exact hR2, hB3⟩
      case measure => simp [intOf]
    · have AA := A0.below (by omega) hB
      have ck := AA.cell 4 (.int .u8 x.m3) rfl
      have lt := AA.lt
      have HX := hide (b1 3)
      have hz : w.heap.size + 1 ≤ wr.heap.size := by omega
      have BB := hide (byt1 wr x.m3 HX.out)
      generalize hL : be 2 x.pr ++ (ml x).take 3 = L at hR
      have hN : Hid (be 2 x.pr ++ (ml x).take 4 = L ++ [x.m3]) := by
        rw [← hL, List.append_assoc]
        exact hide rfl
      clear AA HX hL b1
      go_wp2_with (at_builtin; refine wpl_app rfl (.tmp 12) (.tmp 17) rfl (w.heap.size + 1) _ 5 L rfl (hR.alloc _) _ 1 1 _ rfl BB.out (by omega) (by simp; omega) ?_)
      intro v' w2 hR2 hB2
      have hB3 : Below (w.heap.size + 1) W w2 := (hB.alloc hz _).trans hB2
      clear hB hB2 hR ck lt hz BB
      go_wp2
      go_roundw
      case rel => exact ⟨4, by omega, rfl, by rw [hN.out]; exact hR2, hB3⟩
      case measure => simp [intOf]
    · have AA := A0.below (by omega) hB
      have ck := AA.cell 5 (.int .u8 x.m4) rfl
      have lt := AA.lt
      have HX := hide (b1 4)
      have hz : w.heap.size + 1 ≤ wr.heap.size := by omega
      have BB := hide (byt1 wr x.m4 HX.out)
      generalize hL : be 2 x.pr ++ (ml x).take 4 = L at hR
      have hN : Hid (be 2 x.pr ++ (ml x).take 5 = L ++ [x.m4]) := by
        rw [← hL, List.append_assoc]
        exact hide rfl
      clear AA HX hL b1
      go_wp2_with (at_builtin; refine wpl_app rfl (.tmp 12) (.tmp 17) rfl (w.heap.size + 1) _ 6 L rfl (hR.alloc _) _ 1 1 _ rfl BB.out (by omega) (by simp; omega) ?_)
      intro v' w2 hR2 hB2
      have hB3 : Below (w.heap.size + 1) W w2 := (hB.alloc hz _).trans hB2
      clear hB hB2 hR ck lt hz BB
      go_wp2
      go_roundw
      case rel => exact ⟨5, by omega, rfl, by rw [hN.out]; exact hR2, hB3⟩
      case measure => simp [intOf]
    · have AA := A0.below (by omega) hB
      have ck := AA.cell 6 (.int .u8 x.m5) rfl
      have lt := AA.lt
      have HX := hide (b1 5)
      have hz : w.heap.size + 1 ≤ wr.heap.size := by omega
      have BB := hide (byt1 wr x.m5 HX.out)
      generalize hL : be 2 x.pr ++ (ml x).take 5 = L at hR
      have hN : Hid (be 2 x.pr ++ (ml x).take 6 = L ++ [x.m5]) := by
        rw [← hL, List.append_assoc]
        exact hide rfl
      clear AA HX hL b1
      go_wp2_with (at_builtin; refine wpl_app rfl (.tmp 12) (.tmp 17) rfl (w.heap.size + 1) _ 7 L rfl (hR.alloc _) _ 1 1 _ rfl BB.out (by omega) (by simp; omega) ?_)
      intro v' w2 hR2 hB2
      have hB3 : Below (w.heap.size + 1) W w2 := (hB.alloc hz _).trans hB2
      clear hB hB2 hR ck lt hz BB
      go_wp2
      go_roundw
      case rel => exact ⟨6, by omega, rfl, by rw [hN.out]; exact hR2, hB3⟩
      case measure => simp [intOf]
    · clear b1
      have hz : w.heap.size + 1 ≤ wr.heap.size := (A0.below (by omega) hB).lt
      have HRR := hide hR
      clear hR
      go_wp2
      go_ret
      obtain ⟨ao, c, hv, hy⟩ := Row.byt (ns := ib x) HRR.out HI.out
      exact ⟨ao, c, by rw [hv]; rfl, hy, W0.trans (hB.mono (by omega))⟩
end Go.Proofs.Ytdaglmimfkcmeaa
