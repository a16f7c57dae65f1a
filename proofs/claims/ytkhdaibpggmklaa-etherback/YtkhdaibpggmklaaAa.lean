/- Contract of Encode, as the document has it. -/
import Derived.Test.YtkhdaibpggmklaaA9
namespace Go.Proofs.Ytkhdaibpggmklaa
open Go.RowKit

set_option maxRecDepth 100000 in
set_option maxHeartbeats 8000000 in
theorem encode11_plain (f : Fd) (ao : Option Addr) (n c : Nat) (w : World) (hf : FdB f) (hr : rt f = true) (hb : Byt w ao n c f.bs) (ht : f.tg = false) :
    Calls Try.prog 11 #[.agg #[.int .u8 f.d0, .int .u8 f.d1, .int .u8 f.d2, .int .u8 f.d3, .int .u8 f.d4, .int .u8 f.d5, .int .u8 f.s0, .int .u8 f.s1, .int .u8 f.s2, .int .u8 f.s3, .int .u8 f.s4, .int .u8 f.s5, .bool f.tg, .int .i64 f.vl, .int .i64 f.pr, .int .i64 f.ty, (.slice ao n c)]] w fun e w' => ∃ ao' c', e = .returned (.tuple #[.slice ao' (enc f).length c', .int .i64 0]) ∧ Byt w' ao' (enc f).length c' (enc f) ∧ Below w.heap.size w w' := by
  obtain ⟨k1, k2, k3, k4, k5⟩ := rt_and hr
  rw [hb.len] at k4
  have HE := hide (enc_length f)
  have HR := hide (enc_rng hf hr)
  have HN := hide hb.len
  have HT := hide ht
  clear k3 k5 ht
  have A00 := AtF.new w f (.slice ao n c)
  obtain ⟨W, hW⟩ : ∃ W, W = w.alloc (.cells #[.int .u8 f.d0, .int .u8 f.d1, .int .u8 f.d2, .int .u8 f.d3, .int .u8 f.d4, .int .u8 f.d5, .int .u8 f.s0, .int .u8 f.s1, .int .u8 f.s2, .int .u8 f.s3, .int .u8 f.s4, .int .u8 f.s5, .bool f.tg, .int .i64 f.vl, .int .i64 f.pr, .int .i64 f.ty, (.slice ao n c)] 26) := ⟨_, rfl⟩
  have A0 : AtF W w.heap.size f (.slice ao n c) := by rw [hW]; exact A00
  have Y0 : Byt W ao n c f.bs := by rw [hW]; exact hb.alloc _
  have W0 : Below w.heap.size w W := by rw [hW]; exact below_alloc _ _
  have hS : W.heap.size = w.heap.size + 1 := by rw [hW]; simp
  have HW := hide hW
  clear hb hW
  go_enter Try.func11, Try.ntmps11
  go_wp2_with (refine wpl_frame (.tmp 1) rfl A00 ?_ ?_ ?_; rfl; rfl)
  refine (right13 f ao n c _ HN.out).mono ?_
  rintro e w1 ⟨rfl, hb1⟩
  have B1 : Below (w.heap.size + 1) W w1 := by rw [HW.out]; exact hb1.mono (by simp)
  clear hb1 A00 HW
  go_wp2
  clear hr
  go_loopw [5, 6] (fun v i wr => ∃ k : Nat, k ≤ 6 ∧ i = .int .i64 k ∧ Row wr (w.heap.size + 1) v k ((adL f).take k) ∧ Below (w.heap.size + 1) W wr) (fun _ i _ => 6 - (intOf i).toNat)
  case atStart => exact ⟨0, by omega, rfl, Row.nil _ _, B1⟩
  case round =>
    clear B1
    obtain ⟨k, hk, rfl, hR, hB⟩ := hrel
    have hk7 : k = 0 ∨ k = 1 ∨ k = 2 ∨ k = 3 ∨ k = 4 ∨ k = 5 ∨ k = 6 := by omega
    rcases hk7 with e | e | e | e | e | e | e <;> subst e
    · have AA := A0.on (w1 := wr) (by rw [hS]; exact hB)
      have ck := AA.c0
      have lt := AA.lt
      have hx : 0 ≤ f.d0 ∧ f.d0 ≤ 255 := adL_rng hf 0
      have HX := hide hx
      have hz : w.heap.size + 1 ≤ wr.heap.size := by have := hB.size; omega
      clear AA hx
      go_wp2_with (at_builtin; refine wpl_app rfl (.tmp 16) (.tmp 21) rfl (w.heap.size + 1) _ 0 [] rfl (hR.alloc _) _ 1 1 [f.d0] rfl (byt1 _ _ HX.out) (by omega) (by simp; omega) ?_)
      intro v' w2 hR2 hB2
      have hB3 : Below (w.heap.size + 1) W w2 := (hB.alloc hz _).trans hB2
      clear hB hB2 hR ck lt hz
      go_wp2
      go_roundw
      case rel => exact ⟨1, by omega, rfl, hR2, hB3⟩
      case measure => simp [intOf]
    · have AA := A0.on (w1 := wr) (by rw [hS]; exact hB)
      have ck := AA.c1
      have lt := AA.lt
      have hx : 0 ≤ f.d1 ∧ f.d1 ≤ 255 := adL_rng hf 1
      have HX := hide hx
      have hz : w.heap.size + 1 ≤ wr.heap.size := by have := hB.size; omega
      clear AA hx
      go_wp2_with (at_builtin; refine wpl_app rfl (.tmp 16) (.tmp 21) rfl (w.heap.size + 1) _ 1 [f.d0] rfl (hR.alloc _) _ 1 1 [f.d1] rfl (byt1 _ _ HX.out) (by omega) (by simp; omega) ?_)
      intro v' w2 hR2 hB2
      have hB3 : Below (w.heap.size + 1) W w2 := (hB.alloc hz _).trans hB2
      clear hB hB2 hR ck lt hz
      go_wp2
      go_roundw
      case rel => exact ⟨2, by omega, rfl, hR2, hB3⟩
      case measure => simp [intOf]
    · have AA := A0.on (w1 := wr) (by rw [hS]; exact hB)
      have ck := AA.c2
      have lt := AA.lt
      have hx : 0 ≤ f.d2 ∧ f.d2 ≤ 255 := adL_rng hf 2
      have HX := hide hx
      have hz : w.heap.size + 1 ≤ wr.heap.size := by have := hB.size; omega
      clear AA hx
      go_wp2_with (at_builtin; refine wpl_app rfl (.tmp 16) (.tmp 21) rfl (w.heap.size + 1) _ 2 [f.d0, f.d1] rfl (hR.alloc _) _ 1 1 [f.d2] rfl (byt1 _ _ HX.out) (by omega) (by simp; omega) ?_)
      intro v' w2 hR2 hB2
      have hB3 : Below (w.heap.size + 1) W w2 := (hB.alloc hz _).trans hB2
      clear hB hB2 hR ck lt hz
      go_wp2
      go_roundw
      case rel => exact ⟨3, by omega, rfl, hR2, hB3⟩
      case measure => simp [intOf]
    · have AA := A0.on (w1 := wr) (by rw [hS]; exact hB)
      have ck := AA.c3
      have lt := AA.lt
      have hx : 0 ≤ f.d3 ∧ f.d3 ≤ 255 := adL_rng hf 3
      have HX := hide hx
      have hz : w.heap.size + 1 ≤ wr.heap.size := by have := hB.size; omega
      clear AA hx
      go_wp2_with (at_builtin; refine wpl_app rfl (.tmp 16) (.tmp 21) rfl (w.heap.size + 1) _ 3 [f.d0, f.d1, f.d2] rfl (hR.alloc _) _ 1 1 [f.d3] rfl (byt1 _ _ HX.out) (by omega) (by simp; omega) ?_)
      intro v' w2 hR2 hB2
      have hB3 : Below (w.heap.size + 1) W w2 := (hB.alloc hz _).trans hB2
      clear hB hB2 hR ck lt hz
      go_wp2
      go_roundw
      case rel => exact ⟨4, by omega, rfl, hR2, hB3⟩
      case measure => simp [intOf]
    · have AA := A0.on (w1 := wr) (by rw [hS]; exact hB)
      have ck := AA.c4
      have lt := AA.lt
      have hx : 0 ≤ f.d4 ∧ f.d4 ≤ 255 := adL_rng hf 4
      have HX := hide hx
      have hz : w.heap.size + 1 ≤ wr.heap.size := by have := hB.size; omega
      clear AA hx
      go_wp2_with (at_builtin; refine wpl_app rfl (.tmp 16) (.tmp 21) rfl (w.heap.size + 1) _ 4 [f.d0, f.d1, f.d2, f.d3] rfl (hR.alloc _) _ 1 1 [f.d4] rfl (byt1 _ _ HX.out) (by omega) (by simp; omega) ?_)
      intro v' w2 hR2 hB2
      have hB3 : Below (w.heap.size + 1) W w2 := (hB.alloc hz _).trans hB2
      clear hB hB2 hR ck lt hz
      go_wp2
      go_roundw
      case rel => exact ⟨5, by omega, rfl, hR2, hB3⟩
      case measure => simp [intOf]
    · have AA := A0.on (w1 := wr) (by rw [hS]; exact hB)
      have ck := AA.c5
      have lt := AA.lt
      have hx : 0 ≤ f.d5 ∧ f.d5 ≤ 255 := adL_rng hf 5
      have HX := hide hx
      have hz : w.heap.size + 1 ≤ wr.heap.size := by have := hB.size; omega
      clear AA hx
      go_wp2_with (at_builtin; refine wpl_app rfl (.tmp 16) (.tmp 21) rfl (w.heap.size + 1) _ 5 [f.d0, f.d1, f.d2, f.d3, f.d4] rfl (hR.alloc _) _ 1 1 [f.d5] rfl (byt1 _ _ HX.out) (by omega) (by simp; omega) ?_)
      intro v' w2 hR2 hB2
      have hB3 : Below (w.heap.size + 1) W w2 := (hB.alloc hz _).trans hB2
      clear hB hB2 hR ck lt hz
      go_wp2
      go_roundw
      case rel => exact ⟨6, by omega, rfl, hR2, hB3⟩
      case measure => simp [intOf]
    · have hR6 : Row wr (w.heap.size + 1) _ 6 ((adL f).take (6 + 0)) := hR
      have hB6 := hB
      clear hR hB
      go_wp2
      obtain ⟨wo, rfl⟩ : ∃ wo : World, wo = wr := ⟨_, rfl⟩
      go_loopw [5, 7] (fun v i wr => ∃ k : Nat, k ≤ 6 ∧ i = .int .i64 k ∧ Row wr (w.heap.size + 1) v (6 + k) ((adL f).take (6 + k)) ∧ Below (w.heap.size + 1) W wr) (fun _ i _ => 6 - (intOf i).toNat)
      case atStart => exact ⟨0, by omega, rfl, hR6, hB6⟩
      case round =>
        clear hR6 hB6
        obtain ⟨k, hk, rfl, hR, hB⟩ := hrel
        have hk7 : k = 0 ∨ k = 1 ∨ k = 2 ∨ k = 3 ∨ k = 4 ∨ k = 5 ∨ k = 6 := by omega
        rcases hk7 with e | e | e | e | e | e | e <;> subst e
        · have AA := A0.on (w1 := wr) (by rw [hS]; exact hB)
          have ck := AA.c6
          have lt := AA.lt
          have hx : 0 ≤ f.s0 ∧ f.s0 ≤ 255 := adL_rng hf 6
          have HX := hide hx
          have hz : w.heap.size + 1 ≤ wr.heap.size := by have := hB.size; omega
          clear AA hx
          go_wp2_with (at_builtin; refine wpl_app rfl (.tmp 27) (.tmp 32) rfl (w.heap.size + 1) _ 6 [f.d0, f.d1, f.d2, f.d3, f.d4, f.d5] rfl (hR.alloc _) _ 1 1 [f.s0] rfl (byt1 _ _ HX.out) (by omega) (by simp; omega) ?_)
          intro v' w2 hR2 hB2
          have hB3 : Below (w.heap.size + 1) W w2 := (hB.alloc hz _).trans hB2
          clear hB hB2 hR ck lt hz
          go_wp2
          go_roundw
          case rel =>
            refine ⟨_, _, _, _, _, _, _, _, _, _, _, _, _, ?_, rfl⟩
            exact ⟨1, by omega, rfl, hR2, hB3⟩
          case measure => simp [intOf]
        · have AA := A0.on (w1 := wr) (by rw [hS]; exact hB)
          have ck := AA.c7
          have lt := AA.lt
          have hx : 0 ≤ f.s1 ∧ f.s1 ≤ 255 := adL_rng hf 7
          have HX := hide hx
          have hz : w.heap.size + 1 ≤ wr.heap.size := by have := hB.size; omega
          clear AA hx
          go_wp2_with (at_builtin; refine wpl_app rfl (.tmp 27) (.tmp 32) rfl (w.heap.size + 1) _ 7 [f.d0, f.d1, f.d2, f.d3, f.d4, f.d5, f.s0] rfl (hR.alloc _) _ 1 1 [f.s1] rfl (byt1 _ _ HX.out) (by omega) (by simp; omega) ?_)
          intro v' w2 hR2 hB2
          have hB3 : Below (w.heap.size + 1) W w2 := (hB.alloc hz _).trans hB2
          clear hB hB2 hR ck lt hz
          go_wp2
          go_roundw
          case rel =>
            refine ⟨_, _, _, _, _, _, _, _, _, _, _, _, _, ?_, rfl⟩
            exact ⟨2, by omega, rfl, hR2, hB3⟩
          case measure => simp [intOf]
        · have AA := A0.on (w1 := wr) (by rw [hS]; exact hB)
          have ck := AA.c8
          have lt := AA.lt
          have hx : 0 ≤ f.s2 ∧ f.s2 ≤ 255 := adL_rng hf 8
          have HX := hide hx
          have hz : w.heap.size + 1 ≤ wr.heap.size := by have := hB.size; omega
          clear AA hx
          go_wp2_with (at_builtin; refine wpl_app rfl (.tmp 27) (.tmp 32) rfl (w.heap.size + 1) _ 8 [f.d0, f.d1, f.d2, f.d3, f.d4, f.d5, f.s0, f.s1] rfl (hR.alloc _) _ 1 1 [f.s2] rfl (byt1 _ _ HX.out) (by omega) (by simp; omega) ?_)
          intro v' w2 hR2 hB2
          have hB3 : Below (w.heap.size + 1) W w2 := (hB.alloc hz _).trans hB2
          clear hB hB2 hR ck lt hz
          go_wp2
          go_roundw
          case rel =>
            refine ⟨_, _, _, _, _, _, _, _, _, _, _, _, _, ?_, rfl⟩
            exact ⟨3, by omega, rfl, hR2, hB3⟩
          case measure => simp [intOf]
        · have AA := A0.on (w1 := wr) (by rw [hS]; exact hB)
          have ck := AA.c9
          have lt := AA.lt
          have hx : 0 ≤ f.s3 ∧ f.s3 ≤ 255 := adL_rng hf 9
          have HX := hide hx
          have hz : w.heap.size + 1 ≤ wr.heap.size := by have := hB.size; omega
          clear AA hx
          go_wp2_with (at_builtin; refine wpl_app rfl (.tmp 27) (.tmp 32) rfl (w.heap.size + 1) _ 9 [f.d0, f.d1, f.d2, f.d3, f.d4, f.d5, f.s0, f.s1, f.s2] rfl (hR.alloc _) _ 1 1 [f.s3] rfl (byt1 _ _ HX.out) (by omega) (by simp; omega) ?_)
          intro v' w2 hR2 hB2
          have hB3 : Below (w.heap.size + 1) W w2 := (hB.alloc hz _).trans hB2
          clear hB hB2 hR ck lt hz
          go_wp2
          go_roundw
          case rel =>
            refine ⟨_, _, _, _, _, _, _, _, _, _, _, _, _, ?_, rfl⟩
            exact ⟨4, by omega, rfl, hR2, hB3⟩
          case measure => simp [intOf]
        · have AA := A0.on (w1 := wr) (by rw [hS]; exact hB)
          have ck := AA.c10
          have lt := AA.lt
          have hx : 0 ≤ f.s4 ∧ f.s4 ≤ 255 := adL_rng hf 10
          have HX := hide hx
          have hz : w.heap.size + 1 ≤ wr.heap.size := by have := hB.size; omega
          clear AA hx
          go_wp2_with (at_builtin; refine wpl_app rfl (.tmp 27) (.tmp 32) rfl (w.heap.size + 1) _ 10 [f.d0, f.d1, f.d2, f.d3, f.d4, f.d5, f.s0, f.s1, f.s2, f.s3] rfl (hR.alloc _) _ 1 1 [f.s4] rfl (byt1 _ _ HX.out) (by omega) (by simp; omega) ?_)
          intro v' w2 hR2 hB2
          have hB3 : Below (w.heap.size + 1) W w2 := (hB.alloc hz _).trans hB2
          clear hB hB2 hR ck lt hz
          go_wp2
          go_roundw
          case rel =>
            refine ⟨_, _, _, _, _, _, _, _, _, _, _, _, _, ?_, rfl⟩
            exact ⟨5, by omega, rfl, hR2, hB3⟩
          case measure => simp [intOf]
        · have AA := A0.on (w1 := wr) (by rw [hS]; exact hB)
          have ck := AA.c11
          have lt := AA.lt
          have hx : 0 ≤ f.s5 ∧ f.s5 ≤ 255 := adL_rng hf 11
          have HX := hide hx
          have hz : w.heap.size + 1 ≤ wr.heap.size := by have := hB.size; omega
          clear AA hx
          go_wp2_with (at_builtin; refine wpl_app rfl (.tmp 27) (.tmp 32) rfl (w.heap.size + 1) _ 11 [f.d0, f.d1, f.d2, f.d3, f.d4, f.d5, f.s0, f.s1, f.s2, f.s3, f.s4] rfl (hR.alloc _) _ 1 1 [f.s5] rfl (byt1 _ _ HX.out) (by omega) (by simp; omega) ?_)
          intro v' w2 hR2 hB2
          have hB3 : Below (w.heap.size + 1) W w2 := (hB.alloc hz _).trans hB2
          clear hB hB2 hR ck lt hz
          go_wp2
          go_roundw
          case rel =>
            refine ⟨_, _, _, _, _, _, _, _, _, _, _, _, _, ?_, rfl⟩
            exact ⟨6, by omega, rfl, hR2, hB3⟩
          case measure => simp [intOf]
        · have hR3 : Row wr (w.heap.size + 1) _ 12 (adL f) := hR
          have AA := A0.on (w1 := wr) (by rw [hS]; exact hB)
          have YY := Y0.on (w1 := wr) (by rw [hS]; exact hB)
          have hz : w.heap.size + 1 ≤ wr.heap.size := by have := hB.size; omega
          clear hR
          obtain ⟨lt, p0, p1, p2, p3, p4, p5, p6, p7, p8, p9, p10, p11, p12, p13, p14, p15, p16⟩ := id AA
          rw [HT.out] at p12
          go_wp2_with fail
          refine (two22' (f.ty) _ (by omega) (by omega)).mono ?_
          rintro e w3 ⟨at_, rfl, hbt, hb2⟩
          have hRx := hR3.on hb2
          have hz1 : w.heap.size + 1 ≤ w3.heap.size := Nat.le_trans hz hb2.size
          have hBx : Below (w.heap.size + 1) W w3 := hB.trans (hb2.mono hz)
          clear hR3 hB AA YY hb2 hz lt p0 p1 p2 p3 p4 p5 p6 p7 p8 p9 p10 p11 p12 p13 p14 p15 p16
          go_wp2_with (at_builtin; refine wpl_app rfl (.tmp 48) (.tmp 51) rfl (w.heap.size + 1) _ 12 _ rfl hRx at_ 2 2 _ rfl hbt (by omega) hz1 ?_)
          intro v3 w4 hR3 hb2
          have hz : w.heap.size + 1 ≤ w4.heap.size := Nat.le_trans hz1 hb2.size
          have hB := hBx.trans hb2
          have AA := A0.on (w1 := w4) (by rw [hS]; exact hB)
          have YY := Y0.on (w1 := w4) (by rw [hS]; exact hB)
          clear hRx hz1 hBx hb2 hbt
          obtain ⟨lt, p0, p1, p2, p3, p4, p5, p6, p7, p8, p9, p10, p11, p12, p13, p14, p15, p16⟩ := id AA
          go_wp2_with (at_builtin; refine wpl_app rfl (.tmp 53) (.tmp 55) rfl (w.heap.size + 1) _ 14 _ rfl hR3 ao n c f.bs rfl YY (by omega) hz ?_)
          intro v9 w9 hR9 hb2
          have hBx := hB.trans hb2
          have hl : 14 + n = (enc f).length := by have e := HE.out; have e2 := HN.out; rw [HT.out] at e; simp at e; omega
          have hx : Row w9 (w.heap.size + 1) v9 (enc f).length (enc f) := by
            rw [← hl]
            simpa [enc, adL, tagL, HT.out] using hR9
          obtain ⟨ao', c', hv, hbyt⟩ := hx.byt HR.out
          have HV := hide hv
          clear hR3 hB AA YY hz lt hb2 hR9 hl hx hv p0 p1 p2 p3 p4 p5 p6 p7 p8 p9 p10 p11 p12 p13 p14 p15 p16
          go_wp2
          go_ret2
          exact ⟨ao', c', by rw [HV.out]; rfl, hbyt, W0.trans (hBx.mono (by omega))⟩
end Go.Proofs.Ytkhdaibpggmklaa
