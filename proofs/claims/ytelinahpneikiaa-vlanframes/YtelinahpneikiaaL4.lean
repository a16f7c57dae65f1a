/- VlanFrames: for all steps, every frame, every VLAN and port the law answers true, and all three read behind the call as they read before. No condition. -/
import Derived.Test.YtelinahpneikiaaOp
import Derived.Test.YtelinahpneikiaaAw
import Derived.Test.YtelinahpneikiaaD2
import Derived.Test.YtelinahpneikiaaE3
import Derived.Test.YtelinahpneikiaaE7
namespace Go.Proofs.Ytelinahpneikiaa
open Go.ChangeShapes Go.WideShapes Go.ChangeAt Go.RowKit

section
attribute [local go_sem] FC12 FC13 FC14 FC15 FC16 FC_size ZF
set_option maxRecDepth 100000 in
set_option maxHeartbeats 4000000 in
theorem framesWalk (ao : Option Addr) (n c : Nat) (ss : List St) (f : Fd) (a : Option Addr) (m d : Nat) (x y : Int) (w : World) (hS : Sts w w.heap.size ao n c ss) (hY : Byt w a m d f.bs) (_hx : I64 x) (_hy : I64 y) :
    Calls Try.prog 4 #[.slice ao n c, .agg (FC f (.slice a m d)), .agg #[.int .i64 x, .int .i64 y]] w fun e w' => e = .returned (.bool true) ∧ Below w.heap.size w w' := by
  have B0 : Below w.heap.size w ((w.alloc (.cells (FC f (.slice a m d)) 37)).alloc (.cells #[.int .i64 x, .int .i64 y] 38)) := by go_grown
  have F0 := (Box.new w (fcl f (.slice a m d)) 37).alloc (.cells #[.int .i64 x, .int .i64 y] 38)
  have X0 := Box.new (w.alloc (.cells (FC f (.slice a m d)) 37)) [.int .i64 x, .int .i64 y] 38
  rw [World.size_alloc] at X0
  have HS := hide (hS.below B0)
  have Y0 := hY.on B0
  have hlen := hY.len
  have hle := hY.le
  have hmx := hY.mx
  unfold maxLen at hmx
  clear hS hY
  go_enter Try.func4, Try.ntmps4
  go_wp2_with fail
  refine (awake10 _).mono ?_
  rintro e w1 ⟨rfl, C1⟩
  have B1 := belowOn B0 C1
  have F1 := F0.on C1
  have X1 := X0.on C1
  have Y1 := Y0.on C1
  have hz1 := C1.size
  have HS1 : Hid (Sts w1 w1.heap.size ao n c ss) := hide ((HS.out.below (C1.mono (by simp; omega))).up B1.size)
  clear B0 C1 F0 X0 Y0 HS
  go_wp2_with fail
  refine (made11 5 ao n c ss _ (by omega) (by omega) HS1.out).mono ?_
  rintro e w2 ⟨h, g, lv, T, rfl, M⟩
  have F2 := hide (F1.on M.B)
  have X2 := X1.on M.B
  have Y2 := hide (Y1.on M.B)
  have B2 := B1.trans (M.B.mono B1.size)
  have P2 := hide M.P
  have R2 := hide M.R
  have hz2 := B2.size
  clear M B1 F1 X1 Y1 HS1
  have c16 := F2.out.cell 16 _ rfl
  have x1 := X2.cell 1 _ rfl
  by_cases hm : (3000 : Int) < m
  · go_wp2
    go_ret
    exact ⟨rfl, B2⟩
  · have tk1 : True := trivial
    have XX := hide X2
    have BB := hide B2
    clear X2 B2
    go_wp2_with (first | (have _t := tk1; refine wpl_frame (.tmp 4) rfl F2.out ?_ ?_ ?_; rfl; rfl; clear tk1))
    refine (in17 h T y f a m d hlen _ P2.out).mono ?_
    rintro e w3 ⟨rfl, C3⟩
    have P3 := hide (P2.out.on C3)
    have R3 := hide (R2.out.on C3)
    have F3 := hide (F2.out.on C3)
    have Y3 := hide (Y2.out.on C3)
    have X3 := hide (XX.out.on C3)
    have B3 := hide (BB.out.trans (C3.mono hz2))
    have hz3 := B3.out.size
    have x1b := X3.out.cell 1 _ rfl
    clear C3 P2 R2 F2 Y2 XX BB x1 c16
    have tk2 : True := trivial
    go_wp2_with (first | (have _t := tk2; refine wpl_frame (.tmp 4) rfl F3.out ?_ ?_ ?_; rfl; rfl; clear tk2))
    refine (in18 g lv T y f a m d hlen _ R3.out).mono ?_
    rintro e w4 ⟨rfl, C4⟩
    have P4 := hide (P3.out.on C4)
    have R4 := hide (R3.out.on C4)
    have F4 := hide (F3.out.on C4)
    have Y4 := hide (Y3.out.on C4)
    have X4 := hide (X3.out.on C4)
    have B4 := hide (B3.out.trans (C4.mono hz3))
    have hz4 := B4.out.size
    have x0c := X4.out.cell 0 _ rfl
    have x1c := X4.out.cell 1 _ rfl
    clear C4 P3 R3 F3 Y3 X3 B3 x1b
    have tk3 : True := trivial
    go_wp2_with (first | (have _t := tk3; refine wpl_frame (.tmp 4) rfl F4.out ?_ ?_ ?_; rfl; rfl; clear tk3))
    refine (out19 h T x y f a m d _ P4.out Y4.out (by omega)).mono ?_
    rintro e w5 ⟨a1, m1, c1, rfl, O5, C5⟩
    have ba := below_alloc w5 (.cells (FC zeroF (.slice none 0 0)) 37)
    have N0 := hide (Box.new w5 (fcl zeroF (.slice none 0 0)) 37)
    have R5 := hide (R4.out.on C5)
    have F5 := hide (F4.out.on C5)
    have Y5 := hide (Y4.out.on C5)
    have X5 := hide (X4.out.on C5)
    have B5 := hide (B4.out.trans (C5.mono hz4))
    have O6 := hide O5
    have A5 := hide ba
    clear C5 P4 R4 F4 Y4 X4 B4 O5 ba x0c x1c
    have tk4 : True := trivial
    go_wp2_with (first | (have _t := tk4; refine wpl_putF (ouF T x y f) (.slice a1 m1 c1) _ _ rfl (.tmp 15) (.tmp 71) rfl N0.out ?_ ?_ ?_ ?_; rfl; rfl; rfl; clear tk4))
    intro w6 N1 g6
    have C6 := below_grown A5.out g6 (Nat.le_refl _) (by simp)
    have R6 := hide (R5.out.on C6)
    have F6 := hide (F5.out.on C6)
    have Y6 := hide (Y5.out.on C6)
    have X6 := hide (X5.out.on C6)
    have B6 := hide (B5.out.trans (C6.mono B5.out.size))
    have O7 := hide (O6.out.on C6)
    have hz6 := B6.out.size
    have N2 := hide N1
    have x0d := X6.out.cell 0 _ rfl
    have x1d := X6.out.cell 1 _ rfl
    clear C6 R5 F5 Y5 X5 B5 O6 N1 g6 A5 N0
    have tk5 : True := trivial
    go_wp2_with (first | (have _t := tk5; refine wpl_frame (.tmp 4) rfl F6.out ?_ ?_ ?_; rfl; rfl; clear tk5))
    refine (out20 g lv T x y f a m d _ R6.out Y6.out).mono ?_
    rintro e w7 ⟨a2, m2, c2, rfl, O8, C7⟩
    have ba := below_alloc w7 (.cells (FC zeroF (.slice none 0 0)) 37)
    have K0 := hide (Box.new w7 (fcl zeroF (.slice none 0 0)) 37)
    have B7 := hide (B6.out.trans (C7.mono hz6))
    have O9 := hide (O7.out.on C7)
    have N3 := hide (N2.out.on C7)
    have Q8 := hide O8
    have A7 := hide ba
    clear C7 R6 F6 Y6 X6 B6 O7 N2 O8 ba x0d x1d
    have tk6 : True := trivial
    go_wp2_with (first | (have _t := tk6; refine wpl_putF (ouF T x y f) (.slice a2 m2 c2) _ _ rfl (.tmp 17) (.tmp 81) rfl K0.out ?_ ?_ ?_ ?_; rfl; rfl; rfl; clear tk6))
    intro w8 K1 g8
    have C8 := below_grown A7.out g8 (Nat.le_refl _) (by simp)
    have B8 := hide (B7.out.trans (C8.mono B7.out.size))
    have O10 := hide (O9.out.on C8)
    have Q9 := hide (Q8.out.on C8)
    have N4 := hide (N3.out.on C8)
    have K2 := hide K1
    have hz8 := B8.out.size
    clear C8 B7 O9 Q8 N3 K1 g8 A7 K0
    have tk7 : True := trivial
    have tk8 : True := trivial
    go_wp2_with (first | (have _t := tk7; refine wpl_frame (.tmp 15) rfl N4.out ?_ ?_ ?_; rfl; rfl; clear tk7) | (have _t := tk8; refine wpl_frame (.tmp 17) rfl K2.out ?_ ?_ ?_; rfl; rfl; clear tk8))
    refine (same21 _ _ _ _ _ _ _ _ O10.out Q9.out).mono ?_
    rintro e w9 ⟨rfl, C9⟩
    have B9 := hide (B8.out.trans (C9.mono hz8))
    clear C9 B8 O10 Q9 N4 K2
    generalize inV T y f = V1
    generalize inE T y f = V2
    generalize ouE T x y f = V3
    have s1 : (V1 == V1) = true := by simp
    have s2 : (V2 == V2) = true := by simp
    have s3 : (V3 == V3) = true := by simp
    go_wp2
    go_ret
    exact ⟨rfl, B9.out⟩
end
set_option maxRecDepth 100000 in
set_option maxHeartbeats 2000000 in
theorem vlanFrameslifted (os : Os) (started : os.Started) (H : Type) (enc : TypeId × Value → H) :
    ReturnsInHanded {} Try.checked os 4 .any (Rows.vlanFramesSpec.pre6 enc Try.prog Try.f4 Rows.vlanFramesRow.domain false) (Rows.vlanFramesSpec.post enc Try.prog Try.f4 false true false false) := by
  refine returnsInHanded_of_change (C := Try.checked) own started (by kernel_rfl) Try.func4
    (ChangeSpec.witness6 (enc := enc) (C := Try.checked) false ⟨#[], #[.slice none 0 0, .agg #[.int .u8 0, .int .u8 0, .int .u8 0, .int .u8 0, .int .u8 0, .int .u8 0, .int .u8 0, .int .u8 0, .int .u8 0, .int .u8 0, .int .u8 0, .int .u8 0, .bool false, .int .i64 0, .int .i64 0, .int .i64 0, .slice none 0 0], .agg #[.int .i64 0, .int .i64 0]], []⟩ 8 (by kernel_rfl) (by kernel_rfl) (by kernel_rfl) (by kernel_rfl)) ?_
  intro W base args ds gs before hval0 hW _ _
  have hval : ∀ (j : Nat) t v, Try.f4.params[j]? = some t → args[j]? = some v → Value.okWide Try.prog W .any base t v := hval0
  have hW' := hW
  obtain ⟨p, q, hA0, hV, rfl, _, _⟩ := hW
  have hA : DataW.TrodAll enc Try.prog W 0 (fun _ => true) true Try.f4.params.toList args.toList ds p := hA0
  rw [Try.params4] at hA hval
  obtain ⟨v0, vs0, d0, ds0, p0, q0, hargs, rfl, rfl, h0, r0⟩ := trodAll_cons hA
  obtain ⟨v1, vs1, d1, ds1, p1, q1, rfl, rfl, rfl, h1, r1⟩ := trodAll_cons r0
  obtain ⟨v2, vs2, d2, ds2, p2, q2, rfl, rfl, rfl, h2, r2⟩ := trodAll_cons r1
  obtain ⟨rfl, rfl, rfl⟩ := trodAll_nil r2
  obtain rfl : args = #[v0, v1, v2] := by cases args; simp_all
  obtain ⟨rfl, rfl⟩ := trodVars_none hV
  have h0k := h0
  obtain ⟨ao0, n0, c0, ss0, rfl, hs0⟩ := open_steps (hval 0 22 v0 rfl rfl) h0
  have h1k := h1
  obtain ⟨f1, a1, m1, c1, rfl, hy1⟩ := open_frame (hval 1 37 v1 rfl rfl) h1
  have h2k := h2
  obtain ⟨x2, y2, rfl, hx2, hz2⟩ := open_two (hval 2 38 v2 rfl rfl) h2
  clear hA0 hval0
  simp only [List.append_nil] at hW'
  have hlt : ∀ x ∈ p0 ++ p1 ++ p2, x.block < W.heap.size := fun x hx => by simpa using hW'.lt x (by simpa using hx)
  refine (framesWalk ao0 n0 c0 ss0 f1 a1 m1 c1 x2 y2 W hs0 hy1 hx2 hz2).mono fun e W' ⟨he, hbl⟩ => ?_
  subst he
  exact ⟨_, rfl, _, _, _, [], _, [], hW', (trodAll_cons_mk (shut_bool Try.underlying4 _) trodAll_mk0), (trodAll_cons_mk (Below.trod Try.laidOut (by kernel_rfl) (of_decide_eq_true (by kernel_rfl)) h0k hbl (fun x hx => hlt x (by simp [hx]))) (trodAll_cons_mk (Below.trod Try.laidOut (by kernel_rfl) (of_decide_eq_true (by kernel_rfl)) h1k hbl (fun x hx => hlt x (by simp [hx]))) (trodAll_cons_mk (Below.trod Try.laidOut (by kernel_rfl) (of_decide_eq_true (by kernel_rfl)) h2k hbl (fun x hx => hlt x (by simp [hx]))) trodAll_mk0))), rfl, hbl.frame _, fun h => by cases h⟩

theorem vlanFrames_holds : Rows.VlanFramesSaid :=
  OpenClaim.holds_of_wide 4 Try.f4 rfl rfl rfl rfl rfl rfl rfl ⟨rfl, rfl, rfl, rfl, rfl⟩ rfl rfl rfl rfl rfl (by kernel_rfl) Try.func4 (by kernel_rfl)
    (of_decide_eq_true (by kernel_rfl)) (by unfold Func.isWrapper; first | (rw [if_pos (by decide +kernel)]; kernel_rfl) | (rw [if_neg (by decide +kernel)]; exact ⟨rfl, rfl⟩))
    (fun os started H enc _ => vlanFrameslifted os started H enc)

#print axioms vlanFrames_holds
end Go.Proofs.Ytelinahpneikiaa
