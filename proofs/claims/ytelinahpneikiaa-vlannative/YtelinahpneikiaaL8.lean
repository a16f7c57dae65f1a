/- VlanNative: for all steps, every port and every frame the law answers true, and all three read behind the call as they read before. No condition. -/
import Derived.Test.YtelinahpneikiaaOp
import Derived.Test.YtelinahpneikiaaAw
import Derived.Test.YtelinahpneikiaaD2
namespace Go.Proofs.Ytelinahpneikiaa
open Go.ChangeShapes Go.WideShapes Go.ChangeAt Go.RowKit

theorem box3 {W : World} {k : Nat} {f : Fd} {s : Value} (A : Box W k (fcl f s)) (t : Bool) (v p : Int) :
    Box (((W.setCell ⟨k, 12, none⟩ (.bool t)).setCell ⟨k, 13, none⟩ (.int .i64 v)).setCell ⟨k, 14, none⟩ (.int .i64 p)) k (fcl { f with tg := t, vl := v, pr := p } s) := by
  have A1 : Box W k ((dcl f ++ scl f) ++ (.bool f.tg :: [.int .i64 f.vl, .int .i64 f.pr, .int .i64 f.ty, s])) := A
  have A2 : Box _ k (((dcl f ++ scl f) ++ [.bool t]) ++ (.int .i64 f.vl :: [.int .i64 f.pr, .int .i64 f.ty, s])) := Box.set (v' := .bool t) A1 rfl
  have A3 : Box _ k (((dcl f ++ scl f) ++ [.bool t, .int .i64 v]) ++ (.int .i64 f.pr :: [.int .i64 f.ty, s])) := Box.set (v' := .int .i64 v) A2 rfl
  exact Box.set (v' := .int .i64 p) A3 rfl
theorem box1 {W : World} {k : Nat} {f : Fd} {s : Value} (A : Box W k (fcl f s)) (t : Bool) : Box (W.setCell ⟨k, 12, none⟩ (.bool t)) k (fcl { f with tg := t } s) := by
  have A1 : Box W k ((dcl f ++ scl f) ++ (.bool f.tg :: [.int .i64 f.vl, .int .i64 f.pr, .int .i64 f.ty, s])) := A
  exact Box.set (v' := .bool t) A1 rfl
theorem grown3 (W : World) (k : Nat) (t : Bool) (v p : Int) : W.grownBy (((W.setCell ⟨k, 12, none⟩ (.bool t)).setCell ⟨k, 13, none⟩ (.int .i64 v)).setCell ⟨k, 14, none⟩ (.int .i64 p)) (some k) :=
  grown_trans (grown_trans (setCell_grown W k 12 _) (setCell_grown _ k 13 _)) (setCell_grown _ k 14 _)
theorem rt_two (f : Fd) : rt (tagF f 0 0) = rt (untF f) := rfl
theorem inV_two (T : Tb) (p : Int) (f : Fd) : inV T p (tagF f 0 0) = inV T p (untF f) := rfl
theorem inE_two (T : Tb) (p : Int) (f : Fd) : inE T p (tagF f 0 0) = inE T p (untF f) := rfl
theorem nat_off {T : Tb} (hw : Wf T) (p : Int) (f : Fd) : inV (tNat T p 0) p (untF f) = 0 ∧ (inE (tNat T p 0) p (untF f) != 0) = true ∧ ((inE T p (untF f) == 1) = true ∨ eNat T p 0 = 0) := by
  rcases Bool.eq_false_or_eq_true (hp T p) with hh | hh
  · have e1 : tNat T p 0 = ⟨T.n, T.l, T.ns.set p.toNat 0⟩ := by rw [tNat, hh]; rfl
    have hb := (hp_iff T p).1 hh
    have hn := hw.ns
    have hvo : vOf (tNat T p 0) p (untF f) = 0 := by
      have : vOf (tNat T p 0) p (untF f) = (tNat T p 0).ns.getD p.toNat 0 := rfl
      rw [this, e1]
      simp [List.getD_eq_getElem?_getD]
      rw [List.getElem?_set]
      split
      · split <;> simp
      · contradiction
    have hz := hs_zero (hw.nati p 0) p
    refine ⟨?_, ?_, Or.inr (by rw [eNat, hh]; rfl)⟩
    · unfold inV
      rw [hvo, hz]
      split <;> rfl
    · unfold inE
      rw [hvo, hz]
      split <;> rfl
  · have e1 : tNat T p 0 = T := by rw [tNat, hh]; rfl
    rw [e1]
    refine ⟨?_, ?_, Or.inl ?_⟩
    · unfold inV; rw [hh]; rfl
    · unfold inE; rw [hh]; rfl
    · unfold inE; rw [hh]; rfl
section
attribute [local go_sem] FC12 FC13 FC14 FC15 FC16 FC_size ZF
set_option maxRecDepth 100000 in
set_option maxHeartbeats 4000000 in
theorem nativeWalk (ao : Option Addr) (n c : Nat) (ss : List St) (p : Int) (f : Fd) (a : Option Addr) (m d : Nat) (w : World) (hS : Sts w w.heap.size ao n c ss) (_hv : I64 p) (hY : Byt w a m d f.bs) :
    Calls Try.prog 8 #[.slice ao n c, .int .i64 p, .agg (FC f (.slice a m d))] w fun e w' => e = .returned (.bool true) ∧ Below w.heap.size w w' := by
  have B0 := below_alloc w (.cells (FC f (.slice a m d)) 37)
  have S0 : Box (w.alloc (.cells (FC f (.slice a m d)) 37)) w.heap.size (fcl f (.slice a m d)) := Box.new w _ 37
  have HS := hide (hS.below B0)
  have hlen := hY.len
  have hle := hY.le
  have hmx := hY.mx
  unfold maxLen at hmx
  clear hS hY
  go_enter Try.func8, Try.ntmps8
  go_wp2_with fail
  refine (awake10 _).mono ?_
  rintro e w1 ⟨rfl, C1⟩
  have B1 := belowOn B0 C1
  have S1 := S0.on C1
  have hz1 := C1.size
  have HS1 : Hid (Sts w1 w1.heap.size ao n c ss) := hide ((HS.out.below (C1.mono (by simp))).up (by have := B1.size; omega))
  have lS := S1.lt
  clear B0 C1 S0 HS
  go_wp2_with fail
  refine (made11 5 ao n c ss _ (by omega) (by omega) HS1.out).mono ?_
  rintro e w2 ⟨h, g, lv, T, rfl, M⟩
  have S2 := hide (S1.on M.B)
  have hw1 : Hid (w.heap.size ≤ h) := hide (Nat.le_trans B1.size M.hw)
  have lh := M.hw
  have B2 := hide (B1.trans (M.B.mono B1.size))
  have P2 := hide M.P
  have hH3 := M.P.lt
  have lS2 := S2.out.lt
  clear M B1 S1 HS1
  have c16 := S2.out.cell 16 _ rfl
  by_cases hm : (3000 : Int) < m
  · go_wp2
    go_ret
    exact ⟨rfl, B2.out⟩
  · obtain ⟨x1, x2, x3⟩ := nat_off P2.out.wf p f
    have X1 := hide x1
    have X2 := hide x2
    have X3 := hide x3
    clear x1 x2 x3
    have ba := below_alloc w2 (.cells (FC zeroF (.slice none 0 0)) 37)
    have N0 := hide (Box.new w2 (fcl zeroF (.slice none 0 0)) 37)
    have P3 := hide (P2.out.on ba)
    have B3 := hide (B2.out.trans (ba.mono (by have := hw1.out; omega)))
    have tk1 : True := trivial
    have tk2 : True := trivial
    clear ba P2 B2
    go_wp2_with (first | (have _t := tk1; refine wpl_frame (.tmp 5) rfl S2.out ?_ ?_ ?_; rfl; rfl; clear tk1) | (have _t := tk2; refine wpl_putF f (.slice a m d) _ _ rfl (.tmp 11) (.tmp 47) rfl N0.out ?_ ?_ ?_ ?_; rfl; rfl; rfl; clear tk2))
    intro w3 N1 g3
    have P4 := P3.out.keep (w1 := w3) (fun k h1 h2 => g3.block k (by simp; omega) (fun e => by have := Option.some.inj e; omega))
    have B4 := below_grown B3.out g3 (by have := hw1.out; omega) (by have := hw1.out; simp; omega)
    have lN := N1.lt
    have c12 := N1.cell 12 _ rfl
    have c13 := N1.cell 13 _ rfl
    have c14 := N1.cell 14 _ rfl
    have e12 := N1.free 12 (by simp [fcl, dcl, scl])
    have e13 := N1.free 13 (by simp [fcl, dcl, scl])
    have e14 := N1.free 14 (by simp [fcl, dcl, scl])
    have gg := grown3 w3 w2.heap.size false 0 0
    have hz := gg.size
    have P5 := P4.keep (w1 := ((w3.setCell ⟨w2.heap.size, 12, none⟩ (.bool false)).setCell ⟨w2.heap.size, 13, none⟩ (.int .i64 0)).setCell ⟨w2.heap.size, 14, none⟩ (.int .i64 0)) (fun k h1 h2 => gg.block k (by omega) (fun e => by have := Option.some.inj e; omega))
    have B5 := below_grown B4 gg (by have := hw1.out; omega) (by have := hw1.out; omega)
    have N2 : Hid (Box _ w2.heap.size (fcl (untF f) (.slice a m d))) := hide (box3 N1 false 0 0)
    clear g3 N1 N0 P3 B3 S2 c16 P4 B4 gg
    generalize hWW : ((w3.setCell ⟨w2.heap.size, 12, none⟩ (.bool false)).setCell ⟨w2.heap.size, 13, none⟩ (.int .i64 0)).setCell ⟨w2.heap.size, 14, none⟩ (.int .i64 0) = W at *
    have ba := below_alloc W (.cells (FC zeroF (.slice none 0 0)) 37)
    have N3 := hide (N2.out.on ba)
    have H0 := hide (Box.new W (fcl zeroF (.slice none 0 0)) 37)
    have P6 := hide (P5.on ba)
    have B6 := hide (B5.trans (ba.mono (by have := hw1.out; omega)))
    have tk3 : True := trivial
    have tk4 : True := trivial
    clear ba P5 B5
    go_wp2_with (first | (have _t := tk3; (first | rw [hWW] | skip); refine wpl_frame (.tmp 11) rfl N2.out ?_ ?_ ?_; rfl; rfl; clear tk3) | (have _t := tk4; refine wpl_putF (untF f) (.slice a m d) _ _ rfl (.tmp 12) (.tmp 51) rfl H0.out ?_ ?_ ?_ ?_; rfl; rfl; rfl; clear tk4))
    intro w4 H1 g4
    have lW := N2.out.lt
    have N4 := N3.out.kept (w1 := w4) (by omega) g4
    have P7 := P6.out.keep (w1 := w4) (fun k h1 h2 => g4.block k (by simp; omega) (fun e => by have := Option.some.inj e; omega))
    have B7 := below_grown B6.out g4 (by have := hw1.out; omega) (by have := hw1.out; simp; omega)
    have j12 := H1.cell 12 _ rfl
    have k12 := H1.free 12 (by simp [fcl, dcl, scl])
    have lH := H1.lt
    have g5 := setCell_grown w4 W.heap.size 12 (.bool true)
    have hz5 := g5.size
    have H2 : Hid (Box (w4.setCell ⟨W.heap.size, 12, none⟩ (.bool true)) W.heap.size (fcl (tagF f 0 0) (.slice a m d))) := hide (box1 H1 true)
    have N5 := hide (N4.kept (by omega) g5)
    have P8 := hide (P7.keep (w1 := w4.setCell ⟨W.heap.size, 12, none⟩ (.bool true)) (fun k h1 h2 => g5.block k (by omega) (fun e => by have := Option.some.inj e; omega)))
    have B8 := hide (below_grown B7 g5 (by have := hw1.out; omega) (by have := hw1.out; omega))
    clear g4 g5 N4 P7 B7 H1 N3 H0 P6 B6 N2 c12 c13 c14 e12 e13 e14
    have tk5 : True := trivial
    go_wp2_with (first | (have _t := tk5; refine wpl_frame (.tmp 11) rfl N5.out ?_ ?_ ?_; rfl; rfl; clear tk5))
    refine (in17 h T p (untF f) a m d hlen _ P8.out).mono ?_
    rintro e w5 ⟨rfl, C5⟩
    have P9 := hide (P8.out.on C5)
    have N6 := hide (N5.out.on C5)
    have H3 := hide (H2.out.on C5)
    have B9 := hide (B8.out.trans (C5.mono (by have := hw1.out; omega)))
    have z5 := C5.size
    clear C5 P8 N5 H2 B8 j12 k12
    have tk6 : True := trivial
    go_wp2_with (first | (have _t := tk6; refine wpl_frame (.tmp 12) rfl H3.out ?_ ?_ ?_; rfl; rfl; clear tk6))
    refine (in17 h T p (tagF f 0 0) a m d hlen _ P9.out).mono ?_
    rintro e w6 ⟨rfl, C6⟩
    rw [inV_two, inE_two]
    have P10 := hide (P9.out.on C6)
    have N7 := hide (N6.out.on C6)
    have B10 := hide (B9.out.trans (C6.mono (by have := hw1.out; omega)))
    have z6 := C6.size
    clear C6 P9 N6 H3 B9
    go_wp2_with fail
    refine (native22 h T p 0 _ P10.out).mono ?_
    rintro e w7 ⟨rfl, P11, M11⟩
    have N8 := hide (N7.out.mid M11 (by omega))
    have B11 := hide (B10.out.trans ((M11.below (by omega)).mono hw1.out))
    have P12 := hide P11
    have z7 := M11.size
    clear P11 M11 P10 N7 B10
    have tk7 : True := trivial
    go_wp2_with (first | (have _t := tk7; refine wpl_frame (.tmp 11) rfl N8.out ?_ ?_ ?_; rfl; rfl; clear tk7))
    refine (in17 h (tNat T p 0) p (untF f) a m d hlen _ P12.out).mono ?_
    rintro e w8 ⟨rfl, C8⟩
    rw [X1.out]
    have BX := hide (B11.out.trans (C8.mono (by have := hw1.out; omega)))
    clear C8 P12 N8 B11 X1
    have y2 := X2.out
    have y3 := X3.out
    clear X2 X3
    generalize inV T p (untF f) = A at *
    generalize inE T p (untF f) = E at *
    generalize inE (tNat T p 0) p (untF f) = K at *
    generalize eNat T p 0 = Q at *
    have s1 : (A == A) = true := by simp
    have s2 : (E == E) = true := by simp
    rcases Bool.eq_false_or_eq_true (E == 1) with y4 | y4
    · clear y3
      go_wp2
      go_ret
      exact ⟨rfl, BX.out⟩
    · rw [y4] at y3
      have y5 : Q = 0 := by
        rcases y3 with y3 | y3
        · cases y3
        · exact y3
      subst y5
      clear y3
      go_wp2
      go_ret
      exact ⟨rfl, BX.out⟩
end
set_option maxRecDepth 100000 in
set_option maxHeartbeats 2000000 in
theorem vlanNativelifted (os : Os) (started : os.Started) (H : Type) (enc : TypeId × Value → H) :
    ReturnsInHanded {} Try.checked os 8 .any (Rows.vlanNativeSpec.pre6 enc Try.prog Try.f8 Rows.vlanNativeRow.domain false) (Rows.vlanNativeSpec.post enc Try.prog Try.f8 false true false false) := by
  refine returnsInHanded_of_change (C := Try.checked) own started (by kernel_rfl) Try.func8
    (ChangeSpec.witness6 (enc := enc) (C := Try.checked) false ⟨#[], #[.slice none 0 0, .int .i64 0, .agg #[.int .u8 0, .int .u8 0, .int .u8 0, .int .u8 0, .int .u8 0, .int .u8 0, .int .u8 0, .int .u8 0, .int .u8 0, .int .u8 0, .int .u8 0, .int .u8 0, .bool false, .int .i64 0, .int .i64 0, .int .i64 0, .slice none 0 0]], []⟩ 8 (by kernel_rfl) (by kernel_rfl) (by kernel_rfl) (by kernel_rfl)) ?_
  intro W base args ds gs before hval0 hW _ _
  have hval : ∀ (j : Nat) t v, Try.f8.params[j]? = some t → args[j]? = some v → Value.okWide Try.prog W .any base t v := hval0
  have hW' := hW
  obtain ⟨p, q, hA0, hV, rfl, _, _⟩ := hW
  have hA : DataW.TrodAll enc Try.prog W 0 (fun _ => true) true Try.f8.params.toList args.toList ds p := hA0
  rw [Try.params8] at hA hval
  obtain ⟨v0, vs0, d0, ds0, p0, q0, hargs, rfl, rfl, h0, r0⟩ := trodAll_cons hA
  obtain ⟨v1, vs1, d1, ds1, p1, q1, rfl, rfl, rfl, h1, r1⟩ := trodAll_cons r0
  obtain ⟨v2, vs2, d2, ds2, p2, q2, rfl, rfl, rfl, h2, r2⟩ := trodAll_cons r1
  obtain ⟨rfl, rfl, rfl⟩ := trodAll_nil r2
  obtain rfl : args = #[v0, v1, v2] := by cases args; simp_all
  obtain ⟨rfl, rfl⟩ := trodVars_none hV
  have h0k := h0
  obtain ⟨ao0, n0, c0, ss0, rfl, hs0⟩ := open_steps (hval 0 22 v0 rfl rfl) h0
  have h1k := h1
  obtain ⟨x1, rfl, hx1⟩ := open_num (hval 1 3 v1 rfl rfl) h1
  have h2k := h2
  obtain ⟨f2, a2, m2, c2, rfl, hy2⟩ := open_frame (hval 2 37 v2 rfl rfl) h2
  clear hA0 hval0
  simp only [List.append_nil] at hW'
  have hlt : ∀ x ∈ p0 ++ p1 ++ p2, x.block < W.heap.size := fun x hx => by simpa using hW'.lt x (by simpa using hx)
  refine (nativeWalk ao0 n0 c0 ss0 x1 f2 a2 m2 c2 W hs0 hx1 hy2).mono fun e W' ⟨he, hbl⟩ => ?_
  subst he
  exact ⟨_, rfl, _, _, _, [], _, [], hW', (trodAll_cons_mk (shut_bool Try.underlying4 _) trodAll_mk0), (trodAll_cons_mk (Below.trod Try.laidOut (by kernel_rfl) (of_decide_eq_true (by kernel_rfl)) h0k hbl (fun x hx => hlt x (by simp [hx]))) (trodAll_cons_mk (Below.trod Try.laidOut (by kernel_rfl) (of_decide_eq_true (by kernel_rfl)) h1k hbl (fun x hx => hlt x (by simp [hx]))) (trodAll_cons_mk (Below.trod Try.laidOut (by kernel_rfl) (of_decide_eq_true (by kernel_rfl)) h2k hbl (fun x hx => hlt x (by simp [hx]))) trodAll_mk0))), rfl, hbl.frame _, fun h => by cases h⟩

theorem vlanNative_holds : Rows.VlanNativeSaid :=
  OpenClaim.holds_of_wide 8 Try.f8 rfl rfl rfl rfl rfl rfl rfl ⟨rfl, rfl, rfl, rfl, rfl⟩ rfl rfl rfl rfl rfl (by kernel_rfl) Try.func8 (by kernel_rfl)
    (of_decide_eq_true (by kernel_rfl)) (by unfold Func.isWrapper; first | (rw [if_pos (by decide +kernel)]; kernel_rfl) | (rw [if_neg (by decide +kernel)]; exact ⟨rfl, rfl⟩))
    (fun os started H enc _ => vlanNativelifted os started H enc)

#print axioms vlanNative_holds
end Go.Proofs.Ytelinahpneikiaa
