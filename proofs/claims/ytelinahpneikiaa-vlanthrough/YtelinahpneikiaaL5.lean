/- VlanThrough: for all steps, every frame and every two ports the law answers true, and all three read behind the call as they read before. No condition. -/
import Derived.Test.YtelinahpneikiaaOp
import Derived.Test.YtelinahpneikiaaAw
import Derived.Test.YtelinahpneikiaaD2
import Derived.Test.YtelinahpneikiaaE6
namespace Go.Proofs.Ytelinahpneikiaa
open Go.ChangeShapes Go.WideShapes Go.ChangeAt Go.RowKit

theorem in_bad {T : Tb} {p : Int} {f : Fd} (h : (inE T p f != 0) = true) : inV T p f = 0 := by
  unfold inE at h
  unfold inV
  split
  · rename_i hc
    rw [if_pos hc] at h
    split
    · rename_i hm
      rw [if_pos hm] at h
      cases h
    · rfl
  · rfl
theorem in_good {T : Tb} (hw : Wf T) {p : Int} {f : Fd} (h : (inE T p f != 0) = false) : rt f = true ∧ isV (inV T p f) = true := by
  unfold inE at h
  unfold inV
  split at h
  · rename_i hc
    rw [if_pos hc]
    simp only [Bool.and_eq_true] at hc
    split at h
    · rename_i hm
      rw [if_pos hm]
      exact ⟨hc.2, (hw.has hm).1⟩
    · cases h
  · cases h
/-- What VlanThrough asks, of the tables. -/
theorem through_facts {T : Tb} (hw : Wf T) {v y : Int} {f : Fd} (hr : rt f = true) (hv : isV v = true) :
    ((ouE T v y f != 0) = true ∧ ¬ y ∈ mbs T.l v T.n) ∨
    ((ouE T v y f != 0) = false ∧ y ∈ mbs T.l v T.n ∧
      (((ouF T v y f).tg = true ∧ inV T y (ouF T v y f) = v ∧ inE T y (ouF T v y f) = 0 ∧ (ouF T v y f).vl = v ∧ (ouF T v y f).pr = f.pr) ∨
       ((ouF T v y f).tg = false ∧ inV (tNat T y v) y (ouF T v y f) = v ∧ inE (tNat T y v) y (ouF T v y f) = 0 ∧ (ouF T v y f).vl = 0))) := by
  have hv' := (isV_iff v).1 hv
  rcases Bool.eq_false_or_eq_true (hs T.l v y) with hm | hm
  · have hh := (hw.has hm).2
    have hb := (hp_iff T y).1 hh
    refine Or.inr ⟨by simp only [ouE, hv, hh, hr, hm]; rfl, (mem_mbs _ _ _ _).2 ⟨hb.1, hb.2, hm⟩, ?_⟩
    rcases Bool.eq_false_or_eq_true (tgd T.l v y) with ht | ht
    · have e : ouF T v y f = tagF f v f.pr := by simp only [ouF, hv, hh, hr, hm, ht]; rfl
      rw [e]
      have hrt := rt_tag hr hv
      have hvo : vOf T y (tagF f v f.pr) = v := by
        have : (v == 0) = false := by simp; omega
        have e2 : vOf T y (tagF f v f.pr) = if v == 0 then T.ns.getD y.toNat 0 else v := rfl
        rw [e2, this]; rfl
      refine Or.inl ⟨rfl, ?_, ?_, rfl, rfl⟩
      · simp only [inV, hh, hrt, hvo, hm]; rfl
      · simp only [inE, hh, hrt, hvo, hm]; rfl
    · have e : ouF T v y f = untF f := by simp only [ouF, hv, hh, hr, hm, ht]; rfl
      rw [e]
      have hrt := rt_unt hr
      have e1 : tNat T y v = ⟨T.n, T.l, T.ns.set y.toNat v⟩ := by rw [tNat, hh, hv]; simp
      have hh1 : hp ⟨T.n, T.l, T.ns.set y.toNat v⟩ y = true := hh
      have hvo : vOf ⟨T.n, T.l, T.ns.set y.toNat v⟩ y (untF f) = v := by
        have e2 : vOf ⟨T.n, T.l, T.ns.set y.toNat v⟩ y (untF f) = (T.ns.set y.toNat v).getD y.toNat 0 := rfl
        have hn := hw.ns
        rw [e2, List.getD_eq_getElem?_getD, List.getElem?_set_self (by omega)]
        rfl
      rw [e1]
      refine Or.inr ⟨rfl, ?_, ?_, rfl⟩
      · simp only [inV, hh1, hrt, hvo, hm]; rfl
      · simp only [inE, hh1, hrt, hvo, hm]; rfl
  · refine Or.inl ⟨?_, fun hc => ?_⟩
    · unfold ouE
      split
      · rw [hm]; rfl
      · rfl
    · have := ((mem_mbs _ _ _ _).1 hc).2.2
      rw [hm] at this
      cases this
theorem mem_take_succ {xs : List Int} {k : Nat} (hk : k < xs.length) (y : Int) : y ∈ xs.take (k + 1) ↔ y ∈ xs.take k ∨ xs.getD k 0 = y := by
  rw [List.take_add_one, List.mem_append, List.getD_eq_getElem?_getD, List.getElem?_eq_getElem hk]
  simp [eq_comm]
section
attribute [local go_sem] FC12 FC13 FC14 FC15 FC16 FC_size ZF
set_option maxRecDepth 100000 in
set_option maxHeartbeats 8000000 in
theorem throughWalk (ao : Option Addr) (n c : Nat) (ss : List St) (f : Fd) (a : Option Addr) (m d : Nat) (x y : Int) (w : World) (hS : Sts w w.heap.size ao n c ss) (hY : Byt w a m d f.bs) (_hx : I64 x) (_hy : I64 y) :
    Calls Try.prog 5 #[.slice ao n c, .agg (FC f (.slice a m d)), .agg #[.int .i64 x, .int .i64 y]] w fun e w' => e = .returned (.bool true) ∧ Below w.heap.size w w' := by
  have B0 : Below w.heap.size w ((w.alloc (.cells (FC f (.slice a m d)) 37)).alloc (.cells #[.int .i64 x, .int .i64 y] 38)) := by go_grown
  have F0 := (Box.new w (fcl f (.slice a m d)) 37).alloc (.cells #[.int .i64 x, .int .i64 y] 38)
  have X0 := Box.new (w.alloc (.cells (FC f (.slice a m d)) 37)) [.int .i64 x, .int .i64 y] 38
  rw [World.size_alloc] at X0
  have HS := hide (hS.below B0)
  have Y0 := hY.on B0
  have hlen := hY.len
  have hle := hY.le
  have hmx := hY.mx
  unfold maxLen at hmx
  clear hS hY
  go_enter Try.func5, Try.ntmps5
  go_wp2_with fail
  refine (awake10 _).mono ?_
  rintro e w1 ⟨rfl, C1⟩
  have B1 := belowOn B0 C1
  have F1 := F0.on C1
  have X1 := X0.on C1
  have Y1 := Y0.on C1
  have hz1 := C1.size
  have HS1 : Hid (Sts w1 w1.heap.size ao n c ss) := hide ((HS.out.below (C1.mono (by simp; omega))).up B1.size)
  have lX := X1.lt
  clear B0 C1 F0 X0 Y0 HS
  go_wp2_with fail
  refine (made11 5 ao n c ss _ (by omega) (by omega) HS1.out).mono ?_
  rintro e w2 ⟨h, g, lv, T, rfl, M⟩
  have F2 := hide (F1.on M.B)
  have X2 := X1.on M.B
  have Y2 := hide (Y1.on M.B)
  have B2 := B1.trans (M.B.mono B1.size)
  have P2 := hide M.P
  have hh1 : Hid (w.heap.size + 1 < h) := hide (by have := M.hw; omega)
  have lP := M.P.lt
  have hz2 := B2.size
  clear M B1 F1 X1 Y1 HS1
  have c16 := F2.out.cell 16 _ rfl
  have x0 := X2.cell 0 _ rfl
  by_cases hm : (3000 : Int) < m
  · go_wp2
    go_ret
    exact ⟨rfl, B2⟩
  · have tk1 : True := trivial
    have XX := hide X2
    have BB := hide B2
    clear X2 B2
    go_wp2_with (first | (have _t := tk1; refine wpl_frame (.tmp 4) rfl F2.out ?_ ?_ ?_; rfl; rfl; clear tk1))
    refine (in17 h T x f a m d hlen _ P2.out).mono ?_
    rintro e w3 ⟨rfl, C3⟩
    have P3 := hide (P2.out.on C3)
    have F3 := hide (F2.out.on C3)
    have Y3 := hide (Y2.out.on C3)
    have X3 := hide (XX.out.on C3)
    have B3 := hide (BB.out.trans (C3.mono hz2))
    have hz3 := B3.out.size
    have l3 := C3.size
    clear C3 P2 F2 Y2 XX BB x0 c16
    rcases Bool.eq_false_or_eq_true (inE T x f != 0) with he | he
    · have hv0 := in_bad he
      rw [hv0]
      generalize inE T x f = E at *
      clear hv0
      go_wp2
      go_ret
      exact ⟨rfl, B3.out⟩
    · obtain ⟨hr, hv⟩ := in_good P3.out.wf he
      have iv := i64_v hv
      have TF := hide (through_facts (y := y) P3.out.wf hr hv)
      generalize inE T x f = E at *
      generalize inV T x f = v at *
      clear hr hv
      go_wp2_with fail
      refine (members13 h T v _ iv P3.out).mono ?_
      rintro e w4 ⟨ao4, k4, rfl, I4, C4⟩
      have P4 := hide (P3.out.on C4)
      have F4 := hide (F3.out.on C4)
      have Y4 := hide (Y3.out.on C4)
      have X4 := hide (X3.out.on C4)
      have B4 := hide (B3.out.trans (C4.mono hz3))
      have I5 := hide I4
      have il := I4.le
      have im := I4.mx
      have l4 := C4.size
      unfold maxLen at im
      clear C4 P3 F3 Y3 X3 B3 I4
      generalize hxs : mbs T.l v T.n = xs at *
      clear hxs
      go_wp2
      go_loopw [14, 15] (fun b i wr => ∃ (k : Nat) (q : Bool), k ≤ xs.length ∧ i = .int .i64 k ∧ b = .bool q ∧ (q = true ↔ y ∈ xs.take k) ∧ Below w4.heap.size w4 wr) (fun _ i _ => xs.length - (intOf i).toNat)
      case atStart => exact ⟨0, false, Nat.zero_le _, rfl, rfl, by simp, Below.refl _ _⟩
      case round =>
        obtain ⟨k, q, hk, rfl, rfl, hq, hB⟩ := hrel
        have Q0 := hide hq
        have HB := hide hB
        clear hq
        by_cases hlt : k < xs.length
        · have hlt' : (k : Int) < xs.length := by omega
          have I := I5.out.on hB
          obtain ⟨b1, o1, rfl, hc1, -⟩ := I.at (by omega)
          have x1 := hc1 k hlt
          have y1 := (X4.out.on hB).cell 1 _ rfl
          have MT := hide (mem_take_succ hlt y)
          clear hB I hc1
          generalize xs.getD k 0 = Z at *
          cases q
          · rcases Bool.eq_false_or_eq_true (Z == y) with hzy | hzy
            · have QN : Hid ((true = true) ↔ y ∈ xs.take (k + 1)) := hide (by rw [MT.out]; simpa using Or.inr (by simpa using hzy))
              go_wp2
              go_quiet (fail)
              go_wp2
              go_roundw
              case rel => exact ⟨k + 1, true, by omega, by go_num, rfl, by first | exact QN.out | simpa using QN.out, drewB HB.out _⟩
              case measure => simp [intOf]; omega
            · have QN : Hid ((false = true) ↔ y ∈ xs.take (k + 1)) := hide (by
                rw [MT.out, ← Q0.out]
                have : ¬ Z = y := by simpa using hzy
                simp [this])
              go_wp2
              go_quiet (fail)
              go_wp2
              go_roundw
              case rel => exact ⟨k + 1, false, by omega, by go_num, rfl, by first | exact QN.out | simpa using QN.out, drewB HB.out _⟩
              case measure => simp [intOf]; omega
          · have QN : Hid ((true = true) ↔ y ∈ xs.take (k + 1)) := hide (by
              rw [MT.out, ← Q0.out]
              simp)
            go_wp2
            go_quiet (fail)
            go_wp2
            go_roundw
            case rel => exact ⟨k + 1, true, by omega, by go_num, rfl, by first | exact QN.out | simpa using QN.out, drewB HB.out _⟩
            case measure => simp [intOf]; omega
        · have QX : Hid (q = true ↔ y ∈ xs) := hide (by rw [Q0.out, List.take_of_length_le (by omega)])
          have hlt' : ¬ ((k : Int) < xs.length) := by omega
          have P5 := hide (P4.out.on hB)
          have F5 := hide (F4.out.on hB)
          have Y5 := hide (Y4.out.on hB)
          have X5 := hide (X4.out.on hB)
          have B5 := hide (B4.out.trans (hB.mono (by omega)))
          have l5 := hB.size
          have y5 := X5.out.cell 1 _ rfl
          clear hB HB Q0 P4 F4 Y4 X4 B4 I5
          have tk2 : True := trivial
          go_wp2_with (first | (have _t := tk2; refine wpl_frame (.tmp 4) rfl F5.out ?_ ?_ ?_; rfl; rfl; clear tk2))
          refine (out19 h T v y f a m d _ P5.out Y5.out (by omega)).mono ?_
          rintro e w6 ⟨a1, m1, k1, rfl, O6, C6⟩
          have ba := below_alloc w6 (.cells (FC zeroF (.slice none 0 0)) 37)
          have N0 := hide (Box.new w6 (fcl zeroF (.slice none 0 0)) 37)
          have P6 := hide (P5.out.on C6)
          have F6 := hide (F5.out.on C6)
          have X6 := hide (X5.out.on C6)
          have B6 := hide (B5.out.trans (C6.mono (by omega)))
          have hl6 := O6.len
          have A6 := hide ba
          have l6 := C6.size
          clear C6 P5 F5 Y5 X5 B5 O6 ba y5
          have tk3 : True := trivial
          go_wp2_with (first | (have _t := tk3; refine wpl_putF (ouF T v y f) (.slice a1 m1 k1) _ _ rfl (.tmp 16) (.tmp 85) rfl N0.out ?_ ?_ ?_ ?_; rfl; rfl; rfl; clear tk3))
          intro w7 N1 g7
          have C7 := below_grown A6.out g7 (Nat.le_refl _) (by simp)
          have P7 := hide (P6.out.on C7)
          have F7 := hide (F6.out.on C7)
          have X7 := hide (X6.out.on C7)
          have B7 := hide (B6.out.trans (C7.mono (by omega)))
          have N2 := hide N1
          have l7 := C7.size
          have y7 := X7.out.cell 1 _ rfl
          clear C7 P6 F6 X6 B6 N0 N1 g7 A6
          have TF2 := TF.out
          clear TF
          rcases TF2 with ⟨f1, f2⟩ | ⟨f1, f2, f3⟩
          · have hq0 : q = false := by
              rcases Bool.eq_false_or_eq_true q with hq | hq
              · exact absurd (QX.out.1 hq) f2
              · exact hq
            subst hq0
            generalize ouE T v y f = OE at *
            clear f2 QX
            go_wp2
            go_ret
            exact ⟨rfl, B7.out⟩
          · have hq1 := QX.out.2 f2
            subst hq1
            clear f2 QX
            generalize ouE T v y f = OE at *
            generalize ouF T v y f = G at *
            have F3 := hide f3
            clear f3
            have tk4 : True := trivial
            go_wp2_with (first | (have _t := tk4; refine wpl_frame (.tmp 16) rfl N2.out ?_ ?_ ?_; rfl; rfl; clear tk4))
            refine (in17 h T y G a1 m1 k1 hl6 _ P7.out).mono ?_
            rintro e w8 ⟨rfl, C8⟩
            have P8 := hide (P7.out.on C8)
            have F8 := hide (F7.out.on C8)
            have X8 := hide (X7.out.on C8)
            have B8 := hide (B7.out.trans (C8.mono (by omega)))
            have N8 := hide (N2.out.on C8)
            have l8 := C8.size
            have n12 := N8.out.cell 12 _ rfl
            have n13 := N8.out.cell 13 _ rfl
            have n14 := N8.out.cell 14 _ rfl
            have f14 := F8.out.cell 14 _ rfl
            have y8 := X8.out.cell 1 _ rfl
            clear C8 P7 F7 X7 B7 N2 y7
            rcases F3.out with ⟨t1, t2, t3, t4, t5⟩ | ⟨t1, t2, t3, t4⟩
            · rw [t1] at n12
              rw [t4] at n13
              rw [t5] at n14
              rw [t2, t3]
              clear t1 t2 t3 t4 t5 F3
              have s1 : (v == v) = true := by simp
              have s2 : (f.pr == f.pr) = true := by simp
              go_wp2
              go_ret
              exact ⟨rfl, B8.out⟩
            · rw [t1] at n12
              have T2 := hide t2
              have T3 := hide t3
              have T4 := hide t4
              clear t1 t2 t3 t4 F3 n13 n14 f14
              generalize inV T y G = J1
              generalize inE T y G = J2
              go_wp2_with fail
              refine (native22 h T y v _ P8.out).mono ?_
              rintro e w9 ⟨rfl, P9, M9⟩
              have X9 := X8.out.block (w1 := w9) (M9.block _ X8.out.lt (Or.inl hh1.out))
              have N9 := hide (N8.out.mid M9 (by omega))
              have B9 := hide (B8.out.trans ((M9.below (by omega)).mono (by have := hh1.out; omega)))
              have l9 := M9.size
              have P10 := hide P9
              have y9 := X9.cell 1 _ rfl
              clear P9 M9 X8 X9 N8 B8 P8 n12 y8 F8
              have tk5 : True := trivial
              go_wp2_with (first | (have _t := tk5; refine wpl_frame (.tmp 16) rfl N9.out ?_ ?_ ?_; rfl; rfl; clear tk5))
              refine (in17 h (tNat T y v) y G a1 m1 k1 hl6 _ P10.out).mono ?_
              rintro e w10 ⟨rfl, C10⟩
              rw [T2.out, T3.out]
              have B10 := hide (B9.out.trans (C10.mono (by have := hh1.out; omega)))
              have p13 := (N9.out.on C10).cell 13 _ rfl
              rw [T4.out] at p13
              have s1 : (v == v) = true := by simp
              clear C10 B9 N9 P10 T2 T3 T4 y9
              go_wp2
              go_ret
              exact ⟨rfl, B10.out⟩
end
set_option maxRecDepth 100000 in
set_option maxHeartbeats 2000000 in
theorem vlanThroughlifted (os : Os) (started : os.Started) (H : Type) (enc : TypeId × Value → H) :
    ReturnsInHanded {} Try.checked os 5 .any (Rows.vlanThroughSpec.pre6 enc Try.prog Try.f5 Rows.vlanThroughRow.domain false) (Rows.vlanThroughSpec.post enc Try.prog Try.f5 false true false false) := by
  refine returnsInHanded_of_change (C := Try.checked) own started (by kernel_rfl) Try.func5
    (ChangeSpec.witness6 (enc := enc) (C := Try.checked) false ⟨#[], #[.slice none 0 0, .agg #[.int .u8 0, .int .u8 0, .int .u8 0, .int .u8 0, .int .u8 0, .int .u8 0, .int .u8 0, .int .u8 0, .int .u8 0, .int .u8 0, .int .u8 0, .int .u8 0, .bool false, .int .i64 0, .int .i64 0, .int .i64 0, .slice none 0 0], .agg #[.int .i64 0, .int .i64 0]], []⟩ 8 (by kernel_rfl) (by kernel_rfl) (by kernel_rfl) (by kernel_rfl)) ?_
  intro W base args ds gs before hval0 hW _ _
  have hval : ∀ (j : Nat) t v, Try.f5.params[j]? = some t → args[j]? = some v → Value.okWide Try.prog W .any base t v := hval0
  have hW' := hW
  obtain ⟨p, q, hA0, hV, rfl, _, _⟩ := hW
  have hA : DataW.TrodAll enc Try.prog W 0 (fun _ => true) true Try.f5.params.toList args.toList ds p := hA0
  rw [Try.params5] at hA hval
  obtain ⟨v0, vs0, d0, ds0, p0, q0, hargs, rfl, rfl, h0, r0⟩ := trodAll_cons hA
  obtain ⟨v1, vs1, d1, ds1, p1, q1, rfl, rfl, rfl, h1, r1⟩ := trodAll_cons r0
  obtain ⟨v2, vs2, d2, ds2, p2, q2, rfl, rfl, rfl, h2, r2⟩ := trodAll_cons r1
  obtain ⟨rfl, rfl, rfl⟩ := trodAll_nil r2
  obtain rfl : args = #[v0, v1, v2] := by cases args; simp_all
  obtain ⟨rfl, rfl⟩ := trodVars_none hV
  have h0k := h0
  obtain ⟨ao0, n0, c0, ss0, rfl, hs0⟩ := open_steps (hval 0 22 v0 rfl rfl) h0
  have h1k := h1
  obtain ⟨f1, a1, m1, c1, rfl, hy1⟩ := open_frame (hval 1 37 v1 rfl rfl) h1
  have h2k := h2
  obtain ⟨x2, y2, rfl, hx2, hz2⟩ := open_two (hval 2 38 v2 rfl rfl) h2
  clear hA0 hval0
  simp only [List.append_nil] at hW'
  have hlt : ∀ x ∈ p0 ++ p1 ++ p2, x.block < W.heap.size := fun x hx => by simpa using hW'.lt x (by simpa using hx)
  refine (throughWalk ao0 n0 c0 ss0 f1 a1 m1 c1 x2 y2 W hs0 hy1 hx2 hz2).mono fun e W' ⟨he, hbl⟩ => ?_
  subst he
  exact ⟨_, rfl, _, _, _, [], _, [], hW', (trodAll_cons_mk (shut_bool Try.underlying4 _) trodAll_mk0), (trodAll_cons_mk (Below.trod Try.laidOut (by kernel_rfl) (of_decide_eq_true (by kernel_rfl)) h0k hbl (fun x hx => hlt x (by simp [hx]))) (trodAll_cons_mk (Below.trod Try.laidOut (by kernel_rfl) (of_decide_eq_true (by kernel_rfl)) h1k hbl (fun x hx => hlt x (by simp [hx]))) (trodAll_cons_mk (Below.trod Try.laidOut (by kernel_rfl) (of_decide_eq_true (by kernel_rfl)) h2k hbl (fun x hx => hlt x (by simp [hx]))) trodAll_mk0))), rfl, hbl.frame _, fun h => by cases h⟩

theorem vlanThrough_holds : Rows.VlanThroughSaid :=
  OpenClaim.holds_of_wide 5 Try.f5 rfl rfl rfl rfl rfl rfl rfl ⟨rfl, rfl, rfl, rfl, rfl⟩ rfl rfl rfl rfl rfl (by kernel_rfl) Try.func5 (by kernel_rfl)
    (of_decide_eq_true (by kernel_rfl)) (by unfold Func.isWrapper; first | (rw [if_pos (by decide +kernel)]; kernel_rfl) | (rw [if_neg (by decide +kernel)]; exact ⟨rfl, rfl⟩))
    (fun os started H enc _ => vlanThroughlifted os started H enc)

#print axioms vlanThrough_holds
end Go.Proofs.Ytelinahpneikiaa
