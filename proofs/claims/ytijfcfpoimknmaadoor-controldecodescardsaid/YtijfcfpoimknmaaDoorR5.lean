/- Contract of Encode, as the document has it. -/
import Derived.Test.YtijfcfpoimknmaaDoorR1
import Derived.Test.YtijfcfpoimknmaaDoorR4
import Derived.Test.YtijfcfpoimknmaaDoorDec
import Derived.Test.YtijfcfpoimknmaaDoorC3
import Derived.Deep.RegionLaw
import Derived.Deep.CutBlock
namespace Go.Proofs.YtijfcfpoimknmaaDoor
open Go.RowKit

theorem app_run {w : World} {base : Nat} {v : Value} {n : Nat} {xs : List Int} (hown : Row w base v n xs) {ao : Option Addr} {m c : Nat} {ns : List Int} (hB : Byt w ao m c ns) (hm : 0 < m) (h1 : n + m ≤ 100000) (hbase : base ≤ w.heap.size) :
    ∃ v' w', (Builtin.append_ #[24, 24] 24 #[v, .slice ao m c]).run Tryd.prog w = .ok v' w' ∧ Row w' base v' (n + m) (xs ++ ns) ∧ Below base w w' := by
  obtain ⟨i0, hi, hz0, hz1, hz2⟩ := info_parts Tryd.info5
  obtain ⟨b, o, rfl, -, -⟩ := hB.at hm
  obtain ⟨v', w', h2, h3, h4, -⟩ := run_append_own w base 24 24 5 i0 (.int .u8 0) 1 1 Tryd.underlying24 hi hz0 hz1 hz2 rfl (by decide) v n (xs.map (Value.int .u8)) hown ⟨b, o, none⟩ m c (ns.map (Value.int .u8)) (by simp [hB.len]) hB.src (one_u8 ns) (by unfold maxLen; omega) (by omega) hbase
  refine ⟨v', w', h2, ?_, (Below.refl _ _).grown h4 hbase (fun k hk => (hown.lt k hk).1)⟩
  unfold Row
  rw [List.map_append]
  exact h3
theorem Row.drew {w : World} {base : Nat} {v : Value} {n : Nat} {ns : List Int} (h : Row w base v n ns) : Row w.drew base v n ns := h.on ⟨rfl, rfl, rfl, Nat.le_refl _, fun _ _ => rfl⟩
/-- The first bytes, as the document puts them. -/
theorem rtp_parts {p : Pk} (h : rtp p = true) : rt p.n = true ∧ (0 ≤ p.e ∧ p.e ≤ 1073741824) ∧ (0 ≤ p.q ∧ p.q ≤ 1073741824) ∧ (0 ≤ p.a ∧ p.a ≤ 1073741824) := by
  simp only [rtp, Bool.and_eq_true, sq_iff] at h
  exact h
/-- Something is put behind an own row, in a region that draws its order. -/
theorem step_app {ops : Array Oper} {o : Oper} {a : Act} {w : World} {C : Act → World → Prop} {Q : Exit → Act → World → Prop} {E : Prop} (hgd : o.guard = none) (hty : o.type = 24) (s x : Operand)
    (ho : o.op = .call { callee := .builtin .append, args := #[s, x], argTypes := #[24, 24] })
    (base : Nat) (v : Value) (n : Nat) (xs : List Int) (hs : a.eval s = v) (hown : Row w base v n xs) (ao : Option Addr) (m c : Nat) (ns : List Int) (hx : a.eval x = .slice ao m c) (hB : Byt w ao m c ns)
    (hm : 0 < m) (h1 : n + m ≤ 100000) (hbase : base ≤ w.heap.size)
    (h : ∀ v' w', Row w' base v' (n + m) (xs ++ ns) → Below base w w' → C (a.put o.dst v') w') : if Region.wanted o (yielded ops a.tmps) = true then Oper.wp Tryd.prog o a w C Q else E := by
  have hw : Region.wanted o (yielded ops a.tmps) = true := by simp [Region.wanted, hgd]
  rw [if_pos hw]
  obtain ⟨v', w', hr, h2, h3⟩ := app_run hown hB hm h1 hbase
  have hk := h v' w' h2 h3
  unfold Oper.wp execOp
  simp only [ho, hty, resolve, invoke, builtin, Sem.run_bind, Sem.run_pure, Result.andThen_ok, List.map_toArray, List.map_cons, List.map_nil, hs, hx, hr]
  exact hk
/-- Bytes put down so far, and how many there are at most. -/
structure Out (w : World) (G : Nat) (v : Value) (xs : List Int) (b : Nat) : Prop where
  row : Row w G v xs.length xs
  le : xs.length ≤ b
section
attribute [local go_sem] PC0 PC1 PC2 ZN
set_option maxRecDepth 100000 in
set_option maxHeartbeats 8000000 in
theorem encode12_no (p : Pk) (a : Option Addr) (m c : Nat) (hl : p.n.b.length = m) (w : World) (hr : rtp p = false) :
    Calls Tryd.prog 12 #[.agg (PC p (.slice a m c))] w fun e w' => e = .returned (.tuple #[.slice none 0 0, .int .i64 1]) ∧ Below w.heap.size w w' := by
  have A0 : Box (w.alloc (.cells (PC p (.slice a m c)) 28)) w.heap.size (pcl p (.slice a m c)) := Box.new w (pcl p (.slice a m c)) 28
  have B0 := below_alloc w (.cells (PC p (.slice a m c)) 28)
  have NA := A0.note
  unfold rtp sq at hr
  generalize hs1 : wi p.e 0 1073741824 = s1 at *
  generalize hs2 : wi p.q 0 1073741824 = s2 at *
  generalize hs3 : wi p.a 0 1073741824 = s3 at *
  have F := hide (fun W => right14 p.n a m c hl W)
  have tk1 : True := trivial
  go_enter Tryd.func12, Tryd.ntmps12
  go_wp2_with (have _t := tk1; refine wpl_note (.tmp 8) rfl NA ?_ ?_ ?_; rfl; rfl; clear tk1)
  refine (F.out _).mono ?_
  generalize rt p.n = rb at *
  rintro e w1 ⟨rfl, hb1⟩
  replace A0 := A0.on hb1
  have BW := hide (belowOn B0 hb1)
  have c0 := A0.cell 0 _ rfl
  have c1 := A0.cell 1 _ rfl
  have c2 := A0.cell 2 _ rfl
  clear hb1 B0 A0 NA F hl
  have E : rb = false ∨ (rb = true ∧ s1 = false) ∨ (rb = true ∧ s1 = true ∧ s2 = false) ∨ (rb = true ∧ s1 = true ∧ s2 = true ∧ s3 = false) := by
    cases rb <;> cases s1 <;> cases s2 <;> cases s3 <;> simp_all
  clear hr
  rcases E with rfl | ⟨rfl, rfl⟩ | ⟨rfl, rfl, rfl⟩ | ⟨rfl, rfl, rfl, rfl⟩
  all_goals
    go_wp2_with (first | (go_at_call 28; refine (within28 _ _ _ _).mono ?_; rintro e w' ⟨rfl, rfl⟩))
    go_ret2
    exact ⟨rfl, BW.out⟩
set_option maxRecDepth 100000 in
set_option maxHeartbeats 8000000 in
theorem encode12_yes (p : Pk) (a : Option Addr) (m c : Nat) (w : World) (hB : NtB p.n) (hY : Byt w a m c p.n.b) (hr : rtp p = true) :
    Calls Tryd.prog 12 #[.agg (PC p (.slice a m c))] w fun e w' => ∃ ao n c', e = .returned (.tuple #[.slice ao n c', .int .i64 0]) ∧ Byt w' ao n c' (enc p) ∧ Below w.heap.size w w' := by
  have hl := hY.len
  have HE := hide (enc_rng hB)
  obtain ⟨hrt, he, hq, ha⟩ := rtp_parts hr
  have hk := rt_k hrt
  have A0 : Box (w.alloc (.cells (PC p (.slice a m c)) 28)) w.heap.size (pcl p (.slice a m c)) := Box.new w (pcl p (.slice a m c)) 28
  have B0 := below_alloc w (.cells (PC p (.slice a m c)) 28)
  have NA := A0.note
  have Y0 := hY.alloc (.cells (PC p (.slice a m c)) 28)
  have q1 : wi p.e 0 1073741824 = true := (wi_iff _ _ _).2 he
  have q2 : wi p.q 0 1073741824 = true := (wi_iff _ _ _).2 hq
  have q3 : wi p.a 0 1073741824 = true := (wi_iff _ _ _).2 ha
  have F := hide (fun W => right14 p.n a m c hl W)
  have F1 := hide (fit4 he.1 (show p.e < 4294967296 by omega))
  have F2 := hide (fit4 hq.1 (show p.q < 4294967296 by omega))
  have F3 := hide (fit4 ha.1 (show p.a < 4294967296 by omega))
  have HK := hide hk
  have FT := fun j hj hx => rt_ft hrt j hj hx
  have E1 : Hid (fbs p.n 1 = if hv p.n.k = true then be 2 p.n.v else []) := hide (by rw [fbs, hs_v]; rfl)
  have E2 : Hid (fbs p.n 2 = if hm p.n.k = true then ml p.n else []) := hide (by rw [fbs, hs_m]; rfl)
  have E4 : Hid (fbs p.n 4 = if hp p.n.k = true then be 2 p.n.p else []) := hide (by rw [fbs, hs_p]; rfl)
  have E8 : Hid (fbs p.n 8 = if hst p.n.k = true then be 1 p.n.s else []) := hide (by rw [fbs, hs_s]; rfl)
  have E16 : Hid (fbs p.n 16 = if hb p.n.k = true then be 2 (m : Int) ++ p.n.b else []) := hide (by rw [fbs, hs_b, ← hl]; rfl)
  have T1 : Hid (hv p.n.k = true → fit 2 p.n.v = true) := hide (fun h => ft_v (FT 1 (by simp [J5]) (by rw [hs_v]; exact h)))
  have T4 : Hid (hp p.n.k = true → fit 2 p.n.p = true) := hide (fun h => ft_p (FT 4 (by simp [J5]) (by rw [hs_p]; exact h)))
  have T16 : Hid (hb p.n.k = true → fit 2 (m : Int) = true ∧ m ≤ 1600) := hide (fun h => by rw [← hl]; exact ft_b (FT 16 (by simp [J5]) (by rw [hs_b]; exact h)))
  have k30 : ∀ W, Calls Tryd.prog 30 #[.int .i64 p.n.k] W fun e w' => e = .returned (.bool (hv p.n.k)) ∧ w' = W := fun W => has30 _ W
  have k31 : ∀ W, Calls Tryd.prog 31 #[.int .i64 p.n.k] W fun e w' => e = .returned (.bool (hm p.n.k)) ∧ w' = W := fun W => has31 _ W
  have k32 : ∀ W, Calls Tryd.prog 32 #[.int .i64 p.n.k] W fun e w' => e = .returned (.bool (hp p.n.k)) ∧ w' = W := fun W => has32 _ W
  have k33 : ∀ W, Calls Tryd.prog 33 #[.int .i64 p.n.k] W fun e w' => e = .returned (.bool (hst p.n.k)) ∧ w' = W := fun W => has33 _ W
  have k34 : ∀ W, Calls Tryd.prog 34 #[.int .i64 p.n.k] W fun e w' => e = .returned (.bool (hb p.n.k)) ∧ w' = W := fun W => has34 _ W
  generalize hv p.n.k = V at *
  generalize hm p.n.k = M at *
  generalize hp p.n.k = P at *
  generalize hst p.n.k = S at *
  generalize hb p.n.k = B at *
  have HM := hide hB.m
  clear FT
  have HLT := hide hY.lt
  clear hl hB hY hr he hq ha hk
  have tk1 : True := trivial
  go_enter Tryd.func12, Tryd.ntmps12
  go_wp2_with (have _t := tk1; refine wpl_note (.tmp 8) rfl NA ?_ ?_ ?_; rfl; rfl; clear tk1)
  refine (F.out _).mono ?_
  rw [hrt]
  rintro e w1 ⟨rfl, hb1⟩
  replace A0 := A0.on hb1
  replace Y0 := Y0.on hb1
  replace B0 := belowOn B0 hb1
  have c0 := A0.cell 0 _ rfl
  have c1 := A0.cell 1 _ rfl
  have c2 := A0.cell 2 _ rfl
  have NA1 := A0.note
  have BX : Box (w1.alloc (.cells (NC zeroN (.slice none 0 0)) 26)) w1.heap.size ([] ++ ncl zeroN (.slice none 0 0)) := Box.new w1 (ncl zeroN (.slice none 0 0)) 26
  clear hb1 NA F hrt
  have tk2 : True := trivial
  have tk3 : True := trivial
  go_upto_region 5 with (first | (go_at_call 28; refine (within28 _ _ _ _).mono ?_; rintro e w' ⟨rfl, rfl⟩) | (have _t := tk2; refine wpl_note (.tmp 31) rfl NA1 ?_ ?_ ?_; rfl; rfl; clear tk2) | (have _t := tk3; refine wpl_putN p.n (.slice a m c) [] zeroN (.slice none 0 0) rfl (.tmp 5) (.tmp 32) rfl BX rfl ?_ ?_ ?_ ?_; rfl; rfl; rfl; clear tk3; intro w2 N2 g2))
  have A2 : Box w2 w.heap.size (pcl p (.slice a m c)) := (A0.alloc _).kept (by have := A0.lt; omega) g2
  have Y2 := (Y0.alloc (.cells (NC zeroN (.slice none 0 0)) 26)).kept (fun b o e hp => by have := HLT.out b o e hp; have := A0.lt; omega) g2
  have L2 : Below w.heap.size w w2 := below_grown (belowOn B0 (below_alloc _ _)) g2 (Nat.le_of_lt A0.lt) (by have := A0.lt; simp; omega)
  have N3 : Box w2 w'.heap.size (ncl p.n (.slice a m c)) := N2
  have hG1 : w'.heap.size < w2.heap.size := N3.lt
  have hN1 : w.heap.size < w2.heap.size := A2.lt
  have c0 := A2.cell 0 _ rfl
  have c1 := A2.cell 1 _ rfl
  clear A0 Y0 B0 NA1 BX N2 g2
  generalize w'.heap.size = Q at *
  simp only [Act.put]
  go_cut [6] from 8 (fun v wx => Out wx w2.heap.size v (be 4 p.e ++ be 4 p.q) 8 ∧ Below w2.heap.size w2 wx)
  case first =>
    have tkA : True := trivial
    have tkB : True := trivial
    go_region_law (first | (have _t := tkA; go_simp; go_at_call 29; refine (num4 p.e _ F1.out).mono ?_; rintro e w3 ⟨rfl, Y3, R3, B3⟩; have c1b : w3.cell? ⟨w.heap.size, 1, none⟩ = some (.int .i64 p.q) := (B3.cell (p := ⟨w.heap.size, 1, none⟩) hN1).trans c1; clear tkA) | (have _t := tkB; go_simp; go_at_call 29; refine (num4 p.q _ F2.out).mono ?_; rintro e w4 ⟨rfl, Y4, R4, B4⟩; have R4b := (R3 w2.heap.size (Nat.le_refl _)).on B4; clear tkB) | (refine step_app rfl rfl (.tmp 35) (.tmp 38) rfl w2.heap.size _ 4 _ rfl R4b _ 4 4 _ rfl Y4 (by omega) (by omega) (Nat.le_trans B3.size B4.size) ?_; intro v5 w5 R5 B5))
    all_goals
      go_wp2_with fail
      go_meet
      case rel =>
        have hh := (B3.trans (B4.mono B3.size)).trans B5
        exact ⟨⟨R5, by simp [be_length]⟩, ⟨hh.os, hh.tape, hh.output, hh.size, hh.block⟩⟩
  case rest =>
  obtain ⟨O5, L5⟩ := hcut
  have hz5 := L5.size
  generalize hG : w2.heap.size = G at *
  have A5 := A2.below hN1 L5
  have N5 := N3.below hG1 L5
  have ca := A5.cell 2 _ rfl
  have RR := hide O5.row
  clear c0 c1 c2 A2 O5
  go_wp2_with fail
  refine (num4 p.a _ F3.out).mono ?_
  rintro e w6 ⟨rfl, Y6, -, B6⟩
  replace RR := hide (RR.out.on B6)
  replace L5 := L5.trans (B6.mono hz5)
  replace hz5 := Nat.le_trans hz5 B6.size
  replace N5 := N5.on B6
  have YY := hide Y6
  clear B6 Y6 ca A5
  go_wp2_with (at_builtin; refine wpl_app rfl (.tmp 40) (.tmp 43) rfl G _ 8 _ rfl RR.out _ 4 4 _ rfl YY.out (by omega) hz5 ?_)
  intro v7 w7 R7 B7
  replace RR := hide R7
  replace L5 := L5.trans B7
  replace hz5 := Nat.le_trans hz5 B7.size
  replace N5 := N5.below hG1 B7
  have c0 := N5.cell 0 _ rfl
  have BB := hide (byt1 w7 (p.n.k % 256) (by omega))
  clear R7 B7 YY
  go_wp2_with (at_builtin; refine wpl_app rfl (.tmp 45) (.tmp 49) rfl G _ 12 _ rfl (RR.out.alloc _) _ 1 1 _ rfl BB.out (by omega) (by simp; omega) ?_)
  intro v8 w8 R8 B8
  have OO : Hid (Out w8 G v8 (hd p) 13) := hide ⟨by rw [hd_length]; simpa [hd, be] using R8, by rw [hd_length]; omega⟩
  replace L5 := (L5.alloc hz5 _).trans B8
  replace N5 := (N5.alloc (.cells #[.int .u8 (p.n.k % 256)] 5)).below hG1 B8
  replace hz5 : G ≤ w8.heap.size := by have := B8.size; simp at this; omega
  clear R8 B8 BB RR c0
  have c0 := N5.cell 0 _ rfl
  go_upto_if 53 with (first | (go_at_call 30; refine (k30 _).mono ?_; rintro e w' ⟨rfl, rfl⟩))
  go_cut [6] from 8 (fun v wx => Out wx G v (hd p ++ fbs p.n 1) 15 ∧ Below G w2 wx)
  case first =>
    have c1 := N5.cell 1 _ rfl
    clear k30 k31 k32 k33 k34
    cases V
    · replace E1 : Hid (fbs p.n 1 = []) := hide (by simpa using E1.out)
      go_wp2
      go_meet
      case rel =>
        refine ⟨⟨?_, ?_⟩, L5⟩
        · rw [E1.out, List.append_nil]; exact OO.out.row
        · rw [E1.out, List.append_nil]; have := OO.out.le; omega
    · replace E1 : Hid (fbs p.n 1 = be 2 p.n.v) := hide (by simpa using E1.out)
      replace T1 : Hid (fit 2 p.n.v = true) := hide (T1.out rfl)
      go_wp2_with fail
      refine (num2 p.n.v _ T1.out).mono ?_
      rintro e w9 ⟨ao, rfl, Y9, B9⟩
      have RR := hide (OO.out.row.on B9)
      have YY := hide Y9
      have hz9 := Nat.le_trans hz5 B9.size
      have hlen := OO.out.le
      go_wp2_with (at_builtin; refine wpl_app rfl (.tmp 54) (.tmp 57) rfl G _ _ _ rfl RR.out _ 2 2 _ rfl YY.out (by omega) hz9 ?_)
      intro v10 w10 R10 B10
      go_wp2
      go_meet
      case rel =>
        refine ⟨⟨?_, ?_⟩, (L5.trans (B9.mono hz5)).trans B10⟩
        · rw [E1.out, List.length_append, be_length]; exact R10
        · rw [E1.out, List.length_append, be_length]; omega
  case rest =>
  obtain ⟨O6, L6⟩ := hcut
  replace OO := hide O6
  clear L5 N5 c0 hz5 O6 k30 E1 T1
  go_upto_block 0 with fail
  have hz6 : G ≤ wc.heap.size := by have := L6.size; omega
  go_cut [6] from 8 (fun v wx => Out wx G v ((hd p ++ fbs p.n 1) ++ fbs p.n 2) 21 ∧ Below G w2 wx)
  case first =>
    clear k32 k33 k34
    cases M
    · replace E2 : Hid (fbs p.n 2 = []) := hide (by simpa using E2.out)
      have c0 := (N3.below hG1 L6).cell 0 _ rfl
      go_wp2_with fail
      go_loopw [6, 7] (fun v i wr => v = u6 ∧ i = .int .i64 0 ∧ wr = wc) (fun _ i _ => 6 - (intOf i).toNat)
      case atStart => exact ⟨rfl, rfl, rfl⟩
      case round =>
        obtain ⟨rfl, rfl, rfl⟩ := hrel
        go_wp2_with (first | (go_at_call 31; refine (k31 _).mono ?_; rintro e w' ⟨rfl, rfl⟩))
        go_meet
        case rel =>
          refine ⟨⟨?_, ?_⟩, L6⟩
          · rw [E2.out, List.append_nil]; exact OO.out.row
          · rw [E2.out, List.append_nil]; have := OO.out.le; omega
    · replace E2 : Hid (fbs p.n 2 = ml p.n) := hide (by simpa using E2.out)
      have b1 := hide (rng_getD HM.out)
      have hX0 := OO.out.le
      have R0 := OO.out.row
      generalize hd p ++ fbs p.n 1 = X0 at *
      generalize hXL : X0.length = XL at *
      go_wp2_with fail
      go_loopw [6, 7] (fun v i wr => ∃ k : Nat, k ≤ 6 ∧ i = .int .i64 k ∧ Row wr G v (XL + k) (X0 ++ (ml p.n).take k) ∧ Below G w2 wr) (fun _ i _ => 6 - (intOf i).toNat)
      case atStart => exact ⟨0, by omega, rfl, by rw [List.take_zero, List.append_nil]; exact R0, L6⟩
      case round =>
      clear L6 R0 OO hz6
      obtain ⟨k, hk, rfl, hR, hB⟩ := hrel
      by_cases hlt : k < 6
      · have AA := N3.below hG1 hB
        have ck := AA.mac k (.int .u8 ((ml p.n).getD k 0)) (by
          rcases (show k = 0 ∨ k = 1 ∨ k = 2 ∨ k = 3 ∨ k = 4 ∨ k = 5 by omega) with rfl | rfl | rfl | rfl | rfl | rfl <;> rfl)
        have ck0 := AA.cell 0 _ rfl
        have HX := hide (b1.out k)
        have hz : G ≤ wr.heap.size := by have := hB.size; omega
        have hN : Hid (X0 ++ (ml p.n).take (k + 1) = (X0 ++ (ml p.n).take k) ++ [(ml p.n).getD k 0]) := hide (by
          rw [List.append_assoc, takes_snoc (ml p.n) k (by show k < 6; exact hlt)])
        generalize X0 ++ (ml p.n).take k = L at hR hN
        generalize (ml p.n).getD k 0 = y at *
        have BB := hide (byt1 wr y HX.out)
        have l1 : (k : Int) < 6 := by omega
        clear AA HX
        go_wp2_with (first | (go_at_call 31; refine (k31 _).mono ?_; rintro e w' ⟨rfl, rfl⟩) | (at_builtin; refine wpl_app rfl (.tmp 68) (.tmp 73) rfl G _ _ L rfl (hR.alloc _) _ 1 1 _ rfl BB.out (by omega) (by simp; omega) ?_))
        intro v' w9 hR2 hB2
        have hB3 : Below G w2 w9 := (hB.alloc hz _).trans hB2
        clear hB hB2 hR ck hz BB ck0
        go_wp2
        go_roundw
        case rel => exact ⟨k + 1, by omega, by go_num, by rw [hN.out]; exact hR2, hB3⟩
        case measure => simp [intOf]; omega
      obtain rfl : k = 6 := by omega
      · have HRR := hide hR
        clear hR
        go_wp2
        go_meet
        case rel =>
          refine ⟨⟨?_, ?_⟩, hB⟩
          · rw [E2.out, List.length_append, hXL]; exact HRR.out
          · rw [E2.out, List.length_append, hXL]; show XL + 6 ≤ 21; omega
  case rest =>
  obtain ⟨O7, L7⟩ := hcut
  replace OO := hide O7
  clear O7 L6 hz6 k31 E2
  have c0 := (N3.below hG1 L7).cell 0 _ rfl
  have hz7 : G ≤ wc.heap.size := by have := L7.size; omega
  go_upto_if 77 with (first | (go_at_call 32; refine (k32 _).mono ?_; rintro e w' ⟨rfl, rfl⟩))
  go_cut [6] from 8 (fun v wx => Out wx G v (((hd p ++ fbs p.n 1) ++ fbs p.n 2) ++ fbs p.n 4) 23 ∧ Below G w2 wx)
  case first =>
    have c8 := (N3.below hG1 L7).cell 8 _ rfl
    clear k32 k33 k34
    generalize (hd p ++ fbs p.n 1) ++ fbs p.n 2 = X0 at *
    cases P
    · replace E4 : Hid (fbs p.n 4 = []) := hide (by simpa using E4.out)
      go_wp2
      go_meet
      case rel =>
        refine ⟨⟨?_, ?_⟩, L7⟩
        · rw [E4.out, List.append_nil]; exact OO.out.row
        · rw [E4.out, List.append_nil]; have := OO.out.le; omega
    · replace E4 : Hid (fbs p.n 4 = be 2 p.n.p) := hide (by simpa using E4.out)
      replace T4 : Hid (fit 2 p.n.p = true) := hide (T4.out rfl)
      go_wp2_with fail
      refine (num2 p.n.p _ T4.out).mono ?_
      rintro e w9 ⟨ao, rfl, Y9, B9⟩
      have RR := hide (OO.out.row.on B9)
      have YY := hide Y9
      have hz9 := Nat.le_trans hz7 B9.size
      have hlen := OO.out.le
      go_wp2_with (at_builtin; refine wpl_app rfl (.tmp 78) (.tmp 81) rfl G _ _ _ rfl RR.out _ 2 2 _ rfl YY.out (by omega) hz9 ?_)
      intro v10 w10 R10 B10
      go_wp2
      go_meet
      case rel =>
        refine ⟨⟨?_, ?_⟩, (L7.trans (B9.mono hz7)).trans B10⟩
        · rw [E4.out, List.length_append (bs := be 2 p.n.p), be_length]; exact R10
        · rw [E4.out, List.length_append (bs := be 2 p.n.p), be_length]; omega
  case rest =>
  obtain ⟨O8, L8⟩ := hcut
  replace OO := hide O8
  clear O8 L7 hz7 k32 E4 c0 T4
  have c0 := (N3.below hG1 L8).cell 0 _ rfl
  have hz8 : G ≤ wc.heap.size := by have := L8.size; omega
  go_upto_if 85 with (first | (go_at_call 33; refine (k33 _).mono ?_; rintro e w' ⟨rfl, rfl⟩))
  go_cut [6] from 8 (fun v wx => Out wx G v ((((hd p ++ fbs p.n 1) ++ fbs p.n 2) ++ fbs p.n 4) ++ fbs p.n 8) 24 ∧ Below G w2 wx)
  case first =>
    have c9 := (N3.below hG1 L8).cell 9 _ rfl
    clear k33 k34
    generalize ((hd p ++ fbs p.n 1) ++ fbs p.n 2) ++ fbs p.n 4 = X0 at *
    cases S
    · replace E8 : Hid (fbs p.n 8 = []) := hide (by simpa using E8.out)
      go_wp2
      go_meet
      case rel =>
        refine ⟨⟨?_, ?_⟩, L8⟩
        · rw [E8.out, List.append_nil]; exact OO.out.row
        · rw [E8.out, List.append_nil]; have := OO.out.le; omega
    · replace E8 : Hid (fbs p.n 8 = [p.n.s % 256]) := hide (by have := E8.out; simpa [be] using this)
      have RR := hide OO.out.row
      have hlen := OO.out.le
      have BB := hide (byt1 w' (p.n.s % 256) (by omega))
      go_wp2_with (at_builtin; refine wpl_app rfl (.tmp 86) (.tmp 90) rfl G _ _ _ rfl (RR.out.alloc _) _ 1 1 _ rfl BB.out (by omega) (by simp; omega) ?_)
      intro v10 w10 R10 B10
      go_wp2
      go_meet
      case rel =>
        refine ⟨⟨?_, ?_⟩, (L8.alloc hz8 _).trans B10⟩
        · rw [E8.out, List.length_append (bs := [p.n.s % 256])]; exact R10
        · rw [E8.out, List.length_append (bs := [p.n.s % 256])]; show _ + 1 ≤ 24; omega
  case rest =>
  obtain ⟨O9, L9⟩ := hcut
  replace OO := hide O9
  clear O9 L8 hz8 k33 E8 c0
  have c0 := (N3.below hG1 L9).cell 0 _ rfl
  have c10 := (N3.below hG1 L9).cell 10 _ rfl
  have hz9 : G ≤ wc.heap.size := by have := L9.size; omega
  have Y9 := Y2.below (fun b o e hp => by have := HLT.out b o e hp; omega) L9
  have EP : Hid (((((hd p ++ fbs p.n 1) ++ fbs p.n 2) ++ fbs p.n 4) ++ fbs p.n 8) ++ fbs p.n 16 = enc p) := hide (by rw [enc, tl]; simp)
  generalize (((hd p ++ fbs p.n 1) ++ fbs p.n 2) ++ fbs p.n 4) ++ fbs p.n 8 = X0 at *
  cases B
  · replace E16 : Hid (fbs p.n 16 = []) := hide (by simpa using E16.out)
    have HO := hide OO.out.row
    go_wp2_with (first | (go_at_call 34; refine (k34 _).mono ?_; rintro e w' ⟨rfl, rfl⟩))
    go_ret2
    have EQ : X0 = enc p := by have := EP.out; rw [E16.out, List.append_nil] at this; exact this
    rw [EQ] at HO
    obtain ⟨ao, c', e1, hb⟩ := HO.out.byt HE.out
    exact ⟨ao, _, c', by rw [e1]; rfl, hb, L2.trans (L9.mono (by omega))⟩
  · replace E16 : Hid (fbs p.n 16 = be 2 (m : Int) ++ p.n.b) := hide (by simpa using E16.out)
    replace T16 := hide (T16.out rfl)
    have hlen := OO.out.le
    go_wp2_with (first | (go_at_call 34; refine (k34 _).mono ?_; rintro e w' ⟨rfl, rfl⟩))
    refine (num2 (m : Int) _ T16.out.1).mono ?_
    rintro e w10 ⟨ao, rfl, Y10, B10⟩
    have RR := hide (OO.out.row.on B10)
    have YY := hide Y10
    have hz10 := Nat.le_trans hz9 B10.size
    have L10 := L9.trans (B10.mono hz9)
    have N10 := N3.below hG1 L10
    have d10 := N10.cell 10 _ rfl
    clear Y9 c0 c10 B10 Y10 L9
    go_wp2_with (at_builtin; refine wpl_app rfl (.tmp 95) (.tmp 99) rfl G _ _ _ rfl RR.out _ 2 2 _ rfl YY.out (by omega) hz10 ?_)
    intro v11 w11 R11 B11
    have L11 := L10.trans B11
    have N11 := N3.below hG1 L11
    have f10 := N11.cell 10 _ rfl
    have Y11 := hide (Y2.below (fun b o e hp => by have := HLT.out b o e hp; omega) L11)
    have hz11 := Nat.le_trans hz10 B11.size
    have RR2 := hide R11
    clear R11 B11 RR YY L10 N10 d10 hz10 N11
    go_wp2_with (at_builtin; refine wpl_app rfl (.tmp 101) (.tmp 103) rfl G _ _ _ rfl RR2.out a m c _ rfl Y11.out (by have := T16.out.2; omega) hz11 ?_)
    intro v12 w12 R12 B12
    have HO := hide R12
    have L12 := L11.trans B12
    clear R12 B12 RR2 Y11 L11 f10
    go_wp2
    go_ret2
    have EQ : X0 ++ (be 2 (m : Int) ++ p.n.b) = enc p := by have := EP.out; rw [E16.out] at this; exact this
    have HO2 := HO.out
    rw [EQ] at HO2
    obtain ⟨ao', c', e1, hb⟩ := HO2.byt HE.out
    exact ⟨ao', _, c', by rw [e1]; rfl, hb, L2.trans (L12.mono (by omega))⟩
end
theorem encode12 (p : Pk) (a : Option Addr) (m c : Nat) (w : World) (hB : NtB p.n) (hY : Byt w a m c p.n.b) :
    Calls Tryd.prog 12 #[.agg (PC p (.slice a m c))] w fun e w' => ∃ ao n c', e = .returned (.tuple #[.slice ao n c', .int .i64 (ec p)]) ∧ Byt w' ao n c' (eb p) ∧ Below w.heap.size w w' := by
  cases hr : rtp p
  · have e1 : eb p = [] := by simp [eb, hr]
    have e2 : ec p = 1 := by simp [ec, hr]
    rw [e1, e2]
    exact (encode12_no p a m c hY.len w hr).mono fun e w' ⟨he, hB⟩ => ⟨none, 0, 0, he, Byt.nothing w', hB⟩
  · have e1 : eb p = enc p := by simp [eb, hr]
    have e2 : ec p = 0 := by simp [ec, hr]
    rw [e1, e2]
    exact encode12_yes p a m c w hB hY hr
end Go.Proofs.YtijfcfpoimknmaaDoor
