/- VlanLast: for all steps, and every step, the law answers true, and both read behind the call as they read before. No condition. -/
import Derived.Test.YtelinahpneikiaaOp
import Derived.Test.YtelinahpneikiaaAw
import Derived.Test.YtelinahpneikiaaD2
import Derived.Test.YtelinahpneikiaaE6
namespace Go.Proofs.Ytelinahpneikiaa
open Go.ChangeShapes Go.WideShapes Go.ChangeAt Go.RowKit

theorem mbs_one {l l' : List Mm} {v : Int} {p : Nat} (h1 : hs l v p = true) (h2 : hs l' v p = false) (h : ∀ q : Int, q ≠ p → hs l' v q = hs l v q) : ∀ n : Nat, p < n → (mbs l v n).length = (mbs l' v n).length + 1
  | 0, hn => by omega
  | n + 1, hn => by
    by_cases e : n = p
    · subst e
      rw [mbs_yes h1, mbs_no h2, mbs_congr (l' := l) n (fun q _ hq => h q (by omega))]
      simp
    · have ih := mbs_one h1 h2 h n (by omega)
      have hq := h n (by omega)
      rcases Bool.eq_false_or_eq_true (hs l v n) with hm | hm
      · rw [hm] at hq
        rw [mbs_yes hm, mbs_yes hq]
        simp [ih]
      · rw [hm] at hq
        rw [mbs_no hm, mbs_no hq, ih]
/-- What VlanLast asks, of the tables. -/
theorem last_facts {T : Tb} (hw : Wf T) {v p : Int} (t : Bool) (hv : isV v = true) (hh : hp T p = true) :
    ouE (tAdd T v p t) v p f0 = 0 ∧ (ouF (tAdd T v p t) v p f0).tg = t ∧ eRm (tAdd T v p t) v p = 0 ∧ eRm (tRm (tAdd T v p t) v p) v p = 4 ∧
      (mbs (tAdd T v p t).l v (tAdd T v p t).n).length = (mbs (tRm (tAdd T v p t) v p).l v (tRm (tAdd T v p t) v p).n).length + 1 := by
  have e1 : tAdd T v p t = ⟨T.n, ad T.l v p t, T.ns⟩ := by rw [tAdd, hv, hh]; rfl
  have hw1 := hw.add v p t
  rw [e1] at hw1 ⊢
  have hh1 : hp ⟨T.n, ad T.l v p t, T.ns⟩ p = true := hh
  have hs1 : hs (ad T.l v p t) v p = true := by rw [hs_ad]; simp [mt]
  have ht := tgd_ad T.l v p t
  have hr : rt f0 = true := by decide
  have e2 : tRm ⟨T.n, ad T.l v p t, T.ns⟩ v p = ⟨T.n, rm (ad T.l v p t) v p, T.ns⟩ := by rw [tRm, hv, hh1]; rfl
  have hs2 : hs (rm (ad T.l v p t) v p) v p = false := by
    rw [hs_rm _ _ _ hw1.ap]
    simp [mt]
  have hh2 : hp ⟨T.n, rm (ad T.l v p t) v p, T.ns⟩ p = true := hh
  rw [e2]
  refine ⟨?_, ?_, ?_, ?_, ?_⟩
  · simp only [ouE, hv, hh1, hr, hs1]; rfl
  · simp only [ouF, hv, hh1, hr, hs1, ht]
    cases t <;> rfl
  · simp only [eRm, hv, hh1, hs1]; rfl
  · simp only [eRm, hv, hh2, hs2]; rfl
  · have hb := (hp_iff T p).1 hh
    obtain ⟨k, rfl⟩ := Int.eq_ofNat_of_zero_le hb.1
    refine mbs_one hs1 hs2 (fun q hq => ?_) T.n (by omega)
    rw [hs_rm _ _ _ hw1.ap]
    have : mt ⟨v, k, false⟩ v q = false := by
      simp [mt]
      exact fun e => hq e.symm
    rw [this]
    simp
theorem sorted_step {xs : List Int} (h : xs.Pairwise (· < ·)) {k : Nat} (h1 : 1 ≤ k) (h2 : k < xs.length) : xs.getD (k - 1) 0 < xs.getD k 0 := by
  have := List.pairwise_iff_getElem.1 h (k - 1) k (by omega) h2 (by omega)
  rw [List.getD_eq_getElem?_getD, List.getD_eq_getElem?_getD, List.getElem?_eq_getElem h2, List.getElem?_eq_getElem (by omega)]
  exact this
section
attribute [local go_sem] SC0 SC1 SC2 SC3 SC_size FC12 FC13 FC14 FC15 FC16 FC_size ZF FS15
set_option maxRecDepth 100000 in
set_option maxHeartbeats 4000000 in
theorem lastWalk (ao : Option Addr) (n c : Nat) (ss : List St) (s : St) (w : World) (hS : Sts w w.heap.size ao n c ss) :
    Calls Try.prog 7 #[.slice ao n c, .agg (SC s)] w fun e w' => e = .returned (.bool true) ∧ Below w.heap.size w w' := by
  have B0 := below_alloc w (.cells (SC s) 48)
  have S0 : Box (w.alloc (.cells (SC s) 48)) w.heap.size (scs s) := Box.new w (scs s) 48
  have HS := hide (hS.below B0)
  clear hS
  go_enter Try.func7, Try.ntmps7
  go_wp2_with fail
  refine (awake10 _).mono ?_
  rintro e w1 ⟨rfl, C1⟩
  have B1 := belowOn B0 C1
  have S1 := S0.on C1
  have HS1 : Hid (Sts w1 w1.heap.size ao n c ss) := hide ((HS.out.below (C1.mono (by simp))).up B1.size)
  have lS := S1.lt
  clear B0 C1 S0 HS
  go_wp2_with fail
  refine (made11 5 ao n c ss _ (by omega) (by omega) HS1.out).mono ?_
  rintro e w2 ⟨h, g, lv, T, rfl, M⟩
  have S2 := S1.on M.B
  have hw1 : Hid (w.heap.size < h) := hide (by have := M.hw; omega)
  have B2 := hide (B1.trans (M.B.mono B1.size))
  have P2 := hide M.P
  have lP := M.P.lt
  clear M B1 S1 HS1
  have c1 := S2.cell 1 _ rfl
  have c2 := S2.cell 2 _ rfl
  have c3 := S2.cell 3 _ rfl
  go_wp2_with fail
  refine (add23 h T s.v s.p s.t _ P2.out).mono ?_
  rintro e w3 ⟨rfl, P3, M3⟩
  have lM := M3.size
  have S3 := S2.block (w1 := w3) (M3.block _ S2.lt (Or.inl hw1.out))
  have B3 := hide (B2.out.trans ((M3.below (by omega)).mono (by have := hw1.out; omega)))
  rcases Bool.eq_false_or_eq_true (isV s.v && hp T s.p) with hc | hc
  · have e1 : eAdd T s.v s.p = 0 := by rw [eAdd, hc]; rfl
    rw [e1]
    simp only [Bool.and_eq_true] at hc
    obtain ⟨z1, z2, z3, z4, z5⟩ := last_facts P2.out.wf s.t hc.1 hc.2
    have hv := i64_v hc.1
    generalize tAdd T s.v s.p s.t = T1 at *
    have Z1 := hide z1
    have Z2 := hide z2
    have Z3 := hide z3
    have Z4 := hide z4
    have Z5 := hide z5
    have P4 := hide P3
    have d1 := S3.cell 1 _ rfl
    have SS := hide S3
    clear z1 z2 z3 z4 z5 P3 M3 S2 S3 c1 c2 c3 B2 P2 hc e1
    go_wp2_with fail
    refine (members13 h T1 s.v _ hv P4.out).mono ?_
    rintro e w4 ⟨ao4, k4, rfl, I4, C4⟩
    have P5 := hide (P4.out.on C4)
    have S5 := hide (SS.out.on C4)
    have B5 := hide (B3.out.trans (C4.mono (by have := hw1.out; omega)))
    have I5 := hide I4
    have hI : Hid (h + 3 ≤ w3.heap.size) := hide (by omega)
    have l4 := C4.size
    have d1b := S5.out.cell 1 _ rfl
    have d2b := S5.out.cell 2 _ rfl
    clear I4 C4 P4 SS B3 d1
    go_wp2_with fail
    refine (out19 h T1 s.v s.p f0 none 0 0 _ P5.out (Byt.nothing _) (by omega)).mono ?_
    rintro e w5 ⟨a1, m1, k1, rfl, -, C5⟩
    rw [Z1.out]
    have ba := below_alloc w5 (.cells (FC zeroF (.slice none 0 0)) 37)
    have N0 := hide (Box.new w5 (fcl zeroF (.slice none 0 0)) 37)
    have A5 := hide ba
    have P6 := hide (P5.out.on C5)
    have S6 := hide (S5.out.on C5)
    have B6 := hide (B5.out.trans (C5.mono (by have := hw1.out; omega)))
    have I6 := hide (I5.out.on C5)
    have l5 := C5.size
    clear ba C5 P5 S5 B5 I5 Z1 d1b d2b
    have tk1 : True := trivial
    go_wp2_with (first | (have _t := tk1; refine wpl_putF (ouF T1 s.v s.p f0) (.slice a1 m1 k1) _ _ rfl (.tmp 11) (.tmp 61) rfl N0.out ?_ ?_ ?_ ?_; rfl; rfl; rfl; clear tk1))
    intro w6 N1 g6
    have C6 := below_grown A5.out g6 (Nat.le_refl _) (by simp)
    have P7 := hide (P6.out.on C6)
    have S7 := hide (S6.out.on C6)
    have B7 := hide (B6.out.trans (C6.mono (by have := hw1.out; omega)))
    have I7 := hide (I6.out.on C6)
    have l6 := C6.size
    have N2 := hide N1
    have d1c := S7.out.cell 1 _ rfl
    have d2c := S7.out.cell 2 _ rfl
    clear C6 P6 S6 B6 I6 N0 A5 N1 g6
    go_wp2_with fail
    refine (remove24 h T1 s.v s.p _ P7.out).mono ?_
    rintro e w7 ⟨rfl, P8, M8⟩
    rw [Z3.out]
    generalize tRm T1 s.v s.p = T2 at *
    have S8 := hide (S7.out.block (w1 := w7) (M8.block _ S7.out.lt (Or.inl hw1.out)))
    have B8 := hide (B7.out.trans ((M8.below (by omega)).mono (by have := hw1.out; omega)))
    have I8 := hide (I7.out.mid M8 hI.out)
    have N3 := hide (N2.out.mid M8 (by omega))
    have P9 := hide P8
    have l7 := M8.size
    have d1d := S8.out.cell 1 _ rfl
    clear P8 M8 S7 B7 I7 N2 P7 Z3 d1c d2c
    go_wp2_with fail
    refine (members13 h T2 s.v _ hv P9.out).mono ?_
    rintro e w8 ⟨ao8, k8, rfl, J8, C8⟩
    have P10 := hide (P9.out.on C8)
    have S9 := hide (S8.out.on C8)
    have B9 := hide (B8.out.trans (C8.mono (by have := hw1.out; omega)))
    have I9 := hide (I8.out.on C8)
    have N4 := hide (N3.out.on C8)
    have jl := J8.le
    have jm := J8.mx
    have il := I9.out.le
    have im := I9.out.mx
    have l8 := C8.size
    have hso := hide (mbs_sorted T1.l s.v T1.n)
    have hlen : ((mbs T2.l s.v T2.n).length : Int) = (mbs T1.l s.v T1.n).length - 1 := by have := Z5.out; omega
    unfold maxLen at jm im
    clear C8 P9 S8 B8 I8 N3 J8 d1d Z5
    generalize mbs T1.l s.v T1.n = xs at *
    generalize (mbs T2.l s.v T2.n).length = q2 at *
    go_wp2
    go_loopw [15] (fun i wr => ∃ k : Nat, 1 ≤ k ∧ i = .int .i64 k ∧ (k ≤ xs.length ∨ k = 1) ∧ Below w8.heap.size w8 wr) (fun i _ => xs.length - (intOf i).toNat)
    case atStart => exact ⟨1, Nat.le_refl _, rfl, Or.inr rfl, Below.refl _ _⟩
    case round =>
      obtain ⟨k, hk1, rfl, hk2, hB⟩ := hrel
      by_cases hlt : k < xs.length
      · have hlt' : (k : Int) < xs.length := by omega
        have I := I9.out.on hB
        obtain ⟨b1, o1, rfl, hc1, -⟩ := I.at (by omega)
        have x1 := hc1 k hlt
        have x0 := hc1 (k - 1) (by omega)
        have hst := sorted_step hso.out hk1 hlt
        have HB := hide hB
        clear hB I hc1 hk2
        generalize xs.getD k 0 = X at *
        generalize xs.getD (k - 1) 0 = Y at *
        obtain ⟨j, rfl⟩ : ∃ j, k = j + 1 := ⟨k - 1, by omega⟩
        rw [Nat.add_sub_cancel] at x0
        have e9 : ¬ (X ≤ Y) := by omega
        have j1 : ((j : Int) < xs.length) := by omega
        have w9 : IntKind.i64.wrap (((j + 1 : Nat) : Int) - 1) = (j : Int) := by
          rw [IntWalk.i64_in _ (by omega)]
          omega
        clear hst
        go_wp2
        go_quiet (fail)
        go_wp2
        go_roundw
        case rel => exact ⟨j + 1 + 1, by omega, by go_num, Or.inl (by omega), drewB HB.out _⟩
        case measure => simp [intOf]; omega
      · have P11 := hide (P10.out.on hB)
        have S11 := S9.out.on hB
        have N11 := N4.out.on hB
        have r1 := S11.cell 1 _ rfl
        have r2 := S11.cell 2 _ rfl
        have r3 := S11.cell 3 _ rfl
        have r12 := N11.cell 12 _ rfl
        rw [Z2.out] at r12
        have s1 : (s.t == s.t) = true := by simp
        have hlt' : ¬ ((k : Int) < xs.length) := by omega
        have B11 := hide (B9.out.trans (hB.mono (by have := hw1.out; omega)))
        have lB := hB.size
        have s2 : ((q2 : Int) == xs.length - 1) = true := by simpa using hlen
        have w9 : IntKind.i64.wrap ((xs.length : Int) - 1) = (xs.length : Int) - 1 := IntWalk.i64_in _ (by omega)
        clear hB S11 N11 S9 N4 P10 B9 I9 hk2 hlen
        go_wp2_with fail
        refine (remove24 h T2 s.v s.p _ P11.out).mono ?_
        rintro e w9 ⟨rfl, P12, M12⟩
        rw [Z4.out]
        have BX := hide (B11.out.trans ((M12.below (by omega)).mono (by have := hw1.out; omega)))
        clear P12 M12 B11 P11
        go_wp2
        go_ret
        exact ⟨rfl, BX.out⟩
  · have e1 : eAdd T s.v s.p = 1 := by rw [eAdd, hc]; rfl
    rw [e1]
    clear hc P3 M3 S3 S2
    go_wp2
    go_ret
    exact ⟨rfl, B3.out⟩
end
set_option maxRecDepth 100000 in
set_option maxHeartbeats 2000000 in
theorem vlanLastlifted (os : Os) (started : os.Started) (H : Type) (enc : TypeId × Value → H) :
    ReturnsInHanded {} Try.checked os 7 .any (Rows.vlanLastSpec.pre6 enc Try.prog Try.f7 Rows.vlanLastRow.domain false) (Rows.vlanLastSpec.post enc Try.prog Try.f7 false true false false) := by
  refine returnsInHanded_of_change (C := Try.checked) own started (by kernel_rfl) Try.func7
    (ChangeSpec.witness6 (enc := enc) (C := Try.checked) false ⟨#[], #[.slice none 0 0, .agg #[.int .i64 0, .int .i64 0, .int .i64 0, .bool false]], []⟩ 8 (by kernel_rfl) (by kernel_rfl) (by kernel_rfl) (by kernel_rfl)) ?_
  intro W base args ds gs before hval0 hW _ _
  have hval : ∀ (j : Nat) t v, Try.f7.params[j]? = some t → args[j]? = some v → Value.okWide Try.prog W .any base t v := hval0
  have hW' := hW
  obtain ⟨p, q, hA0, hV, rfl, _, _⟩ := hW
  have hA : DataW.TrodAll enc Try.prog W 0 (fun _ => true) true Try.f7.params.toList args.toList ds p := hA0
  rw [Try.params7] at hA hval
  obtain ⟨v0, vs0, d0, ds0, p0, q0, hargs, rfl, rfl, h0, r0⟩ := trodAll_cons hA
  obtain ⟨v1, vs1, d1, ds1, p1, q1, rfl, rfl, rfl, h1, r1⟩ := trodAll_cons r0
  obtain ⟨rfl, rfl, rfl⟩ := trodAll_nil r1
  obtain rfl : args = #[v0, v1] := by cases args; simp_all
  obtain ⟨rfl, rfl⟩ := trodVars_none hV
  have h0k := h0
  obtain ⟨ao0, n0, c0, ss0, rfl, hs0⟩ := open_steps (hval 0 22 v0 rfl rfl) h0
  have h1k := h1
  obtain ⟨s1, rfl⟩ := open_step (hval 1 48 v1 rfl rfl) h1
  clear hA0 hval0
  simp only [List.append_nil] at hW'
  have hlt : ∀ x ∈ p0 ++ p1, x.block < W.heap.size := fun x hx => by simpa using hW'.lt x (by simpa using hx)
  refine (lastWalk ao0 n0 c0 ss0 s1 W hs0).mono fun e W' ⟨he, hbl⟩ => ?_
  subst he
  exact ⟨_, rfl, _, _, _, [], _, [], hW', (trodAll_cons_mk (shut_bool Try.underlying4 _) trodAll_mk0), (trodAll_cons_mk (Below.trod Try.laidOut (by kernel_rfl) (of_decide_eq_true (by kernel_rfl)) h0k hbl (fun x hx => hlt x (by simp [hx]))) (trodAll_cons_mk (Below.trod Try.laidOut (by kernel_rfl) (of_decide_eq_true (by kernel_rfl)) h1k hbl (fun x hx => hlt x (by simp [hx]))) trodAll_mk0)), rfl, hbl.frame _, fun h => by cases h⟩

theorem vlanLast_holds : Rows.VlanLastSaid :=
  OpenClaim.holds_of_wide 7 Try.f7 rfl rfl rfl rfl rfl rfl rfl ⟨rfl, rfl, rfl, rfl, rfl⟩ rfl rfl rfl rfl rfl (by kernel_rfl) Try.func7 (by kernel_rfl)
    (of_decide_eq_true (by kernel_rfl)) (by unfold Func.isWrapper; first | (rw [if_pos (by decide +kernel)]; kernel_rfl) | (rw [if_neg (by decide +kernel)]; exact ⟨rfl, rfl⟩))
    (fun os started H enc _ => vlanLastlifted os started H enc)

#print axioms vlanLast_holds
end Go.Proofs.Ytelinahpneikiaa
