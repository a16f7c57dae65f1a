/- FdbAlone: for all steps the law answers true, and they read behind the call as they read before. No condition. -/
import Derived.Test.YtbpkdkniiggcpaaOp
import Derived.Test.YtbpkdkniiggcpaaF2
import Derived.Test.YtbpkdkniiggcpaaF3
import Derived.Test.YtbpkdkniiggcpaaF5
namespace Go.Proofs.Ytbpkdkniiggcpaa
open Go.ChangeShapes Go.WideShapes Go.ChangeAt Go.RowKit

theorem up_first {l : List En} (h : Srt l) {i : Nat} {x : En} (hx : l[i]? = some x) : up (l.drop (i + 1)) x = l.drop i := by
  obtain ⟨hl, e⟩ := List.getElem?_eq_some_iff.1 hx
  have hs2 : Srt (l.drop (i + 1)) := List.Pairwise.sublist (List.drop_sublist _ _) h
  have := up_ins hs2 (x := x) (k := 0) (Nat.zero_le _) (fun j y hj => (by omega)) (fun y hy => by
    rw [List.getElem?_drop] at hy
    exact srt_get h hx hy (by omega))
  rw [← this, List.drop_eq_getElem_cons hl, e]
  rfl
theorem hs_behind {l : List En} (h : Srt l) {i : Nat} {x : En} (hx : l[i]? = some x) : hs (l.drop (i + 1)) x.v x.m = false := by
  rw [Bool.eq_false_iff]
  intro hc
  obtain ⟨y, hy, hk⟩ := hs_mem.1 hc
  obtain ⟨j, hj⟩ := List.getElem?_of_mem hy
  rw [List.getElem?_drop] at hj
  have h1 := srt_get h hx hj (by omega)
  have h2 := (ky_iff _ _ _).1 hk
  simp [ke, h2.1, h2.2] at h1
theorem alone_step {T : Tb} (W : Wf T) {i : Nat} {x : En} (hx : T.l[i]? = some x) :
    (x.s = true → pT ⟨T.n, T.l.drop (i + 1)⟩ x.v x.m x.p = ⟨T.n, T.l.drop i⟩) ∧ (x.s = false → lT ⟨T.n, T.l.drop (i + 1)⟩ x.v x.m x.p x.t = ⟨T.n, T.l.drop i⟩) := by
  have hg := W.gd x (List.mem_of_getElem? hx)
  have hn := hs_behind W.srt hx
  have hl := (List.getElem?_eq_some_iff.1 hx).1
  have hle := W.le
  have hf : full ⟨T.n, T.l.drop (i + 1)⟩ x.v x.m = false := by
    simp only [full, hn, List.length_drop]
    simp
    omega
  have hu := up_first W.srt hx
  constructor
  · intro hs
    have ht := hg.s hs
    have e : (⟨x.v, x.m, x.p, 0, true⟩ : En) = x := by cases x; simp_all
    simp only [pT, hg.r, if_true, sT, hf, e]
    simp [hu]
  · intro hs
    have e : (⟨x.v, x.m, x.p, x.t, false⟩ : En) = x := by cases x; simp_all
    simp only [lT, lOk, hg.r, hg.t, Bool.and_self, if_true, sT, hf, e, lk_no _ _ _ hn]
    simp [hu, zE]
section
attribute [local go_sem] ZE
set_option maxRecDepth 100000 in
set_option maxHeartbeats 4000000 in
theorem aloneWalk (ao : Option Addr) (n c : Nat) (ss : List St) (w : World) (hS : Sts w w.heap.size ao n c ss) :
    Calls Try.prog 5 #[.slice ao n c] w fun e w' => e = .returned (.bool true) ∧ Below w.heap.size w w' := by
  have HS := hide hS
  clear hS
  go_enter Try.func5, Try.ntmps5
  go_wp2_with fail
  refine (awake9 _).mono ?_
  rintro e w1 ⟨rfl, C1⟩
  have B1 := C1
  have HS1 : Hid (Sts w1 w1.heap.size ao n c ss) := hide ((HS.out.below C1).up (by have := B1.size; omega))
  clear C1 HS
  go_wp2_with fail
  refine (made10 8 ao n c ss _ (by omega) (by omega) HS1.out).mono ?_
  rintro e w2 ⟨h, g, ps, lv, T, rfl, M⟩
  have hw1 : Hid (w.heap.size ≤ h) := hide (Nat.le_trans B1.size M.hw)
  have B2 := hide (B1.trans (M.B.mono B1.size))
  have P2 := hide M.P
  have R2 := hide M.R
  have TN := hide M.tn
  have hG2 := hide M.hg
  clear M B1 HS1
  have PP := P2
  have BB := B2
  clear P2 R2 B2 hG2
  have tk1 : True := trivial
  have tk2 : True := trivial
  have tk3 : True := trivial
  have tk4 : True := trivial
  go_wp2_with fail
  refine (new17 8 _ (by omega) (by omega)).mono ?_
  rintro e w3 ⟨u, qs, rfl, U, hu, C⟩
  have hwu : Hid (w.heap.size ≤ u) := hide (Nat.le_trans BB.out.size hu)
  replace PP := hide (PP.out.on C)
  replace BB := hide (BB.out.trans (C.mono BB.out.size))
  have UU := hide U
  clear C U hu hw1
  go_wp2_with fail
  refine (all14 h ps T _ PP.out).mono ?_
  rintro e w4 ⟨al, cl, rfl, E1, C⟩
  have hu3 : Hid (u + 2 ≤ w3.heap.size) := hide UU.out.lt
  have HW := hide PP.out.wf
  replace BB := hide (BB.out.trans (C.mono BB.out.size))
  replace UU := hide (UU.out.on C)
  have HE := hide (E1.mono hu3.out)
  clear C E1 PP hu3
  have hle : T.l.length ≤ 8 := by have := HW.out.le; have := TN.out; omega
  have e0 : IntKind.i64.wrap ((T.l.length : Int) - 1) = (T.l.length : Int) - 1 := IntWalk.i64_in _ (by omega)
  go_wp2
  go_loopw [10, 11] (fun i _ wr => ∃ (k : Nat) (z : Int) (ps : List En), k ≤ T.l.length ∧ z + 1 = k ∧ i = .int .i64 z ∧ PT wr u ps ⟨8, T.l.drop k⟩ ∧ Ets wr (u + 2) al T.l.length cl T.l ∧ Below w.heap.size w wr) (fun i _ _ => (intOf i + 1).toNat)
  case atStart => exact ⟨T.l.length, (T.l.length : Int) - 1, qs, Nat.le_refl _, by omega, rfl, by rw [List.drop_eq_nil_of_le (Nat.le_refl _)]; exact UU.out, HE.out, BB.out⟩
  case round =>
    clear UU HE BB e0
    obtain ⟨k, z, rs, hk, hz, rfl, U, E, B⟩ := hrel
    have UU := hide U
    have HE := hide E
    have BB := hide B
    clear U E B
    by_cases hz0 : 0 ≤ z
    · obtain ⟨j, rfl⟩ := Int.eq_ofNat_of_zero_le hz0
      obtain rfl : k = j + 1 := by omega
      have e1 : IntKind.i64.wrap ((j : Int) - 1) = (j : Int) - 1 := IntWalk.i64_in _ (by omega)
      have hjl : (j : Int) < T.l.length := by omega
      obtain ⟨x, hx⟩ : ∃ x, T.l[j]? = some x := ⟨_, List.getElem?_eq_getElem (by omega)⟩
      have HG := hide (HW.out.gd x (List.mem_of_getElem? hx))
      have HA := hide (alone_step HW.out hx)
      obtain ⟨b, rfl, hb, hbl, A1⟩ := HE.out.at hx
      have hcl := HE.out.le
      have hcm := HE.out.mx
      unfold maxLen at hcm
      have hbl' : Hid (b < wr.heap.size) := hide hbl
      clear hx hz hz0 hk hb hbl
      have N0 := hide (box_e wr zE)
      have hN8 := TN.out
      rw [hN8] at HA
      clear hN8
      go_wp2_with (first | (have _t := tk1; refine wpl_ent (.tmp 60) rfl A1 ?_ ?_ ?_; rfl; rfl; clear tk1) | (have _t := tk2; refine wpl_putE x zE (.tmp 11) (.tmp 61) rfl N0.out ?_ rfl rfl ?_; rfl; clear tk2))
      intro w5 N g0
      have C := stored g0
      clear N0 g0 A1
      replace BB := hide (BB.out.trans (C.mono BB.out.size))
      replace UU := hide (UU.out.on C)
      replace HE := hide (HE.out.on C)
      clear C
      have d0 := N.cell 0 _ rfl
      have d7 := N.cell 7 _ rfl
      have d8 := N.cell 8 _ rfl
      have d9 := N.cell 9 _ rfl
      have A := mac_of N
      clear N hbl'
      rcases Bool.eq_false_or_eq_true x.s with hs | hs
      · rw [hs] at d9
        go_wp2_with (first | (have _t := tk3; refine wpl_mac (.tmp 67) rfl A ?_ ?_ ?_; rfl; rfl; clear tk3))
        refine (put18 u rs _ x.v x.m x.p _ HG.out.ok UU.out).mono ?_
        rintro e w6 ⟨rfl, ⟨rs2, U⟩, M⟩
        rw [HA.out.1 hs] at U
        have E := HE.out.mid M (Nat.le_refl _)
        have B := mid_on BB.out M hwu.out UU.out.size
        have U3 := hide U
        have E3 := hide E
        have B3 := hide B
        clear U E B M UU HE BB A d0 d7 d8 d9
        go_wp2
        go_roundw
        case rel => exact ⟨j, (j : Int) - 1, rs2, by omega, by omega, rfl, U3.out, E3.out, B3.out⟩
        case measure => simp [intOf]
      · rw [hs] at d9
        go_wp2_with (first | (have _t := tk3; refine wpl_mac (.tmp 75) rfl A ?_ ?_ ?_; rfl; rfl; clear tk3))
        refine (learn16 u rs _ x.v x.m x.p x.t _ HG.out.ok UU.out).mono ?_
        rintro e w6 ⟨rfl, ⟨rs2, U⟩, M⟩
        rw [HA.out.2 hs] at U
        have E := HE.out.mid M (Nat.le_refl _)
        have B := mid_on BB.out M hwu.out UU.out.size
        have U3 := hide U
        have E3 := hide E
        have B3 := hide B
        clear U E B M UU HE BB A d0 d7 d8 d9
        go_wp2
        go_roundw
        case rel => exact ⟨j, (j : Int) - 1, rs2, by omega, by omega, rfl, U3.out, E3.out, B3.out⟩
        case measure => simp [intOf]
    · obtain rfl : k = 0 := by omega
      have hz1 : z = -1 := by omega
      subst hz1
      clear hz hz0 hk
      have hd : T.l.drop 0 = T.l := rfl
      rw [hd] at UU
      clear hd
      go_wp2_with fail
      refine (all14 u rs _ _ UU.out).mono ?_
      rintro e w5 ⟨al2, cl2, rfl, E2, C⟩
      replace BB := hide (BB.out.trans (C.mono BB.out.size))
      replace HE := hide (HE.out.on C)
      have HE2 := hide E2
      clear C E2
      go_wp2_with fail
      refine (same13 _ _ _ _ _ _ _ _ HE2.out HE.out).mono ?_
      rintro e w6 ⟨rfl, C⟩
      replace BB := hide (BB.out.trans (C.mono BB.out.size))
      clear C HE2 HE
      go_wp2
      go_ret
      exact ⟨rfl, BB.out⟩
end
set_option maxRecDepth 100000 in
set_option maxHeartbeats 2000000 in
theorem fdbAlonelifted (os : Os) (started : os.Started) (H : Type) (enc : TypeId × Value → H) :
    ReturnsInHanded {} Try.checked os 5 .any (Rows.fdbAloneSpec.pre6 enc Try.prog Try.f5 Rows.fdbAloneRow.domain false) (Rows.fdbAloneSpec.post enc Try.prog Try.f5 false true false false) := by
  refine returnsInHanded_of_change (C := Try.checked) own started (by kernel_rfl) Try.func5
    (ChangeSpec.witness6 (enc := enc) (C := Try.checked) false ⟨#[], #[.slice none 0 0], []⟩ 8 (by kernel_rfl) (by kernel_rfl) (by kernel_rfl) (by kernel_rfl)) ?_
  intro W base args ds gs before hval0 hW _ _
  have hval : ∀ (j : Nat) t v, Try.f5.params[j]? = some t → args[j]? = some v → Value.okWide Try.prog W .any base t v := hval0
  have hW' := hW
  obtain ⟨p, q, hA0, hV, rfl, _, _⟩ := hW
  have hA : DataW.TrodAll enc Try.prog W 0 (fun _ => true) true Try.f5.params.toList args.toList ds p := hA0
  rw [Try.params5] at hA hval
  obtain ⟨v0, vs0, d0, ds0, p0, q0, hargs, rfl, rfl, h0, r0⟩ := trodAll_cons hA
  obtain ⟨rfl, rfl, rfl⟩ := trodAll_nil r0
  obtain rfl : args = #[v0] := by cases args; simp_all
  obtain ⟨rfl, rfl⟩ := trodVars_none hV
  have h0k := h0
  obtain ⟨ao0, n0, c0, ss0, rfl, hs0⟩ := open_steps (hval 0 22 v0 rfl rfl) h0
  clear hA0 hval0
  simp only [List.append_nil] at hW'
  have hlt : ∀ x ∈ p0, x.block < W.heap.size := fun x hx => by simpa using hW'.lt x (by simpa using hx)
  refine (aloneWalk ao0 n0 c0 ss0 W hs0).mono fun e W' ⟨he, hbl⟩ => ?_
  subst he
  exact ⟨_, rfl, _, _, _, [], _, [], hW', (trodAll_cons_mk (shut_bool Try.underlying4 _) trodAll_mk0), (trodAll_cons_mk (Below.trod Try.laidOut (by kernel_rfl) (of_decide_eq_true (by kernel_rfl)) h0k hbl (fun x hx => hlt x (by simp [hx]))) trodAll_mk0), rfl, hbl.frame _, fun h => by cases h⟩

theorem fdbAlone_holds : Rows.FdbAloneSaid :=
  OpenClaim.holds_of_wide 5 Try.f5 rfl rfl rfl rfl rfl rfl rfl ⟨rfl, rfl, rfl, rfl, rfl⟩ rfl rfl rfl rfl rfl (by kernel_rfl) Try.func5 (by kernel_rfl)
    (of_decide_eq_true (by kernel_rfl)) (by unfold Func.isWrapper; first | (rw [if_pos (by decide +kernel)]; kernel_rfl) | (rw [if_neg (by decide +kernel)]; exact ⟨rfl, rfl⟩))
    (fun os started H enc _ => fdbAlonelifted os started H enc)

#print axioms fdbAlone_holds
end Go.Proofs.Ytbpkdkniiggcpaa
