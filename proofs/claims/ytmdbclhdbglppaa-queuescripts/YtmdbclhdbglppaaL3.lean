/- QueueScripts: for every room, all steps and every class the law answers true, and all three read behind the call as they read before. No condition. -/
import Derived.Test.YtmdbclhdbglppaaQo
import Derived.Test.YtmdbclhdbglppaaAw
import Derived.Deep.LoopGhost
namespace Go.Proofs.Ytmdbclhdbglppaa
open Go.ChangeShapes Go.WideShapes Go.ChangeAt Go.RowKit Go.PlainAid

set_option maxRecDepth 100000 in
set_option maxHeartbeats 4000000 in
theorem scriptsNo (x : Int) (ao : Option Addr) (n c : Nat) (z : Int) (w : World) (h : ¬ (1 ≤ x ∧ x ≤ 1000)) :
    Calls Try.prog 3 #[.int .i64 x, .slice ao n c, .int .i64 z] w fun e w' => e = .returned (.bool true) ∧ Below w.heap.size w w' := by
  have HH := hide h
  clear h
  by_cases hn : (0 : Int) < (n : Int)
  all_goals
    go_enter Try.func3, Try.ntmps3
    go_wp2_with fail
    refine (awakeC _).mono ?_
    rintro e w1 ⟨rfl, B1⟩
    have HB := hide B1
    clear B1
    go_wp2_with fail
    refine (newQ_no x _ HH.out).mono ?_
    rintro e w2 ⟨rfl, rfl⟩
    go_wp2_with fail
    refine (newR_no x _ HH.out).mono ?_
    rintro e w3 ⟨rfl, rfl⟩
    go_wp2
    go_loopw [12, 13] (fun i _ wr => i = .int .i64 0 ∧ wr = w3) (fun _ _ _ => 0)
    case atStart => exact ⟨rfl, rfl⟩
    case round =>
      obtain ⟨rfl, rfl⟩ := hrel
      go_wp2
      go_ret
      exact ⟨rfl, HB.out⟩
set_option maxRecDepth 100000 in
set_option maxHeartbeats 8000000 in
theorem scriptsYes (x : Nat) (ao : Option Addr) (n c : Nat) (ss : List Sq) (z : Int) (w : World) (h1 : 1 ≤ x) (h2 : x ≤ 1000) (hs : Stp w w.heap.size ao n c ss) :
    Calls Try.prog 3 #[.int .i64 x, .slice ao n c, .int .i64 z] w fun e w' => e = .returned (.bool true) ∧ Below w.heap.size w w' := by
  have HS0 := hide hs
  have HSL : Hid (ss.length = n) := hide hs.len
  have hsc := hs.le
  have hsm := hs.mx
  unfold maxLen at hsm
  clear hs
  obtain ⟨G, hG⟩ : ∃ G, G = w.heap.size := ⟨_, rfl⟩
  have HGG := hide hG
  rw [← hG] at HS0 ⊢
  clear hG
  go_enter Try.func3, Try.ntmps3
  go_wp2_with fail
  refine (awakeC _).mono ?_
  rintro e w1 ⟨rfl, B1⟩
  rw [← HGG.out] at B1
  have HB := hide B1
  have HS := hide (HS0.out.below B1)
  clear B1 HS0
  go_wp2_with fail
  refine (newQ x _ h1 h2).mono ?_
  rintro e w2 ⟨p, S, rfl, P2, hS2, B2⟩
  have hz1 : G ≤ w1.heap.size := by have := HB.out.size; rw [← HGG.out] at this; exact this
  replace HS := hide (HS.out.below (B2.mono hz1))
  replace HB := hide (HB.out.trans (B2.mono hz1))
  have HP := hide P2
  have HLO : Hid (∀ i, S i → G ≤ i) := hide (fun i hi => by have := hS2 i hi; omega)
  have hz2 : Hid (G ≤ w2.heap.size) := hide (Nat.le_trans hz1 B2.size)
  clear P2 hS2 B2 hz1
  go_wp2_with fail
  refine (newR x _ h1 h2).mono ?_
  rintro e w3 ⟨rfl, R3, B3⟩
  obtain ⟨g, hg⟩ : ∃ g, g = w2.heap.size := ⟨_, rfl⟩
  rw [← hg] at R3 B3 ⊢
  have hgz := hz2.out
  rw [← hg] at hgz
  have HT : Hid (Tw w w3 G p g S (fun _ => False) x none 0 0 [] [] [] z8 z8) := hide ⟨HP.out.keep (kp_below (by rw [← hg]; exact B3)), R3, fun i hi h => by
    have := HP.out.sz i hi
    rcases h with h | h
    · omega
    · exact h, HLO.out, hgz, HB.out.trans (B3.mono hgz)⟩
  replace HS := hide (HS.out.below (B3.mono hgz))
  have HZ8 : Hid (∀ j : Nat, z8[j]?.getD 0 ≤ 0) := hide (fun j => by match j with | 0 | 1 | 2 | 3 | 4 | 5 | 6 | 7 => decide | j + 8 => exact Nat.le_refl _)
  clear R3 B3 hg hgz HP HLO HB
  go_wp2
  go_loopg [12, 13] 200 (fun r i _ wr => ∃ (k : Nat) (S F : Nat → Prop) (aoR : Option Addr) (mR cR : Nat) (V : List Wv) (L : List Wt) (ls : List Nat), k ≤ n ∧ k ≤ 200 ∧ r = 200 - k ∧ i = .int .i64 k ∧ Tw w wr G p g S F x aoR mR cR V L L ls ls ∧ Stp wr G ao n c ss ∧ L.length ≤ k ∧ ∀ j : Nat, ls[j]?.getD 0 ≤ k)
  case atStart => exact ⟨0, _, _, _, _, _, _, _, _, Nat.zero_le _, Nat.zero_le _, rfl, rfl, HT.out, HS.out, Nat.zero_le _, HZ8.out⟩
  case round =>
    obtain ⟨k, S1, F1, aoR, mR, cR, V, L, ls, hk, hk3, hr, rfl, hT, hS, hL, hls⟩ := hrel
    clear HT HS HZ8
    have HT := hide hT
    have HS := hide hS
    have HL := hide hL
    have HLS := hide hls
    have HRK := hide hr
    clear hT hS hL hls hr
    by_cases hcont : k < n ∧ k < 200
    · obtain ⟨hkn, hk200⟩ := hcont
      obtain ⟨s, hs⟩ : ∃ s, ss[k]? = some s := ⟨_, List.getElem?_eq_getElem (by rw [HSL.out]; exact hkn)⟩
      obtain ⟨b0, o0, ab, nb, cb, rfl, hbG, hA, hY, hnb⟩ := HS.out.cell k s hs
      have hk2 : (k : Int) < (n : Int) := by omega
      have hk4 : (k : Int) < 200 := by omega
      have e1 : IntKind.i64.wrap ((k : Int) + 1) = (k : Int) + 1 := IntWalk.i64_in _ (by omega)
      have d0 := hA 0 _ rfl
      have d1 := hA 1 _ rfl
      have d2 := hA 2 _ rfl
      rw [Nat.add_zero] at d0
      have HY := hide hY
      have HNB := hide hnb
      have HBG := hide hbG
      clear hs hA hY hnb hbG
      go_wp2_with fail
      refine (stepC s ab nb cb _ HT.out.here (by have := HL.out; omega) (fun j => by have := HLS.out j; omega) HY.out HNB.out).mono ?_
      rintro e w4 ⟨rfl, S4, F4, ao4, m4, c4, V4, T4⟩
      obtain ⟨L4, hL4⟩ : ∃ L4, L4 = nL x L s := ⟨_, rfl⟩
      obtain ⟨l4, hl4⟩ : ∃ l4, l4 = nG x L ls s := ⟨_, rfl⟩
      rw [← hL4, ← hl4] at T4
      have HS4 : Hid (Stp w4 G (some ⟨b0, o0, none⟩) n c ss) := hide (HS.out.below T4.BB)
      have HT4 := hide (T4.back HT.out.BB)
      have HL4 : Hid (L4.length ≤ k + 1) := hide (by rw [hL4]; have := nL_le x L s; have := HL.out; omega)
      have HI4 : Hid (∀ j : Nat, l4[j]?.getD 0 ≤ k + 1) := hide (fun j => by rw [hl4]; exact nG_le HLS.out s j)
      clear T4 hL4 hl4 HT HS HL HLS d0 d1 d2 HY HNB
      go_wp2_with fail
      refine (lenQ p S4 x L4 l4 z _ HT4.out.P).mono ?_
      rintro e w' ⟨rfl, rfl⟩
      go_wp2_with fail
      refine (lenR g F4 x ao4 m4 c4 V4 L4 l4 z _ HT4.out.R (by have := HL4.out; omega)).mono ?_
      rintro e w' ⟨rfl, rfl⟩
      obtain ⟨y, hy⟩ : ∃ y : Int, y = (cnt L4 z : Int) := ⟨_, rfl⟩
      rw [← hy]
      clear hy
      have hyy : (y != y) = false := by simp
      go_wp2_with fail
      refine (lostQ p S4 x L4 l4 z _ HT4.out.P).mono ?_
      rintro e w' ⟨rfl, rfl⟩
      go_wp2_with fail
      refine (lostR g F4 x ao4 m4 c4 V4 L4 l4 z _ HT4.out.R).mono ?_
      rintro e w' ⟨rfl, rfl⟩
      obtain ⟨t, ht⟩ : ∃ t : Int, t = (lost l4 z : Int) := ⟨_, rfl⟩
      rw [← ht]
      clear ht
      have htt : (t != t) = false := by simp
      go_wp2
      go_roundg (200 - (k + 1))
      case measure => rw [HRK.out]; omega
      case rel => exact ⟨k + 1, S4, F4, ao4, m4, c4, V4, L4, l4, by omega, by omega, rfl, by go_num, HT4.out, HS4.out, HL4.out, HI4.out⟩
    · rcases (show ¬ (k : Int) < (n : Int) ∨ ((k : Int) < (n : Int) ∧ ¬ (k : Int) < 200) by omega) with hstop | ⟨hs1, hs2⟩
      all_goals
        clear hcont
        go_wp2
        go_ret
        exact ⟨rfl, HT.out.BB⟩
theorem scriptsWalk (x : Int) (ao : Option Addr) (n c : Nat) (ss : List Sq) (z : Int) (w : World) (_ : I64 x) (hs : Stp w w.heap.size ao n c ss) (_ : I64 z) :
    Calls Try.prog 3 #[.int .i64 x, .slice ao n c, .int .i64 z] w fun e w' => e = .returned (.bool true) ∧ Below w.heap.size w w' := by
  by_cases h : 1 ≤ x ∧ x ≤ 1000
  · obtain ⟨m, rfl⟩ := Int.eq_ofNat_of_zero_le (show 0 ≤ x by omega)
    exact scriptsYes m ao n c ss z w (by omega) (by omega) hs
  · exact scriptsNo x ao n c z w h
set_option maxRecDepth 100000 in
set_option maxHeartbeats 2000000 in
theorem queueScriptslifted (os : Os) (started : os.Started) (H : Type) (enc : TypeId × Value → H) :
    ReturnsInHanded {} Try.checked os 3 .any (Rows.queueScriptsSpec.pre6 enc Try.prog Try.f3 Rows.queueScriptsRow.domain false) (Rows.queueScriptsSpec.post enc Try.prog Try.f3 false true false false) := by
  refine returnsInHanded_of_change_sized (C := Try.checked) own started (by kernel_rfl) Try.func3
    (ChangeSpec.witness6 (enc := enc) (C := Try.checked) false ⟨#[], #[.int .i64 0, .slice none 0 0, .int .i64 0], []⟩ 8 (by kernel_rfl) (by kernel_rfl) (by kernel_rfl) (by kernel_rfl)) ?_
  intro W base args ds gs before hval0 hW _ hsize0 _
  have hval : ∀ (j : Nat) t v, Try.f3.params[j]? = some t → args[j]? = some v → Value.okWide Try.prog W .any base t v := hval0
  have hW' := hW
  obtain ⟨p, q, hA0, hV, rfl, _, _⟩ := hW
  have hA : DataW.TrodAll enc Try.prog W 0 (fun _ => true) true Try.f3.params.toList args.toList ds p := hA0
  rw [Try.params3] at hA hval
  obtain ⟨v0, vs0, d0, ds0, p0, q0, hargs, rfl, rfl, h0, r0⟩ := trodAll_cons hA
  obtain ⟨v1, vs1, d1, ds1, p1, q1, rfl, rfl, rfl, h1, r1⟩ := trodAll_cons r0
  obtain ⟨v2, vs2, d2, ds2, p2, q2, rfl, rfl, rfl, h2, r2⟩ := trodAll_cons r1
  obtain ⟨rfl, rfl, rfl⟩ := trodAll_nil r2
  obtain rfl : args = #[v0, v1, v2] := by cases args; simp_all
  obtain ⟨rfl, rfl⟩ := trodVars_none hV
  have hsz := List.all_eq_true.1 hsize0
  have h0k := h0
  obtain ⟨x0, rfl, hx0⟩ := open_num (hval 0 3 v0 rfl rfl) h0
  have h1k := h1
  have hl1 : Light 22 d1 := fun m hm => by have := hsz m (DataW.weights_mem_each (j := 1) (by rw [Try.params3]; rfl) rfl m hm); simpa using this
  obtain ⟨ao1, n1, c1, ss1, rfl, hs1⟩ := open_steps (hval 1 22 v1 rfl rfl) h1 hl1
  have h2k := h2
  obtain ⟨x2, rfl, hx2⟩ := open_num (hval 2 3 v2 rfl rfl) h2
  clear hA0 hval0 hsize0 hsz
  simp only [List.append_nil] at hW'
  have hlt : ∀ x ∈ p0 ++ p1 ++ p2, x.block < W.heap.size := fun x hx => by simpa using hW'.lt x (by simpa using hx)
  refine (scriptsWalk x0 ao1 n1 c1 ss1 x2 W hx0 hs1 hx2).mono fun e W' ⟨he, hbl⟩ => ?_
  subst he
  exact ⟨_, rfl, _, _, _, [], _, [], hW', (trodAll_cons_mk (shut_bool Try.underlying4 _) trodAll_mk0), (trodAll_cons_mk (Below.trod Try.laidOut (by kernel_rfl) (of_decide_eq_true (by kernel_rfl)) h0k hbl (fun x hx => hlt x (by simp [hx]))) (trodAll_cons_mk (Below.trod Try.laidOut (by kernel_rfl) (of_decide_eq_true (by kernel_rfl)) h1k hbl (fun x hx => hlt x (by simp [hx]))) (trodAll_cons_mk (Below.trod Try.laidOut (by kernel_rfl) (of_decide_eq_true (by kernel_rfl)) h2k hbl (fun x hx => hlt x (by simp [hx]))) trodAll_mk0))), rfl, hbl.frame _, fun h => by cases h⟩

theorem queueScripts_holds : Rows.QueueScriptsSaid :=
  OpenClaim.holds_of_wide 3 Try.f3 rfl rfl rfl rfl rfl rfl rfl ⟨rfl, rfl, rfl, rfl, rfl⟩ rfl rfl rfl rfl rfl (by kernel_rfl) Try.func3 (by kernel_rfl)
    (of_decide_eq_true (by kernel_rfl)) (by unfold Func.isWrapper; first | (rw [if_pos (by decide +kernel)]; kernel_rfl) | (rw [if_neg (by decide +kernel)]; exact ⟨rfl, rfl⟩))
    (fun os started H enc _ => queueScriptslifted os started H enc)

#print axioms queueScripts_holds
end Go.Proofs.Ytmdbclhdbglppaa
