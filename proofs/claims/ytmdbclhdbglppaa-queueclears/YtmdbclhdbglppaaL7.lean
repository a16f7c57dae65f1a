/- QueueClears: for every room, all steps and every class the law answers true, and all three read behind the call as they read before. No condition. -/
import Derived.Test.YtmdbclhdbglppaaQo
import Derived.Test.YtmdbclhdbglppaaAw
import Derived.Test.YtmdbclhdbglppaaCp
import Derived.Deep.DeepCutAuto
import Derived.Deep.CutBlock
import Derived.Deep.LoopGhost
namespace Go.Proofs.Ytmdbclhdbglppaa
open Go.ChangeShapes Go.WideShapes Go.ChangeAt Go.RowKit Go.PlainAid

set_option maxRecDepth 100000 in
set_option maxHeartbeats 4000000 in
theorem clearsBad (x : Int) (ao : Option Addr) (n c : Nat) (z : Int) (w : World) (h : ¬ (1 ≤ x ∧ x ≤ 1000)) :
    Calls Try.prog 7 #[.int .i64 x, .slice ao n c, .int .i64 z] w fun e w' => e = .returned (.bool true) ∧ Below w.heap.size w w' := by
  have HH := hide h
  clear h
  go_enter Try.func7, Try.ntmps7
  go_wp2_with fail
  refine (awakeC _).mono ?_
  rintro e w1 ⟨rfl, B1⟩
  have HB := hide B1
  clear B1
  go_wp2_with fail
  refine (newQ_no x _ HH.out).mono ?_
  rintro e w2 ⟨rfl, rfl⟩
  go_wp2
  go_ret
  exact ⟨rfl, HB.out⟩
set_option maxRecDepth 100000 in
set_option maxHeartbeats 4000000 in
theorem clearsOut (x : Nat) (ao : Option Addr) (n c : Nat) (z : Int) (w : World) (h1 : 1 ≤ x) (h2 : x ≤ 1000) (h : 60 < x ∨ z < 0 ∨ 7 < z) :
    Calls Try.prog 7 #[.int .i64 x, .slice ao n c, .int .i64 z] w fun e w' => e = .returned (.bool true) ∧ Below w.heap.size w w' := by
  rcases (show (60 : Int) < x ∨ (¬ (60 : Int) < x ∧ z < 0) ∨ (¬ (60 : Int) < x ∧ ¬ z < 0 ∧ 7 < z) by omega) with h3 | ⟨h3, h4⟩ | ⟨h3, h4, h5⟩
  all_goals
    clear h
    go_enter Try.func7, Try.ntmps7
    go_wp2_with fail
    refine (awakeC _).mono ?_
    rintro e w1 ⟨rfl, B1⟩
    have HB := hide B1
    clear B1
    go_wp2_with fail
    refine (newQ x _ h1 h2).mono ?_
    rintro e w2 ⟨p, S, rfl, P2, hS2, B2⟩
    replace HB := hide (belowOn HB.out B2)
    clear P2 hS2 B2
    go_wp2
    go_ret
    exact ⟨rfl, HB.out⟩
set_option maxRecDepth 100000 in
set_option maxHeartbeats 8000000 in
theorem clearsYes (x : Nat) (ao : Option Addr) (n c : Nat) (ss : List Sq) (z : Int) (w : World) (h1 : 1 ≤ x) (h2 : x ≤ 60) (hz1 : 0 ≤ z) (hz2 : z ≤ 7) (hs : Stp w w.heap.size ao n c ss) :
    Calls Try.prog 7 #[.int .i64 x, .slice ao n c, .int .i64 z] w fun e w' => e = .returned (.bool true) ∧ Below w.heap.size w w' := by
  have HS0 := hide hs
  have HSL : Hid (ss.length = n) := hide hs.len
  have hsc := hs.le
  have hsm := hs.mx
  unfold maxLen at hsm
  have HZ : Hid (isC z = true) := hide (isC_iff.2 (by omega))
  have g1 : ¬ (60 : Int) < (x : Int) := by omega
  have g2 : ¬ z < 0 := by omega
  have g3 : ¬ 7 < z := by omega
  clear hs
  obtain ⟨G, hG⟩ : ∃ G, G = w.heap.size := ⟨_, rfl⟩
  have HGG := hide hG
  rw [← hG] at HS0 ⊢
  clear hG hz1 hz2
  go_enter Try.func7, Try.ntmps7
  go_wp2_with fail
  refine (awakeC _).mono ?_
  rintro e w1 ⟨rfl, B1⟩
  rw [← HGG.out] at B1
  have HB := hide B1
  have HS := hide (HS0.out.below B1)
  clear B1 HS0
  go_wp2_with fail
  refine (newQ x _ h1 (by omega)).mono ?_
  rintro e w2 ⟨p, S, rfl, P2, hS2, B2⟩
  have hz1 : G ≤ w1.heap.size := by have := HB.out.size; rw [← HGG.out] at this; exact this
  replace HS := hide (HS.out.below (B2.mono hz1))
  replace HB := hide (HB.out.trans (B2.mono hz1))
  have HP := hide P2
  have HLO : Hid (∀ i, S i → G ≤ i) := hide (fun i hi => by have := hS2 i hi; omega)
  have hz2 : Hid (G ≤ w2.heap.size) := hide (Nat.le_trans hz1 B2.size)
  clear P2 hS2 B2 hz1
  go_wp2_with fail
  refine (newR x _ h1 (by omega)).mono ?_
  rintro e w3 ⟨rfl, R3, B3⟩
  obtain ⟨g, hg⟩ : ∃ g, g = w2.heap.size := ⟨_, rfl⟩
  rw [← hg] at R3 B3 ⊢
  have hgz := hz2.out
  rw [← hg] at hgz
  have HT : Hid (Tw w w3 G p g S (fun _ => False) x none 0 0 [] [] [] z8 z8) := hide ⟨HP.out.keep (kp_below (by rw [← hg]; exact B3)), R3, fun i hi h => by
    have := HP.out.sz i hi
    rcases h with h | h
    · omega
    · exact h, HLO.out, hgz, HB.out.trans (B3.mono hgz)⟩
  replace HS := hide (HS.out.below (B3.mono hgz))
  have HZ8 : Hid (∀ j : Nat, z8[j]?.getD 0 ≤ 0) := hide (fun j => by match j with | 0 | 1 | 2 | 3 | 4 | 5 | 6 | 7 => decide | j + 8 => exact Nat.le_refl _)
  clear R3 B3 hg hgz HP HLO HB g1 g2 g3
  go_upto_block 0 with fail
  go_cut [12] (fun _ wx => ∃ (S : Nat → Prop) (L : List Wt) (ls : List Nat), Pw w wx G p S x L ls ∧ ls.length = 8 ∧ L.length ≤ 100 ∧ ∀ j : Nat, ls[j]?.getD 0 ≤ 100)
  case first =>
    go_wp2_with fail
    go_loopg [12] 100 (fun r i wr => ∃ (k : Nat) (S F : Nat → Prop) (aoR : Option Addr) (mR cR : Nat) (V : List Wv) (L : List Wt) (ls : List Nat), k ≤ n ∧ k ≤ 100 ∧ r = 100 - k ∧ i = .int .i64 k ∧ Tw w wr G p g S F x aoR mR cR V L L ls ls ∧ Stp wr G ao n c ss ∧ L.length ≤ k ∧ ∀ j : Nat, ls[j]?.getD 0 ≤ k)
    case atStart => exact ⟨0, _, _, _, _, _, _, _, _, Nat.zero_le _, Nat.zero_le _, rfl, rfl, HT.out, HS.out, Nat.zero_le _, HZ8.out⟩
    case round =>
      obtain ⟨k, S1, F1, aoR, mR, cR, V, L, ls, hk, hk3, hr, rfl, hT, hS, hL, hls⟩ := hrel
      clear HT HS HZ8
      have HT := hide hT
      have HS := hide hS
      have HL := hide hL
      have HLS := hide hls
      have HRK := hide hr
      clear hT hS hL hls hr
      by_cases hcont : k < n ∧ k < 100
      · obtain ⟨hkn, hk200⟩ := hcont
        obtain ⟨s, hs⟩ : ∃ s, ss[k]? = some s := ⟨_, List.getElem?_eq_getElem (by rw [HSL.out]; exact hkn)⟩
        obtain ⟨b0, o0, ab, nb, cb, rfl, hbG, hA, hY, hnb⟩ := HS.out.cell k s hs
        have hk2 : (k : Int) < (n : Int) := by omega
        have hk4 : (k : Int) < 100 := by omega
        have e1 : IntKind.i64.wrap ((k : Int) + 1) = (k : Int) + 1 := IntWalk.i64_in _ (by omega)
        have d0 := hA 0 _ rfl
        have d1 := hA 1 _ rfl
        have d2 := hA 2 _ rfl
        rw [Nat.add_zero] at d0
        have HY := hide hY
        have HNB := hide hnb
        clear hs hA hY hnb hbG
        go_wp2_with fail
        refine (stepC s ab nb cb _ HT.out.here (by have := HL.out; omega) (fun j => by have := HLS.out j; omega) HY.out HNB.out).mono ?_
        rintro e w4 ⟨rfl, S4, F4, ao4, m4, c4, V4, T4⟩
        obtain ⟨L4, hL4⟩ : ∃ L4, L4 = nL x L s := ⟨_, rfl⟩
        obtain ⟨l4, hl4⟩ : ∃ l4, l4 = nG x L ls s := ⟨_, rfl⟩
        rw [← hL4, ← hl4] at T4
        have HS4 : Hid (Stp w4 G (some ⟨b0, o0, none⟩) n c ss) := hide (HS.out.below T4.BB)
        have HT4 := hide (T4.back HT.out.BB)
        have HL4 : Hid (L4.length ≤ k + 1) := hide (by rw [hL4]; have := nL_le x L s; have := HL.out; omega)
        have HI4 : Hid (∀ j : Nat, l4[j]?.getD 0 ≤ k + 1) := hide (fun j => by rw [hl4]; exact nG_le HLS.out s j)
        clear T4 hL4 hl4 HT HS HL HLS d0 d1 d2 HY HNB
        go_wp2
        go_roundg (100 - (k + 1))
        case measure => rw [HRK.out]; omega
        case rel => exact ⟨k + 1, S4, F4, ao4, m4, c4, V4, L4, l4, by omega, by omega, rfl, by go_num, HT4.out, HS4.out, HL4.out, HI4.out⟩
      · have H1 : Hid (Pw w wr G p S1 x L ls) := hide ⟨HT.out.P, HT.out.lo, HT.out.sz, HT.out.BB⟩
        have HLL : Hid (ls.length = 8) := hide HT.out.R.ll
        have HL5 : Hid (L.length ≤ 100) := hide (by have := HL.out; omega)
        have HLB : Hid (∀ j : Nat, ls[j]?.getD 0 ≤ 100) := hide (fun j => by have := HLS.out j; omega)
        clear HT HS HL HLS
        have hstop : (¬ (k : Int) < (n : Int)) ∨ ((k : Int) < (n : Int) ∧ ¬ (k : Int) < 100) := by omega
        clear hcont
        rcases hstop with hstop | ⟨hs1, hs2⟩
        all_goals
          go_wp2
          go_meet
          exact ⟨S1, L, ls, H1.out, HLL.out, HL5.out, HLB.out⟩
  case rest =>
  clear HT HS HZ8 HSL
  obtain ⟨S1, L, ls, hP, hll, hL, hls⟩ := hcut
  have H1 := hide hP
  have HLL := hide hll
  have HL5 := hide hL
  have HLB := hide hls
  have HSM : Hid (sm L 8 = L.length) := hide (sm_all hP.P.cls)
  have HSQ : Hid (∀ q, q ≤ 8 → sm L q ≤ 100) := hide (fun q hq => by have := sm_le L hP.P.cls hq; omega)
  clear hP hll hL hls
  go_wp2
  go_loopg [13, 14] 8 (fun r v i wr => ∃ q : Nat, q ≤ 8 ∧ r = 8 - q ∧ i = .int .i64 q ∧ v = .int .i64 (sm L q) ∧ wr = wc)
  case atStart => exact ⟨0, by omega, rfl, rfl, rfl, rfl⟩
  case round =>
    obtain ⟨q, hq, hr, rfl, rfl, rfl⟩ := hrel
    have HRQ := hide hr
    clear hr
    by_cases hc : q < 8
    · have hq2 : (q : Int) < 8 := by omega
      have e1 : IntKind.i64.wrap ((q : Int) + 1) = (q : Int) + 1 := IntWalk.i64_in _ (by omega)
      obtain ⟨y, hy⟩ : ∃ y, y = cnt L q := ⟨_, rfl⟩
      obtain ⟨u, hu⟩ : ∃ u, u = sm L q := ⟨_, rfl⟩
      have hs1 : sm L (q + 1) = u + y := by rw [hy, hu]; rfl
      have h9 := HSQ.out (q + 1) (by omega)
      rw [hs1] at h9
      have e2 : IntKind.i64.wrap ((u : Int) + (y : Int)) = ((u + y : Nat) : Int) := by rw [IntWalk.i64_in _ (by omega)]; omega
      have HS1 := hide hs1
      have HY := hide hy
      rw [← hu]
      clear hs1 h9 hy hu
      go_wp2_with fail
      refine (lenQ p S1 x L ls q _ H1.out.P).mono ?_
      rintro e w' ⟨rfl, rfl⟩
      rw [← HY.out]
      go_wp2
      go_roundg (8 - (q + 1))
      case measure => rw [HRQ.out]; omega
      case rel => exact ⟨q + 1, by omega, rfl, by go_num, by rw [HS1.out]; go_num, rfl⟩
    · obtain rfl : q = 8 := by omega
      rw [HSM.out]
      clear hc hq
      go_wp2_with fail
      refine (lostQ p S1 x L ls z _ H1.out.P).mono ?_
      rintro e w' ⟨rfl, rfl⟩
      go_wp2_with fail
      refine (clearQ p S1 x L ls _ H1.out.P (by have := HL5.out; omega)).mono ?_
      rintro e w5 ⟨rfl, ⟨S5, P5, hS5⟩, C5⟩
      have H5 := hide (H1.out.prog C5 P5 hS5)
      clear P5 hS5 C5 H1
      go_wp2_with fail
      refine (getQ_none p S5 x ls _ H5.out.P).mono ?_
      rintro e w6 ⟨rfl, ⟨S6, P6, hS6⟩, C6⟩
      have H6 := hide (H5.out.prog C6 P6 hS6)
      clear P6 hS6 C6 H5
      obtain ⟨t, ht⟩ : ∃ t : Nat, t = lost ls z := ⟨_, rfl⟩
      have HT := hide ht
      rw [← ht]
      clear ht
      have htt : ((t : Int) != (t : Int)) = false := by simp
      have hll : ((L.length : Int) != (L.length : Int)) = false := by simp
      go_wp2_with fail
      refine (lostQ p S6 x [] ls z _ H6.out.P).mono ?_
      rintro e w' ⟨rfl, rfl⟩
      rw [← HT.out]
      go_wp2_with fail
      refine (lenQ p S6 x [] ls z _ H6.out.P).mono ?_
      rintro e w' ⟨rfl, rfl⟩
      rw [show cnt [] z = 0 from rfl]
      clear htt hll
      go_wp2
      go_loopg [20, 21] x (fun r i _ wr => ∃ (q : Nat) (S : Nat → Prop) (Lq : List Wt), q ≤ x ∧ r = x - q ∧ i = .int .i64 q ∧ Pw w wr G p S x Lq ls ∧ Only Lq z q)
      case atStart => exact ⟨0, S6, [], Nat.zero_le _, rfl, rfl, H6.out, only_nil z⟩
      case round =>
        obtain ⟨q, S7, Lq, hq, hr, rfl, hP, hO⟩ := hrel
        clear H6
        have H7 := hide hP
        have HO := hide hO
        have HRQ := hide hr
        clear hP hO hr
        by_cases hc : q < x
        · have hq2 : (q : Int) < (x : Int) := by omega
          have e1 : IntKind.i64.wrap ((q : Int) + 1) = (q : Int) + 1 := IntWalk.i64_in _ (by omega)
          have e3 : IntKind.u8.wrap (q : Int) = (q : Int) := by rw [IntKind.wrap_u8]; omega
          have b7 := below_alloc wr (.cells #[.int .u8 (q : Int)] 5)
          have Y7 := hide (byt1 wr (q : Int) (by omega))
          replace H7 := hide (H7.out.on b7)
          clear b7
          go_wp2_with fail
          refine (putQ p S7 x Lq ls z (fun _ => True) _ _ _ [(q : Int)] _ H7.out.P (by rw [HO.out.len]; omega) (fun j => by have := HLB.out j; omega) ⟨Y7.out, fun _ _ _ _ => trivial⟩ (by omega)).mono ?_
          rw [(HO.out.add (n := x) HZ.out hc [(q : Int)]).1, HO.out.same HZ.out hc]
          rintro e w8 ⟨rfl, ⟨S8, P8, hS8⟩, C8⟩
          have H8 := hide (H7.out.prog C8 P8 hS8)
          have HO8 := hide (HO.out.add (n := x) HZ.out hc [(q : Int)]).2
          clear P8 hS8 C8 H7 HO Y7
          go_wp2
          go_roundg (x - (q + 1))
          case measure => rw [HRQ.out]; omega
          case rel => exact ⟨q + 1, S8, _, by omega, rfl, by go_num, H8.out, HO8.out⟩
        · obtain rfl : q = x := by omega
          have hqq : ¬ (q : Int) < (q : Int) := by omega
          clear hc hq
          go_wp2_with fail
          refine (putQ p S7 q Lq ls z (fun _ => True) none 0 0 [] _ H7.out.P (by rw [HO.out.len]; omega) (fun j => by have := HLB.out j; omega) ⟨Byt.nothing _, fun _ _ e => (by cases e)⟩ (by omega)).mono ?_
          obtain ⟨f1, f2, f3⟩ := HO.out.full (n := q) HZ.out (Nat.le_refl _) [] ls
          rw [f1, f2, f3]
          rintro e w8 ⟨rfl, ⟨S8, P8, hS8⟩, C8⟩
          have H8 := hide (H7.out.prog C8 P8 hS8)
          clear P8 hS8 C8 H7 f1 f2 f3
          go_wp2_with fail
          refine (lostQ p S8 q Lq _ z _ H8.out.P).mono ?_
          rintro e w' ⟨rfl, rfl⟩
          rw [lost_up HZ.out HLL.out, ← HT.out]
          have ht9 : t ≤ 100 := by
            rw [HT.out]
            unfold lost
            rw [HZ.out]
            exact HLB.out _
          have e4 : IntKind.i64.wrap ((t : Int) + 1) = ((t + 1 : Nat) : Int) := by rw [IntWalk.i64_in _ (by omega)]; omega
          clear ht9
          go_wp2_with fail
          refine (lenQ p S8 q Lq _ z _ H8.out.P).mono ?_
          rintro e w' ⟨rfl, rfl⟩
          rw [HO.out.at_]
          go_wp2
          go_ret
          exact ⟨ret_bool (by simp), H8.out.BB⟩
theorem clearsWalk (x : Int) (ao : Option Addr) (n c : Nat) (ss : List Sq) (z : Int) (w : World) (_ : I64 x) (hs : Stp w w.heap.size ao n c ss) (_ : I64 z) :
    Calls Try.prog 7 #[.int .i64 x, .slice ao n c, .int .i64 z] w fun e w' => e = .returned (.bool true) ∧ Below w.heap.size w w' := by
  by_cases h : 1 ≤ x ∧ x ≤ 1000
  · obtain ⟨m, rfl⟩ := Int.eq_ofNat_of_zero_le (show 0 ≤ x by omega)
    by_cases h2 : 60 < m ∨ z < 0 ∨ 7 < z
    · exact clearsOut m ao n c z w (by omega) (by omega) h2
    · exact clearsYes m ao n c ss z w (by omega) (by omega) (by omega) (by omega) hs
  · exact clearsBad x ao n c z w h
set_option maxRecDepth 100000 in
set_option maxHeartbeats 2000000 in
theorem queueClearslifted (os : Os) (started : os.Started) (H : Type) (enc : TypeId × Value → H) :
    ReturnsInHanded {} Try.checked os 7 .any (Rows.queueClearsSpec.pre6 enc Try.prog Try.f7 Rows.queueClearsRow.domain false) (Rows.queueClearsSpec.post enc Try.prog Try.f7 false true false false) := by
  refine returnsInHanded_of_change_sized (C := Try.checked) own started (by kernel_rfl) Try.func7
    (ChangeSpec.witness6 (enc := enc) (C := Try.checked) false ⟨#[], #[.int .i64 0, .slice none 0 0, .int .i64 0], []⟩ 8 (by kernel_rfl) (by kernel_rfl) (by kernel_rfl) (by kernel_rfl)) ?_
  intro W base args ds gs before hval0 hW _ hsize0 _
  have hval : ∀ (j : Nat) t v, Try.f7.params[j]? = some t → args[j]? = some v → Value.okWide Try.prog W .any base t v := hval0
  have hW' := hW
  obtain ⟨p, q, hA0, hV, rfl, _, _⟩ := hW
  have hA : DataW.TrodAll enc Try.prog W 0 (fun _ => true) true Try.f7.params.toList args.toList ds p := hA0
  rw [Try.params7] at hA hval
  obtain ⟨v0, vs0, d0, ds0, p0, q0, hargs, rfl, rfl, h0, r0⟩ := trodAll_cons hA
  obtain ⟨v1, vs1, d1, ds1, p1, q1, rfl, rfl, rfl, h1, r1⟩ := trodAll_cons r0
  obtain ⟨v2, vs2, d2, ds2, p2, q2, rfl, rfl, rfl, h2, r2⟩ := trodAll_cons r1
  obtain ⟨rfl, rfl, rfl⟩ := trodAll_nil r2
  obtain rfl : args = #[v0, v1, v2] := by cases args; simp_all
  obtain ⟨rfl, rfl⟩ := trodVars_none hV
  have hsz := List.all_eq_true.1 hsize0
  have h0k := h0
  obtain ⟨x0, rfl, hx0⟩ := open_num (hval 0 3 v0 rfl rfl) h0
  have h1k := h1
  have hl1 : Light 22 d1 := fun m hm => by have := hsz m (DataW.weights_mem_each (j := 1) (by rw [Try.params7]; rfl) rfl m hm); simpa using this
  obtain ⟨ao1, n1, c1, ss1, rfl, hs1⟩ := open_steps (hval 1 22 v1 rfl rfl) h1 hl1
  have h2k := h2
  obtain ⟨x2, rfl, hx2⟩ := open_num (hval 2 3 v2 rfl rfl) h2
  clear hA0 hval0 hsize0 hsz
  simp only [List.append_nil] at hW'
  have hlt : ∀ x ∈ p0 ++ p1 ++ p2, x.block < W.heap.size := fun x hx => by simpa using hW'.lt x (by simpa using hx)
  refine (clearsWalk x0 ao1 n1 c1 ss1 x2 W hx0 hs1 hx2).mono fun e W' ⟨he, hbl⟩ => ?_
  subst he
  exact ⟨_, rfl, _, _, _, [], _, [], hW', (trodAll_cons_mk (shut_bool Try.underlying4 _) trodAll_mk0), (trodAll_cons_mk (Below.trod Try.laidOut (by kernel_rfl) (of_decide_eq_true (by kernel_rfl)) h0k hbl (fun x hx => hlt x (by simp [hx]))) (trodAll_cons_mk (Below.trod Try.laidOut (by kernel_rfl) (of_decide_eq_true (by kernel_rfl)) h1k hbl (fun x hx => hlt x (by simp [hx]))) (trodAll_cons_mk (Below.trod Try.laidOut (by kernel_rfl) (of_decide_eq_true (by kernel_rfl)) h2k hbl (fun x hx => hlt x (by simp [hx]))) trodAll_mk0))), rfl, hbl.frame _, fun h => by cases h⟩

theorem queueClears_holds : Rows.QueueClearsSaid :=
  OpenClaim.holds_of_wide 7 Try.f7 rfl rfl rfl rfl rfl rfl rfl ⟨rfl, rfl, rfl, rfl, rfl⟩ rfl rfl rfl rfl rfl (by kernel_rfl) Try.func7 (by kernel_rfl)
    (of_decide_eq_true (by kernel_rfl)) (by unfold Func.isWrapper; first | (rw [if_pos (by decide +kernel)]; kernel_rfl) | (rw [if_neg (by decide +kernel)]; exact ⟨rfl, rfl⟩))
    (fun os started H enc _ => queueClearslifted os started H enc)

#print axioms queueClears_holds
end Go.Proofs.Ytmdbclhdbglppaa
