/- QueueSums: for every room and all steps the law answers true, and both read behind the call as they read before. No condition. -/
import Derived.Test.YtmdbclhdbglppaaQo
import Derived.Test.YtmdbclhdbglppaaSu
import Derived.Deep.DeepCutAuto
import Derived.Deep.CutBlock
import Derived.Deep.LoopGhost
namespace Go.Proofs.Ytmdbclhdbglppaa
open Go.ChangeShapes Go.WideShapes Go.ChangeAt Go.RowKit Go.PlainAid

set_option maxRecDepth 100000 in
set_option maxHeartbeats 4000000 in
theorem sumsNo (x : Int) (ao : Option Addr) (n c : Nat) (w : World) (h : ¬ (1 ≤ x ∧ x ≤ 1000)) :
    Calls Try.prog 5 #[.int .i64 x, .slice ao n c] w fun e w' => e = .returned (.bool true) ∧ Below w.heap.size w w' := by
  have HH := hide h
  clear h
  go_enter Try.func5, Try.ntmps5
  go_wp2_with fail
  refine (awakeC _).mono ?_
  rintro e w1 ⟨rfl, B1⟩
  have HB := hide B1
  clear B1
  go_wp2_with fail
  refine (newQ_no x _ HH.out).mono ?_
  rintro e w2 ⟨rfl, rfl⟩
  go_wp2
  go_ret
  exact ⟨rfl, HB.out⟩
theorem ZA : (#[.int .i64 0, .int .i64 0, .int .i64 0, .int .i64 0, .int .i64 0, .int .i64 0, .int .i64 0, .int .i64 0] : Array Value) = (arr z8).toArray := rfl
theorem and7 : ∀ {q : Nat}, q < 8 → bits .and .i64 (q : Int) 7 = (q : Int)
  | 0, _ | 1, _ | 2, _ | 3, _ | 4, _ | 5, _ | 6, _ | 7, _ => by decide +kernel
section
attribute [local go_sem] ZA
set_option maxRecDepth 100000 in
set_option maxHeartbeats 8000000 in
theorem sumsYes (x : Nat) (ao : Option Addr) (n c : Nat) (ss : List Sq) (w : World) (h1 : 1 ≤ x) (h2 : x ≤ 1000) (hs : Stp w w.heap.size ao n c ss) :
    Calls Try.prog 5 #[.int .i64 x, .slice ao n c] w fun e w' => e = .returned (.bool true) ∧ Below w.heap.size w w' := by
  have HS0 := hide hs
  have HSL : Hid (ss.length = n) := hide hs.len
  have hsc := hs.le
  have hsm := hs.mx
  unfold maxLen at hsm
  have HX1 := hide h1
  have HX2 := hide h2
  clear hs
  obtain ⟨G, hG⟩ : ∃ G, G = w.heap.size := ⟨_, rfl⟩
  have HGG := hide hG
  rw [← hG] at HS0 ⊢
  clear hG
  go_enter Try.func5, Try.ntmps5
  go_wp2_with fail
  refine (awakeC _).mono ?_
  rintro e w1 ⟨rfl, B1⟩
  rw [← HGG.out] at B1
  have HB := hide B1
  have HS := hide (HS0.out.below B1)
  clear B1 HS0
  go_wp2_with fail
  refine (newQ x _ h1 h2).mono ?_
  rintro e w2 ⟨p, S, rfl, P2, hS2, B2⟩
  have hz1 : G ≤ w1.heap.size := by have := HB.out.size; rw [← HGG.out] at this; exact this
  replace HS := hide (HS.out.below (B2.mono hz1))
  have HP : Hid (Pw w w2 G p S x [] z8) := hide ⟨P2, fun i hi => by have := hS2 i hi; omega, Nat.le_trans hz1 B2.size, HB.out.trans (B2.mono hz1)⟩
  clear P2 hS2 B2 hz1 HB
  -- two arrays of counts
  have bA := below_alloc w2 (.cells (arr z8).toArray 39)
  have bB := below_alloc (w2.alloc (.cells (arr z8).toArray 39)) (.cells (arr z8).toArray 39)
  have xA := Box.new w2 (arr z8) 39
  have xB := Box.new (w2.alloc (.cells (arr z8).toArray 39)) (arr z8) 39
  have hsA : (w2.alloc (.cells (arr z8).toArray 39)).heap.size = w2.heap.size + 1 := by simp
  rw [hsA] at xB
  have HA : Hid (Vr ((w2.alloc (.cells (arr z8).toArray 39)).alloc (.cells (arr z8).toArray 39)) G S w2.heap.size (arr z8)) := hide ⟨xA.on bB, HP.out.sz, fun h => by have := HP.out.P.sz _ h; omega⟩
  have HC : Hid (Vr ((w2.alloc (.cells (arr z8).toArray 39)).alloc (.cells (arr z8).toArray 39)) G S (w2.heap.size + 1) (arr z8)) := hide ⟨xB, by have := HP.out.sz; omega, fun h => by have := HP.out.P.sz _ h; omega⟩
  have hG2 := HP.out.sz
  replace HS := hide (HS.out.below ((bA.mono hG2).trans (bB.mono (by rw [hsA]; omega))))
  replace HP := hide ((HP.out.on bA).on bB)
  have HSA := hide hsA
  clear bA bB xA xB hG2 hsA
  go_wp2_with fail
  generalize (w2.alloc (.cells (arr z8).toArray 39)).alloc (.cells (arr z8).toArray 39) = w3 at *
  clear HSA
  obtain ⟨kA, hkA⟩ : ∃ kA, kA = w2.heap.size := ⟨_, rfl⟩
  obtain ⟨kB, hkB⟩ : ∃ kB, kB = kA + 1 := ⟨_, rfl⟩
  rw [← hkA] at HA HC ⊢
  rw [← hkB] at HC ⊢
  have HNE : Hid (kA ≠ kB) := hide (by omega)
  have HZ8 : Hid (∀ j : Nat, z8[j]?.getD 0 ≤ 0) := hide (fun j => by match j with | 0 | 1 | 2 | 3 | 4 | 5 | 6 | 7 => decide | j + 8 => exact Nat.le_refl _)
  clear hkA hkB
  go_loopg [10, 11, 12, 13, 14, 15, 16] 200 (fun r i _ _ _ _ _ _ wr => ∃ (k : Nat) (S : Nat → Prop) (L : List Wt) (ls A B : List Nat), k ≤ n ∧ k ≤ 200 ∧ r = 200 - k ∧ i = .int .i64 k ∧ Pw w wr G p S x L ls ∧ Vr wr G S kA (arr A) ∧ Vr wr G S kB (arr B) ∧ Stp wr G ao n c ss ∧ Sum A B L ls ∧ L.length ≤ k ∧ (∀ j : Nat, ls[j]?.getD 0 ≤ k) ∧ (∀ j : Nat, gt A j ≤ k) ∧ (∀ j : Nat, gt B j ≤ k))
  case atStart => exact ⟨0, _, _, _, _, _, Nat.zero_le _, Nat.zero_le _, rfl, rfl, HP.out, HA.out, HC.out, HS.out, sum_start, Nat.zero_le _, HZ8.out, HZ8.out, HZ8.out⟩
  case round =>
    obtain ⟨k, S1, L, ls, A, B, hk, hk3, hr, rfl, hP, hA, hB, hS, hU, hL, hls, hla, hlb⟩ := hrel
    clear HP HA HC HS HZ8
    have HP := hide hP
    have HA := hide hA
    have HC := hide hB
    have HS := hide hS
    have HU := hide hU
    have HL := hide hL
    have HLS := hide hls
    have HLA := hide hla
    have HLB := hide hlb
    have HRK := hide hr
    clear hP hA hB hS hU hL hls hla hlb hr
    by_cases hcont : k < n ∧ k < 200
    · obtain ⟨hkn, hk200⟩ := hcont
      obtain ⟨s, hs⟩ : ∃ s, ss[k]? = some s := ⟨_, List.getElem?_eq_getElem (by rw [HSL.out]; exact hkn)⟩
      obtain ⟨b0, o0, ab, nb, cb, rfl, hbG, hA, hY, hnb⟩ := HS.out.cell k s hs
      have hk2 : (k : Int) < (n : Int) := by omega
      have hk4 : (k : Int) < 200 := by omega
      have e1 : IntKind.i64.wrap ((k : Int) + 1) = (k : Int) + 1 := IntWalk.i64_in _ (by omega)
      have d0 := hA 0 _ rfl
      have d1 := hA 1 _ rfl
      have d2 := hA 2 _ rfl
      rw [Nat.add_zero] at d0
      have HNB := hide hnb
      have bS := below_alloc wr (.cells #[.int .i64 s.d, .int .i64 s.k, .slice ab nb cb] 34)
      have HX := hide (Box.new wr [.int .i64 s.d, .int .i64 s.k, .slice ab nb cb] 34)
      have HY := hide (hY.low (bS.mono HP.out.sz))
      have HP1 := hide (HP.out.on bS)
      have HA1 := hide (HA.out.on bS)
      have HC1 := hide (HC.out.on bS)
      have HS1 := hide (HS.out.below (bS.mono HP.out.sz))
      have c0 := HX.out.cell 0 _ rfl
      have HKX : Hid (G ≤ wr.heap.size ∧ ¬ S1 wr.heap.size ∧ kA < wr.heap.size ∧ kB < wr.heap.size) := hide ⟨HP.out.sz, fun h => by have := HP.out.P.sz _ h; omega, HA.out.bx.lt, HC.out.bx.lt⟩
      clear hs hA hY hnb hbG bS HP HA HC HS
      go_upto_block 2 with fail
      clear c0 d0 d1 d2
      go_cut [] (fun wx => ∃ (S : Nat → Prop) (L : List Wt) (ls A B : List Nat), Pw w wx G p S x L ls ∧ Vr wx G S kA (arr A) ∧ Vr wx G S kB (arr B) ∧ Stp wx G (some ⟨b0, o0, none⟩) n c ss ∧ Sum A B L ls ∧ L.length ≤ k + 1 ∧ (∀ j : Nat, ls[j]?.getD 0 ≤ k + 1) ∧ (∀ j : Nat, gt A j ≤ k + 1) ∧ (∀ j : Nat, gt B j ≤ k + 1))
      case first =>
        rcases Bool.eq_false_or_eq_true (s.d == 0) with t0 | t0
        · have c1 := HX.out.cell 1 _ rfl
          have c2 := HX.out.cell 2 _ rfl
          go_wp2_with fail
          refine (putQ p S1 x L ls s.k (fun i => i < G) ab nb cb s.b _ HP1.out.P (by have := HL.out; omega) (fun j => by have := HLS.out j; omega) HY.out HNB.out).mono ?_
          rintro e w4 ⟨rfl, ⟨S4, P4, hS4⟩, C4⟩
          have hx9 := HX.out.block (C4.block _ HX.out.lt HKX.out.2.1)
          have HX4 := hide hx9
          have HA4 := hide (HA1.out.prog C4 hS4)
          have HC4 := hide (HC1.out.prog C4 hS4)
          have HS4 := hide (HS1.out.below (HP1.out.low C4))
          have HP4 := hide (HP1.out.prog C4 P4 hS4)
          have c1 := hx9.cell 1 _ rfl
          clear P4 hS4 C4 hx9 c2 HP1 HA1 HC1 HS1 HX
          rcases Bool.eq_false_or_eq_true (isC s.k) with hk9 | hk9
          · have hkk := isC_iff.1 hk9
            obtain ⟨q, hq⟩ := Int.eq_ofNat_of_zero_le hkk.1
            have hq8 : q < 8 := by omega
            have HU4 : Hid (Sum (up1 A q) B (pL x L s.k s.b) (pG x L ls s.k)) := hide (by rw [hq]; exact sum_put HU.out hq8 s.b)
            have HL4 : Hid ((pL x L s.k s.b).length ≤ k + 1) := hide (by have := pL_le x L s.k s.b; have := HL.out; omega)
            have HLS4 : Hid (∀ j : Nat, (pG x L ls s.k)[j]?.getD 0 ≤ k + 1) := hide (fun j => by have := nG_le (n := x) (L := L) HLS.out ⟨0, s.k, s.b⟩ j; simpa [nG] using this)
            have HLA4 : Hid (∀ j : Nat, gt (up1 A q) j ≤ k + 1) := hide (fun j => by rw [gt_up (by rw [HU.out.a]; exact hq8)]; have := HLA.out j; split <;> omega)
            obtain ⟨E, hE⟩ : ∃ E, E = pE x L s.k := ⟨_, rfl⟩
            have hE1 : (E == 1) = false := by
              rw [hE]; unfold pE; rw [hk9, if_pos rfl]; split <;> rfl
            have hE2 : (E != 1) = true := by simp [bne, hE1]
            rw [← hE]
            obtain ⟨y, hy⟩ : ∃ y : Nat, y = gt A q := ⟨_, rfl⟩
            have cA := HA4.out.bx.cell q _ (arr_at (by rw [HU.out.a]; exact hq8))
            have fA := HA4.out.bx.free q (by rw [arr_length, HU.out.a]; exact hq8)
            have HAU := HA4.out.up (k := q) (by rw [HU.out.a]; exact hq8)
            have HPU := hide (HP4.out.put (k := q) (v := .int .i64 ((gt A q : Nat) + 1 : Int)) HA4.out.lo HA4.out.ns)
            have HCU := hide (HC4.out.other (k := q) (v := .int .i64 ((gt A q : Nat) + 1 : Int)) (fun e => HNE.out e.symm))
            have HSU := hide (HS4.out.below (below_of_grown (setCell_grown w4 kA q (.int .i64 ((gt A q : Nat) + 1 : Int))) HA4.out.lo HP4.out.sz))
            rw [← hy] at cA HAU HPU HCU HSU
            have HAV := hide HAU
            have e2 : IntKind.i64.wrap ((y : Int) + 1) = (y : Int) + 1 := IntWalk.i64_in _ (by have := HLA.out q; omega)
            rw [hq] at c1
            have n1 : ¬ (q : Int) < 0 := by omega
            have n2 : ¬ (7 : Int) < (q : Int) := by omega
            have n3 : (q : Int) < 8 := by omega
            clear hE hkk hq hk9 HAU HA4 HC4 HS4 HP4 hy
            go_wp2
            go_meet
            case rel => exact ⟨S4, _, _, _, _, HPU.out, HAV.out, HCU.out, HSU.out, HU4.out, HL4.out, HLS4.out, HLA4.out, fun j => by have := HLB.out j; omega⟩
          · have e9 := pE_out (n := x) (L := L) hk9
            have eL : pL x L s.k s.b = L := by unfold pL; rw [e9, if_neg (by decide)]
            have eG : pG x L ls s.k = ls := by unfold pG; rw [e9, if_neg (by decide)]
            rw [e9]
            rw [eL, eG] at HP4
            have hkk : s.k < 0 ∨ (¬ s.k < 0 ∧ 7 < s.k) := by
              have : ¬ (0 ≤ s.k ∧ s.k < 8) := fun h => by rw [isC_iff.2 h] at hk9; cases hk9
              omega
            clear e9 eL eG hk9
            rcases hkk with n1 | ⟨n1, n2⟩
            all_goals
              go_wp2
              go_meet
              exact ⟨S4, L, ls, A, B, HP4.out, HA4.out, HC4.out, HS4.out, HU.out, by have := HL.out; omega, fun j => by have := HLS.out j; omega, fun j => by have := HLA.out j; omega, fun j => by have := HLB.out j; omega⟩
        rcases Bool.eq_false_or_eq_true (s.d == 1) with t1 | t1
        · cases hbi : bi L L.length with
          | none =>
            obtain rfl : L = [] := List.eq_nil_of_length_eq_zero (bi_none hbi)
            clear hbi
            go_wp2_with fail
            refine (getQ_none p S1 x ls _ HP1.out.P).mono ?_
            rintro e w4 ⟨rfl, ⟨S4, P4, hS4⟩, C4⟩
            have HA4 := hide (HA1.out.prog C4 hS4)
            have HC4 := hide (HC1.out.prog C4 hS4)
            have HS4 := hide (HS1.out.below (HP1.out.low C4))
            have HP4 := hide (HP1.out.prog C4 P4 hS4)
            clear P4 hS4 C4 HP1 HA1 HC1 HS1 HX
            go_wp2
            go_meet
            case rel => exact ⟨S4, [], ls, A, B, HP4.out, HA4.out, HC4.out, HS4.out, HU.out, by simp, fun j => by have := HLS.out j; omega, fun j => by have := HLA.out j; omega, fun j => by have := HLB.out j; omega⟩
          | some j =>
            obtain ⟨y, hy⟩ : ∃ y, L[j]? = some y := ⟨_, List.getElem?_eq_getElem (bi_some hbi).lt⟩
            have hkk := isC_iff.1 (HP1.out.P.cls y (List.mem_of_getElem? hy))
            obtain ⟨q, hq⟩ := Int.eq_ofNat_of_zero_le hkk.1
            have hq8 : q < 8 := by omega
            have HU4 := hide (sum_get HU.out hbi hy hq hq8)
            have HJ := hide hbi
            have HYY := hide hy
            have HL4 : Hid ((L.eraseIdx j).length ≤ k + 1) := hide (by rw [List.length_eraseIdx]; have := HL.out; split <;> omega)
            have HLB4 : Hid (∀ i : Nat, gt (up1 B q) i ≤ k + 1) := hide (fun i => by rw [gt_up (by rw [HU.out.b]; exact hq8)]; have := HLB.out i; split <;> omega)
            clear hbi hy
            go_wp2_with fail
            refine (getQ_some p S1 x L ls y j _ HP1.out.P (by have := HL.out; omega) HJ.out HYY.out).mono ?_
            rintro e w4 ⟨⟨a4, n4, c4, rfl, Y4⟩, ⟨S4, P4, hS4⟩, C4⟩
            have HA4 := hide (HA1.out.prog C4 hS4)
            have HC4 := hide (HC1.out.prog C4 hS4)
            have HS4 := hide (HS1.out.below (HP1.out.low C4))
            have HP4 := hide (HP1.out.prog C4 P4 hS4)
            clear P4 hS4 C4 HP1 HA1 HC1 HS1 HX Y4
            obtain ⟨z, hz⟩ : ∃ z : Nat, z = gt B q := ⟨_, rfl⟩
            have cB := HC4.out.bx.cell q _ (arr_at (by rw [HU.out.b]; exact hq8))
            have fB := HC4.out.bx.free q (by rw [arr_length, HU.out.b]; exact hq8)
            have HCU := HC4.out.up (k := q) (by rw [HU.out.b]; exact hq8)
            have HPU := hide (HP4.out.put (k := q) (v := .int .i64 ((gt B q : Nat) + 1 : Int)) HC4.out.lo HC4.out.ns)
            have HAU := hide (HA4.out.other (k := q) (v := .int .i64 ((gt B q : Nat) + 1 : Int)) HNE.out)
            have HSU := hide (HS4.out.below (below_of_grown (setCell_grown w4 kB q (.int .i64 ((gt B q : Nat) + 1 : Int))) HC4.out.lo HP4.out.sz))
            rw [← hz] at cB HCU HPU HAU HSU
            have HCV := hide HCU
            have e2 : IntKind.i64.wrap ((z : Int) + 1) = (z : Int) + 1 := IntWalk.i64_in _ (by have := HLB.out q; omega)
            have e3 : bits .and .i64 (q : Int) 7 = (q : Int) := and7 hq8
            rw [hq]
            have n1 : (0 : Int) ≤ (q : Int) := by omega
            have n3 : (q : Int) < 8 := by omega
            clear hq hkk HCU HA4 HC4 HS4 HP4 hz
            go_wp2
            go_meet
            case rel => exact ⟨S4, _, _, _, _, HPU.out, HAU.out, HCV.out, HSU.out, HU4.out, HL4.out, fun j => by have := HLS.out j; omega, fun j => by have := HLA.out j; omega, HLB4.out⟩
        · go_wp2
          go_meet
          case rel => exact ⟨S1, L, ls, A, B, HP1.out, HA1.out, HC1.out, HS1.out, HU.out, by have := HL.out; omega, fun j => by have := HLS.out j; omega, fun j => by have := HLA.out j; omega, fun j => by have := HLB.out j; omega⟩
      case rest =>
      obtain ⟨S5, L5, l5, A5, B5, hP, hA, hB, hS, hU, hL, hls, hla, hlb⟩ := hcut
      clear HX HY HP1 HA1 HC1 HS1 HKX HU HL HLS HLA HLB
      have HP := hide hP
      have HA := hide hA
      have HC := hide hB
      have HS := hide hS
      have HU := hide hU
      have HL := hide hL
      have HLS := hide hls
      have HLA := hide hla
      have HLB := hide hlb
      clear hP hA hB hS hU hL hls hla hlb
      go_wp2_with fail
      go_loopg [16] 8 (fun r i wr => ∃ q : Nat, q ≤ 8 ∧ r = 8 - q ∧ i = .int .i64 q ∧ Pw w wr G p S5 x L5 l5 ∧ Vr wr G S5 kA (arr A5) ∧ Vr wr G S5 kB (arr B5) ∧ Stp wr G (some ⟨b0, o0, none⟩) n c ss)
      case atStart => exact ⟨0, Nat.zero_le _, rfl, rfl, HP.out, HA.out, HC.out, HS.out⟩
      case round =>
        obtain ⟨q, hq, hr, rfl, hP, hA, hB, hS⟩ := hrel
        clear HP HA HC HS
        have HP := hide hP
        have HA := hide hA
        have HC := hide hB
        have HS := hide hS
        have HRQ := hide hr
        clear hP hA hB hS hr
        by_cases hc : q < 8
        · have hq2 : (q : Int) < 8 := by omega
          have e2 : IntKind.i64.wrap ((q : Int) + 1) = (q : Int) + 1 := IntWalk.i64_in _ (by omega)
          obtain ⟨y, hy⟩ : ∃ y, y = cnt L5 q := ⟨_, rfl⟩
          obtain ⟨t, ht⟩ : ∃ t, t = lost l5 q := ⟨_, rfl⟩
          obtain ⟨b, hb⟩ : ∃ b, b = gt B5 q := ⟨_, rfl⟩
          have ht9 : t = gt l5 q := by
            rw [ht]; unfold lost
            rw [isC_iff.2 (by omega : 0 ≤ (q : Int) ∧ (q : Int) < 8)]; rfl
          have ha : gt A5 q = b + y + t := by rw [HU.out.eq q hc, hy, ht9, hb]
          have hyx : y ≤ x := by rw [hy]; exact HP.out.P.room q
          have hsz : b + y + t ≤ 201 := by rw [← ha]; have := HLA.out q; omega
          have cA := HA.out.bx.cell q _ (arr_at (by rw [HU.out.a]; exact hc))
          have cB := HC.out.bx.cell q _ (arr_at (by rw [HU.out.b]; exact hc))
          rw [ha] at cA
          rw [← hb] at cB
          have e3 : IntKind.i64.wrap ((b : Int) + (y : Int)) = (b : Int) + (y : Int) := IntWalk.i64_in _ (by omega)
          have e4 : IntKind.i64.wrap ((b : Int) + (y : Int) + (t : Int)) = (b : Int) + (y : Int) + (t : Int) := IntWalk.i64_in _ (by omega)
          have f1 : decide ((x : Int) < (y : Int)) = false := by simp; omega
          have f2 : decide (x < y) = false := by simp; omega
          have q1 : Hid (∀ z, Calls Try.prog 12 #[.pointer (some p), .int .i64 q] (wr.drewN z) fun e w' => e = .returned (.int .i64 y) ∧ w' = wr.drewN z) := hide fun z => by rw [hy]; exact lenQ p S5 x L5 l5 q _ (HP.out.drewN z).P
          have q2 : Hid (∀ z, Calls Try.prog 14 #[.pointer (some p), .int .i64 q] (wr.drewN z) fun e w' => e = .returned (.int .i64 t) ∧ w' = wr.drewN z) := hide fun z => by rw [ht]; exact lostQ p S5 x L5 l5 q _ (HP.out.drewN z).P
          have n1 : (0 : Int) ≤ (q : Int) := by omega
          clear hy ht hb ht9 ha hyx hsz
          go_wp2_with fail
          go_quiet ((first | (go_at_call 12; exact Calls.quiet_of_same (q1.out _)) | (go_at_call 14; exact Calls.quiet_of_same (q2.out _))))
          have bd : Below wr.heap.size wr (wr.drewN nq) := belowN (Below.refl _ _) nq
          have HP9 := hide (HP.out.on bd)
          have HA9 := hide (HA.out.on bd)
          have HC9 := hide (HC.out.on bd)
          have HS9 := hide (HS.out.below (bd.mono HP.out.sz))
          clear bd cA cB q1 q2 HP HA HC HS
          go_wp2
          go_roundg (8 - (q + 1))
          case measure => rw [HRQ.out]; omega
          case rel => exact ⟨q + 1, by omega, rfl, by go_num, HP9.out, HA9.out, HC9.out, HS9.out⟩
        · have hq2 : ¬ (q : Int) < 8 := by omega
          clear hc
          go_wp2
          go_roundg (200 - (k + 1))
          case measure => rw [HRK.out]; omega
          case rel => exact ⟨k + 1, S5, L5, l5, A5, B5, by omega, by omega, rfl, by go_num, HP.out, HA.out, HC.out, HS.out, HU.out, HL.out, HLS.out, HLA.out, HLB.out⟩
    · rcases (show ¬ (k : Int) < (n : Int) ∨ ((k : Int) < (n : Int) ∧ ¬ (k : Int) < 200) by omega) with hstop | ⟨hs1, hs2⟩
      all_goals
        clear hcont
        go_wp2
        go_ret
        exact ⟨rfl, HP.out.BB⟩
end
theorem sumsWalk (x : Int) (ao : Option Addr) (n c : Nat) (ss : List Sq) (w : World) (_ : I64 x) (hs : Stp w w.heap.size ao n c ss) :
    Calls Try.prog 5 #[.int .i64 x, .slice ao n c] w fun e w' => e = .returned (.bool true) ∧ Below w.heap.size w w' := by
  by_cases h : 1 ≤ x ∧ x ≤ 1000
  · obtain ⟨m, rfl⟩ := Int.eq_ofNat_of_zero_le (show 0 ≤ x by omega)
    exact sumsYes m ao n c ss w (by omega) (by omega) hs
  · exact sumsNo x ao n c w h
set_option maxRecDepth 100000 in
set_option maxHeartbeats 2000000 in
theorem queueSumslifted (os : Os) (started : os.Started) (H : Type) (enc : TypeId × Value → H) :
    ReturnsInHanded {} Try.checked os 5 .any (Rows.queueSumsSpec.pre6 enc Try.prog Try.f5 Rows.queueSumsRow.domain false) (Rows.queueSumsSpec.post enc Try.prog Try.f5 false true false false) := by
  refine returnsInHanded_of_change_sized (C := Try.checked) own started (by kernel_rfl) Try.func5
    (ChangeSpec.witness6 (enc := enc) (C := Try.checked) false ⟨#[], #[.int .i64 0, .slice none 0 0], []⟩ 8 (by kernel_rfl) (by kernel_rfl) (by kernel_rfl) (by kernel_rfl)) ?_
  intro W base args ds gs before hval0 hW _ hsize0 _
  have hval : ∀ (j : Nat) t v, Try.f5.params[j]? = some t → args[j]? = some v → Value.okWide Try.prog W .any base t v := hval0
  have hW' := hW
  obtain ⟨p, q, hA0, hV, rfl, _, _⟩ := hW
  have hA : DataW.TrodAll enc Try.prog W 0 (fun _ => true) true Try.f5.params.toList args.toList ds p := hA0
  rw [Try.params5] at hA hval
  obtain ⟨v0, vs0, d0, ds0, p0, q0, hargs, rfl, rfl, h0, r0⟩ := trodAll_cons hA
  obtain ⟨v1, vs1, d1, ds1, p1, q1, rfl, rfl, rfl, h1, r1⟩ := trodAll_cons r0
  obtain ⟨rfl, rfl, rfl⟩ := trodAll_nil r1
  obtain rfl : args = #[v0, v1] := by cases args; simp_all
  obtain ⟨rfl, rfl⟩ := trodVars_none hV
  have hsz := List.all_eq_true.1 hsize0
  have h0k := h0
  obtain ⟨x0, rfl, hx0⟩ := open_num (hval 0 3 v0 rfl rfl) h0
  have h1k := h1
  have hl1 : Light 22 d1 := fun m hm => by have := hsz m (DataW.weights_mem_each (j := 1) (by rw [Try.params5]; rfl) rfl m hm); simpa using this
  obtain ⟨ao1, n1, c1, ss1, rfl, hs1⟩ := open_steps (hval 1 22 v1 rfl rfl) h1 hl1
  clear hA0 hval0 hsize0 hsz
  simp only [List.append_nil] at hW'
  have hlt : ∀ x ∈ p0 ++ p1, x.block < W.heap.size := fun x hx => by simpa using hW'.lt x (by simpa using hx)
  refine (sumsWalk x0 ao1 n1 c1 ss1 W hx0 hs1).mono fun e W' ⟨he, hbl⟩ => ?_
  subst he
  exact ⟨_, rfl, _, _, _, [], _, [], hW', (trodAll_cons_mk (shut_bool Try.underlying4 _) trodAll_mk0), (trodAll_cons_mk (Below.trod Try.laidOut (by kernel_rfl) (of_decide_eq_true (by kernel_rfl)) h0k hbl (fun x hx => hlt x (by simp [hx]))) (trodAll_cons_mk (Below.trod Try.laidOut (by kernel_rfl) (of_decide_eq_true (by kernel_rfl)) h1k hbl (fun x hx => hlt x (by simp [hx]))) trodAll_mk0)), rfl, hbl.frame _, fun h => by cases h⟩

theorem queueSums_holds : Rows.QueueSumsSaid :=
  OpenClaim.holds_of_wide 5 Try.f5 rfl rfl rfl rfl rfl rfl rfl ⟨rfl, rfl, rfl, rfl, rfl⟩ rfl rfl rfl rfl rfl (by kernel_rfl) Try.func5 (by kernel_rfl)
    (of_decide_eq_true (by kernel_rfl)) (by unfold Func.isWrapper; first | (rw [if_pos (by decide +kernel)]; kernel_rfl) | (rw [if_neg (by decide +kernel)]; exact ⟨rfl, rfl⟩))
    (fun os started H enc _ => queueSumslifted os started H enc)

#print axioms queueSums_holds
end Go.Proofs.Ytmdbclhdbglppaa
