/- QueueOrder: for every room and all steps the law answers true, and both read behind the call as they read before. No condition. -/
import Derived.Test.YtmdbclhdbglppaaQo
import Derived.Test.YtmdbclhdbglppaaOd
import Derived.Deep.DeepCutAuto
import Derived.Deep.CutBlock
import Derived.Deep.LoopGhost
namespace Go.Proofs.Ytmdbclhdbglppaa
open Go.ChangeShapes Go.WideShapes Go.ChangeAt Go.RowKit Go.PlainAid

set_option maxRecDepth 100000 in
set_option maxHeartbeats 4000000 in
theorem orderNo (x : Int) (ao : Option Addr) (n c : Nat) (w : World) (h : ¬ (1 ≤ x ∧ x ≤ 1000)) :
    Calls Try.prog 4 #[.int .i64 x, .slice ao n c] w fun e w' => e = .returned (.bool true) ∧ Below w.heap.size w w' := by
  have HH := hide h
  clear h
  go_enter Try.func4, Try.ntmps4
  go_wp2_with fail
  refine (awakeC _).mono ?_
  rintro e w1 ⟨rfl, B1⟩
  have HB := hide B1
  clear B1
  go_wp2_with fail
  refine (newQ_no x _ HH.out).mono ?_
  rintro e w2 ⟨rfl, rfl⟩
  go_wp2
  go_ret
  exact ⟨rfl, HB.out⟩
theorem ZA : (#[.int .i64 0, .int .i64 0, .int .i64 0, .int .i64 0, .int .i64 0, .int .i64 0, .int .i64 0, .int .i64 0] : Array Value) = (arr z8).toArray := rfl
def zv : List Value := [.slice none 0 0, .slice none 0 0, .slice none 0 0, .slice none 0 0, .slice none 0 0, .slice none 0 0, .slice none 0 0, .slice none 0 0]
theorem ZV : (#[.slice none 0 0, .slice none 0 0, .slice none 0 0, .slice none 0 0, .slice none 0 0, .slice none 0 0, .slice none 0 0, .slice none 0 0] : Array Value) = zv.toArray := rfl
theorem zv_at {k : Nat} {v : Value} (h : zv[k]? = some v) : v = .slice none 0 0 ∧ k < 8 := by
  match k, h with
  | 0, h | 1, h | 2, h | 3, h | 4, h | 5, h | 6, h | 7, h => exact ⟨(Option.some.inj h).symm, by omega⟩
theorem zP_at {k : Nat} (h : k < 8) : pk zP k = [] := by
  match k, h with
  | 0, _ | 1, _ | 2, _ | 3, _ | 4, _ | 5, _ | 6, _ | 7, _ => rfl
theorem ln_start {w : World} {G : Nat} {S : Nat → Prop} {kP kB : Nat} (v : Vr w G S kP zv) : Ln w G S kP kB zv zP :=
  ⟨v, rfl, fun k u hu => by
    obtain ⟨rfl, hk⟩ := zv_at hu
    rw [zP_at hk]
    exact World.ownsRow_nil _ _ _ _, fun k u hu b hb => (by
    obtain ⟨rfl, _⟩ := zv_at hu
    cases hb), fun k k' u u' hu hu' _ b hb => (by
    obtain ⟨rfl, _⟩ := zv_at hu
    cases hb)⟩
section
attribute [local go_sem] ZA ZV
set_option maxRecDepth 100000 in
set_option maxHeartbeats 8000000 in
theorem orderYes (x : Nat) (ao : Option Addr) (n c : Nat) (ss : List Sq) (w : World) (h1 : 1 ≤ x) (h2 : x ≤ 1000) (hs : Stp w w.heap.size ao n c ss) :
    Calls Try.prog 4 #[.int .i64 x, .slice ao n c] w fun e w' => e = .returned (.bool true) ∧ Below w.heap.size w w' := by
  have HS0 := hide hs
  have HSL : Hid (ss.length = n) := hide hs.len
  have hsc := hs.le
  have hsm := hs.mx
  unfold maxLen at hsm
  have HX1 := hide h1
  have HX2 := hide h2
  clear hs
  obtain ⟨G, hG⟩ : ∃ G, G = w.heap.size := ⟨_, rfl⟩
  have HGG := hide hG
  rw [← hG] at HS0 ⊢
  clear hG
  go_enter Try.func4, Try.ntmps4
  go_wp2_with fail
  refine (awakeC _).mono ?_
  rintro e w1 ⟨rfl, B1⟩
  rw [← HGG.out] at B1
  have HB := hide B1
  have HS := hide (HS0.out.below B1)
  clear B1 HS0
  go_wp2_with fail
  refine (newQ x _ h1 h2).mono ?_
  rintro e w2 ⟨p, S, rfl, P2, hS2, B2⟩
  have hz1 : G ≤ w1.heap.size := by have := HB.out.size; rw [← HGG.out] at this; exact this
  replace HS := hide (HS.out.below (B2.mono hz1))
  have HP : Hid (Pw w w2 G p S x [] z8) := hide ⟨P2, fun i hi => by have := hS2 i hi; omega, Nat.le_trans hz1 B2.size, HB.out.trans (B2.mono hz1)⟩
  clear P2 hS2 B2 hz1 HB
  -- the rows of strings, the counts
  have bA := below_alloc w2 (.cells zv.toArray 38)
  have bB := below_alloc (w2.alloc (.cells zv.toArray 38)) (.cells (arr z8).toArray 39)
  have xA := Box.new w2 zv 38
  have xB := Box.new (w2.alloc (.cells zv.toArray 38)) (arr z8) 39
  have hsA : (w2.alloc (.cells zv.toArray 38)).heap.size = w2.heap.size + 1 := by simp
  rw [hsA] at xB
  have HA : Hid (Vr ((w2.alloc (.cells zv.toArray 38)).alloc (.cells (arr z8).toArray 39)) G S w2.heap.size zv) := hide ⟨xA.on bB, HP.out.sz, fun h => by have := HP.out.P.sz _ h; omega⟩
  have HC : Hid (Vr ((w2.alloc (.cells zv.toArray 38)).alloc (.cells (arr z8).toArray 39)) G S (w2.heap.size + 1) (arr z8)) := hide ⟨xB, by have := HP.out.sz; omega, fun h => by have := HP.out.P.sz _ h; omega⟩
  have hG2 := HP.out.sz
  replace HS := hide (HS.out.below ((bA.mono hG2).trans (bB.mono (by rw [hsA]; omega))))
  replace HP := hide ((HP.out.on bA).on bB)
  have HSA := hide hsA
  clear bA bB xA xB hG2 hsA
  go_wp2_with fail
  generalize (w2.alloc (.cells zv.toArray 38)).alloc (.cells (arr z8).toArray 39) = w3 at *
  clear HSA
  obtain ⟨kP, hkP⟩ : ∃ kP, kP = w2.heap.size := ⟨_, rfl⟩
  obtain ⟨kB, hkB⟩ : ∃ kB, kB = kP + 1 := ⟨_, rfl⟩
  rw [← hkP] at HA HC ⊢
  rw [← hkB] at HC ⊢
  have HNE : Hid (kP ≠ kB) := hide (by omega)
  have HZ8 : Hid (∀ j : Nat, z8[j]?.getD 0 ≤ 0) := hide (fun j => by match j with | 0 | 1 | 2 | 3 | 4 | 5 | 6 | 7 => decide | j + 8 => exact Nat.le_refl _)
  have HZP : Hid (∀ j : Nat, (pk zP j).length ≤ 0) := hide (fun j => by match j with | 0 | 1 | 2 | 3 | 4 | 5 | 6 | 7 => decide | j + 8 => exact Nat.le_refl _)
  clear hkP hkB
  go_loopg [10, 11, 12, 13, 14, 15, 16, 17] 200 (fun r i _ _ _ _ _ _ _ wr => ∃ (k : Nat) (S : Nat → Prop) (L : List Wt) (ls B : List Nat) (P : List (List (List Int))) (vs : List Value), k ≤ n ∧ k ≤ 200 ∧ r = 200 - k ∧ i = .int .i64 k ∧ Pw w wr G p S x L ls ∧ Ln wr G S kP kB vs P ∧ Vr wr G S kB (arr B) ∧ Stp wr G ao n c ss ∧ Ord P B L ∧ L.length ≤ k ∧ (∀ j : Nat, ls[j]?.getD 0 ≤ k) ∧ (∀ j : Nat, (pk P j).length ≤ k) ∧ (∀ j : Nat, gt B j ≤ k))
  case atStart => exact ⟨0, _, _, _, _, _, _, Nat.zero_le _, Nat.zero_le _, rfl, rfl, HP.out, ln_start HA.out, HC.out, HS.out, ord_start, Nat.zero_le _, HZ8.out, HZP.out, HZ8.out⟩
  case round =>
    obtain ⟨k, S1, L, ls, B, P, vs, hk, hk3, hr, rfl, hP, hA, hB, hS, hU, hL, hls, hla, hlb⟩ := hrel
    clear HP HA HC HS HZ8 HZP
    have HP := hide hP
    have HA := hide hA
    have HC := hide hB
    have HS := hide hS
    have HU := hide hU
    have HL := hide hL
    have HLS := hide hls
    have HLA := hide hla
    have HLB := hide hlb
    have HRK := hide hr
    clear hP hA hB hS hU hL hls hla hlb hr
    by_cases hcont : k < n ∧ k < 200
    · obtain ⟨hkn, hk200⟩ := hcont
      obtain ⟨s, hs⟩ : ∃ s, ss[k]? = some s := ⟨_, List.getElem?_eq_getElem (by rw [HSL.out]; exact hkn)⟩
      obtain ⟨b0, o0, ab, nb, cb, rfl, hbG, hA, hY, hnb⟩ := HS.out.cell k s hs
      have hk2 : (k : Int) < (n : Int) := by omega
      have hk4 : (k : Int) < 200 := by omega
      have e1 : IntKind.i64.wrap ((k : Int) + 1) = (k : Int) + 1 := IntWalk.i64_in _ (by omega)
      have d0 := hA 0 _ rfl
      have d1 := hA 1 _ rfl
      have d2 := hA 2 _ rfl
      rw [Nat.add_zero] at d0
      have HNB := hide hnb
      have bS := below_alloc wr (.cells #[.int .i64 s.d, .int .i64 s.k, .slice ab nb cb] 34)
      have HX := hide (Box.new wr [.int .i64 s.d, .int .i64 s.k, .slice ab nb cb] 34)
      have HY := hide (hY.low (bS.mono HP.out.sz))
      have HP1 := hide (HP.out.on bS)
      have HA1 := hide (HA.out.on bS)
      have HC1 := hide (HC.out.on bS)
      have HS1 := hide (HS.out.below (bS.mono HP.out.sz))
      have c0 := HX.out.cell 0 _ rfl
      have HKX : Hid (G ≤ wr.heap.size ∧ ¬ S1 wr.heap.size ∧ kP < wr.heap.size ∧ kB < wr.heap.size) := hide ⟨HP.out.sz, fun h => by have := HP.out.P.sz _ h; omega, HA.out.v.bx.lt, HC.out.bx.lt⟩
      have HKR : Hid (∀ (j : Nat) (v : Value), vs[j]? = some v → ∀ b, v.ownBlock = some b → b < wr.heap.size) := hide (fun j v hv b hb => (row_lt (HA.out.row j v hv) hb).2)
      clear hs hA hY hnb hbG bS HP HA HC HS
      go_upto_block 2 with fail
      clear c0 d0 d1 d2
      rcases Bool.eq_false_or_eq_true (s.d == 0) with t0 | t0
      · have c1 := HX.out.cell 1 _ rfl
        have c2 := HX.out.cell 2 _ rfl
        go_wp2_with fail
        refine (putQ p S1 x L ls s.k (fun i => i < G) ab nb cb s.b _ HP1.out.P (by have := HL.out; omega) (fun j => by have := HLS.out j; omega) HY.out HNB.out).mono ?_
        rintro e w4 ⟨rfl, ⟨S4, P4, hS4⟩, C4⟩
        have hx9 := HX.out.block (C4.block _ HX.out.lt HKX.out.2.1)
        have HX4 := hide hx9
        have HA4 := hide (HA1.out.prog C4 hS4)
        have HC4 := hide (HC1.out.prog C4 hS4)
        have HS4 := hide (HS1.out.below (HP1.out.low C4))
        have HY4 := hide (HY.out.low (HP1.out.low C4))
        have HP4 := hide (HP1.out.prog C4 P4 hS4)
        have c1 := hx9.cell 1 _ rfl
        have c2 := hx9.cell 2 _ rfl
        clear P4 hS4 C4 hx9 HP1 HA1 HC1 HS1 HX HY
        by_cases hE0 : pE x L s.k = 0
        · have hk9 : isC s.k = true := by
            rcases Bool.eq_false_or_eq_true (isC s.k) with h | h
            · exact h
            · rw [pE_out h] at hE0; cases hE0
          have hkk := isC_iff.1 hk9
          obtain ⟨q, hq⟩ := Int.eq_ofNat_of_zero_le hkk.1
          have hq8 : q < 8 := by omega
          have eL : pL x L s.k s.b = L ++ [⟨(q : Int), s.b⟩] := by unfold pL; rw [if_pos hE0, hq]
          have eG : pG x L ls s.k = ls := by unfold pG; rw [hE0, if_neg (by decide)]
          rw [hE0]
          rw [eL, eG] at HP4
          rw [hq] at c1
          have n1 : (0 : Int) ≤ (q : Int) := by omega
          have n3 : (q : Int) < 8 := by omega
          have HQ8 := hide hq8
          clear hE0 hkk hk9 hq eL eG hq8
          go_wp2_with fail
          refine wp_region_held_drew (S := fun w' => w'.cell? ⟨wr.heap.size, 1, none⟩ = some (.int .i64 (q : Int)) ∧ w'.cell? ⟨wr.heap.size, 2, none⟩ = some (.slice ab nb cb) ∧ Byt w' ab nb cb s.b) (by kernel_rfl) ⟨c1, c2, HY4.out.b.drew⟩ (fun hHeld => ?_)
          have bd : Below w4.heap.size w4 w4.drew := (Below.refl _ w4).drew
          replace HA4 := hide (HA4.out.on bd)
          replace HC4 := hide (HC4.out.on bd)
          replace HS4 := hide (HS4.out.below (bd.mono HP4.out.sz))
          replace HY4 := hide (HY4.out.low (bd.mono HP4.out.sz))
          replace HX4 := hide (HX4.out.on bd)
          replace HP4 := hide (HP4.out.on bd)
          clear bd c1 c2
          generalize w4.drew = u0 at *
          obtain ⟨av, cv, hv⟩ := HA4.out.form HQ8.out
          have HV := hide hv
          clear hv
          refine wpAnyH_take (i := 0) (v := .pointer (some ⟨wr.heap.size, 1, none⟩)) rfl (by kernel_rfl) (by kernel_rfl) (by kernel_rfl) (fun _ _ _ h => h) (Or.inl ⟨by rfl, ?_⟩) hHeld ?_
          · intro W hW; (try dsimp only at hW); go_simp
          change wpAnyH _ _ _ _ _ _ _ ⟨#[_,_,_,_,_,_,_,_,.pointer (some ⟨kP, 0, none⟩),_,_,.pointer (some ⟨wr.heap.size, 0, none⟩),_,_,_,_,_,_,_,_,_,_,_,_,_,_,_,_,_,_,_,_,_,_,_,_,_,_,_,_,_,_,_,_,_,_,_,_,_,_,_,_,_,_,_,_,_,_,_,_,_,_,_,_,_,_,_,_,_,.pointer (some ⟨wr.heap.size, 1, none⟩),_,_,_,_,_,_,_,_,_,_,_,_,_,_,_,_,_,_,_,_,_,_,_,_,_,_,_,_,_,_,_,_,_,_,_,_,_,_,_,_,_,_,_,_,_,_,_,_,_,_,_,_,_,_,_,_,_,_,_,_,_,_,_,_,_,_,_,_,_,_,_,_,_,_,_,_,_,_,_,_,_], []⟩ _
          refine wpAnyH_take (i := 1) (v := .int .i64 (q : Int)) rfl (by kernel_rfl) (by kernel_rfl) (by kernel_rfl) (fun _ _ _ h => h) (Or.inl ⟨by rfl, ?_⟩) hHeld ?_
          · intro W hW; (try dsimp only at hW); have hc := hW.1; clear hW; go_simp
          change wpAnyH _ _ _ _ _ _ _ ⟨#[_,_,_,_,_,_,_,_,.pointer (some ⟨kP, 0, none⟩),_,_,.pointer (some ⟨wr.heap.size, 0, none⟩),_,_,_,_,_,_,_,_,_,_,_,_,_,_,_,_,_,_,_,_,_,_,_,_,_,_,_,_,_,_,_,_,_,_,_,_,_,_,_,_,_,_,_,_,_,_,_,_,_,_,_,_,_,_,_,_,_,.pointer (some ⟨wr.heap.size, 1, none⟩),.int .i64 (q : Int),_,_,_,_,_,_,_,_,_,_,_,_,_,_,_,_,_,_,_,_,_,_,_,_,_,_,_,_,_,_,_,_,_,_,_,_,_,_,_,_,_,_,_,_,_,_,_,_,_,_,_,_,_,_,_,_,_,_,_,_,_,_,_,_,_,_,_,_,_,_,_,_,_,_,_,_,_,_,_,_], []⟩ _
          refine wpAnyH_take (i := 2) (v := .pointer (some ⟨wr.heap.size, 1, none⟩)) rfl (by kernel_rfl) (by kernel_rfl) (by kernel_rfl) (fun _ _ _ h => h) (Or.inl ⟨by rfl, ?_⟩) hHeld ?_
          · intro W hW; (try dsimp only at hW); go_simp
          change wpAnyH _ _ _ _ _ _ _ ⟨#[_,_,_,_,_,_,_,_,.pointer (some ⟨kP, 0, none⟩),_,_,.pointer (some ⟨wr.heap.size, 0, none⟩),_,_,_,_,_,_,_,_,_,_,_,_,_,_,_,_,_,_,_,_,_,_,_,_,_,_,_,_,_,_,_,_,_,_,_,_,_,_,_,_,_,_,_,_,_,_,_,_,_,_,_,_,_,_,_,_,_,.pointer (some ⟨wr.heap.size, 1, none⟩),.int .i64 (q : Int),.pointer (some ⟨wr.heap.size, 1, none⟩),_,_,_,_,_,_,_,_,_,_,_,_,_,_,_,_,_,_,_,_,_,_,_,_,_,_,_,_,_,_,_,_,_,_,_,_,_,_,_,_,_,_,_,_,_,_,_,_,_,_,_,_,_,_,_,_,_,_,_,_,_,_,_,_,_,_,_,_,_,_,_,_,_,_,_,_,_,_,_], []⟩ _
          refine wpAnyH_take (i := 3) (v := .int .i64 (q : Int)) rfl (by kernel_rfl) (by kernel_rfl) (by kernel_rfl) (fun _ _ _ h => h) (Or.inl ⟨by rfl, ?_⟩) hHeld ?_
          · intro W hW; (try dsimp only at hW); have hc := hW.1; clear hW; go_simp
          change wpAnyH _ _ _ _ _ _ _ ⟨#[_,_,_,_,_,_,_,_,.pointer (some ⟨kP, 0, none⟩),_,_,.pointer (some ⟨wr.heap.size, 0, none⟩),_,_,_,_,_,_,_,_,_,_,_,_,_,_,_,_,_,_,_,_,_,_,_,_,_,_,_,_,_,_,_,_,_,_,_,_,_,_,_,_,_,_,_,_,_,_,_,_,_,_,_,_,_,_,_,_,_,.pointer (some ⟨wr.heap.size, 1, none⟩),.int .i64 (q : Int),.pointer (some ⟨wr.heap.size, 1, none⟩),.int .i64 (q : Int),_,_,_,_,_,_,_,_,_,_,_,_,_,_,_,_,_,_,_,_,_,_,_,_,_,_,_,_,_,_,_,_,_,_,_,_,_,_,_,_,_,_,_,_,_,_,_,_,_,_,_,_,_,_,_,_,_,_,_,_,_,_,_,_,_,_,_,_,_,_,_,_,_,_,_,_,_,_], []⟩ _
          refine wpAnyH_take (i := 4) (v := .pointer (some ⟨kP, q, none⟩)) rfl (by kernel_rfl) (by kernel_rfl) (by kernel_rfl) (fun _ _ _ h => h) (Or.inl ⟨by rfl, ?_⟩) hHeld ?_
          · intro W hW; (try dsimp only at hW); go_simp
          change wpAnyH _ _ _ _ _ _ _ ⟨#[_,_,_,_,_,_,_,_,.pointer (some ⟨kP, 0, none⟩),_,_,.pointer (some ⟨wr.heap.size, 0, none⟩),_,_,_,_,_,_,_,_,_,_,_,_,_,_,_,_,_,_,_,_,_,_,_,_,_,_,_,_,_,_,_,_,_,_,_,_,_,_,_,_,_,_,_,_,_,_,_,_,_,_,_,_,_,_,_,_,_,.pointer (some ⟨wr.heap.size, 1, none⟩),.int .i64 (q : Int),.pointer (some ⟨wr.heap.size, 1, none⟩),.int .i64 (q : Int),.pointer (some ⟨kP, q, none⟩),_,_,_,_,_,_,_,_,_,_,_,_,_,_,_,_,_,_,_,_,_,_,_,_,_,_,_,_,_,_,_,_,_,_,_,_,_,_,_,_,_,_,_,_,_,_,_,_,_,_,_,_,_,_,_,_,_,_,_,_,_,_,_,_,_,_,_,_,_,_,_,_,_,_,_,_,_], []⟩ _
          refine wpAnyH_take (i := 6) (v := .pointer (some ⟨wr.heap.size, 2, none⟩)) rfl (by kernel_rfl) (by kernel_rfl) (by kernel_rfl) (fun _ _ _ h => h) (Or.inl ⟨by rfl, ?_⟩) hHeld ?_
          · intro W hW; (try dsimp only at hW); go_simp
          change wpAnyH _ _ _ _ _ _ _ ⟨#[_,_,_,_,_,_,_,_,.pointer (some ⟨kP, 0, none⟩),_,_,.pointer (some ⟨wr.heap.size, 0, none⟩),_,_,_,_,_,_,_,_,_,_,_,_,_,_,_,_,_,_,_,_,_,_,_,_,_,_,_,_,_,_,_,_,_,_,_,_,_,_,_,_,_,_,_,_,_,_,_,_,_,_,_,_,_,_,_,_,_,.pointer (some ⟨wr.heap.size, 1, none⟩),.int .i64 (q : Int),.pointer (some ⟨wr.heap.size, 1, none⟩),.int .i64 (q : Int),.pointer (some ⟨kP, q, none⟩),_,.pointer (some ⟨wr.heap.size, 2, none⟩),_,_,_,_,_,_,_,_,_,_,_,_,_,_,_,_,_,_,_,_,_,_,_,_,_,_,_,_,_,_,_,_,_,_,_,_,_,_,_,_,_,_,_,_,_,_,_,_,_,_,_,_,_,_,_,_,_,_,_,_,_,_,_,_,_,_,_,_,_,_,_,_,_,_,_], []⟩ _
          refine wpAnyH_take (i := 7) (v := .slice ab nb cb) rfl (by kernel_rfl) (by kernel_rfl) (by kernel_rfl) (fun _ _ _ h => h) (Or.inl ⟨by rfl, ?_⟩) hHeld ?_
          · intro W hW; (try dsimp only at hW); have hc := hW.2.1; clear hW; go_simp
          change wpAnyH _ _ _ _ _ _ _ ⟨#[_,_,_,_,_,_,_,_,.pointer (some ⟨kP, 0, none⟩),_,_,.pointer (some ⟨wr.heap.size, 0, none⟩),_,_,_,_,_,_,_,_,_,_,_,_,_,_,_,_,_,_,_,_,_,_,_,_,_,_,_,_,_,_,_,_,_,_,_,_,_,_,_,_,_,_,_,_,_,_,_,_,_,_,_,_,_,_,_,_,_,.pointer (some ⟨wr.heap.size, 1, none⟩),.int .i64 (q : Int),.pointer (some ⟨wr.heap.size, 1, none⟩),.int .i64 (q : Int),.pointer (some ⟨kP, q, none⟩),_,.pointer (some ⟨wr.heap.size, 2, none⟩),.slice ab nb cb,_,_,_,_,_,_,_,_,_,_,_,_,_,_,_,_,_,_,_,_,_,_,_,_,_,_,_,_,_,_,_,_,_,_,_,_,_,_,_,_,_,_,_,_,_,_,_,_,_,_,_,_,_,_,_,_,_,_,_,_,_,_,_,_,_,_,_,_,_,_,_,_,_,_], []⟩ _
          refine wpAnyH_take (i := 8) (v := .string (bs s.b)) rfl (by kernel_rfl) (by kernel_rfl) (by kernel_rfl) (fun _ _ _ h => h) (Or.inl ⟨by rfl, ?_⟩) hHeld ?_
          · intro W hW; (try dsimp only at hW); have hc := bytStr hW.2.2; clear hW; go_simp
          change wpAnyH _ _ _ _ _ _ _ ⟨#[_,_,_,_,_,_,_,_,.pointer (some ⟨kP, 0, none⟩),_,_,.pointer (some ⟨wr.heap.size, 0, none⟩),_,_,_,_,_,_,_,_,_,_,_,_,_,_,_,_,_,_,_,_,_,_,_,_,_,_,_,_,_,_,_,_,_,_,_,_,_,_,_,_,_,_,_,_,_,_,_,_,_,_,_,_,_,_,_,_,_,.pointer (some ⟨wr.heap.size, 1, none⟩),.int .i64 (q : Int),.pointer (some ⟨wr.heap.size, 1, none⟩),.int .i64 (q : Int),.pointer (some ⟨kP, q, none⟩),_,.pointer (some ⟨wr.heap.size, 2, none⟩),.slice ab nb cb,.string (bs s.b),_,_,_,_,_,_,_,_,_,_,_,_,_,_,_,_,_,_,_,_,_,_,_,_,_,_,_,_,_,_,_,_,_,_,_,_,_,_,_,_,_,_,_,_,_,_,_,_,_,_,_,_,_,_,_,_,_,_,_,_,_,_,_,_,_,_,_,_,_,_,_,_,_], []⟩ _
          refine wpAnyH_ready (rs := [5, 9]) (by kernel_rfl) (by simp) ?_
          refine AllReadyH.cons rfl (fun K hK => ?_) (AllReadyH.cons rfl (fun K hK => ?_) AllReadyH.nil)
          · have cP := HA4.out.v.bx.cell q _ HV.out
            go_simp
            refine hK.out _ _ hHeld (fun hHeld => ?_)
            clear hK K cP
            change wpAnyH _ _ _ _ _ _ _ ⟨#[_,_,_,_,_,_,_,_,.pointer (some ⟨kP, 0, none⟩),_,_,.pointer (some ⟨wr.heap.size, 0, none⟩),_,_,_,_,_,_,_,_,_,_,_,_,_,_,_,_,_,_,_,_,_,_,_,_,_,_,_,_,_,_,_,_,_,_,_,_,_,_,_,_,_,_,_,_,_,_,_,_,_,_,_,_,_,_,_,_,_,.pointer (some ⟨wr.heap.size, 1, none⟩),.int .i64 (q : Int),.pointer (some ⟨wr.heap.size, 1, none⟩),.int .i64 (q : Int),.pointer (some ⟨kP, q, none⟩),.slice av (pk P q).length cv,.pointer (some ⟨wr.heap.size, 2, none⟩),.slice ab nb cb,.string (bs s.b),_,_,_,_,_,_,_,_,_,_,_,_,_,_,_,_,_,_,_,_,_,_,_,_,_,_,_,_,_,_,_,_,_,_,_,_,_,_,_,_,_,_,_,_,_,_,_,_,_,_,_,_,_,_,_,_,_,_,_,_,_,_,_,_,_,_,_,_,_,_,_,_,_], []⟩ _
            refine wpAnyH_ready (rs := [9]) (by kernel_rfl) (by simp) ?_
            refine AllReadyH.cons rfl (fun K hK => ?_) AllReadyH.nil
            rw [if_pos (by rfl)]
            refine wp_bsS (.tmp 77) (bs s.b) rfl rfl ?_
            have bU := below_alloc u0 (.cells #[.string (bs s.b)] 9)
            have hB0 : (u0.alloc (.cells #[.string (bs s.b)] 9)).cell? ⟨u0.heap.size, 0, none⟩ = some (.string (bs s.b)) := World.cell?_alloc_at _ _ _ _ rfl
            obtain ⟨kS, hkS⟩ : ∃ kS, kS = u0.heap.size := ⟨_, rfl⟩
            rw [← hkS] at hB0 ⊢
            refine hK.out _ _ ⟨(bU.cell (p := ⟨wr.heap.size, 1, none⟩) HX4.out.lt).trans hHeld.1, (bU.cell (p := ⟨wr.heap.size, 2, none⟩) HX4.out.lt).trans hHeld.2.1, hHeld.2.2.on bU⟩ (fun hHeld => ?_)
            clear hK K
            replace HA4 := hide (HA4.out.on bU)
            replace HC4 := hide (HC4.out.on bU)
            replace HS4 := hide (HS4.out.below (bU.mono HP4.out.sz))
            replace HX4 := hide (HX4.out.on bU)
            replace HY4 := hide (HY4.out.low (bU.mono HP4.out.sz))
            replace HP4 := hide (HP4.out.on bU)
            have HB0 := hide hB0
            clear bU hB0 hkS
            generalize u0.alloc (.cells #[.string (bs s.b)] 9) = u1 at *
            change wpAnyH _ _ _ _ _ _ _ ⟨#[_,_,_,_,_,_,_,_,.pointer (some ⟨kP, 0, none⟩),_,_,.pointer (some ⟨wr.heap.size, 0, none⟩),_,_,_,_,_,_,_,_,_,_,_,_,_,_,_,_,_,_,_,_,_,_,_,_,_,_,_,_,_,_,_,_,_,_,_,_,_,_,_,_,_,_,_,_,_,_,_,_,_,_,_,_,_,_,_,_,_,.pointer (some ⟨wr.heap.size, 1, none⟩),.int .i64 (q : Int),.pointer (some ⟨wr.heap.size, 1, none⟩),.int .i64 (q : Int),.pointer (some ⟨kP, q, none⟩),.slice av (pk P q).length cv,.pointer (some ⟨wr.heap.size, 2, none⟩),.slice ab nb cb,.string (bs s.b),.slice (some ⟨kS, 0, none⟩) 1 1,_,_,_,_,_,_,_,_,_,_,_,_,_,_,_,_,_,_,_,_,_,_,_,_,_,_,_,_,_,_,_,_,_,_,_,_,_,_,_,_,_,_,_,_,_,_,_,_,_,_,_,_,_,_,_,_,_,_,_,_,_,_,_,_,_,_,_,_,_,_,_,_], []⟩ _
            refine wpAnyH_ready (rs := [10]) (by kernel_rfl) (by simp) ?_
            refine AllReadyH.cons rfl (fun K hK => ?_) AllReadyH.nil
            rw [if_pos (by rfl)]
            refine wp_sapp rfl (.tmp 74) (.tmp 78) rfl G _ _ (pk P q) rfl (HA4.out.row q _ HV.out) kS s.b rfl HB0.out (by have := HLA.out q; omega) HP4.out.sz ?_
            intro v5 w5 R5 G5 A5
            obtain ⟨ao5, c5, rfl⟩ := own_formW R5
            have hne : ∀ i, (Value.slice av (pk P q).length cv).ownBlock = some i → i ≠ wr.heap.size ∧ G ≤ i := fun i hi => ⟨by have := HKR.out q _ HV.out i hi; omega, (row_lt (HA4.out.row q _ HV.out) hi).1⟩
            have x5 : Box w5 wr.heap.size [.int .i64 s.d, .int .i64 s.k, .slice ab nb cb] := HX4.out.block (G5.block _ HX4.out.lt (fun e => (hne _ e.symm).1 rfl))
            have hq5 : (Value.int .i64 s.k) = .int .i64 (q : Int) := by
              have h1 := HX4.out.cell 1 _ rfl
              rw [hHeld.1] at h1
              exact (Option.some.inj h1).symm
            have low5 : Below G u1 w5 := (Below.refl _ _).grown G5 HP4.out.sz (fun r hr => (hne r hr).2)
            refine hK.out _ _ ⟨by rw [x5.cell 1 _ rfl, hq5], x5.cell 2 _ rfl, (HY4.out.low low5).b⟩ (fun hHeld => ?_)
            clear hK K
            have HX5 := hide x5
            have HY5 := hide (HY4.out.low low5)
            have HS5 := hide (HS4.out.below low5)
            have HLOW := hide low5
            have HR5 := hide R5
            have HG5 := hide G5
            have HA5 := hide A5
            clear x5 hq5 R5 G5 A5 low5
            change wpAnyH _ _ _ _ _ _ _ ⟨#[_,_,_,_,_,_,_,_,.pointer (some ⟨kP, 0, none⟩),_,_,.pointer (some ⟨wr.heap.size, 0, none⟩),_,_,_,_,_,_,_,_,_,_,_,_,_,_,_,_,_,_,_,_,_,_,_,_,_,_,_,_,_,_,_,_,_,_,_,_,_,_,_,_,_,_,_,_,_,_,_,_,_,_,_,_,_,_,_,_,_,.pointer (some ⟨wr.heap.size, 1, none⟩),.int .i64 (q : Int),.pointer (some ⟨wr.heap.size, 1, none⟩),.int .i64 (q : Int),.pointer (some ⟨kP, q, none⟩),.slice av (pk P q).length cv,.pointer (some ⟨wr.heap.size, 2, none⟩),.slice ab nb cb,.string (bs s.b),.slice (some ⟨kS, 0, none⟩) 1 1,.slice ao5 ((pk P q).length + 1) c5,_,_,_,_,_,_,_,_,_,_,_,_,_,_,_,_,_,_,_,_,_,_,_,_,_,_,_,_,_,_,_,_,_,_,_,_,_,_,_,_,_,_,_,_,_,_,_,_,_,_,_,_,_,_,_,_,_,_,_,_,_,_,_,_,_,_,_,_,_,_,_], []⟩ _
            refine wpAnyH_take (i := 11) (v := .pointer (some ⟨kP, q, none⟩)) rfl (by kernel_rfl) (by kernel_rfl) (by kernel_rfl) (fun _ _ _ h => h) (Or.inl ⟨by rfl, ?_⟩) hHeld ?_
            · intro W hW; (try dsimp only at hW); go_simp
            change wpAnyH _ _ _ _ _ _ _ ⟨#[_,_,_,_,_,_,_,_,.pointer (some ⟨kP, 0, none⟩),_,_,.pointer (some ⟨wr.heap.size, 0, none⟩),_,_,_,_,_,_,_,_,_,_,_,_,_,_,_,_,_,_,_,_,_,_,_,_,_,_,_,_,_,_,_,_,_,_,_,_,_,_,_,_,_,_,_,_,_,_,_,_,_,_,_,_,_,_,_,_,_,.pointer (some ⟨wr.heap.size, 1, none⟩),.int .i64 (q : Int),.pointer (some ⟨wr.heap.size, 1, none⟩),.int .i64 (q : Int),.pointer (some ⟨kP, q, none⟩),.slice av (pk P q).length cv,.pointer (some ⟨wr.heap.size, 2, none⟩),.slice ab nb cb,.string (bs s.b),.slice (some ⟨kS, 0, none⟩) 1 1,.slice ao5 ((pk P q).length + 1) c5,.pointer (some ⟨kP, q, none⟩),_,_,_,_,_,_,_,_,_,_,_,_,_,_,_,_,_,_,_,_,_,_,_,_,_,_,_,_,_,_,_,_,_,_,_,_,_,_,_,_,_,_,_,_,_,_,_,_,_,_,_,_,_,_,_,_,_,_,_,_,_,_,_,_,_,_,_,_,_,_], []⟩ _
            refine wpAnyH_ready (rs := [12]) (by kernel_rfl) (by simp) ?_
            refine AllReadyH.cons rfl (fun K hK => ?_) AllReadyH.nil
            have bx5 : Box w5 kP vs := HA4.out.v.bx.block (HG5.out.block kP HA4.out.v.bx.lt (fun e => (HA4.out.ns q _ HV.out kP e.symm).2.1 rfl))
            have cP5 := bx5.cell q _ HV.out
            have fP5 := bx5.free q (by rw [HA4.out.lv]; exact HQ8.out)
            have g6 := setCell_grown w5 kP q (.slice ao5 ((pk P q).length + 1) c5)
            have hA6 := HA4.out.app HU.out.p HQ8.out HV.out HP4.out.P.sz HC4.out.bx.lt HG5.out HR5.out HA5.out
            have hP5 : Pw w w5 G p S4 x (L ++ [⟨(q : Int), s.b⟩]) ls := ⟨HP4.out.P.keep ⟨HG5.out.size, fun i hi hl => HG5.out.block i hl (fun e => (HA4.out.ns q _ HV.out i e.symm).1 hi)⟩, HP4.out.lo, Nat.le_trans HP4.out.sz HG5.out.size, HP4.out.BB.trans HLOW.out⟩
            have hP6 := hP5.put (q := kP) (k := q) (v := .slice ao5 ((pk P q).length + 1) c5) HA4.out.v.lo HA4.out.v.ns
            have hC5 : Vr w5 G S4 kB (arr B) := ⟨HC4.out.bx.block (HG5.out.block kB HC4.out.bx.lt (fun e => (HA4.out.ns q _ HV.out kB e.symm).2.2 rfl)), HC4.out.lo, HC4.out.ns⟩
            have hC6 := hC5.other (q := kP) (k := q) (v := .slice ao5 ((pk P q).length + 1) c5) (fun e => HNE.out e.symm)
            have hS6 := HS5.out.below (below_of_grown g6 HA4.out.v.lo hP5.sz)
            have x6 := HX5.out.kept (show wr.heap.size ≠ kP by have := HKX.out.2.2.1; omega) g6
            have y6 := HY5.out.low (below_of_grown g6 HA4.out.v.lo hP5.sz)
            have hq6 : (Value.int .i64 s.k) = .int .i64 (q : Int) := by
              have h1 := HX5.out.cell 1 _ rfl
              rw [hHeld.1] at h1
              exact (Option.some.inj h1).symm
            go_simp
            refine hK.out _ _ ⟨by rw [x6.cell 1 _ rfl, hq6], x6.cell 2 _ rfl, y6.b⟩ (fun hHeld => ?_)
            clear hK K
            have HA6 := hide hA6
            have HP6 := hide hP6
            have HC6 := hide hC6
            have HS6 := hide hS6
            have HU6 := hide (ord_put HU.out HQ8.out s.b)
            have HL6 : Hid ((L ++ [(⟨(q : Int), s.b⟩ : Wt)]).length ≤ k + 1) := hide (by rw [List.length_append]; have := HL.out; simp; omega)
            have HLA6 : Hid (∀ j : Nat, (pk (pa P q s.b) j).length ≤ k + 1) := hide (fun j => by
              rw [pk_pa (by rw [HU.out.p]; exact HQ8.out)]
              split
              · rw [List.length_append]; have := HLA.out q; simp; omega
              · have := HLA.out j; omega)
            clear hHeld bx5 cP5 fP5 g6 hA6 hP5 hP6 hC5 hC6 hS6 x6 y6 hq6
            change wpAnyH _ _ _ _ _ _ _ ⟨#[_,_,_,_,_,_,_,_,.pointer (some ⟨kP, 0, none⟩),_,_,.pointer (some ⟨wr.heap.size, 0, none⟩),_,_,_,_,_,_,_,_,_,_,_,_,_,_,_,_,_,_,_,_,_,_,_,_,_,_,_,_,_,_,_,_,_,_,_,_,_,_,_,_,_,_,_,_,_,_,_,_,_,_,_,_,_,_,_,_,_,.pointer (some ⟨wr.heap.size, 1, none⟩),.int .i64 (q : Int),.pointer (some ⟨wr.heap.size, 1, none⟩),.int .i64 (q : Int),.pointer (some ⟨kP, q, none⟩),.slice av (pk P q).length cv,.pointer (some ⟨wr.heap.size, 2, none⟩),.slice ab nb cb,.string (bs s.b),.slice (some ⟨kS, 0, none⟩) 1 1,.slice ao5 ((pk P q).length + 1) c5,.pointer (some ⟨kP, q, none⟩),_,_,_,_,_,_,_,_,_,_,_,_,_,_,_,_,_,_,_,_,_,_,_,_,_,_,_,_,_,_,_,_,_,_,_,_,_,_,_,_,_,_,_,_,_,_,_,_,_,_,_,_,_,_,_,_,_,_,_,_,_,_,_,_,_,_,_,_,_,_], []⟩ _
            refine wpAnyH_done (by kernel_rfl) ?_ _
            go_wp2
            go_roundg (200 - (k + 1))
            case measure => rw [HRK.out]; omega
            case rel => exact ⟨k + 1, S4, _, ls, B, _, _, by omega, by omega, rfl, by go_num, HP6.out, HA6.out, HC6.out, HS6.out, HU6.out, HL6.out, fun j => by have := HLS.out j; omega, HLA6.out, fun j => by have := HLB.out j; omega⟩
          · rw [if_pos (by rfl)]
            refine wp_bsS (.tmp 77) (bs s.b) rfl rfl ?_
            have bU := below_alloc u0 (.cells #[.string (bs s.b)] 9)
            have hB0 : (u0.alloc (.cells #[.string (bs s.b)] 9)).cell? ⟨u0.heap.size, 0, none⟩ = some (.string (bs s.b)) := World.cell?_alloc_at _ _ _ _ rfl
            obtain ⟨kS, hkS⟩ : ∃ kS, kS = u0.heap.size := ⟨_, rfl⟩
            rw [← hkS] at hB0 ⊢
            refine hK.out _ _ ⟨(bU.cell (p := ⟨wr.heap.size, 1, none⟩) HX4.out.lt).trans hHeld.1, (bU.cell (p := ⟨wr.heap.size, 2, none⟩) HX4.out.lt).trans hHeld.2.1, hHeld.2.2.on bU⟩ (fun hHeld => ?_)
            clear hK K
            replace HA4 := hide (HA4.out.on bU)
            replace HC4 := hide (HC4.out.on bU)
            replace HS4 := hide (HS4.out.below (bU.mono HP4.out.sz))
            replace HX4 := hide (HX4.out.on bU)
            replace HY4 := hide (HY4.out.low (bU.mono HP4.out.sz))
            replace HP4 := hide (HP4.out.on bU)
            have HB0 := hide hB0
            clear bU hB0 hkS
            generalize u0.alloc (.cells #[.string (bs s.b)] 9) = u1 at *
            change wpAnyH _ _ _ _ _ _ _ ⟨#[_,_,_,_,_,_,_,_,.pointer (some ⟨kP, 0, none⟩),_,_,.pointer (some ⟨wr.heap.size, 0, none⟩),_,_,_,_,_,_,_,_,_,_,_,_,_,_,_,_,_,_,_,_,_,_,_,_,_,_,_,_,_,_,_,_,_,_,_,_,_,_,_,_,_,_,_,_,_,_,_,_,_,_,_,_,_,_,_,_,_,.pointer (some ⟨wr.heap.size, 1, none⟩),.int .i64 (q : Int),.pointer (some ⟨wr.heap.size, 1, none⟩),.int .i64 (q : Int),.pointer (some ⟨kP, q, none⟩),_,.pointer (some ⟨wr.heap.size, 2, none⟩),.slice ab nb cb,.string (bs s.b),.slice (some ⟨kS, 0, none⟩) 1 1,_,_,_,_,_,_,_,_,_,_,_,_,_,_,_,_,_,_,_,_,_,_,_,_,_,_,_,_,_,_,_,_,_,_,_,_,_,_,_,_,_,_,_,_,_,_,_,_,_,_,_,_,_,_,_,_,_,_,_,_,_,_,_,_,_,_,_,_,_,_,_,_], []⟩ _
            refine wpAnyH_ready (rs := [5]) (by kernel_rfl) (by simp) ?_
            refine AllReadyH.cons rfl (fun K hK => ?_) AllReadyH.nil
            have cP := HA4.out.v.bx.cell q _ HV.out
            go_simp
            refine hK.out _ _ hHeld (fun hHeld => ?_)
            clear hK K cP
            change wpAnyH _ _ _ _ _ _ _ ⟨#[_,_,_,_,_,_,_,_,.pointer (some ⟨kP, 0, none⟩),_,_,.pointer (some ⟨wr.heap.size, 0, none⟩),_,_,_,_,_,_,_,_,_,_,_,_,_,_,_,_,_,_,_,_,_,_,_,_,_,_,_,_,_,_,_,_,_,_,_,_,_,_,_,_,_,_,_,_,_,_,_,_,_,_,_,_,_,_,_,_,_,.pointer (some ⟨wr.heap.size, 1, none⟩),.int .i64 (q : Int),.pointer (some ⟨wr.heap.size, 1, none⟩),.int .i64 (q : Int),.pointer (some ⟨kP, q, none⟩),.slice av (pk P q).length cv,.pointer (some ⟨wr.heap.size, 2, none⟩),.slice ab nb cb,.string (bs s.b),.slice (some ⟨kS, 0, none⟩) 1 1,_,_,_,_,_,_,_,_,_,_,_,_,_,_,_,_,_,_,_,_,_,_,_,_,_,_,_,_,_,_,_,_,_,_,_,_,_,_,_,_,_,_,_,_,_,_,_,_,_,_,_,_,_,_,_,_,_,_,_,_,_,_,_,_,_,_,_,_,_,_,_,_], []⟩ _
            refine wpAnyH_ready (rs := [10]) (by kernel_rfl) (by simp) ?_
            refine AllReadyH.cons rfl (fun K hK => ?_) AllReadyH.nil
            rw [if_pos (by rfl)]
            refine wp_sapp rfl (.tmp 74) (.tmp 78) rfl G _ _ (pk P q) rfl (HA4.out.row q _ HV.out) kS s.b rfl HB0.out (by have := HLA.out q; omega) HP4.out.sz ?_
            intro v5 w5 R5 G5 A5
            obtain ⟨ao5, c5, rfl⟩ := own_formW R5
            have hne : ∀ i, (Value.slice av (pk P q).length cv).ownBlock = some i → i ≠ wr.heap.size ∧ G ≤ i := fun i hi => ⟨by have := HKR.out q _ HV.out i hi; omega, (row_lt (HA4.out.row q _ HV.out) hi).1⟩
            have x5 : Box w5 wr.heap.size [.int .i64 s.d, .int .i64 s.k, .slice ab nb cb] := HX4.out.block (G5.block _ HX4.out.lt (fun e => (hne _ e.symm).1 rfl))
            have hq5 : (Value.int .i64 s.k) = .int .i64 (q : Int) := by
              have h1 := HX4.out.cell 1 _ rfl
              rw [hHeld.1] at h1
              exact (Option.some.inj h1).symm
            have low5 : Below G u1 w5 := (Below.refl _ _).grown G5 HP4.out.sz (fun r hr => (hne r hr).2)
            refine hK.out _ _ ⟨by rw [x5.cell 1 _ rfl, hq5], x5.cell 2 _ rfl, (HY4.out.low low5).b⟩ (fun hHeld => ?_)
            clear hK K
            have HX5 := hide x5
            have HY5 := hide (HY4.out.low low5)
            have HS5 := hide (HS4.out.below low5)
            have HLOW := hide low5
            have HR5 := hide R5
            have HG5 := hide G5
            have HA5 := hide A5
            clear x5 hq5 R5 G5 A5 low5
            change wpAnyH _ _ _ _ _ _ _ ⟨#[_,_,_,_,_,_,_,_,.pointer (some ⟨kP, 0, none⟩),_,_,.pointer (some ⟨wr.heap.size, 0, none⟩),_,_,_,_,_,_,_,_,_,_,_,_,_,_,_,_,_,_,_,_,_,_,_,_,_,_,_,_,_,_,_,_,_,_,_,_,_,_,_,_,_,_,_,_,_,_,_,_,_,_,_,_,_,_,_,_,_,.pointer (some ⟨wr.heap.size, 1, none⟩),.int .i64 (q : Int),.pointer (some ⟨wr.heap.size, 1, none⟩),.int .i64 (q : Int),.pointer (some ⟨kP, q, none⟩),.slice av (pk P q).length cv,.pointer (some ⟨wr.heap.size, 2, none⟩),.slice ab nb cb,.string (bs s.b),.slice (some ⟨kS, 0, none⟩) 1 1,.slice ao5 ((pk P q).length + 1) c5,_,_,_,_,_,_,_,_,_,_,_,_,_,_,_,_,_,_,_,_,_,_,_,_,_,_,_,_,_,_,_,_,_,_,_,_,_,_,_,_,_,_,_,_,_,_,_,_,_,_,_,_,_,_,_,_,_,_,_,_,_,_,_,_,_,_,_,_,_,_,_], []⟩ _
            refine wpAnyH_take (i := 11) (v := .pointer (some ⟨kP, q, none⟩)) rfl (by kernel_rfl) (by kernel_rfl) (by kernel_rfl) (fun _ _ _ h => h) (Or.inl ⟨by rfl, ?_⟩) hHeld ?_
            · intro W hW; (try dsimp only at hW); go_simp
            change wpAnyH _ _ _ _ _ _ _ ⟨#[_,_,_,_,_,_,_,_,.pointer (some ⟨kP, 0, none⟩),_,_,.pointer (some ⟨wr.heap.size, 0, none⟩),_,_,_,_,_,_,_,_,_,_,_,_,_,_,_,_,_,_,_,_,_,_,_,_,_,_,_,_,_,_,_,_,_,_,_,_,_,_,_,_,_,_,_,_,_,_,_,_,_,_,_,_,_,_,_,_,_,.pointer (some ⟨wr.heap.size, 1, none⟩),.int .i64 (q : Int),.pointer (some ⟨wr.heap.size, 1, none⟩),.int .i64 (q : Int),.pointer (some ⟨kP, q, none⟩),.slice av (pk P q).length cv,.pointer (some ⟨wr.heap.size, 2, none⟩),.slice ab nb cb,.string (bs s.b),.slice (some ⟨kS, 0, none⟩) 1 1,.slice ao5 ((pk P q).length + 1) c5,.pointer (some ⟨kP, q, none⟩),_,_,_,_,_,_,_,_,_,_,_,_,_,_,_,_,_,_,_,_,_,_,_,_,_,_,_,_,_,_,_,_,_,_,_,_,_,_,_,_,_,_,_,_,_,_,_,_,_,_,_,_,_,_,_,_,_,_,_,_,_,_,_,_,_,_,_,_,_,_], []⟩ _
            refine wpAnyH_ready (rs := [12]) (by kernel_rfl) (by simp) ?_
            refine AllReadyH.cons rfl (fun K hK => ?_) AllReadyH.nil
            have bx5 : Box w5 kP vs := HA4.out.v.bx.block (HG5.out.block kP HA4.out.v.bx.lt (fun e => (HA4.out.ns q _ HV.out kP e.symm).2.1 rfl))
            have cP5 := bx5.cell q _ HV.out
            have fP5 := bx5.free q (by rw [HA4.out.lv]; exact HQ8.out)
            have g6 := setCell_grown w5 kP q (.slice ao5 ((pk P q).length + 1) c5)
            have hA6 := HA4.out.app HU.out.p HQ8.out HV.out HP4.out.P.sz HC4.out.bx.lt HG5.out HR5.out HA5.out
            have hP5 : Pw w w5 G p S4 x (L ++ [⟨(q : Int), s.b⟩]) ls := ⟨HP4.out.P.keep ⟨HG5.out.size, fun i hi hl => HG5.out.block i hl (fun e => (HA4.out.ns q _ HV.out i e.symm).1 hi)⟩, HP4.out.lo, Nat.le_trans HP4.out.sz HG5.out.size, HP4.out.BB.trans HLOW.out⟩
            have hP6 := hP5.put (q := kP) (k := q) (v := .slice ao5 ((pk P q).length + 1) c5) HA4.out.v.lo HA4.out.v.ns
            have hC5 : Vr w5 G S4 kB (arr B) := ⟨HC4.out.bx.block (HG5.out.block kB HC4.out.bx.lt (fun e => (HA4.out.ns q _ HV.out kB e.symm).2.2 rfl)), HC4.out.lo, HC4.out.ns⟩
            have hC6 := hC5.other (q := kP) (k := q) (v := .slice ao5 ((pk P q).length + 1) c5) (fun e => HNE.out e.symm)
            have hS6 := HS5.out.below (below_of_grown g6 HA4.out.v.lo hP5.sz)
            have x6 := HX5.out.kept (show wr.heap.size ≠ kP by have := HKX.out.2.2.1; omega) g6
            have y6 := HY5.out.low (below_of_grown g6 HA4.out.v.lo hP5.sz)
            have hq6 : (Value.int .i64 s.k) = .int .i64 (q : Int) := by
              have h1 := HX5.out.cell 1 _ rfl
              rw [hHeld.1] at h1
              exact (Option.some.inj h1).symm
            go_simp
            refine hK.out _ _ ⟨by rw [x6.cell 1 _ rfl, hq6], x6.cell 2 _ rfl, y6.b⟩ (fun hHeld => ?_)
            clear hK K
            have HA6 := hide hA6
            have HP6 := hide hP6
            have HC6 := hide hC6
            have HS6 := hide hS6
            have HU6 := hide (ord_put HU.out HQ8.out s.b)
            have HL6 : Hid ((L ++ [(⟨(q : Int), s.b⟩ : Wt)]).length ≤ k + 1) := hide (by rw [List.length_append]; have := HL.out; simp; omega)
            have HLA6 : Hid (∀ j : Nat, (pk (pa P q s.b) j).length ≤ k + 1) := hide (fun j => by
              rw [pk_pa (by rw [HU.out.p]; exact HQ8.out)]
              split
              · rw [List.length_append]; have := HLA.out q; simp; omega
              · have := HLA.out j; omega)
            clear hHeld bx5 cP5 fP5 g6 hA6 hP5 hP6 hC5 hC6 hS6 x6 y6 hq6
            change wpAnyH _ _ _ _ _ _ _ ⟨#[_,_,_,_,_,_,_,_,.pointer (some ⟨kP, 0, none⟩),_,_,.pointer (some ⟨wr.heap.size, 0, none⟩),_,_,_,_,_,_,_,_,_,_,_,_,_,_,_,_,_,_,_,_,_,_,_,_,_,_,_,_,_,_,_,_,_,_,_,_,_,_,_,_,_,_,_,_,_,_,_,_,_,_,_,_,_,_,_,_,_,.pointer (some ⟨wr.heap.size, 1, none⟩),.int .i64 (q : Int),.pointer (some ⟨wr.heap.size, 1, none⟩),.int .i64 (q : Int),.pointer (some ⟨kP, q, none⟩),.slice av (pk P q).length cv,.pointer (some ⟨wr.heap.size, 2, none⟩),.slice ab nb cb,.string (bs s.b),.slice (some ⟨kS, 0, none⟩) 1 1,.slice ao5 ((pk P q).length + 1) c5,.pointer (some ⟨kP, q, none⟩),_,_,_,_,_,_,_,_,_,_,_,_,_,_,_,_,_,_,_,_,_,_,_,_,_,_,_,_,_,_,_,_,_,_,_,_,_,_,_,_,_,_,_,_,_,_,_,_,_,_,_,_,_,_,_,_,_,_,_,_,_,_,_,_,_,_,_,_,_,_], []⟩ _
            refine wpAnyH_done (by kernel_rfl) ?_ _
            go_wp2
            go_roundg (200 - (k + 1))
            case measure => rw [HRK.out]; omega
            case rel => exact ⟨k + 1, S4, _, ls, B, _, _, by omega, by omega, rfl, by go_num, HP6.out, HA6.out, HC6.out, HS6.out, HU6.out, HL6.out, fun j => by have := HLS.out j; omega, HLA6.out, fun j => by have := HLB.out j; omega⟩
        · have eL : pL x L s.k s.b = L := by unfold pL; rw [if_neg hE0]
          obtain ⟨l4, hl4⟩ : ∃ l4, l4 = pG x L ls s.k := ⟨_, rfl⟩
          rw [eL, ← hl4] at HP4
          have HLS4 : Hid (∀ j : Nat, l4[j]?.getD 0 ≤ k + 1) := hide (fun j => by rw [hl4]; have := nG_le (n := x) (L := L) HLS.out ⟨0, s.k, s.b⟩ j; simpa [nG] using this)
          obtain ⟨E, hE⟩ : ∃ E, E = pE x L s.k := ⟨_, rfl⟩
          rw [← hE] at hE0 ⊢
          have hE1 : (E == 0) = false := by simp [hE0]
          clear eL hl4 hE0 hE c1 c2
          go_wp2
          go_roundg (200 - (k + 1))
          case measure => rw [HRK.out]; omega
          case rel => exact ⟨k + 1, S4, L, l4, B, P, vs, by omega, by omega, rfl, by go_num, HP4.out, HA4.out, HC4.out, HS4.out, HU.out, by have := HL.out; omega, HLS4.out, fun j => by have := HLA.out j; omega, fun j => by have := HLB.out j; omega⟩
      rcases Bool.eq_false_or_eq_true (s.d == 1) with t1 | t1
      · cases hbi : bi L L.length with
        | none =>
          obtain rfl : L = [] := List.eq_nil_of_length_eq_zero (bi_none hbi)
          clear hbi
          go_wp2_with fail
          refine (getQ_none p S1 x ls _ HP1.out.P).mono ?_
          rintro e w4 ⟨rfl, ⟨S4, P4, hS4⟩, C4⟩
          have HA4 := hide (HA1.out.prog C4 hS4)
          have HC4 := hide (HC1.out.prog C4 hS4)
          have HS4 := hide (HS1.out.below (HP1.out.low C4))
          have HP4 := hide (HP1.out.prog C4 P4 hS4)
          have HALL := hide (ord_all HU.out)
          clear P4 hS4 C4 HP1 HA1 HC1 HS1 HX HY
          go_wp2_with fail
          go_loopg [16] 8 (fun r i wr => ∃ q : Nat, q ≤ 8 ∧ r = 8 - q ∧ i = .int .i64 q ∧ Pw w wr G p S4 x [] ls ∧ Ln wr G S4 kP kB vs P ∧ Vr wr G S4 kB (arr B) ∧ Stp wr G (some ⟨b0, o0, none⟩) n c ss)
          case atStart => exact ⟨0, Nat.zero_le _, rfl, rfl, HP4.out, HA4.out, HC4.out, HS4.out⟩
          case round =>
            obtain ⟨q, hq, hr, rfl, hP, hA, hB, hS⟩ := hrel
            clear HP4 HA4 HC4 HS4
            have HP := hide hP
            have HA := hide hA
            have HC := hide hB
            have HS := hide hS
            have HRQ := hide hr
            clear hP hA hB hS hr
            by_cases hc : q < 8
            · have hq2 : (q : Int) < 8 := by omega
              have n1 : (0 : Int) ≤ (q : Int) := by omega
              have e2 : IntKind.i64.wrap ((q : Int) + 1) = (q : Int) + 1 := IntWalk.i64_in _ (by omega)
              obtain ⟨av, cv, hv⟩ := HA.out.form hc
              have cP := HA.out.v.bx.cell q _ hv
              have cB := HC.out.bx.cell q _ (arr_at (by rw [HU.out.b]; exact hc))
              rw [HALL.out q hc] at cB
              obtain ⟨y, hy⟩ : ∃ y, y = (pk P q).length := ⟨_, rfl⟩
              rw [← hy] at cP cB
              clear hv hy
              go_wp2_with fail
              go_quiet (fail)
              have bd : Below wr.heap.size wr (wr.drewN nq) := belowN (Below.refl _ _) nq
              have HP9 := hide (HP.out.on bd)
              have HA9 := hide (HA.out.on bd)
              have HC9 := hide (HC.out.on bd)
              have HS9 := hide (HS.out.below (bd.mono HP.out.sz))
              clear bd cP cB HP HA HC HS
              go_wp2
              go_roundg (8 - (q + 1))
              case measure => rw [HRQ.out]; omega
              case rel => exact ⟨q + 1, by omega, rfl, by go_num, HP9.out, HA9.out, HC9.out, HS9.out⟩
            · have hq2 : ¬ (q : Int) < 8 := by omega
              clear hc
              go_wp2
              go_roundg (200 - (k + 1))
              case measure => rw [HRK.out]; omega
              case rel => exact ⟨k + 1, S4, [], ls, B, P, vs, by omega, by omega, rfl, by go_num, HP.out, HA.out, HC.out, HS.out, HU.out, by simp, fun j => by have := HLS.out j; omega, fun j => by have := HLA.out j; omega, fun j => by have := HLB.out j; omega⟩
        | some j =>
          obtain ⟨y, hy⟩ : ∃ y, L[j]? = some y := ⟨_, List.getElem?_eq_getElem (bi_some hbi).lt⟩
          have hkk := isC_iff.1 (HP1.out.P.cls y (List.mem_of_getElem? hy))
          obtain ⟨q, hq⟩ := Int.eq_ofNat_of_zero_le hkk.1
          have hq8 : q < 8 := by omega
          obtain ⟨u1, u2, u3⟩ := ord_get HU.out hbi hy hq hq8
          have HU1 := hide u1
          have HU2 := hide u2
          have HU3 := hide u3
          have HJ := hide hbi
          have HYY := hide hy
          have HL4 : Hid ((L.eraseIdx j).length ≤ k + 1) := hide (by rw [List.length_eraseIdx]; have := HL.out; split <;> omega)
          have HLB4 : Hid (∀ i : Nat, gt (up1 B q) i ≤ k + 1) := hide (fun i => by rw [gt_up (by rw [HU.out.b]; exact hq8)]; have := HLB.out i; split <;> omega)
          clear hbi hy u1 u2 u3
          go_wp2_with fail
          refine (getQ_some p S1 x L ls y j _ HP1.out.P (by have := HL.out; omega) HJ.out HYY.out).mono ?_
          rintro e w4 ⟨⟨a4, n4, c4, rfl, Y4⟩, ⟨S4, P4, hS4⟩, C4⟩
          have HA4 := hide (HA1.out.prog C4 hS4)
          have HC4 := hide (HC1.out.prog C4 hS4)
          have HS4 := hide (HS1.out.below (HP1.out.low C4))
          have HP4 := hide (HP1.out.prog C4 P4 hS4)
          have hcv := bytStr Y4.b
          have hcw : ∀ z, (convert 32 9 (.slice a4 n4 c4)).run Try.prog (w4.drewN z) = .ok (.string (bs y.b)) (w4.drewN z) := fun z => bytStr (Y4.b.drewN z)
          have hb0 := bs_beq_self y.b
          rw [hq]
          have n1 : (0 : Int) ≤ (q : Int) := by omega
          have n2 : ¬ (q : Int) < 0 := by omega
          have n3 : (q : Int) < 8 := by omega
          have n4' : ¬ (7 : Int) < (q : Int) := by omega
          have m1 : decide ((q : Int) < 0) = false := by simp
          have m2 : decide ((7 : Int) < (q : Int)) = false := by simp; omega
          have m2' : decide (7 < q) = false := by simp; omega
          obtain ⟨av, cv, hv⟩ := HA4.out.form hq8
          obtain ⟨kq, rfl, cs⟩ := HA4.out.str hv HU1.out
          have cP := HA4.out.v.bx.cell q _ hv
          have cB := HC4.out.bx.cell q _ (arr_at (by rw [HU.out.b]; exact hq8))
          have hlt := (List.getElem?_eq_some_iff.1 HU1.out).1
          obtain ⟨t, ht⟩ : ∃ t, t = gt B q := ⟨_, rfl⟩
          obtain ⟨l9, hl9⟩ : ∃ l9, l9 = (pk P q).length := ⟨_, rfl⟩
          rw [← ht] at cB cs hlt
          rw [← hl9] at cP hlt
          have m3 : decide ((l9 : Int) ≤ (t : Int)) = false := by simp; omega
          have m3' : decide (l9 ≤ t) = false := by simp; omega
          have n5 : (0 : Int) ≤ (t : Int) := by omega
          have n6 : (t : Int) < (l9 : Int) := by omega
          have HT := hide ht
          have HV := hide hv
          have HQ8 := hide hq8
          have HL9 := hide hl9
          clear P4 hS4 C4 HP1 HA1 HC1 HS1 HX HY Y4 hkk hq hv ht hl9 hq8 hlt
          go_wp2_with fail
          go_quiet (fail)
          have bd : Below w4.heap.size w4 (w4.drewN nq) := belowN (Below.refl _ _) nq
          have HP5 := hide (HP4.out.on bd)
          have HA5 := hide (HA4.out.on bd)
          have HC5 := hide (HC4.out.on bd)
          have HS5 := hide (HS4.out.below (bd.mono HP4.out.sz))
          clear bd cP cB cs hcv hcw HP4 HA4 HC4 HS4 m1 m2 m2' m3 m3' n5 n6 hb0
          generalize w4.drewN nq = u5 at *
          have cB := HC5.out.bx.cell q _ (arr_at (by rw [HU.out.b]; exact HQ8.out))
          have fB := HC5.out.bx.free q (by rw [arr_length, HU.out.b]; exact HQ8.out)
          have HCU := HC5.out.up (k := q) (by rw [HU.out.b]; exact HQ8.out)
          have HPU := hide (HP5.out.put (k := q) (v := .int .i64 ((gt B q : Nat) + 1 : Int)) HC5.out.lo HC5.out.ns)
          have HAU := hide (HA5.out.count (q := q) (u := .int .i64 ((gt B q : Nat) + 1 : Int)) HNE.out)
          have HSU := hide (HS5.out.below (below_of_grown (setCell_grown u5 kB q (.int .i64 ((gt B q : Nat) + 1 : Int))) HC5.out.lo HP5.out.sz))
          rw [← HT.out] at cB HCU HPU HAU HSU
          have HCV := hide HCU
          have e2 : IntKind.i64.wrap ((t : Int) + 1) = (t : Int) + 1 := IntWalk.i64_in _ (by have := HLB.out q; rw [← HT.out] at this; omega)
          have e3 : IntKind.i64.wrap ((q : Int) + 1) = (q : Int) + 1 := IntWalk.i64_in _ (by omega)
          clear HCU HA5 HC5 HS5 HP5
          go_wp2
          generalize u5.setCell ⟨kB, q, none⟩ (.int .i64 ((t : Int) + 1)) = u6 at *
          go_loopg [17] (8 - (q + 1)) (fun r i wr => ∃ m : Nat, q < m ∧ m ≤ 8 ∧ r = 8 - m ∧ i = .int .i64 m ∧ Pw w wr G p S4 x (L.eraseIdx j) ls ∧ Ln wr G S4 kP kB vs P ∧ Vr wr G S4 kB (arr (up1 B q)) ∧ Stp wr G (some ⟨b0, o0, none⟩) n c ss)
          case atStart => exact ⟨q + 1, by omega, by have := HQ8.out; omega, rfl, by go_num, HPU.out, HAU.out, HCV.out, HSU.out⟩
          case round =>
            obtain ⟨m, hqm, hm, hr, rfl, hP, hA, hB, hS⟩ := hrel
            clear HPU HAU HCV HSU
            have HP := hide hP
            have HA := hide hA
            have HC := hide hB
            have HS := hide hS
            have HRQ := hide hr
            have HQM := hide hqm
            clear hP hA hB hS hr cB fB e2 hqm
            by_cases hc : m < 8
            · have hm2 : (m : Int) < 8 := by omega
              have n1 : (0 : Int) ≤ (m : Int) := by omega
              have e2 : IntKind.i64.wrap ((m : Int) + 1) = (m : Int) + 1 := IntWalk.i64_in _ (by omega)
              obtain ⟨am, cm, hv⟩ := HA.out.form hc
              have cP := HA.out.v.bx.cell m _ hv
              have cB := HC.out.bx.cell m _ (arr_at (by rw [HU2.out.b]; exact hc))
              rw [HU3.out m HQM.out hc] at cB
              obtain ⟨y9, hy9⟩ : ∃ y9, y9 = (pk P m).length := ⟨_, rfl⟩
              rw [← hy9] at cP cB
              clear hv hy9
              go_wp2_with fail
              go_quiet (fail)
              have bd : Below wr.heap.size wr (wr.drewN nq) := belowN (Below.refl _ _) nq
              have HP9 := hide (HP.out.on bd)
              have HA9 := hide (HA.out.on bd)
              have HC9 := hide (HC.out.on bd)
              have HS9 := hide (HS.out.below (bd.mono HP.out.sz))
              clear bd cP cB HP HA HC HS
              go_wp2
              go_roundg (8 - (m + 1))
              case measure => rw [HRQ.out]; omega
              case rel => exact ⟨m + 1, by have := HQM.out; omega, by omega, rfl, by go_num, HP9.out, HA9.out, HC9.out, HS9.out⟩
            · have hm2 : ¬ (m : Int) < 8 := by omega
              clear hc
              go_wp2
              go_roundg (200 - (k + 1))
              case measure => rw [HRK.out]; omega
              case rel => exact ⟨k + 1, S4, L.eraseIdx j, ls, up1 B q, P, vs, by omega, by omega, rfl, by go_num, HP.out, HA.out, HC.out, HS.out, HU2.out, HL4.out, fun i => by have := HLS.out i; omega, fun i => by have := HLA.out i; omega, HLB4.out⟩
      · go_wp2
        go_roundg (200 - (k + 1))
        case measure => rw [HRK.out]; omega
        case rel => exact ⟨k + 1, S1, L, ls, B, P, vs, by omega, by omega, rfl, by go_num, HP1.out, HA1.out, HC1.out, HS1.out, HU.out, by have := HL.out; omega, fun j => by have := HLS.out j; omega, fun j => by have := HLA.out j; omega, fun j => by have := HLB.out j; omega⟩
    · rcases (show ¬ (k : Int) < (n : Int) ∨ ((k : Int) < (n : Int) ∧ ¬ (k : Int) < 200) by omega) with hstop | ⟨hs1, hs2⟩
      all_goals
        clear hcont
        go_wp2
        go_ret
        exact ⟨rfl, HP.out.BB⟩
end
theorem orderWalk (x : Int) (ao : Option Addr) (n c : Nat) (ss : List Sq) (w : World) (_ : I64 x) (hs : Stp w w.heap.size ao n c ss) :
    Calls Try.prog 4 #[.int .i64 x, .slice ao n c] w fun e w' => e = .returned (.bool true) ∧ Below w.heap.size w w' := by
  by_cases h : 1 ≤ x ∧ x ≤ 1000
  · obtain ⟨m, rfl⟩ := Int.eq_ofNat_of_zero_le (show 0 ≤ x by omega)
    exact orderYes m ao n c ss w (by omega) (by omega) hs
  · exact orderNo x ao n c w h
set_option maxRecDepth 100000 in
set_option maxHeartbeats 2000000 in
theorem queueOrderlifted (os : Os) (started : os.Started) (H : Type) (enc : TypeId × Value → H) :
    ReturnsInHanded {} Try.checked os 4 .any (Rows.queueOrderSpec.pre6 enc Try.prog Try.f4 Rows.queueOrderRow.domain false) (Rows.queueOrderSpec.post enc Try.prog Try.f4 false true false false) := by
  refine returnsInHanded_of_change_sized (C := Try.checked) own started (by kernel_rfl) Try.func4
    (ChangeSpec.witness6 (enc := enc) (C := Try.checked) false ⟨#[], #[.int .i64 0, .slice none 0 0], []⟩ 8 (by kernel_rfl) (by kernel_rfl) (by kernel_rfl) (by kernel_rfl)) ?_
  intro W base args ds gs before hval0 hW _ hsize0 _
  have hval : ∀ (j : Nat) t v, Try.f4.params[j]? = some t → args[j]? = some v → Value.okWide Try.prog W .any base t v := hval0
  have hW' := hW
  obtain ⟨p, q, hA0, hV, rfl, _, _⟩ := hW
  have hA : DataW.TrodAll enc Try.prog W 0 (fun _ => true) true Try.f4.params.toList args.toList ds p := hA0
  rw [Try.params4] at hA hval
  obtain ⟨v0, vs0, d0, ds0, p0, q0, hargs, rfl, rfl, h0, r0⟩ := trodAll_cons hA
  obtain ⟨v1, vs1, d1, ds1, p1, q1, rfl, rfl, rfl, h1, r1⟩ := trodAll_cons r0
  obtain ⟨rfl, rfl, rfl⟩ := trodAll_nil r1
  obtain rfl : args = #[v0, v1] := by cases args; simp_all
  obtain ⟨rfl, rfl⟩ := trodVars_none hV
  have hsz := List.all_eq_true.1 hsize0
  have h0k := h0
  obtain ⟨x0, rfl, hx0⟩ := open_num (hval 0 3 v0 rfl rfl) h0
  have h1k := h1
  have hl1 : Light 22 d1 := fun m hm => by have := hsz m (DataW.weights_mem_each (j := 1) (by rw [Try.params4]; rfl) rfl m hm); simpa using this
  obtain ⟨ao1, n1, c1, ss1, rfl, hs1⟩ := open_steps (hval 1 22 v1 rfl rfl) h1 hl1
  clear hA0 hval0 hsize0 hsz
  simp only [List.append_nil] at hW'
  have hlt : ∀ x ∈ p0 ++ p1, x.block < W.heap.size := fun x hx => by simpa using hW'.lt x (by simpa using hx)
  refine (orderWalk x0 ao1 n1 c1 ss1 W hx0 hs1).mono fun e W' ⟨he, hbl⟩ => ?_
  subst he
  exact ⟨_, rfl, _, _, _, [], _, [], hW', (trodAll_cons_mk (shut_bool Try.underlying4 _) trodAll_mk0), (trodAll_cons_mk (Below.trod Try.laidOut (by kernel_rfl) (of_decide_eq_true (by kernel_rfl)) h0k hbl (fun x hx => hlt x (by simp [hx]))) (trodAll_cons_mk (Below.trod Try.laidOut (by kernel_rfl) (of_decide_eq_true (by kernel_rfl)) h1k hbl (fun x hx => hlt x (by simp [hx]))) trodAll_mk0)), rfl, hbl.frame _, fun h => by cases h⟩

theorem queueOrder_holds : Rows.QueueOrderSaid :=
  OpenClaim.holds_of_wide 4 Try.f4 rfl rfl rfl rfl rfl rfl rfl ⟨rfl, rfl, rfl, rfl, rfl⟩ rfl rfl rfl rfl rfl (by kernel_rfl) Try.func4 (by kernel_rfl)
    (of_decide_eq_true (by kernel_rfl)) (by unfold Func.isWrapper; first | (rw [if_pos (by decide +kernel)]; kernel_rfl) | (rw [if_neg (by decide +kernel)]; exact ⟨rfl, rfl⟩))
    (fun os started H enc _ => queueOrderlifted os started H enc)

#print axioms queueOrder_holds
end Go.Proofs.Ytmdbclhdbglppaa
