/- Contracts of Put of the document's queue as one; of a step. -/
import Derived.Test.YtmdbclhdbglppaaTw
namespace Go.Proofs.Ytmdbclhdbglppaa
open Go.RowKit Go.PlainAid

theorem putR (g : Nat) (F K : Nat → Prop) (n : Nat) (ao : Option Addr) (m c : Nat) (V : List Wv) (L : List Wt) (ls : List Nat) (k : Int) (ab : Option Addr) (nb cb : Nat) (b : List Int) (w : World) (H : RQ w g F n ao m c V L ls) (hL : L.length ≤ 50000) (hs : ∀ j : Nat, ls[j]?.getD 0 ≤ 1000000) (hb : By w K ab nb cb b) (hnb : nb ≤ 140737488355328) :
    Calls Try.prog 19 #[.pointer (some ⟨g, 0, none⟩), .int .i64 k, .slice ab nb cb] w fun e w' => e = .returned (.int .i64 (pE n L k)) ∧ (∃ F' ao' m' c' V', RQ w' g F' n ao' m' c' V' (pL n L k b) (pG n L ls k) ∧ ∀ i, F' i → F i ∨ w.heap.size ≤ i) ∧ Mid g (g + 1) w w' := by
  rcases Bool.eq_false_or_eq_true (isC k) with hk | hk
  · obtain ⟨q, rfl⟩ := Int.eq_ofNat_of_zero_le (isC_iff.1 hk).1
    have hq : q < 8 := by have := (isC_iff.1 hk).2; omega
    by_cases hf : n ≤ cnt L q
    · have e := pE_full (n := n) (L := L) hk hf
      unfold pL pG
      rw [e, if_neg (by decide), if_pos rfl]
      exact (putR_full g F n ao m c V L ls q ab nb cb w H (by omega) hq hf (hs q)).mono fun e w' ⟨h1, h2, h3⟩ => ⟨h1, ⟨F, ao, m, c, V, h2, fun i hi => Or.inl hi⟩, h3⟩
    · have e := pE_ok (n := n) (L := L) hk hf
      unfold pL pG
      rw [e, if_pos rfl, if_neg (by decide)]
      exact putR_ok g F K n ao m c V L ls q ab nb cb b w H hL hq hf hb hnb
  · have e := pE_out (n := n) (L := L) hk
    unfold pL pG
    rw [e, if_neg (by decide), if_neg (by decide)]
    refine (putR_out g ab nb cb k w hk).mono fun e w' ⟨h1, h2⟩ => ?_
    subst h2
    exact ⟨h1, ⟨F, ao, m, c, V, H, fun i hi => Or.inl hi⟩, Mid.refl _ _ _⟩
set_option maxRecDepth 100000 in
set_option maxHeartbeats 4000000 in
theorem stepC {w0 : World} {G : Nat} {p : Addr} {g : Nat} {S F : Nat → Prop} {n : Nat} {ao : Option Addr} {m c : Nat} {V : List Wv} {L : List Wt} {ls : List Nat} (s : Sq) (ab : Option Addr) (nb cb : Nat) (w : World)
    (H : Tw w0 w G p g S F n ao m c V L L ls ls) (hL : L.length ≤ 50000) (hs : ∀ j : Nat, ls[j]?.getD 0 ≤ 1000000) (hb : By w (fun i => i < G) ab nb cb s.b) (hnb : nb ≤ 140737488355328) :
    Calls Try.prog 11 #[.pointer (some p), .pointer (some ⟨g, 0, none⟩), .agg #[.int .i64 s.d, .int .i64 s.k, .slice ab nb cb]] w fun e w' => e = .returned (.bool true) ∧ ∃ S' F' ao' m' c' V', Tw w0 w' G p g S' F' n ao' m' c' V' (nL n L s) (nL n L s) (nG n L ls s) (nG n L ls s) := by
  have b0 := below_alloc w (.cells #[.int .i64 s.d, .int .i64 s.k, .slice ab nb cb] 34)
  have HT := hide (H.on b0)
  have HBY := hide (hb.low (b0.mono H.sz))
  have HL := hide hL
  have HS := hide hs
  have HN := hide hnb
  have hk0 : Hid (G ≤ w.heap.size) := hide H.sz
  have HBX := hide (Box.new w [.int .i64 s.d, .int .i64 s.k, .slice ab nb cb] 34)
  have c0 := HBX.out.cell 0 _ rfl
  have hkx : Hid (∀ i, S i → i ≠ w.heap.size) := hide (fun i hi e => by have := H.P.sz i hi; omega)
  have hkg : Hid (w.heap.size ≠ g) := hide (by have := H.R.bx.lt; omega)
  clear H hb hL hs hnb b0
  go_enter Try.func11, Try.ntmps11
  rcases Bool.eq_false_or_eq_true (s.d == 0) with d0 | d0
  · have hd : Hid (s.d = 0) := hide (by simpa using d0)
    go_wp2_with fail
    refine (putQ p S n L ls s.k (fun i => i < G) ab nb cb s.b _ HT.out.P HL.out HS.out HBY.out HN.out).mono ?_
    rintro e w1 ⟨rfl, ⟨S1, P1, hS1⟩, C1⟩
    have HT1 := hide (HT.out.prog C1 P1 hS1)
    have HBX1 := hide (HBX.out.block (C1.block _ HBX.out.lt (fun h => hkx.out _ h rfl)))
    have HBY1 := hide (HBY.out.low (HT.out.low C1))
    have c1 := HBX1.out.cell 1 _ rfl
    have c2 := HBX1.out.cell 2 _ rfl
    clear P1 hS1 C1 HT HBY
    go_wp2_with fail
    refine (putR g F (fun i => i < G) n ao m c V L ls s.k ab nb cb s.b _ HT1.out.R HL.out HS.out HBY1.out HN.out).mono ?_
    rintro e w2 ⟨rfl, ⟨F2, ao2, m2, c2', V2, R2, hF2⟩, M2⟩
    have HT2 := hide (HT1.out.ref M2 R2 hF2)
    clear R2 hF2 M2 c1 c2
    go_wp2
    go_ret
    refine ⟨ret_bool (by simp), S1, F2, ao2, m2, c2', V2, ?_⟩
    unfold nL nG
    rw [if_pos hd.out, if_pos hd.out]
    exact HT2.out
  have hd : Hid (¬ s.d = 0) := hide (by simpa using d0)
  rcases Bool.eq_false_or_eq_true (s.d == 1) with d1 | d1
  · have hd1 : Hid (s.d = 1) := hide (by simpa using d1)
    clear HBX hkx hkg
    cases hbi : bi L L.length with
    | none =>
      obtain rfl : L = [] := List.eq_nil_of_length_eq_zero (bi_none hbi)
      clear hbi
      go_wp2_with fail
      refine (getQ_none p S n ls _ HT.out.P).mono ?_
      rintro e w1 ⟨rfl, ⟨S1, P1, hS1⟩, C1⟩
      have HT1 := hide (HT.out.prog C1 P1 hS1)
      clear P1 hS1 C1 HT HBY
      go_wp2_with fail
      refine (getR_none g F n m c V ls _ ao HT1.out.R).mono ?_
      rintro e w2 ⟨rfl, rfl⟩
      have hc := bytStr (Byt.nothing w2)
      have hb0 := bs_beq_self []
      go_wp2
      go_ret
      refine ⟨ret_bool (by simp), S1, F, ao, m, c, V, ?_⟩
      unfold nL nG
      rw [if_neg hd.out, if_pos hd1.out, if_neg hd.out]
      exact HT1.out
    | some j =>
      obtain ⟨x, hx⟩ : ∃ x, L[j]? = some x := ⟨_, List.getElem?_eq_getElem (bi_some hbi).lt⟩
      have HJ := hide hbi
      have HX := hide hx
      clear hbi hx
      go_wp2_with fail
      refine (getQ_some p S n L ls x j _ HT.out.P HL.out HJ.out HX.out).mono ?_
      rintro e w1 ⟨⟨a1, n1, c1, rfl, Y1⟩, ⟨S1, P1, hS1⟩, C1⟩
      have HT1 := hide (HT.out.prog C1 P1 hS1)
      have HY1 := hide Y1
      have HK1 : Hid (∀ i, S i ∨ (w.alloc (.cells #[.int .i64 s.d, .int .i64 s.k, .slice ab nb cb] 34)).heap.size ≤ i ∧ i < w1.heap.size → i ≠ g) := hide (fun i hi e => by
        have hg := HT.out.R.bx.lt
        rcases hi with h | h
        · exact HT.out.dj i h (Or.inl e)
        · omega)
      clear P1 hS1 C1 Y1 HT HBY
      obtain ⟨b, o, rfl⟩ : ∃ b o, ao = some ⟨b, o, none⟩ := by
        obtain ⟨v, hv, _⟩ := HT1.out.R.mt.at HX.out
        obtain ⟨b, o, e, _⟩ := HT1.out.R.sl.cell hv
        exact ⟨b, o, e⟩
      go_wp2_with fail
      refine (getR_some g F n m c V L ls _ b o x j HT1.out.R HL.out HJ.out HX.out).mono ?_
      rintro e w2 ⟨⟨a2, n2, c2, rfl, Y2⟩, ⟨F2, ao2, m2, c2', V2, R2, hF2⟩, M2⟩
      have hc1 := bytStr (HY1.out.keep (kp_mid M2 (fun i hi => by have := HK1.out i hi; omega))).b
      have hc2 := bytStr Y2.b
      have HT2 := hide (HT1.out.ref M2 R2 hF2)
      have hb0 := bs_beq_self x.b
      clear R2 hF2 M2 Y2 HY1 HT1 HK1
      go_wp2
      go_ret
      refine ⟨ret_bool (by simp), S1, F2, ao2, m2, c2', V2, ?_⟩
      unfold nL nG gL
      rw [if_neg hd.out, if_pos hd1.out, if_neg hd.out, HJ.out]
      exact HT2.out
  · have hd1 : Hid (¬ s.d = 1) := hide (by simpa using d1)
    clear HBX hkx hkg
    go_wp2_with fail
    refine (clearQ p S n L ls _ HT.out.P HL.out).mono ?_
    rintro e w1 ⟨rfl, ⟨S1, P1, hS1⟩, C1⟩
    have HT1 := hide (HT.out.prog C1 P1 hS1)
    clear P1 hS1 C1 HT HBY
    go_wp2_with fail
    refine (clearR g F n ao m c V L ls _ HT1.out.R).mono ?_
    rintro e w2 ⟨rfl, R2, M2⟩
    have HT2 := hide (HT1.out.ref M2 R2 (fun i hi => Or.inl hi))
    clear R2 M2
    go_wp2
    go_ret
    refine ⟨ret_bool (by simp), S1, F, none, 0, 0, [], ?_⟩
    unfold nL nG
    rw [if_neg hd.out, if_neg hd1.out, if_neg hd.out]
    exact HT2.out
end Go.Proofs.Ytmdbclhdbglppaa
