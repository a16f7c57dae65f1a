/- Contract of Put of the document's queue: where there is room. -/
import Derived.Test.YtmdbclhdbglppaaRb
namespace Go.Proofs.Ytmdbclhdbglppaa
open Go.RowKit Go.PlainAid

theorem own0 (w : World) (base : Nat) (hb : base ≤ w.heap.size) : (w.alloc (.cells #[] 56)).ownsRow base 56 2 (.slice (some ⟨w.heap.size, 0, none⟩) 0 0) 0 (wvs []) := by
  have := World.ownsRow_lit (e := 56) (size := 2) w #[] (n := 0) hb (by unfold maxLen; omega) (by simp)
  exact this
theorem row0 (w : World) (base : Nat) (hb : base ≤ w.heap.size) : Row (w.alloc (.cells #[] 5)) base (.slice (some ⟨w.heap.size, 0, none⟩) 0 0) 0 [] := Row.lit #[] [] 0 rfl rfl (by omega) hb
theorem ownW_on {w w1 : World} {base : Nat} {v : Value} {n : Nat} {xs : List Value} (h : w.ownsRow base 56 2 v n xs) (hb : Below w.heap.size w w1) : w1.ownsRow base 56 2 v n xs :=
  World.ownsRow.kept (row := none) h ⟨hb.os, hb.tape, hb.output, hb.size, fun k hk _ => hb.block k hk⟩ (by cases hv : v.ownBlock <;> simp)
theorem ownW_form {w : World} {base : Nat} {v : Value} {n : Nat} {xs : List Value} (h : w.ownsRow base 56 2 v n xs) : (v = .slice none 0 0 ∧ n = 0) ∨ ∃ b c, v = .slice (some ⟨b, 0, none⟩) n c ∧ base ≤ b ∧ b < w.heap.size := by
  rcases h.2 with ⟨h1, h2⟩ | ⟨b, cap, cur, h1, hb, hc, _⟩
  · exact Or.inl ⟨h1, h2⟩
  · exact Or.inr ⟨b, cap, h1, hb, (Array.getElem?_eq_some_iff.1 hc).1⟩
theorem RQ.fresh {u u4 : World} {g : Nat} {F : Nat → Prop} {n : Nat} {ao : Option Addr} {m c : Nat} {V : List Wv} {L : List Wt} {ls : List Nat} (H : RQ u g F n ao m c V L ls) (B : Below u.heap.size u u4) {v3 : Value} {m3 : Nat} {V' : List Wv} {L' : List Wt}
    (R : u4.ownsRow u.heap.size 56 2 v3 m3 (wvs V')) (hl : V'.length = m3) (M : Mt u4 (fun i => F i ∨ (u.heap.size ≤ i ∧ i < u4.heap.size)) V' L') :
    (∃ F' ao' m' c' V', RQ (u4.setCell ⟨g, 1, none⟩ v3) g F' n ao' m' c' V' L' ls ∧ ∀ i, F' i → F i ∨ u.heap.size ≤ i) ∧ Mid g (g + 1) u (u4.setCell ⟨g, 1, none⟩ v3) := by
  have hg := H.bx.lt
  have hB := B.size
  have M1 : Mid g (g + 1) u4 (u4.setCell ⟨g, 1, none⟩ v3) := mid_at
  have M0 : Mid g (g + 1) u (u4.setCell ⟨g, 1, none⟩ v3) := ((Mid.refl g (g + 1) u).on B).trans M1
  have hng : ∀ i, F i ∨ (u.heap.size ≤ i ∧ i < u4.heap.size) → g < i ∧ i < u4.heap.size := fun i hi => by
    rcases hi with h | h
    · have := H.ng i h; omega
    · omega
  have e : Kp (fun i => F i ∨ (u.heap.size ≤ i ∧ i < u4.heap.size)) u4 (u4.setCell ⟨g, 1, none⟩ v3) := kp_mid M1 (fun i hi => Or.inr (by have := (hng i hi).1; omega))
  obtain ⟨ao', c', rfl, W⟩ : ∃ ao' c', v3 = .slice ao' m3 c' ∧ Wvl u4 (fun i => F i ∨ (u.heap.size ≤ i ∧ i < u4.heap.size)) ao' m3 c' V' := by
    rcases ownW_form R with ⟨h1, h2⟩ | ⟨b, c', h1, _, _⟩
    · subst h2
      exact ⟨none, 0, h1, ⟨hl, fun _ => ⟨rfl, rfl⟩, fun a e => (by cases e), Nat.le_refl _, Nat.zero_le _⟩⟩
    · subst h1
      exact ⟨_, c', rfl, (row_wvl R hl).mono (fun i hi => Or.inr hi)⟩
  refine ⟨⟨fun i => F i ∨ (u.heap.size ≤ i ∧ i < u4.heap.size), ao', m3, c', V', ⟨?_, H.ll, W.keep e, M.keep e, fun i hi => ⟨(hng i hi).1, Nat.lt_of_lt_of_le (hng i hi).2 e.size⟩, H.n1, H.n2⟩, fun i hi => ?_⟩, M0⟩
  · exact Box.set (A := [.int .i64 n]) (H.bx.on B) rfl
  · rcases hi with h | h
    · exact Or.inl h
    · exact Or.inr h.1
set_option maxRecDepth 100000 in
set_option maxHeartbeats 8000000 in
theorem putR_ok (g : Nat) (F K : Nat → Prop) (n : Nat) (ao : Option Addr) (m c : Nat) (V : List Wv) (L : List Wt) (ls : List Nat) (k : Nat) (ab : Option Addr) (nb cb : Nat) (b : List Int) (w : World) (H : RQ w g F n ao m c V L ls) (hL : L.length ≤ 50000) (hk : k < 8) (hf : ¬ n ≤ cnt L k) (hb : By w K ab nb cb b) (hnb : nb ≤ 140737488355328) :
    Calls Try.prog 19 #[.pointer (some ⟨g, 0, none⟩), .int .i64 k, .slice ab nb cb] w fun e w' => e = .returned (.int .i64 0) ∧ (∃ F' ao' m' c' V', RQ w' g F' n ao' m' c' V' (L ++ [⟨k, b⟩]) ls ∧ ∀ i, F' i → F i ∨ w.heap.size ≤ i) ∧ Mid g (g + 1) w w' := by
  have h1 : ¬ (k : Int) < 0 := by omega
  have h2 : ¬ (8 : Int) ≤ (k : Int) := by omega
  have h3 : (k : Int) < 8 := by omega
  have HL := hide hL
  have c0 := H.bx.cell 0 _ rfl
  have HR := hide H
  have HK := hide hk
  have HBY := hide hb
  have HNB := hide hnb
  obtain ⟨y, hy⟩ : ∃ y, y = cnt L k := ⟨_, rfl⟩
  have HY := hide hy
  rw [← hy] at hf
  have d1 : decide ((n : Int) ≤ (y : Int)) = false := by simp; omega
  have d2 : decide (n ≤ y) = false := by simp; omega
  have q1 : Hid (∀ q, Calls Try.prog 13 #[.pointer (some ⟨g, 0, none⟩), .int .i64 k] (w.drewN q) fun e w' => e = .returned (.int .i64 y) ∧ w' = w.drewN q) := hide fun q => by
    rw [HY.out]; exact lenR g F n ao m c V L ls k _ (HR.out.drewN _) (by omega)
  clear H hL hy hf hb hnb
  go_enter Try.func19, Try.ntmps19
  go_wp2_with fail
  go_quiet ((go_at_call 13; exact Calls.quiet_of_same (q1.out _)))
  have HR1 := hide (HR.out.drewN nq)
  have M1 : Hid (Mid g (g + 1) w (w.drewN nq)) := hide ((Mid.refl g (g + 1) w).on (belowN (Below.refl _ _) nq))
  have HBY1 : Hid (By (w.drewN nq) K ab nb cb b) := hide (HBY.out.keep ⟨Nat.le_refl _, fun _ _ _ => rfl⟩)
  have HSZ : Hid ((w.drewN nq).heap.size = w.heap.size) := hide rfl
  clear c0 q1 HR HY HBY
  generalize w.drewN nq = u at *
  obtain ⟨N, hN⟩ : ∃ N, N = u.heap.size := ⟨_, rfl⟩
  have HN := hide hN
  have HGN : Hid (g < N) := hide (by rw [hN]; exact HR1.out.bx.lt)
  have O0 := own0 u N (by omega)
  have B0 := below_alloc u (.cells #[] 56)
  have c1 := (HR1.out.on B0).bx.cell 1 _ rfl
  have W0 := hide (HR1.out.on B0).sl.wrs
  have tk1 : True := trivial
  have tk2 : True := trivial
  have hmL : Hid (m ≤ 50000) := hide (by have := HR1.out.sl.len; have := HR1.out.mt.len; have := HL.out; omega)
  have hs0 : Hid (N ≤ (u.alloc (.cells #[] 56)).heap.size) := hide (by simp; omega)
  clear hN
  go_wp2_with (first | (have _t := tk1; at_builtin; refine wpl_wapp rfl rfl (.tmp 32) (.tmp 36) rfl N _ 0 [] rfl O0 ao m c V rfl W0.out (by have := hmL.out; omega) hs0.out ?_; clear tk1))
  intro v1 u1 R1 G1
  have B1 : Below N u u1 := B0.mono (by have := HN.out; omega) |>.grown G1 hs0.out (fun r hr => by
    simp [Value.ownBlock] at hr
    have := HN.out; omega)
  have HR2 := hide R1
  obtain ⟨P, hP⟩ : ∃ P, P = u1.heap.size := ⟨_, rfl⟩
  have HP := hide hP
  have HNP : Hid (N ≤ P) := hide (by rw [hP]; have := B1.size; have := HN.out; omega)
  have HB1 := hide B1
  have B2 := below_alloc u1 (.cells #[] 5)
  have R0 := row0 u1 P (by omega)
  have hs1 : Hid (P ≤ (u1.alloc (.cells #[] 5)).heap.size) := hide (by simp; omega)
  have HY2 := hide (((HBY1.out.keep (kp_below (HB1.out.mono (by have := HN.out; omega)))).b).on B2)
  have HB2 := hide B2
  clear R1 G1 B1 B2 O0 B0 c1 W0 hs0 HBY1 hP d1 d2
  go_wp2_with (first | (have _t := tk2; at_builtin; refine wpl_app rfl (.tmp 39) (.tmp 40) rfl P _ 0 [] rfl R0 ab nb cb b rfl HY2.out (by have := HNB.out; omega) hs1.out ?_; clear tk2))
  intro v2 u2 R2 B3
  obtain ⟨a2, c2, rfl, Y2⟩ := R2.by HY2.out.rng
  have HY3 := hide Y2
  have B12 : Below P u1 u2 := (HB2.out.mono (by have := HP.out; omega)).trans B3
  have hP1 : P = u1.heap.size := HP.out
  have HBu : Hid (Below N u u2) := hide (HB1.out.trans (B12.mono HNP.out))
  have HR3 := hide (ownW_on HR2.out (by rw [← hP1]; exact B12))
  have B4 := below_alloc u2 (.cells #[.int .i64 k, .slice a2 nb c2] 56)
  have R3 := ownW_on HR3.out B4
  have hz2 : N ≤ u2.heap.size := by have := HBu.out.size; have := HN.out; omega
  have WB : Wrs (u2.alloc (.cells #[.int .i64 k, .slice a2 nb c2] 56)) (some ⟨u2.heap.size, 0, none⟩) 1 1 [⟨k, a2, nb, c2⟩] := ⟨rfl, fun e => (by cases e), fun a e j x hj => by
    obtain rfl := Option.some.inj e
    rw [Addr.add_lit, Nat.zero_add, World.cell?_alloc_at _ _ _ _ rfl]
    have hj' : (wcl ⟨k, a2, nb, c2⟩ ++ [])[j]? = some x := hj
    rw [List.append_nil] at hj'
    show (wcl ⟨k, a2, nb, c2⟩).toArray[j]? = some x
    rw [List.getElem?_toArray]
    exact hj'⟩
  have HZ2 := hide hz2
  have hs3 : Hid (N ≤ (u2.alloc (.cells #[.int .i64 k, .slice a2 nb c2] 56)).heap.size) := hide (by simp; omega)
  have HB4 := hide (HBu.out.trans (B4.mono hz2))
  have tk3 : True := trivial
  clear R2 B3 Y2 HY2 R0 HB2 B12 hP1 B4 hz2 hs1
  go_wp2_with (first | (have _t := tk3; at_builtin; refine wpl_wapp rfl rfl (.tmp 37) (.tmp 43) rfl N v1 m V rfl R3 (some ⟨u2.heap.size, 0, none⟩) 1 1 [⟨k, a2, nb, c2⟩] rfl WB (by have := hmL.out; omega) hs3.out ?_; clear tk3))
  intro v3 u4 R4 G4
  have B5 : Below N (u2.alloc (.cells #[.int .i64 k, .slice a2 nb c2] 56)) u4 := (Below.refl _ _).grown G4 hs3.out (fun r hr => by
    rcases ownW_form R3 with ⟨h1, _⟩ | ⟨b, c, h1, h2, _⟩
    · rw [h1] at hr; cases hr
    · rw [h1] at hr
      have := Option.some.inj hr
      simp at this; omega)
  have HB5 : Hid (Below N u u4) := hide (HB4.out.trans B5)
  have hNu : N = u.heap.size := HN.out
  have HBY5 : Hid (By u4 (fun i => N ≤ i ∧ i < u4.heap.size) a2 nb c2 b) := hide (by
    have hk4 : Kp (fun i => P ≤ i ∧ i < u2.heap.size) u2 u4 := ⟨by have h8 := B5.size; simp at h8; omega, fun i hi hl => by
      have e1 : (u2.alloc (.cells #[.int .i64 k, .slice a2 nb c2] 56)).heap[i]? = u2.heap[i]? := (below_alloc u2 _).block i hl
      rw [← e1]
      refine G4.block i (by simp; omega) (fun e => ?_)
      rcases ownW_form HR3.out with ⟨h1, _⟩ | ⟨b9, c9, h1, _, h3⟩
      · rw [h1] at e; cases e
      · rcases ownW_form HR2.out with ⟨h1', _⟩ | ⟨b8, c8, h1', _, h3'⟩
        · rw [h1] at h1'; cases h1'
        · rw [h1'] at e
          have hP1 := HP.out
          have := Option.some.inj e
          have this9 : i = b8 := by simpa [Value.ownBlock] using this
          omega⟩
    exact (HY3.out.keep hk4).mono (fun i hi => ⟨by have := HNP.out; omega, by have := hk4.size; omega⟩))
  have hM : Mt u4 (fun i => F i ∨ (u.heap.size ≤ i ∧ i < u4.heap.size)) (V ++ [⟨k, a2, nb, c2⟩]) (L ++ [⟨k, b⟩]) :=
    ((HR1.out.mt.keep (kp_below (HB5.out.mono (by omega)))).mono (fun i hi => Or.inl hi)).add rfl (HBY5.out.mono (fun i hi => Or.inr ⟨by omega, hi.2⟩))
  have hX := HR1.out.fresh (HB5.out.mono (by omega)) (v3 := v3) (by rw [← hNu]; exact R4) (by rw [List.length_append, HR1.out.sl.len]; rfl) hM
  have HX := hide hX
  have BX := (HR1.out.bx.on (HB5.out.mono (by omega)))
  have c1 := BX.cell 1 _ rfl
  have f1 := BX.free 1 (by simp [qcl])
  obtain ⟨b9, c9, rfl⟩ : ∃ b9 c9, v3 = .slice (some ⟨b9, 0, none⟩) (m + 1) c9 := by
    rcases ownW_form R4 with ⟨_, h⟩ | ⟨b, c, h, _, _⟩
    · omega
    · exact ⟨b, c, h⟩
  clear hX hM BX R3 R4 G4 B5 HB4 HBY5 WB hNu
  go_wp2
  go_ret
  exact ⟨rfl, by
    obtain ⟨F', ao', m', c', V', h1, h2⟩ := HX.out.1
    exact ⟨F', ao', m', c', V', h1, fun i hi => by have := h2 i hi; rw [HSZ.out] at this; exact this⟩, M1.out.trans HX.out.2⟩
end Go.Proofs.Ytmdbclhdbglppaa
