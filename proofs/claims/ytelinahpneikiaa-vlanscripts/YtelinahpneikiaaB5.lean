/- Contract: Remove as the document has it. -/
import Derived.Test.YtelinahpneikiaaB4
namespace Go.Proofs.Ytelinahpneikiaa
open Go.RowKit Go.PlainAid

theorem mml_take (l : List Mm) (k : Nat) : mml (l.take k) = (mml l).take (k * 3) := by
  have e := mml_append (l.take k) (l.drop k)
  rw [List.take_append_drop] at e
  by_cases hk : k ≤ l.length
  · have h2 : (mml (l.take k)).length = k * 3 := by rw [mml_length, List.length_take]; omega
    rw [e, ← h2]
    simp
  · rw [List.take_of_length_le (by omega), List.take_of_length_le (by rw [mml_length]; omega)]
theorem mml_drop (l : List Mm) (k : Nat) (hk : k ≤ l.length) : mml (l.drop k) = (mml l).drop (k * 3) := by
  have e := mml_append (l.take k) (l.drop k)
  rw [List.take_append_drop] at e
  have h2 : (mml (l.take k)).length = k * 3 := by rw [mml_length, List.length_take]; omega
  rw [e, ← h2]
  simp
theorem Mrs.take {w : World} {b L cap : Nat} {l : List Mm} (h : Mrs w (some ⟨b, 0, none⟩) L cap l) {k : Nat} (hk : k ≤ L) (c : Nat) : Mrs w (some ⟨b, 0, none⟩) k c (l.take k) :=
  ⟨by rw [List.length_take, h.len]; omega, fun e => (by cases e), fun a e j u hj => by
    rw [mml_take, List.getElem?_take] at hj
    split at hj
    · exact h.src a e j u hj
    · cases hj⟩
theorem Mrs.drop {w : World} {b L cap : Nat} {l : List Mm} (h : Mrs w (some ⟨b, 0, none⟩) L cap l) {k : Nat} (hk : k ≤ L) {ao : Option Addr} (h1 : k < L → ao = some ⟨b, k * 3, none⟩) (h2 : ao ≠ none) (c : Nat) : Mrs w ao (L - k) c (l.drop k) :=
  ⟨by rw [List.length_drop, h.len], fun e => absurd e h2, fun a e j u hj => by
    have hl := h.len
    rw [mml_drop l k (by omega), List.getElem?_drop] at hj
    have hlt := (List.getElem?_eq_some_iff.1 hj).1
    rw [mml_length] at hlt
    rw [h1 (by omega)] at e
    obtain rfl := Option.some.inj e
    have := h.src _ rfl _ u hj
    rw [Addr.add_lit] at this ⊢
    rw [← this]
    congr 2
    omega⟩
theorem at_if {p : Prop} [Decidable p] {b o1 o2 : Nat} {a : Addr} {q : Nat} (h : (if p then some (⟨b, o1, none⟩ : Addr) else some ⟨b, o2, none⟩) = some a) (hb : b ≠ q) : ∃ b' o, a = ⟨b', o, none⟩ ∧ some b' ≠ some q := by
  split at h
  · exact ⟨b, o1, (Option.some.inj h).symm, fun e => hb (Option.some.inj e)⟩
  · exact ⟨b, o2, (Option.some.inj h).symm, fun e => hb (Option.some.inj e)⟩
theorem own_len {w : World} {base : Nat} {v : Value} {n m : Nat} {xs : List Value} (h : w.ownsRow base 73 3 v n xs) (e : n = m) : w.ownsRow base 73 3 v m xs := e ▸ h
set_option maxRecDepth 100000 in
set_option maxHeartbeats 4000000 in
theorem remove43_cut (g : Nat) (lv : Value) (T : Tb) (v p : Int) (w : World) (H : RT w g lv T) (hL : T.l.length ≤ 1000) (hv : isV v = true) (hh : hp T p = true) (hm : hs T.l v p = true) : Calls Try.prog 43 #[.pointer (some ⟨g + 1, 0, none⟩), .int .i64 v, .int .i64 p] w
    fun e w' => e = .returned (.int .i64 0) ∧ (∃ lv', RT w' g lv' (tRm T v p)) ∧ Below g w w' := by
  have q1 := fun w H => right39 g lv T v p w H
  rw [hv, hh, Bool.true_and] at q1
  have q2 := fun w H => find29 g lv T v p w H
  have hfx : fx T.l v p = (ix T.l v p : Int) := by rw [fx, hm]; rfl
  rw [hfx] at q2
  have hix := (hs_ix T.l v p).1 hm
  have e0 : tRm T v p = ⟨T.n, T.l.take (ix T.l v p) ++ T.l.drop (ix T.l v p + 1), T.ns⟩ := by rw [tRm, hv, hh, rm_take]; rfl
  have hw := H.wf.rem v p
  rw [e0] at hw ⊢
  rcases H.at with ⟨_, hl⟩ | ⟨b, cap, hlv, hb, hn, hmx, hcell⟩
  · rw [hl] at hm; cases hm
  · have hl := H.lt
    subst hlv
    obtain ⟨ao', c', e1, hM, hao⟩ := H.mrs
    injection e1 with e2 e3 e4
    subst e2 e4
    obtain ⟨b', e5, -, hbl⟩ := hao _ rfl
    injection e5 with e6
    subst e6
    have c1 := H.bx.cell 1 _ rfl
    have HH := hide H
    have HW := hide hw
    unfold maxLen at hmx
    have MM := hide hM
    clear H hcell hfx hw e0 hao hM
    generalize ix T.l v p = k at *
    have k0 : (0 : Int) ≤ (k : Int) := by omega
    have k1 : (k : Int) ≤ cap := by omega
    have k2 : (0 : Int) ≤ (k : Int) + 1 := by omega
    have k3 : (k : Int) + 1 ≤ T.l.length := by omega
    have k4 : (T.l.length : Int) ≤ cap := by omega
    have k5 : IntKind.i64.wrap ((k : Int) + 1) = (k : Int) + 1 := IntWalk.i64_in _ (by omega)
    have ga := World.grownBy_alloc w (.cells #[] 73) none
    have MA := (MM.out.take (k := k) (by omega) cap).grown (row := none) ga (fun a e => ⟨b, 0, (Option.some.inj e).symm, by simp⟩)
    have MD := (MM.out.drop (k := k + 1) (ao := if cap = k + 1 then some ⟨b, 0, none⟩ else some ⟨b, (k + 1) * 3, none⟩) (by omega) (fun h => by rw [if_neg (by omega)]) (by split <;> simp) (cap - (k + 1))).grown (row := none) ga (fun a e => by
      split at e
      · exact ⟨b, 0, (Option.some.inj e).symm, by simp⟩
      · exact ⟨b, (k + 1) * 3, (Option.some.inj e).symm, by simp⟩)
    have O1 : Hid (((w.alloc (.cells #[] 73)).drew).ownsRow (g + 2) 73 3 (.slice (some ⟨w.heap.size, 0, none⟩) 0 0) 0 (mml [])) := hide (World.ownsRow_lit w #[] 0 (by omega) (by unfold maxLen; omega) rfl)
    have M1 : Hid (Mrs (w.alloc (.cells #[] 73)).drew (some ⟨b, 0, none⟩) k cap (T.l.take k)) := hide ⟨MA.len, MA.nil, MA.src⟩
    have M2 : Hid (Mrs (w.alloc (.cells #[] 73)).drew (if cap = k + 1 then some ⟨b, 0, none⟩ else some ⟨b, (k + 1) * 3, none⟩) (T.l.length - (k + 1)) (cap - (k + 1)) (T.l.drop (k + 1))) := hide ⟨MD.len, MD.nil, MD.src⟩
    have hlt1 : Hid (g + 2 ≤ ((w.alloc (.cells #[] 73)).drew).heap.size) := hide (by simp; omega)
    have b0 : Below (g + 2) w (w.alloc (.cells #[] 73)).drew := (Below.refl _ _).alloc (by omega) _ |>.drew
    have B0 := hide b0
    have HB := hide hbl
    have HN : Hid (some (g + 1) ≠ some w.heap.size) := hide (fun e => by have := Option.some.inj e; omega)
    have C1 := hide ((b0.cell (p := ⟨g + 1, 1, none⟩) (by simp)).trans c1)
    have c1a : (w.alloc (.cells #[] 73)).cell? ⟨g + 1, 1, none⟩ = some (.slice (some ⟨b, 0, none⟩) T.l.length cap) := C1.out
    have HBN : Hid (b ≠ w.heap.size) := hide (by omega)
    have HG : Hid (g + 1 < g + 2) := hide (by omega)
    have HG2 : Hid (1 < [Value.int .i64 T.n, .slice (some ⟨b, 0, none⟩) T.l.length cap, .slice (some ⟨g, 0, none⟩) T.n T.n].length) := hide (by simp)
    have HL : Hid (0 + k + (T.l.length - (k + 1)) = (T.l.take k ++ T.l.drop (k + 1)).length) := hide (by simp; omega)
    clear MA MD b0 ga
    go_enter Try.func43, Try.ntmps43
    go_wp2_with (first | (go_at_call 39; refine (q1 _ HH.out).mono ?_; rintro e w' ⟨rfl, rfl⟩) | (go_at_call 29; refine (q2 _ HH.out).mono ?_; rintro e w' ⟨rfl, rfl⟩))
    clear q1 q2
    have tk1 : True := trivial
    have tk2 : True := trivial
    go_region_law (first | (have _t := tk1; refine step_mapp rfl rfl (.tmp 22) (.tmp 28) rfl (g + 2) _ 0 [] rfl O1.out _ _ _ _ rfl M1.out (by omega) hlt1.out ?_; intro v1 w1 R1 G1; have c1b := G1.cell C1.out HN.out; have B1 := hide (B0.out.grown G1 hlt1.out (fun k hk => (O1.out.lt k hk).1)); have M3 := hide (M2.out.grown G1 (fun a e => at_if e HBN.out)); have hlt2 : Hid (g + 2 ≤ w1.heap.size) := (hide (Nat.le_trans hlt1.out G1.size)); clear tk1 G1) | (have _t := tk2; refine step_mapp rfl rfl (.tmp 29) (.tmp 36) rfl (g + 2) _ _ _ rfl R1 _ _ _ _ rfl M3.out (by omega) hlt2.out ?_; intro v2 w2 R2 G2; obtain ⟨ao2, c2, rfl⟩ := own_form R2; have B2 := B1.out.grown G2 hlt2.out (fun k hk => (R1.lt k hk).1); have c1c := (HH.out.bx.below (g := g + 2) HG.out B2).cell 1 _ rfl; have c1f := (HH.out.bx.below (g := g + 2) HG.out B2).free 1 HG2.out; have F := hide (HH.out.fresh (T' := ⟨T.n, T.l.take k ++ T.l.drop (k + 1), T.ns⟩) B2 rfl rfl HW.out (own_len R2 HL.out)); clear tk2 R2 G2 B2))
    all_goals go_wp2
    all_goals
      go_ret
      have F' := F.out
      simp only [Nat.zero_add] at F'
      exact ⟨rfl, ⟨_, F'.1⟩, F'.2⟩
set_option maxRecDepth 100000 in
set_option maxHeartbeats 2000000 in
theorem remove43_no (g : Nat) (lv : Value) (T : Tb) (v p : Int) (w : World) (H : RT w g lv T) (hc : (isV v && hp T p) = false) : Calls Try.prog 43 #[.pointer (some ⟨g + 1, 0, none⟩), .int .i64 v, .int .i64 p] w
    fun e w' => e = .returned (.int .i64 1) ∧ w' = w := by
  have q1 := fun w H => right39 g lv T v p w H
  rw [hc] at q1
  have HH := hide H
  clear H
  go_enter Try.func43, Try.ntmps43
  go_wp2_with (first | (go_at_call 39; refine (q1 _ HH.out).mono ?_; rintro e w' ⟨rfl, rfl⟩))
  go_ret
  exact ⟨rfl, rfl⟩
set_option maxRecDepth 100000 in
set_option maxHeartbeats 2000000 in
theorem remove43_none (g : Nat) (lv : Value) (T : Tb) (v p : Int) (w : World) (H : RT w g lv T) (hv : isV v = true) (hh : hp T p = true) (hm : hs T.l v p = false) : Calls Try.prog 43 #[.pointer (some ⟨g + 1, 0, none⟩), .int .i64 v, .int .i64 p] w
    fun e w' => e = .returned (.int .i64 4) ∧ w' = w := by
  have q1 := fun w H => right39 g lv T v p w H
  rw [hv, hh, Bool.true_and] at q1
  have q2 := fun w H => find29 g lv T v p w H
  have hfx : fx T.l v p = -1 := by rw [fx, hm]; rfl
  rw [hfx] at q2
  have HH := hide H
  clear H
  go_enter Try.func43, Try.ntmps43
  go_wp2_with (first | (go_at_call 39; refine (q1 _ HH.out).mono ?_; rintro e w' ⟨rfl, rfl⟩) | (go_at_call 29; refine (q2 _ HH.out).mono ?_; rintro e w' ⟨rfl, rfl⟩))
  go_ret
  exact ⟨rfl, rfl⟩
theorem remove43 (g : Nat) (lv : Value) (T : Tb) (v p : Int) (w : World) (H : RT w g lv T) (hL : T.l.length ≤ 1000) : Calls Try.prog 43 #[.pointer (some ⟨g + 1, 0, none⟩), .int .i64 v, .int .i64 p] w
    fun e w' => e = .returned (.int .i64 (eRm T v p)) ∧ (∃ lv', RT w' g lv' (tRm T v p)) ∧ Below g w w' := by
  rcases Bool.eq_false_or_eq_true (isV v && hp T p) with hc | hc
  · have hc' := hc
    simp only [Bool.and_eq_true] at hc'
    rcases Bool.eq_false_or_eq_true (hs T.l v p) with hm | hm
    · have e1 : eRm T v p = 0 := by rw [eRm, hc, hm]; rfl
      rw [e1]
      exact remove43_cut g lv T v p w H hL hc'.1 hc'.2 hm
    · have e1 : eRm T v p = 4 := by rw [eRm, hc, hm]; rfl
      have e2 : tRm T v p = T := by
        rw [tRm, hc, rm_erase, List.eraseIdx_of_length_le]
        · rfl
        · have h9 := hs_ix T.l v p
          rw [hm] at h9
          simp at h9
          exact h9
      rw [e1, e2]
      refine (remove43_none g lv T v p w H hc'.1 hc'.2 hm).mono ?_
      rintro e w' ⟨rfl, rfl⟩
      exact ⟨rfl, ⟨lv, H⟩, Below.refl _ _⟩
  · have e1 : eRm T v p = 1 := by rw [eRm, hc]; rfl
    have e2 : tRm T v p = T := by rw [tRm, hc]; rfl
    rw [e1, e2]
    refine (remove43_no g lv T v p w H hc).mono ?_
    rintro e w' ⟨rfl, rfl⟩
    exact ⟨rfl, ⟨lv, H⟩, Below.refl _ _⟩
end Go.Proofs.Ytelinahpneikiaa
