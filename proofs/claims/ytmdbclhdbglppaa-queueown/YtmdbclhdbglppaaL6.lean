/- QueueOwn: for every class and all bytes the law answers true, and both read behind the call as they read before. No condition. -/
import Derived.Test.YtmdbclhdbglppaaQo
import Derived.Test.YtmdbclhdbglppaaSu
import Derived.Deep.DeepCutAuto
import Derived.Deep.CutBlock
import Derived.Deep.LoopGhost
namespace Go.Proofs.Ytmdbclhdbglppaa
open Go.ChangeShapes Go.WideShapes Go.ChangeAt Go.RowKit Go.PlainAid

/-- Bytes that may be written. -/
structure Mine (w : World) (k n : Nat) : Prop where
  bx : ∃ cs : List Value, cs.length = n ∧ Box w k cs ∧ ∀ v ∈ cs, ∃ i : Int, v = .int .u8 i
theorem Mine.cell {w : World} {k n : Nat} (h : Mine w k n) {j : Nat} (hj : j < n) : ∃ v : Int, w.cell? ⟨k, j, none⟩ = some (.int .u8 v) ∧ w.frozen? ⟨k, j, none⟩ = false := by
  obtain ⟨cs, h1, h2, h3⟩ := h.bx
  have e := List.getElem?_eq_getElem (show j < cs.length by omega)
  obtain ⟨i, hi⟩ := h3 _ (List.getElem_mem (show j < cs.length by omega))
  exact ⟨i, by rw [h2.cell j _ e, hi], h2.free j (by omega)⟩
theorem Mine.put {w : World} {k n : Nat} (h : Mine w k n) {j : Nat} (hj : j < n) (i : Int) : Mine (w.setCell ⟨k, j, none⟩ (.int .u8 i)) k n := by
  obtain ⟨cs, h1, h2, h3⟩ := h.bx
  have hl : j < cs.length := by omega
  refine ⟨cs.set j (.int .u8 i), by simp [h1], ?_, fun v hv => ?_⟩
  · have e : cs = cs.take j ++ (cs[j] :: cs.drop (j + 1)) := by rw [List.getElem_cons_drop, List.take_append_drop]
    rw [List.set_eq_take_append_cons_drop, if_pos hl]
    rw [e] at h2
    exact Box.set h2 (by rw [List.length_take]; omega)
  · rcases List.mem_or_eq_of_mem_set hv with hv | hv
    · exact h3 v hv
    · exact ⟨i, hv⟩
theorem row_mine {w : World} {base : Nat} {v : Value} {n : Nat} {ns : List Int} (h : Row w base v n ns) : ∃ ao c, v = .slice ao n c ∧ (0 < n → ∃ b, ao = some ⟨b, 0, none⟩ ∧ base ≤ b ∧ b < w.heap.size ∧ Mine w b n) := by
  rcases h.2 with ⟨h1, h2⟩ | ⟨b, cap, cur, e, hb, hc, hn, hm, r⟩
  · exact ⟨none, 0, by rw [h1, h2], fun h0 => by omega⟩
  · subst e
    have hlt : b < w.heap.size := (Array.getElem?_eq_some_iff.1 hc).1
    have hl : (ns.map (Value.int .u8)).length = n := by have := h.1; simpa using this
    refine ⟨_, cap, rfl, fun _ => ⟨b, rfl, hb, hlt, ns.map (Value.int .u8), hl, ⟨hlt, fun j u hj => ?_, fun j hj => ⟨?_, World.ownsRow.frozenAt h _⟩⟩, fun v hv => ?_⟩⟩
    · rw [Nat.zero_add]
      have := World.ownsRow.cellAt h j (by have := (List.getElem?_eq_some_iff.1 hj).1; rw [hl] at this; omega)
      rw [this]; exact hj
    · rw [Nat.zero_add]
      have := World.ownsRow.cellAt h j (by rw [hl] at hj; omega)
      rw [this]; simp; simpa using hj
    · obtain ⟨i, _, hi⟩ := List.mem_map.1 hv
      exact ⟨i, hi.symm⟩
theorem rowu0 (w : World) (base : Nat) (hb : base ≤ w.heap.size) : Row (w.alloc (.cells #[] 5)) base (.slice (some ⟨w.heap.size, 0, none⟩) 0 0) 0 [] := Row.lit #[] [] 0 rfl rfl (by omega) hb
set_option maxRecDepth 100000 in
set_option maxHeartbeats 4000000 in
theorem ownLong (z : Int) (ao : Option Addr) (n c : Nat) (w : World) (h : 500 < n) :
    Calls Try.prog 6 #[.int .i64 z, .slice ao n c] w fun e w' => e = .returned (.bool true) ∧ Below w.heap.size w w' := by
  have h2 : (500 : Int) < (n : Int) := by omega
  clear h
  go_enter Try.func6, Try.ntmps6
  go_wp2_with fail
  refine (awakeC _).mono ?_
  rintro e w1 ⟨rfl, B1⟩
  have HB := hide B1
  clear B1
  go_wp2_with fail
  refine (newQ 2 _ (by omega) (by omega)).mono ?_
  rintro e w2 ⟨p, S, rfl, P2, hS2, B2⟩
  replace HB := hide (belowOn HB.out B2)
  clear P2 hS2 B2
  go_wp2
  go_ret
  exact ⟨rfl, HB.out⟩
set_option maxRecDepth 100000 in
set_option maxHeartbeats 8000000 in
theorem ownShort (z : Int) (ao : Option Addr) (n c : Nat) (b : List Int) (w : World) (h : n ≤ 500) (hb : By w (fun i => i < w.heap.size) ao n c b) :
    Calls Try.prog 6 #[.int .i64 z, .slice ao n c] w fun e w' => e = .returned (.bool true) ∧ Below w.heap.size w w' := by
  have h2 : ¬ (500 : Int) < (n : Int) := by omega
  obtain ⟨G, hG⟩ : ∃ G, G = w.heap.size := ⟨_, rfl⟩
  have HG := hide hG
  rw [← hG] at hb ⊢
  have HY := hide hb
  have HN := hide h
  clear hG hb h
  go_enter Try.func6, Try.ntmps6
  go_wp2_with fail
  refine (awakeC _).mono ?_
  rintro e w1 ⟨rfl, B1⟩
  rw [← HG.out] at B1
  have HB := hide B1
  replace HY := hide (HY.out.low B1)
  clear B1
  go_wp2_with fail
  refine (newQ 2 _ (by omega) (by omega)).mono ?_
  rintro e w2 ⟨p, S, rfl, P2, hS2, B2⟩
  have hz1 : G ≤ w1.heap.size := by have := HB.out.size; rw [← HG.out] at this; exact this
  replace HY := hide (HY.out.low (B2.mono hz1))
  have HP : Hid (Pw w w2 G p S 2 [] z8) := hide ⟨P2, fun i hi => by have := hS2 i hi; omega, Nat.le_trans hz1 B2.size, HB.out.trans (B2.mono hz1)⟩
  clear P2 hS2 B2 hz1 HB
  obtain ⟨N, hN⟩ : ∃ N, N = w2.heap.size := ⟨_, rfl⟩
  have HNN := hide hN
  have b2 := below_alloc w2 (.cells #[] 5)
  have R0 := rowu0 w2 N (by omega)
  have HYb := hide (HY.out.b.on b2)
  have hs1 : Hid (N ≤ (w2.alloc (.cells #[] 5)).heap.size) := hide (by simp; omega)
  have HB2 := hide b2
  have tk1 : True := trivial
  clear hN b2
  go_wp2_with (first | (have _t := tk1; at_builtin; refine wpl_app rfl (.tmp 39) (.tmp 40) rfl N _ 0 [] rfl R0 ao n c b rfl HYb.out (by have := HN.out; omega) hs1.out ?_; clear tk1))
  intro v3 w3 R3 B3
  have B23 : Below w2.heap.size w2 w3 := HB2.out.trans (B3.mono (by have := HNN.out; omega))
  have hG2 := HP.out.sz
  have hS0 : ∀ i, S i → i < N := fun i hi => by have := HP.out.P.sz i hi; have := HNN.out; omega
  replace HP := hide (HP.out.on B23)
  replace HY := hide (HY.out.low (B23.mono hG2))
  obtain ⟨am, cm, rfl, hM⟩ := row_mine R3
  have HYm := hide (R3.byt HY.out.b.rng)
  have HM := hide hM
  have HS0 := hide hS0
  have HGN : Hid (G ≤ N) := hide (by rw [HNN.out]; exact hG2)
  clear R3 B3 B23 hG2 hM hS0 HB2 hs1 HYb
  obtain ⟨am', cm', e9, Ym⟩ := HYm.out
  obtain ⟨rfl, rfl⟩ : am' = am ∧ cm' = cm := by injection e9 with e1 e2 e3; exact ⟨e1.symm, e3.symm⟩
  have HYn := hide Ym
  clear Ym e9 HYm
  go_wp2_with fail
  refine (putQ p S 2 [] z8 z (fun _ => True) am' n cm' b _ HP.out.P (by simp) (fun j => by match j with | 0 | 1 | 2 | 3 | 4 | 5 | 6 | 7 => decide | j + 8 => exact Nat.zero_le _) ⟨HYn.out, fun _ _ _ _ => trivial⟩ (by have := HN.out; omega)).mono ?_
  rintro e w4 ⟨rfl, ⟨S4, P4, hS4⟩, C4⟩
  have hl := HP.out.low C4
  have HP4 := hide (HP.out.prog C4 P4 hS4)
  replace HY := hide (HY.out.low hl)
  have HM4 : Hid (0 < n → ∃ k, am' = some ⟨k, 0, none⟩ ∧ G ≤ k ∧ ¬ S4 k ∧ Mine w4 k n) := hide (fun h0 => by
    obtain ⟨k, e1, e2, e3, e4⟩ := HM.out h0
    refine ⟨k, e1, by have := HGN.out; omega, fun hk => ?_, ?_⟩
    · rcases hS4 k hk with h | h
      · have := HS0.out k h; omega
      · omega
    · obtain ⟨cs, h1, h2, h3⟩ := e4.bx
      exact ⟨cs, h1, h2.block (C4.block k h2.lt (fun h => by have := HS0.out k h; omega)), h3⟩)
  obtain ⟨L4, hL4⟩ : ∃ L4, L4 = pL 2 [] z b := ⟨_, rfl⟩
  obtain ⟨l4, hl4⟩ : ∃ l4, l4 = pG 2 [] z8 z := ⟨_, rfl⟩
  rw [← hL4, ← hl4] at HP4
  have HL4 := hide hL4
  clear P4 hS4 C4 hl hL4 hl4 HP HM HS0 HYn
  obtain ⟨E, hE⟩ : ∃ E, E = pE 2 [] z := ⟨_, rfl⟩
  rw [← hE]
  have HE := hide hE
  clear hE
  go_wp2_with fail
  go_loopg [10] n (fun r i wr => ∃ k : Nat, k ≤ n ∧ r = n - k ∧ i = .int .i64 k ∧ Pw w wr G p S4 2 L4 l4 ∧ By wr (fun i => i < G) ao n c b ∧ (0 < n → ∃ q, am' = some ⟨q, 0, none⟩ ∧ G ≤ q ∧ ¬ S4 q ∧ Mine wr q n))
  case atStart => exact ⟨0, Nat.zero_le _, rfl, rfl, HP4.out, HY.out, HM4.out⟩
  case round =>
    obtain ⟨k, hk, hr, rfl, hP, hY, hM⟩ := hrel
    clear HP4 HY HM4
    have HP := hide hP
    have HY := hide hY
    have HM := hide hM
    have HRK := hide hr
    clear hP hY hM hr
    by_cases hc : k < n
    · obtain ⟨q, rfl, hq1, hq2, hq3⟩ := HM.out (by omega)
      obtain ⟨v, cv, fv⟩ := hq3.cell hc
      have HQ := hide (And.intro hq1 (And.intro hq2 hq3))
      have hk2 : (k : Int) < (n : Int) := by omega
      have e1 : IntKind.i64.wrap ((k : Int) + 1) = (k : Int) + 1 := IntWalk.i64_in _ (by have := HN.out; omega)
      clear hq1 hq2 hq3
      obtain ⟨y, hy⟩ : ∃ y : Int, y = bits .xor .u8 v 1 := ⟨_, rfl⟩
      have hX := HP.out.put (k := k) (v := .int .u8 y) HQ.out.1 HQ.out.2.1
      have HX := hide hX
      have HYX := hide (HY.out.low (below_of_grown (setCell_grown wr q k (.int .u8 y)) HQ.out.1 HP.out.sz))
      have HMX := hide (HQ.out.2.2.put hc y)
      have HYY := hide hy
      clear hX hy
      go_wp2
      rw [← HYY.out]
      go_roundg (n - (k + 1))
      case measure => rw [HRK.out]; omega
      case rel => exact ⟨k + 1, by omega, rfl, by go_num, HX.out, HYX.out, fun _ => ⟨q, rfl, HQ.out.1, HQ.out.2.1, HMX.out⟩⟩
    · obtain rfl : k = n := by omega
      have hkk : ¬ (k : Int) < (k : Int) := by omega
      clear hc hk HM
      rcases Bool.eq_false_or_eq_true (isC z) with hz | hz
      · have hE : E = 0 := by rw [HE.out]; unfold pE; rw [hz]; rfl
        have hL : L4 = [⟨z, b⟩] := by rw [HL4.out]; unfold pL; rw [show pE 2 [] z = 0 by unfold pE; rw [hz]; rfl]; rfl
        subst hE hL
        go_wp2_with fail
        refine (getQ_some p S4 2 [⟨z, b⟩] l4 ⟨z, b⟩ 0 _ HP.out.P (by simp) rfl rfl).mono ?_
        rintro e w6 ⟨⟨a6, n6, c6, rfl, Y6⟩, ⟨S6, P6, hS6⟩, C6⟩
        have hl6 := HP.out.low C6
        have hc1 := bytStr Y6.b
        have hc2 := bytStr (HY.out.low hl6).b
        have hb0 := bs_beq_self b
        have HB6 := hide (HP.out.BB.trans hl6)
        clear P6 hS6 C6 hl6 Y6 HP HY
        go_wp2
        go_ret
        exact ⟨rfl, HB6.out⟩
      · have hE : E = 1 := by rw [HE.out]; exact pE_out hz
        have hL : L4 = [] := by rw [HL4.out]; unfold pL; rw [pE_out hz]; rfl
        subst hE hL
        go_wp2_with fail
        refine (getQ_none p S4 2 l4 _ HP.out.P).mono ?_
        rintro e w6 ⟨rfl, ⟨S6, P6, hS6⟩, C6⟩
        have HB6 := hide (HP.out.BB.trans (HP.out.low C6))
        clear P6 hS6 C6 HP HY
        go_wp2
        go_ret
        exact ⟨rfl, HB6.out⟩
theorem ownWalk (z : Int) (ao : Option Addr) (n c : Nat) (b : List Int) (w : World) (_ : I64 z) (hb : By w (fun i => i < w.heap.size) ao n c b) :
    Calls Try.prog 6 #[.int .i64 z, .slice ao n c] w fun e w' => e = .returned (.bool true) ∧ Below w.heap.size w w' := by
  by_cases h : n ≤ 500
  · exact ownShort z ao n c b w h hb
  · exact ownLong z ao n c w (by omega)
set_option maxRecDepth 100000 in
set_option maxHeartbeats 2000000 in
theorem queueOwnlifted (os : Os) (started : os.Started) (H : Type) (enc : TypeId × Value → H) :
    ReturnsInHanded {} Try.checked os 6 .any (Rows.queueOwnSpec.pre6 enc Try.prog Try.f6 Rows.queueOwnRow.domain false) (Rows.queueOwnSpec.post enc Try.prog Try.f6 false true false false) := by
  refine returnsInHanded_of_change_sized (C := Try.checked) own started (by kernel_rfl) Try.func6
    (ChangeSpec.witness6 (enc := enc) (C := Try.checked) false ⟨#[], #[.int .i64 0, .slice none 0 0], []⟩ 8 (by kernel_rfl) (by kernel_rfl) (by kernel_rfl) (by kernel_rfl)) ?_
  intro W base args ds gs before hval0 hW _ hsize0 _
  have hval : ∀ (j : Nat) t v, Try.f6.params[j]? = some t → args[j]? = some v → Value.okWide Try.prog W .any base t v := hval0
  have hW' := hW
  obtain ⟨p, q, hA0, hV, rfl, _, _⟩ := hW
  have hA : DataW.TrodAll enc Try.prog W 0 (fun _ => true) true Try.f6.params.toList args.toList ds p := hA0
  rw [Try.params6] at hA hval
  obtain ⟨v0, vs0, d0, ds0, p0, q0, hargs, rfl, rfl, h0, r0⟩ := trodAll_cons hA
  obtain ⟨v1, vs1, d1, ds1, p1, q1, rfl, rfl, rfl, h1, r1⟩ := trodAll_cons r0
  obtain ⟨rfl, rfl, rfl⟩ := trodAll_nil r1
  obtain rfl : args = #[v0, v1] := by cases args; simp_all
  obtain ⟨rfl, rfl⟩ := trodVars_none hV
  have hsz := List.all_eq_true.1 hsize0
  have h0k := h0
  obtain ⟨x0, rfl, hx0⟩ := open_num (hval 0 3 v0 rfl rfl) h0
  have h1k := h1
  obtain ⟨ao1, n1, c1, ss1, rfl, hs1⟩ := open_bytes (hval 1 32 v1 rfl rfl) h1
  clear hA0 hval0 hsize0 hsz
  simp only [List.append_nil] at hW'
  have hlt : ∀ x ∈ p0 ++ p1, x.block < W.heap.size := fun x hx => by simpa using hW'.lt x (by simpa using hx)
  refine (ownWalk x0 ao1 n1 c1 ss1 W hx0 hs1).mono fun e W' ⟨he, hbl⟩ => ?_
  subst he
  exact ⟨_, rfl, _, _, _, [], _, [], hW', (trodAll_cons_mk (shut_bool Try.underlying4 _) trodAll_mk0), (trodAll_cons_mk (Below.trod Try.laidOut (by kernel_rfl) (of_decide_eq_true (by kernel_rfl)) h0k hbl (fun x hx => hlt x (by simp [hx]))) (trodAll_cons_mk (Below.trod Try.laidOut (by kernel_rfl) (of_decide_eq_true (by kernel_rfl)) h1k hbl (fun x hx => hlt x (by simp [hx]))) trodAll_mk0)), rfl, hbl.frame _, fun h => by cases h⟩

theorem queueOwn_holds : Rows.QueueOwnSaid :=
  OpenClaim.holds_of_wide 6 Try.f6 rfl rfl rfl rfl rfl rfl rfl ⟨rfl, rfl, rfl, rfl, rfl⟩ rfl rfl rfl rfl rfl (by kernel_rfl) Try.func6 (by kernel_rfl)
    (of_decide_eq_true (by kernel_rfl)) (by unfold Func.isWrapper; first | (rw [if_pos (by decide +kernel)]; kernel_rfl) | (rw [if_neg (by decide +kernel)]; exact ⟨rfl, rfl⟩))
    (fun os started H enc _ => queueOwnlifted os started H enc)

#print axioms queueOwn_holds
end Go.Proofs.Ytmdbclhdbglppaa
