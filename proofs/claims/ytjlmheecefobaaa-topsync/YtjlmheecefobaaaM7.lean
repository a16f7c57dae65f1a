/- Contract of the document's with. -/
import Derived.Test.YtjlmheecefobaaaM6
namespace Go.Proofs.Ytjlmheecefobaaa
open Go.RowKit Go.PlainAid

theorem boxN {w : World} {k : Nat} {cs : List Value} (h : Box w k cs) (n : Nat) : Box (w.drewN n) k cs := ⟨h.lt, h.at_, h.th⟩
theorem ers_none (w : World) : Ers w none 0 0 [] := ⟨rfl, fun _ => ⟨rfl, rfl⟩, fun a e => (by cases e)⟩
theorem ers_nil (w : World) (a : Addr) (c : Nat) : Ers w (some a) 0 c [] := ⟨rfl, fun e => (by cases e), fun a e j u hj => (by simp [es] at hj)⟩
theorem es_take' (l : List En) (k : Nat) (hk : k ≤ l.length) : es (l.take k) = (es l).take (k * 10) := by
  have e := es_append (l.take k) (l.drop k)
  rw [List.take_append_drop] at e
  have h2 : (es (l.take k)).length = k * 10 := by rw [es_length, List.length_take]; omega
  rw [e, ← h2]
  simp
theorem es_drop' (l : List En) (k : Nat) (hk : k ≤ l.length) : es (l.drop k) = (es l).drop (k * 10) := by
  have e := es_append (l.take k) (l.drop k)
  rw [List.take_append_drop] at e
  have h2 : (es (l.take k)).length = k * 10 := by rw [es_length, List.length_take]; omega
  rw [e, ← h2]
  simp
theorem ers_take {w : World} {b : Nat} {l : List En} (h : Box w b (es l)) {k : Nat} (hk : k ≤ l.length) (c : Nat) : Ers w (some ⟨b, 0, none⟩) k c (l.take k) :=
  ⟨by rw [List.length_take]; omega, fun e => (by cases e), fun a e j u hj => by
    obtain rfl := Option.some.inj e
    rw [es_take' l k hk, List.getElem?_take] at hj
    split at hj
    · rw [Addr.add_lit]; exact h.at_ j u hj
    · cases hj⟩
theorem ers_drop {w : World} {b : Nat} {l : List En} (h : Box w b (es l)) {k : Nat} (hk : k ≤ l.length) (cap : Nat) (hc : l.length ≤ cap) : Ers w (if cap = k then some ⟨b, 0, none⟩ else some ⟨b, k * 10, none⟩) (l.length - k) (cap - k) (l.drop k) :=
  ⟨by rw [List.length_drop], fun e => (by split at e <;> cases e), fun a e j u hj => by
    have hlt := (List.getElem?_eq_some_iff.1 hj).1
    rw [es_length, List.length_drop] at hlt
    rw [if_neg (by omega)] at e
    obtain rfl := Option.some.inj e
    rw [es_drop' l k hk, List.getElem?_drop] at hj
    have := h.at_ _ u hj
    rw [Nat.zero_add] at this
    rw [Addr.add_lit]
    exact this⟩
set_option maxRecDepth 100000 in
set_option maxHeartbeats 8000000 in
theorem with35 (B : Nat) (lv : Value) (l : List En) (x : En) (w : World) (O : w.ownsRow B 36 10 lv l.length (es l)) (hL : l.length ≤ 40000) (hs : Srt l) (ho : ∀ z ∈ l, Mok z.m) (hx : Mok x.m) :
    Calls Try.prog 35 #[lv, .agg (EC x)] w fun e w' => ∃ lv', e = .returned lv' ∧ w'.ownsRow w.heap.size 36 10 lv' (up l x).length (es (up l x)) ∧ Below w.heap.size w w' := by
  have W0 := hide (below_alloc w (.cells (EC x) 36))
  have X0 := hide (box_e w x)
  have O0 := hide (row_on O W0.out)
  have HXO := hide hx
  have HUR := hide (up_rm l x hx ho)
  have HSR := hide (rm_srt hs x.v x.m)
  have HMO : Hid (∀ z ∈ rm l x.v x.m, Mok z.m) := hide (fun z hz => ho z (rm_mem.1 hz).1)
  have HNE : Hid (∀ y ∈ rm l x.v x.m, ke y ≠ ke x) := hide (fun y hy e => by
    have h := (rm_mem.1 hy)
    rw [(ky_ke (ho y h.1) hx).2 e] at h
    cases h.2)
  have hle := rm_le l x.v x.m
  have A0 := X0.out.at_
  clear O hs ho hx
  have tk0 : True := trivial
  go_enter Try.func35, Try.ntmps35
  go_wp2_with (first | (have _t := tk0; refine wpl_ent (.tmp 3) rfl A0 ?_ ?_ ?_; rfl; rfl; clear tk0))
  refine (without36 B lv l x _ O0.out (by omega)).mono ?_
  rintro e w2 ⟨lv1, rfl, O1, b1⟩
  have HB := hide (below_more W0.out b1 (by simp))
  have HX := hide (X0.out.on b1)
  clear b1 W0 X0 O0 A0
  obtain ⟨k0, hk0⟩ : ∃ k0, k0 = w.heap.size := ⟨_, rfl⟩
  rw [← hk0] at HX ⊢
  clear hk0
  obtain ⟨L, hLL⟩ : ∃ L, L = rm l x.v x.m := ⟨_, rfl⟩
  rw [← hLL] at O1 HUR HSR HMO HNE hle
  clear hLL
  rcases row_alt O1 with ⟨rfl, rfl⟩ | ⟨b, cap, rfl, hb1, hb2, hlc, hmx, hbox⟩
  · have HUP : Hid (([] : List En) ++ (x :: []) = up l x) := hide (by rw [← HUR.out]; rfl)
    clear O1 hle
    go_wp2
    go_loopw [5] (fun i wr => i = .int .i64 0 ∧ wr = w2) (fun _ _ => 0)
    case atStart => exact ⟨rfl, rfl⟩
    case round =>
      obtain ⟨rfl, rfl⟩ := hrel
      go_wp2_with fail
      go_quiet (fail)
      replace HX := hide (boxN HX.out nq)
      replace HB := hide (belowN HB.out nq)
      generalize World.drewN _ nq = u0 at *
      have hxl := HX.out.lt
      have hsz := HB.out.size
      obtain ⟨N, hN⟩ : ∃ N, N = (World.heap u0).size := ⟨_, rfl⟩
      rw [← hN] at hxl hsz
      have b0 : Below N u0 (u0.alloc (.cells #[] 36)) := by rw [hN]; exact below_alloc _ _
      have O1 : Hid ((u0.alloc (.cells #[] 36)).ownsRow N 36 10 (.slice (some ⟨u0.heap.size, 0, none⟩) 0 0) 0 (es [])) := hide (World.ownsRow_lit u0 #[] 0 (by omega) (by unfold maxLen; omega) rfl)
      have M1 : Hid (Ers (u0.alloc (.cells #[] 36)) none 0 0 []) := hide (ers_none _)
      have hlt1 : Hid (N ≤ (u0.alloc (.cells #[] 36)).heap.size) := hide (by rw [hN]; simp)
      have B0 := hide b0
      have HN := hide hN
      have hxl0 := hide hxl
      have hsz0 := hide hsz
      clear b0 hN
      have tk1 : True := trivial
      have tk2 : True := trivial
      have tk3 : True := trivial
      have tk4 : True := trivial
      have tk5 : True := trivial
      go_wp2_with (first | (have _t := tk1; at_builtin; refine wpl_eapp rfl rfl (.tmp 47) (.tmp 50) rfl N _ 0 [] rfl O1.out _ _ _ _ rfl M1.out (by omega) hlt1.out ?_; clear tk1))
      intro v1 w1 R1 G1
      have B1 := hide (B0.out.grown G1 hlt1.out (fun r hr => (O1.out.lt r hr).1))
      have X1 := (HX.out.below hxl0.out B1.out).at_
      have O2 := hide (World.ownsRow.alloc R1 (.cells (EC x) 36))
      have M2 := hide (ers_one w1 x)
      have hlt2 : Hid (N ≤ (w1.alloc (.cells (EC x) 36)).heap.size) := hide (by have := B1.out.size; have := HN.out; simp; omega)
      clear R1 G1 B0 O1 M1
      go_wp2_with (first | (have _t := tk2; refine wpl_ent (.tmp 3) rfl X1 ?_ ?_ ?_; rfl; rfl; clear tk2) | (have _t := tk3; refine wpl_bs rfl (.tmp 53) x rfl rfl ?_; clear tk3) | (have _t := tk4; at_builtin; refine wpl_eapp rfl rfl (.tmp 52) (.tmp 54) rfl N _ _ _ rfl O2.out _ 1 1 _ rfl M2.out (by omega) hlt2.out ?_; clear tk4))
      intro v2 w2 R2 G2
      have B4 := hide ((B1.out.alloc (by have := B1.out.size; have := HN.out; omega) (.cells (EC x) 36)).grown G2 hlt2.out (fun r hr => (O2.out.lt r hr).1))
      have O3 := hide R2
      have M3 : Hid (Ers w2 none 0 0 []) := hide (ers_none _)
      have hlt3 : Hid (N ≤ w2.heap.size) := hide (by have := B4.out.size; have := HN.out; omega)
      clear R2 G2 B1 O2 M2 X1
      go_wp2_with (first | (have _t := tk5; at_builtin; refine wpl_eapp rfl rfl (.tmp 56) (.tmp 59) rfl N _ _ _ rfl O3.out _ _ _ _ rfl M3.out (by omega) hlt3.out ?_; clear tk5))
      intro v3 w3 R3 G3
      have B5 := hide (B4.out.grown G3 hlt3.out (fun r hr => (O3.out.lt r hr).1))
      have R4 : Hid (w3.ownsRow w.heap.size 36 10 v3 (up l x).length (es (up l x))) := hide (by
        rw [← HUP.out, show (([] : List En) ++ (x :: [])).length = (0 + 0 + 1 + 0) by rfl]
        exact row_mono36 (show w.heap.size ≤ N from hsz0.out) (by simpa using R3))
      have B6 := hide (HB.out.trans (B5.out.mono hsz0.out))
      clear R3 G3 B4 O3 M3 B5
      go_wp2
      go_ret
      exact ⟨_, rfl, R4.out, B6.out⟩
  · have HL := hide hbox
    obtain ⟨q, hq⟩ : ∃ q, q = L.length := ⟨_, rfl⟩
    have HQ := hide hq
    rw [← hq] at hlc hle ⊢
    unfold maxLen at hmx
    clear O1 hb1 hb2 hbox hq
    go_wp2
    have HB0 := hide HB.out
    have HX0 := hide HX.out
    have HL0 := hide HL.out
    clear HB HX HL
    go_loopw [5] (fun i wr => ∃ k : Nat, k ≤ q ∧ i = .int .i64 k ∧ (∀ (j : Nat) (y : En), j < k → L[j]? = some y → ke y < ke x) ∧ Below w.heap.size w wr ∧ Box wr b (es L) ∧ Box wr k0 (ecl x)) (fun i _ => q - (intOf i).toNat)
    case atStart => exact ⟨0, Nat.zero_le _, rfl, fun j y hj => by omega, HB0.out, HL0.out, HX0.out⟩
    case round =>
      obtain ⟨k, hk, rfl, hlow, hB1, hL1, hX1⟩ := hrel
      have HB := hide hB1
      have HL := hide hL1
      have HX := hide hX1
      have HLO := hide hlow
      have e1 : IntKind.i64.wrap ((k : Int) + 1) = (k : Int) + 1 := IntWalk.i64_in _ (by omega)
      clear hB1 hL1 hX1 hlow HB0 HX0 HL0
      by_cases hkl : k < q
      · obtain ⟨y, hy⟩ : ∃ y, L[k]? = some y := ⟨_, List.getElem?_eq_getElem (by rw [← HQ.out]; exact hkl)⟩
        have HY := hide hy
        have hk2 : (k : Int) < (q : Int) := by omega
        have HYO : Hid (Mok y.m) := hide (HMO.out y (List.mem_of_getElem? hy))
        have hyn := HNE.out y (List.mem_of_getElem? hy)
        have HYN := hide hyn
        have y0 := num_0 HYO.out
        have y1 := num_1 HYO.out
        have x0 := num_0 HXO.out
        have x1 := num_1 HXO.out
        have hup : ke x < ke y → Hid (L.take k ++ (x :: L.drop k) = up l x) := fun h => hide (by rw [← HUR.out]; exact up_ins HSR.out (by rw [← HQ.out]; exact hk) HLO.out (fun z hz => by rw [HY.out] at hz; cases hz; exact h))
        have hnx : ke y < ke x → Hid (∀ (j : Nat) (z : En), j < k + 1 → L[j]? = some z → ke z < ke x) := fun h => hide (fun j z hj hz => by
          by_cases c : j < k
          · exact HLO.out j z c hz
          · obtain rfl : j = k := by omega
            rw [HY.out] at hz; cases hz; exact h)
        have A1 := HL.out.ent hy
        clear hy hyn
        by_cases c1 : y.v < x.v
        · have HN := hnx (by unfold ke kn; omega)
          obtain ⟨d0, d1, d2, d3, d4, d5, d6, -, -, -⟩ := range_cells A1
          obtain ⟨f0, f1, f2, f3, f4, f5, f6, -, -, -⟩ := range_cells HX.out.at_
          clear hup hnx y0 y1 x0 x1 A1
          go_wp2_with fail
          go_quiet (fail)
          replace HL := hide (boxN HL.out nq)
          replace HX := hide (boxN HX.out nq)
          replace HB := hide (belowN HB.out nq)
          go_wp2
          go_roundw
          case rel => exact ⟨k + 1, by omega, by go_num, HN.out, HB.out, HL.out, HX.out⟩
          case measure => simp [intOf]; omega
        · by_cases c2 : y.v = x.v
          · obtain ⟨cc, hcc⟩ : ∃ cc, cc = decide (cmp3 (num y.m) (num x.m) < 0) := ⟨_, rfl⟩
            have hlt : ¬ y.v < x.v := c1
            have heq : (y.v == x.v) = true := by simp [c2]
            have hc3 : (cmp3 (num y.m) (num x.m) < 0) ↔ num y.m < num x.m := by unfold cmp3; split <;> (try split) <;> omega
            have hcase : (cc = true ∧ ke y < ke x) ∨ (cc = false ∧ ke x < ke y) := by
              have := HYN.out
              by_cases c : num y.m < num x.m
              · exact Or.inl ⟨by rw [hcc]; simp [hc3, c], by unfold ke kn; omega⟩
              · exact Or.inr ⟨by rw [hcc]; simp [hc3]; omega, by unfold ke kn at *; omega⟩
            have HC := hide hcase
            have HNX := hide hnx
            have HPU := hide hup
            clear hc3 hcase hnx hup y0 y1 x0 x1 c2 A1
            go_wp2_with fail
            refine wp_region_held_drew (S := fun w' => Box w' b (es L) ∧ Box w' k0 (ecl x)) (by kernel_rfl) ⟨HL.out.drew, HX.out.drew⟩ (fun hHeld => ?_)
            replace HB := hide (belowOn' HB.out)
            clear HL HX
            generalize World.drew _ = u0 at *
            refine wpAnyH_take (i := 0) (v := .int .i64 (k : Int)) rfl (by kernel_rfl) (by kernel_rfl) (by kernel_rfl) (fun _ _ _ h => h) (Or.inl ⟨by rfl, ?_⟩) hHeld ?_
            · intro W hW; (try dsimp only at hW); go_simp
            change wpAnyH _ _ _ _ _ _ _ ⟨#[.slice (some ⟨b, 0, none⟩) q cap,_,_,.pointer (some ⟨k0, 0, none⟩),_,.int .i64 (k : Int),_,_,_,_,.int .i64 (k : Int),_,_,_,_,_,_,_,_,_,_,_,_,_,_,_,_,_,_,_,_,_,_,_,_,_,_,_,_,_,_,_,_,_,_,_,_,_,_,_,_,_,_,_,_,_,_,_,_,_,_], []⟩ _
            refine wpAnyH_take (i := 1) (v := .slice (some ⟨b, 0, none⟩) q cap) rfl (by kernel_rfl) (by kernel_rfl) (by kernel_rfl) (fun _ _ _ h => h) (Or.inl ⟨by rfl, ?_⟩) hHeld ?_
            · intro W hW; (try dsimp only at hW); go_simp
            change wpAnyH _ _ _ _ _ _ _ ⟨#[.slice (some ⟨b, 0, none⟩) q cap,_,_,.pointer (some ⟨k0, 0, none⟩),_,.int .i64 (k : Int),_,_,_,_,.int .i64 (k : Int),.slice (some ⟨b, 0, none⟩) q cap,_,_,_,_,_,_,_,_,_,_,_,_,_,_,_,_,_,_,_,_,_,_,_,_,_,_,_,_,_,_,_,_,_,_,_,_,_,_,_,_,_,_,_,_,_,_,_,_,_], []⟩ _
            refine wpAnyH_take (i := 2) (v := .int .i64 (q : Int)) rfl (by kernel_rfl) (by kernel_rfl) (by kernel_rfl) (fun _ _ _ h => h) (Or.inl ⟨by rfl, ?_⟩) hHeld ?_
            · intro W hW; (try dsimp only at hW); go_simp
            change wpAnyH _ _ _ _ _ _ _ ⟨#[.slice (some ⟨b, 0, none⟩) q cap,_,_,.pointer (some ⟨k0, 0, none⟩),_,.int .i64 (k : Int),_,_,_,_,.int .i64 (k : Int),.slice (some ⟨b, 0, none⟩) q cap,.int .i64 (q : Int),_,_,_,_,_,_,_,_,_,_,_,_,_,_,_,_,_,_,_,_,_,_,_,_,_,_,_,_,_,_,_,_,_,_,_,_,_,_,_,_,_,_,_,_,_,_,_,_], []⟩ _
            refine wpAnyH_take (i := 3) (v := .bool true) rfl (by kernel_rfl) (by kernel_rfl) (by kernel_rfl) (fun _ _ _ h => h) (Or.inl ⟨by rfl, ?_⟩) hHeld ?_
            · intro W hW; (try dsimp only at hW); go_simp
            change wpAnyH _ _ _ _ _ _ _ ⟨#[.slice (some ⟨b, 0, none⟩) q cap,_,_,.pointer (some ⟨k0, 0, none⟩),_,.int .i64 (k : Int),_,_,_,_,.int .i64 (k : Int),.slice (some ⟨b, 0, none⟩) q cap,.int .i64 (q : Int),.bool true,_,_,_,_,_,_,_,_,_,_,_,_,_,_,_,_,_,_,_,_,_,_,_,_,_,_,_,_,_,_,_,_,_,_,_,_,_,_,_,_,_,_,_,_,_,_,_], []⟩ _
            refine wpAnyH_take (i := 4) (v := .bool true) rfl (by kernel_rfl) (by kernel_rfl) (by kernel_rfl) (fun _ _ _ h => h) (Or.inl ⟨by rfl, ?_⟩) hHeld ?_
            · intro W hW; (try dsimp only at hW); go_simp
            change wpAnyH _ _ _ _ _ _ _ ⟨#[.slice (some ⟨b, 0, none⟩) q cap,_,_,.pointer (some ⟨k0, 0, none⟩),_,.int .i64 (k : Int),_,_,_,_,.int .i64 (k : Int),.slice (some ⟨b, 0, none⟩) q cap,.int .i64 (q : Int),.bool true,.bool true,_,_,_,_,_,_,_,_,_,_,_,_,_,_,_,_,_,_,_,_,_,_,_,_,_,_,_,_,_,_,_,_,_,_,_,_,_,_,_,_,_,_,_,_,_,_], []⟩ _
            refine wpAnyH_take (i := 5) (v := .slice (some ⟨b, 0, none⟩) q cap) rfl (by kernel_rfl) (by kernel_rfl) (by kernel_rfl) (fun _ _ _ h => h) (Or.inl ⟨by rfl, ?_⟩) hHeld ?_
            · intro W hW; (try dsimp only at hW); go_simp
            change wpAnyH _ _ _ _ _ _ _ ⟨#[.slice (some ⟨b, 0, none⟩) q cap,_,_,.pointer (some ⟨k0, 0, none⟩),_,.int .i64 (k : Int),_,_,_,_,.int .i64 (k : Int),.slice (some ⟨b, 0, none⟩) q cap,.int .i64 (q : Int),.bool true,.bool true,.slice (some ⟨b, 0, none⟩) q cap,_,_,_,_,_,_,_,_,_,_,_,_,_,_,_,_,_,_,_,_,_,_,_,_,_,_,_,_,_,_,_,_,_,_,_,_,_,_,_,_,_,_,_,_,_], []⟩ _
            refine wpAnyH_take (i := 6) (v := .int .i64 (k : Int)) rfl (by kernel_rfl) (by kernel_rfl) (by kernel_rfl) (fun _ _ _ h => h) (Or.inl ⟨by rfl, ?_⟩) hHeld ?_
            · intro W hW; (try dsimp only at hW); go_simp
            change wpAnyH _ _ _ _ _ _ _ ⟨#[.slice (some ⟨b, 0, none⟩) q cap,_,_,.pointer (some ⟨k0, 0, none⟩),_,.int .i64 (k : Int),_,_,_,_,.int .i64 (k : Int),.slice (some ⟨b, 0, none⟩) q cap,.int .i64 (q : Int),.bool true,.bool true,.slice (some ⟨b, 0, none⟩) q cap,.int .i64 (k : Int),_,_,_,_,_,_,_,_,_,_,_,_,_,_,_,_,_,_,_,_,_,_,_,_,_,_,_,_,_,_,_,_,_,_,_,_,_,_,_,_,_,_,_,_], []⟩ _
            refine wpAnyH_take (i := 7) (v := .pointer (some ⟨b, k * 10, none⟩)) rfl (by kernel_rfl) (by kernel_rfl) (by kernel_rfl) (fun _ _ _ h => h) (Or.inl ⟨by rfl, ?_⟩) hHeld ?_
            · intro W hW; (try dsimp only at hW); go_simp
            change wpAnyH _ _ _ _ _ _ _ ⟨#[.slice (some ⟨b, 0, none⟩) q cap,_,_,.pointer (some ⟨k0, 0, none⟩),_,.int .i64 (k : Int),_,_,_,_,.int .i64 (k : Int),.slice (some ⟨b, 0, none⟩) q cap,.int .i64 (q : Int),.bool true,.bool true,.slice (some ⟨b, 0, none⟩) q cap,.int .i64 (k : Int),.pointer (some ⟨b, k * 10, none⟩),_,_,_,_,_,_,_,_,_,_,_,_,_,_,_,_,_,_,_,_,_,_,_,_,_,_,_,_,_,_,_,_,_,_,_,_,_,_,_,_,_,_,_], []⟩ _
            refine wpAnyH_take (i := 8) (v := .pointer (some ⟨b, k * 10, none⟩)) rfl (by kernel_rfl) (by kernel_rfl) (by kernel_rfl) (fun _ _ _ h => h) (Or.inl ⟨by rfl, ?_⟩) hHeld ?_
            · intro W hW; (try dsimp only at hW); go_simp
            change wpAnyH _ _ _ _ _ _ _ ⟨#[.slice (some ⟨b, 0, none⟩) q cap,_,_,.pointer (some ⟨k0, 0, none⟩),_,.int .i64 (k : Int),_,_,_,_,.int .i64 (k : Int),.slice (some ⟨b, 0, none⟩) q cap,.int .i64 (q : Int),.bool true,.bool true,.slice (some ⟨b, 0, none⟩) q cap,.int .i64 (k : Int),.pointer (some ⟨b, k * 10, none⟩),.pointer (some ⟨b, k * 10, none⟩),_,_,_,_,_,_,_,_,_,_,_,_,_,_,_,_,_,_,_,_,_,_,_,_,_,_,_,_,_,_,_,_,_,_,_,_,_,_,_,_,_,_], []⟩ _
            refine wpAnyH_take (i := 9) (v := .int .i64 y.v) rfl (by kernel_rfl) (by kernel_rfl) (by kernel_rfl) (fun _ _ _ h => h) (Or.inl ⟨by rfl, ?_⟩) hHeld ?_
            · intro W hW; (try dsimp only at hW); have hc := (range_cells (hW.1.ent HY.out)).1; clear hW; go_simp
            change wpAnyH _ _ _ _ _ _ _ ⟨#[.slice (some ⟨b, 0, none⟩) q cap,_,_,.pointer (some ⟨k0, 0, none⟩),_,.int .i64 (k : Int),_,_,_,_,.int .i64 (k : Int),.slice (some ⟨b, 0, none⟩) q cap,.int .i64 (q : Int),.bool true,.bool true,.slice (some ⟨b, 0, none⟩) q cap,.int .i64 (k : Int),.pointer (some ⟨b, k * 10, none⟩),.pointer (some ⟨b, k * 10, none⟩),.int .i64 y.v,_,_,_,_,_,_,_,_,_,_,_,_,_,_,_,_,_,_,_,_,_,_,_,_,_,_,_,_,_,_,_,_,_,_,_,_,_,_,_,_,_], []⟩ _
            refine wpAnyH_take (i := 10) (v := .pointer (some ⟨k0, 0, none⟩)) rfl (by kernel_rfl) (by kernel_rfl) (by kernel_rfl) (fun _ _ _ h => h) (Or.inl ⟨by rfl, ?_⟩) hHeld ?_
            · intro W hW; (try dsimp only at hW); go_simp
            change wpAnyH _ _ _ _ _ _ _ ⟨#[.slice (some ⟨b, 0, none⟩) q cap,_,_,.pointer (some ⟨k0, 0, none⟩),_,.int .i64 (k : Int),_,_,_,_,.int .i64 (k : Int),.slice (some ⟨b, 0, none⟩) q cap,.int .i64 (q : Int),.bool true,.bool true,.slice (some ⟨b, 0, none⟩) q cap,.int .i64 (k : Int),.pointer (some ⟨b, k * 10, none⟩),.pointer (some ⟨b, k * 10, none⟩),.int .i64 y.v,.pointer (some ⟨k0, 0, none⟩),_,_,_,_,_,_,_,_,_,_,_,_,_,_,_,_,_,_,_,_,_,_,_,_,_,_,_,_,_,_,_,_,_,_,_,_,_,_,_,_], []⟩ _
            refine wpAnyH_take (i := 11) (v := .int .i64 x.v) rfl (by kernel_rfl) (by kernel_rfl) (by kernel_rfl) (fun _ _ _ h => h) (Or.inl ⟨by rfl, ?_⟩) hHeld ?_
            · intro W hW; (try dsimp only at hW); have hc := hW.2.cell 0 _ rfl; clear hW; go_simp
            change wpAnyH _ _ _ _ _ _ _ ⟨#[.slice (some ⟨b, 0, none⟩) q cap,_,_,.pointer (some ⟨k0, 0, none⟩),_,.int .i64 (k : Int),_,_,_,_,.int .i64 (k : Int),.slice (some ⟨b, 0, none⟩) q cap,.int .i64 (q : Int),.bool true,.bool true,.slice (some ⟨b, 0, none⟩) q cap,.int .i64 (k : Int),.pointer (some ⟨b, k * 10, none⟩),.pointer (some ⟨b, k * 10, none⟩),.int .i64 y.v,.pointer (some ⟨k0, 0, none⟩),.int .i64 x.v,_,_,_,_,_,_,_,_,_,_,_,_,_,_,_,_,_,_,_,_,_,_,_,_,_,_,_,_,_,_,_,_,_,_,_,_,_,_,_], []⟩ _
            refine wpAnyH_take (i := 12) (v := .bool false) rfl (by kernel_rfl) (by kernel_rfl) (by kernel_rfl) (fun _ _ _ h => h) (Or.inl ⟨by rfl, ?_⟩) hHeld ?_
            · intro W hW; (try dsimp only at hW); go_simp
            change wpAnyH _ _ _ _ _ _ _ ⟨#[.slice (some ⟨b, 0, none⟩) q cap,_,_,.pointer (some ⟨k0, 0, none⟩),_,.int .i64 (k : Int),_,_,_,_,.int .i64 (k : Int),.slice (some ⟨b, 0, none⟩) q cap,.int .i64 (q : Int),.bool true,.bool true,.slice (some ⟨b, 0, none⟩) q cap,.int .i64 (k : Int),.pointer (some ⟨b, k * 10, none⟩),.pointer (some ⟨b, k * 10, none⟩),.int .i64 y.v,.pointer (some ⟨k0, 0, none⟩),.int .i64 x.v,.bool false,_,_,_,_,_,_,_,_,_,_,_,_,_,_,_,_,_,_,_,_,_,_,_,_,_,_,_,_,_,_,_,_,_,_,_,_,_,_], []⟩ _
            refine wpAnyH_take (i := 13) (v := .bool false) rfl (by kernel_rfl) (by kernel_rfl) (by kernel_rfl) (fun _ _ _ h => h) (Or.inl ⟨by rfl, ?_⟩) hHeld ?_
            · intro W hW; (try dsimp only at hW); go_simp
            change wpAnyH _ _ _ _ _ _ _ ⟨#[.slice (some ⟨b, 0, none⟩) q cap,_,_,.pointer (some ⟨k0, 0, none⟩),_,.int .i64 (k : Int),_,_,_,_,.int .i64 (k : Int),.slice (some ⟨b, 0, none⟩) q cap,.int .i64 (q : Int),.bool true,.bool true,.slice (some ⟨b, 0, none⟩) q cap,.int .i64 (k : Int),.pointer (some ⟨b, k * 10, none⟩),.pointer (some ⟨b, k * 10, none⟩),.int .i64 y.v,.pointer (some ⟨k0, 0, none⟩),.int .i64 x.v,.bool false,.bool false,_,_,_,_,_,_,_,_,_,_,_,_,_,_,_,_,_,_,_,_,_,_,_,_,_,_,_,_,_,_,_,_,_,_,_,_,_], []⟩ _
            refine wpAnyH_take (i := 14) (v := .slice (some ⟨b, 0, none⟩) q cap) rfl (by kernel_rfl) (by kernel_rfl) (by kernel_rfl) (fun _ _ _ h => h) (Or.inl ⟨by rfl, ?_⟩) hHeld ?_
            · intro W hW; (try dsimp only at hW); go_simp
            change wpAnyH _ _ _ _ _ _ _ ⟨#[.slice (some ⟨b, 0, none⟩) q cap,_,_,.pointer (some ⟨k0, 0, none⟩),_,.int .i64 (k : Int),_,_,_,_,.int .i64 (k : Int),.slice (some ⟨b, 0, none⟩) q cap,.int .i64 (q : Int),.bool true,.bool true,.slice (some ⟨b, 0, none⟩) q cap,.int .i64 (k : Int),.pointer (some ⟨b, k * 10, none⟩),.pointer (some ⟨b, k * 10, none⟩),.int .i64 y.v,.pointer (some ⟨k0, 0, none⟩),.int .i64 x.v,.bool false,.bool false,.slice (some ⟨b, 0, none⟩) q cap,_,_,_,_,_,_,_,_,_,_,_,_,_,_,_,_,_,_,_,_,_,_,_,_,_,_,_,_,_,_,_,_,_,_,_,_], []⟩ _
            refine wpAnyH_take (i := 15) (v := .int .i64 (k : Int)) rfl (by kernel_rfl) (by kernel_rfl) (by kernel_rfl) (fun _ _ _ h => h) (Or.inl ⟨by rfl, ?_⟩) hHeld ?_
            · intro W hW; (try dsimp only at hW); go_simp
            change wpAnyH _ _ _ _ _ _ _ ⟨#[.slice (some ⟨b, 0, none⟩) q cap,_,_,.pointer (some ⟨k0, 0, none⟩),_,.int .i64 (k : Int),_,_,_,_,.int .i64 (k : Int),.slice (some ⟨b, 0, none⟩) q cap,.int .i64 (q : Int),.bool true,.bool true,.slice (some ⟨b, 0, none⟩) q cap,.int .i64 (k : Int),.pointer (some ⟨b, k * 10, none⟩),.pointer (some ⟨b, k * 10, none⟩),.int .i64 y.v,.pointer (some ⟨k0, 0, none⟩),.int .i64 x.v,.bool false,.bool false,.slice (some ⟨b, 0, none⟩) q cap,.int .i64 (k : Int),_,_,_,_,_,_,_,_,_,_,_,_,_,_,_,_,_,_,_,_,_,_,_,_,_,_,_,_,_,_,_,_,_,_,_], []⟩ _
            refine wpAnyH_take (i := 16) (v := .pointer (some ⟨b, k * 10, none⟩)) rfl (by kernel_rfl) (by kernel_rfl) (by kernel_rfl) (fun _ _ _ h => h) (Or.inl ⟨by rfl, ?_⟩) hHeld ?_
            · intro W hW; (try dsimp only at hW); go_simp
            change wpAnyH _ _ _ _ _ _ _ ⟨#[.slice (some ⟨b, 0, none⟩) q cap,_,_,.pointer (some ⟨k0, 0, none⟩),_,.int .i64 (k : Int),_,_,_,_,.int .i64 (k : Int),.slice (some ⟨b, 0, none⟩) q cap,.int .i64 (q : Int),.bool true,.bool true,.slice (some ⟨b, 0, none⟩) q cap,.int .i64 (k : Int),.pointer (some ⟨b, k * 10, none⟩),.pointer (some ⟨b, k * 10, none⟩),.int .i64 y.v,.pointer (some ⟨k0, 0, none⟩),.int .i64 x.v,.bool false,.bool false,.slice (some ⟨b, 0, none⟩) q cap,.int .i64 (k : Int),.pointer (some ⟨b, k * 10, none⟩),_,_,_,_,_,_,_,_,_,_,_,_,_,_,_,_,_,_,_,_,_,_,_,_,_,_,_,_,_,_,_,_,_,_], []⟩ _
            refine wpAnyH_take (i := 17) (v := .pointer (some ⟨b, k * 10, none⟩)) rfl (by kernel_rfl) (by kernel_rfl) (by kernel_rfl) (fun _ _ _ h => h) (Or.inl ⟨by rfl, ?_⟩) hHeld ?_
            · intro W hW; (try dsimp only at hW); go_simp
            change wpAnyH _ _ _ _ _ _ _ ⟨#[.slice (some ⟨b, 0, none⟩) q cap,_,_,.pointer (some ⟨k0, 0, none⟩),_,.int .i64 (k : Int),_,_,_,_,.int .i64 (k : Int),.slice (some ⟨b, 0, none⟩) q cap,.int .i64 (q : Int),.bool true,.bool true,.slice (some ⟨b, 0, none⟩) q cap,.int .i64 (k : Int),.pointer (some ⟨b, k * 10, none⟩),.pointer (some ⟨b, k * 10, none⟩),.int .i64 y.v,.pointer (some ⟨k0, 0, none⟩),.int .i64 x.v,.bool false,.bool false,.slice (some ⟨b, 0, none⟩) q cap,.int .i64 (k : Int),.pointer (some ⟨b, k * 10, none⟩),.pointer (some ⟨b, k * 10, none⟩),_,_,_,_,_,_,_,_,_,_,_,_,_,_,_,_,_,_,_,_,_,_,_,_,_,_,_,_,_,_,_,_,_], []⟩ _
            refine wpAnyH_take (i := 18) (v := .int .i64 y.v) rfl (by kernel_rfl) (by kernel_rfl) (by kernel_rfl) (fun _ _ _ h => h) (Or.inl ⟨by rfl, ?_⟩) hHeld ?_
            · intro W hW; (try dsimp only at hW); have hc := (range_cells (hW.1.ent HY.out)).1; clear hW; go_simp
            change wpAnyH _ _ _ _ _ _ _ ⟨#[.slice (some ⟨b, 0, none⟩) q cap,_,_,.pointer (some ⟨k0, 0, none⟩),_,.int .i64 (k : Int),_,_,_,_,.int .i64 (k : Int),.slice (some ⟨b, 0, none⟩) q cap,.int .i64 (q : Int),.bool true,.bool true,.slice (some ⟨b, 0, none⟩) q cap,.int .i64 (k : Int),.pointer (some ⟨b, k * 10, none⟩),.pointer (some ⟨b, k * 10, none⟩),.int .i64 y.v,.pointer (some ⟨k0, 0, none⟩),.int .i64 x.v,.bool false,.bool false,.slice (some ⟨b, 0, none⟩) q cap,.int .i64 (k : Int),.pointer (some ⟨b, k * 10, none⟩),.pointer (some ⟨b, k * 10, none⟩),.int .i64 y.v,_,_,_,_,_,_,_,_,_,_,_,_,_,_,_,_,_,_,_,_,_,_,_,_,_,_,_,_,_,_,_,_], []⟩ _
            refine wpAnyH_take (i := 19) (v := .pointer (some ⟨k0, 0, none⟩)) rfl (by kernel_rfl) (by kernel_rfl) (by kernel_rfl) (fun _ _ _ h => h) (Or.inl ⟨by rfl, ?_⟩) hHeld ?_
            · intro W hW; (try dsimp only at hW); go_simp
            change wpAnyH _ _ _ _ _ _ _ ⟨#[.slice (some ⟨b, 0, none⟩) q cap,_,_,.pointer (some ⟨k0, 0, none⟩),_,.int .i64 (k : Int),_,_,_,_,.int .i64 (k : Int),.slice (some ⟨b, 0, none⟩) q cap,.int .i64 (q : Int),.bool true,.bool true,.slice (some ⟨b, 0, none⟩) q cap,.int .i64 (k : Int),.pointer (some ⟨b, k * 10, none⟩),.pointer (some ⟨b, k * 10, none⟩),.int .i64 y.v,.pointer (some ⟨k0, 0, none⟩),.int .i64 x.v,.bool false,.bool false,.slice (some ⟨b, 0, none⟩) q cap,.int .i64 (k : Int),.pointer (some ⟨b, k * 10, none⟩),.pointer (some ⟨b, k * 10, none⟩),.int .i64 y.v,.pointer (some ⟨k0, 0, none⟩),_,_,_,_,_,_,_,_,_,_,_,_,_,_,_,_,_,_,_,_,_,_,_,_,_,_,_,_,_,_,_], []⟩ _
            refine wpAnyH_take (i := 20) (v := .int .i64 x.v) rfl (by kernel_rfl) (by kernel_rfl) (by kernel_rfl) (fun _ _ _ h => h) (Or.inl ⟨by rfl, ?_⟩) hHeld ?_
            · intro W hW; (try dsimp only at hW); have hc := hW.2.cell 0 _ rfl; clear hW; go_simp
            change wpAnyH _ _ _ _ _ _ _ ⟨#[.slice (some ⟨b, 0, none⟩) q cap,_,_,.pointer (some ⟨k0, 0, none⟩),_,.int .i64 (k : Int),_,_,_,_,.int .i64 (k : Int),.slice (some ⟨b, 0, none⟩) q cap,.int .i64 (q : Int),.bool true,.bool true,.slice (some ⟨b, 0, none⟩) q cap,.int .i64 (k : Int),.pointer (some ⟨b, k * 10, none⟩),.pointer (some ⟨b, k * 10, none⟩),.int .i64 y.v,.pointer (some ⟨k0, 0, none⟩),.int .i64 x.v,.bool false,.bool false,.slice (some ⟨b, 0, none⟩) q cap,.int .i64 (k : Int),.pointer (some ⟨b, k * 10, none⟩),.pointer (some ⟨b, k * 10, none⟩),.int .i64 y.v,.pointer (some ⟨k0, 0, none⟩),.int .i64 x.v,_,_,_,_,_,_,_,_,_,_,_,_,_,_,_,_,_,_,_,_,_,_,_,_,_,_,_,_,_,_], []⟩ _
            refine wpAnyH_take (i := 21) (v := .bool true) rfl (by kernel_rfl) (by kernel_rfl) (by kernel_rfl) (fun _ _ _ h => h) (Or.inl ⟨by rfl, ?_⟩) hHeld ?_
            · intro W hW; (try dsimp only at hW); go_simp
            change wpAnyH _ _ _ _ _ _ _ ⟨#[.slice (some ⟨b, 0, none⟩) q cap,_,_,.pointer (some ⟨k0, 0, none⟩),_,.int .i64 (k : Int),_,_,_,_,.int .i64 (k : Int),.slice (some ⟨b, 0, none⟩) q cap,.int .i64 (q : Int),.bool true,.bool true,.slice (some ⟨b, 0, none⟩) q cap,.int .i64 (k : Int),.pointer (some ⟨b, k * 10, none⟩),.pointer (some ⟨b, k * 10, none⟩),.int .i64 y.v,.pointer (some ⟨k0, 0, none⟩),.int .i64 x.v,.bool false,.bool false,.slice (some ⟨b, 0, none⟩) q cap,.int .i64 (k : Int),.pointer (some ⟨b, k * 10, none⟩),.pointer (some ⟨b, k * 10, none⟩),.int .i64 y.v,.pointer (some ⟨k0, 0, none⟩),.int .i64 x.v,.bool true,_,_,_,_,_,_,_,_,_,_,_,_,_,_,_,_,_,_,_,_,_,_,_,_,_,_,_,_,_], []⟩ _
            refine wpAnyH_take (i := 22) (v := .bool true) rfl (by kernel_rfl) (by kernel_rfl) (by kernel_rfl) (fun _ _ _ h => h) (Or.inl ⟨by rfl, ?_⟩) hHeld ?_
            · intro W hW; (try dsimp only at hW); go_simp
            change wpAnyH _ _ _ _ _ _ _ ⟨#[.slice (some ⟨b, 0, none⟩) q cap,_,_,.pointer (some ⟨k0, 0, none⟩),_,.int .i64 (k : Int),_,_,_,_,.int .i64 (k : Int),.slice (some ⟨b, 0, none⟩) q cap,.int .i64 (q : Int),.bool true,.bool true,.slice (some ⟨b, 0, none⟩) q cap,.int .i64 (k : Int),.pointer (some ⟨b, k * 10, none⟩),.pointer (some ⟨b, k * 10, none⟩),.int .i64 y.v,.pointer (some ⟨k0, 0, none⟩),.int .i64 x.v,.bool false,.bool false,.slice (some ⟨b, 0, none⟩) q cap,.int .i64 (k : Int),.pointer (some ⟨b, k * 10, none⟩),.pointer (some ⟨b, k * 10, none⟩),.int .i64 y.v,.pointer (some ⟨k0, 0, none⟩),.int .i64 x.v,.bool true,.bool true,_,_,_,_,_,_,_,_,_,_,_,_,_,_,_,_,_,_,_,_,_,_,_,_,_,_,_,_], []⟩ _
            refine wpAnyH_take (i := 23) (v := .slice (some ⟨b, 0, none⟩) q cap) rfl (by kernel_rfl) (by kernel_rfl) (by kernel_rfl) (fun _ _ _ h => h) (Or.inl ⟨by rfl, ?_⟩) hHeld ?_
            · intro W hW; (try dsimp only at hW); go_simp
            change wpAnyH _ _ _ _ _ _ _ ⟨#[.slice (some ⟨b, 0, none⟩) q cap,_,_,.pointer (some ⟨k0, 0, none⟩),_,.int .i64 (k : Int),_,_,_,_,.int .i64 (k : Int),.slice (some ⟨b, 0, none⟩) q cap,.int .i64 (q : Int),.bool true,.bool true,.slice (some ⟨b, 0, none⟩) q cap,.int .i64 (k : Int),.pointer (some ⟨b, k * 10, none⟩),.pointer (some ⟨b, k * 10, none⟩),.int .i64 y.v,.pointer (some ⟨k0, 0, none⟩),.int .i64 x.v,.bool false,.bool false,.slice (some ⟨b, 0, none⟩) q cap,.int .i64 (k : Int),.pointer (some ⟨b, k * 10, none⟩),.pointer (some ⟨b, k * 10, none⟩),.int .i64 y.v,.pointer (some ⟨k0, 0, none⟩),.int .i64 x.v,.bool true,.bool true,.slice (some ⟨b, 0, none⟩) q cap,_,_,_,_,_,_,_,_,_,_,_,_,_,_,_,_,_,_,_,_,_,_,_,_,_,_,_], []⟩ _
            refine wpAnyH_take (i := 24) (v := .int .i64 (k : Int)) rfl (by kernel_rfl) (by kernel_rfl) (by kernel_rfl) (fun _ _ _ h => h) (Or.inl ⟨by rfl, ?_⟩) hHeld ?_
            · intro W hW; (try dsimp only at hW); go_simp
            change wpAnyH _ _ _ _ _ _ _ ⟨#[.slice (some ⟨b, 0, none⟩) q cap,_,_,.pointer (some ⟨k0, 0, none⟩),_,.int .i64 (k : Int),_,_,_,_,.int .i64 (k : Int),.slice (some ⟨b, 0, none⟩) q cap,.int .i64 (q : Int),.bool true,.bool true,.slice (some ⟨b, 0, none⟩) q cap,.int .i64 (k : Int),.pointer (some ⟨b, k * 10, none⟩),.pointer (some ⟨b, k * 10, none⟩),.int .i64 y.v,.pointer (some ⟨k0, 0, none⟩),.int .i64 x.v,.bool false,.bool false,.slice (some ⟨b, 0, none⟩) q cap,.int .i64 (k : Int),.pointer (some ⟨b, k * 10, none⟩),.pointer (some ⟨b, k * 10, none⟩),.int .i64 y.v,.pointer (some ⟨k0, 0, none⟩),.int .i64 x.v,.bool true,.bool true,.slice (some ⟨b, 0, none⟩) q cap,.int .i64 (k : Int),_,_,_,_,_,_,_,_,_,_,_,_,_,_,_,_,_,_,_,_,_,_,_,_,_,_], []⟩ _
            refine wpAnyH_take (i := 25) (v := .pointer (some ⟨b, k * 10, none⟩)) rfl (by kernel_rfl) (by kernel_rfl) (by kernel_rfl) (fun _ _ _ h => h) (Or.inl ⟨by rfl, ?_⟩) hHeld ?_
            · intro W hW; (try dsimp only at hW); go_simp
            change wpAnyH _ _ _ _ _ _ _ ⟨#[.slice (some ⟨b, 0, none⟩) q cap,_,_,.pointer (some ⟨k0, 0, none⟩),_,.int .i64 (k : Int),_,_,_,_,.int .i64 (k : Int),.slice (some ⟨b, 0, none⟩) q cap,.int .i64 (q : Int),.bool true,.bool true,.slice (some ⟨b, 0, none⟩) q cap,.int .i64 (k : Int),.pointer (some ⟨b, k * 10, none⟩),.pointer (some ⟨b, k * 10, none⟩),.int .i64 y.v,.pointer (some ⟨k0, 0, none⟩),.int .i64 x.v,.bool false,.bool false,.slice (some ⟨b, 0, none⟩) q cap,.int .i64 (k : Int),.pointer (some ⟨b, k * 10, none⟩),.pointer (some ⟨b, k * 10, none⟩),.int .i64 y.v,.pointer (some ⟨k0, 0, none⟩),.int .i64 x.v,.bool true,.bool true,.slice (some ⟨b, 0, none⟩) q cap,.int .i64 (k : Int),.pointer (some ⟨b, k * 10, none⟩),_,_,_,_,_,_,_,_,_,_,_,_,_,_,_,_,_,_,_,_,_,_,_,_,_], []⟩ _
            refine wpAnyH_take (i := 26) (v := .pointer (some ⟨b, k * 10 + 1, none⟩)) rfl (by kernel_rfl) (by kernel_rfl) (by kernel_rfl) (fun _ _ _ h => h) (Or.inl ⟨by rfl, ?_⟩) hHeld ?_
            · intro W hW; (try dsimp only at hW); go_simp
            change wpAnyH _ _ _ _ _ _ _ ⟨#[.slice (some ⟨b, 0, none⟩) q cap,_,_,.pointer (some ⟨k0, 0, none⟩),_,.int .i64 (k : Int),_,_,_,_,.int .i64 (k : Int),.slice (some ⟨b, 0, none⟩) q cap,.int .i64 (q : Int),.bool true,.bool true,.slice (some ⟨b, 0, none⟩) q cap,.int .i64 (k : Int),.pointer (some ⟨b, k * 10, none⟩),.pointer (some ⟨b, k * 10, none⟩),.int .i64 y.v,.pointer (some ⟨k0, 0, none⟩),.int .i64 x.v,.bool false,.bool false,.slice (some ⟨b, 0, none⟩) q cap,.int .i64 (k : Int),.pointer (some ⟨b, k * 10, none⟩),.pointer (some ⟨b, k * 10, none⟩),.int .i64 y.v,.pointer (some ⟨k0, 0, none⟩),.int .i64 x.v,.bool true,.bool true,.slice (some ⟨b, 0, none⟩) q cap,.int .i64 (k : Int),.pointer (some ⟨b, k * 10, none⟩),.pointer (some ⟨b, k * 10 + 1, none⟩),_,_,_,_,_,_,_,_,_,_,_,_,_,_,_,_,_,_,_,_,_,_,_,_], []⟩ _
            refine wpAnyH_take (i := 27) (v := .agg (MC y.m)) rfl (by kernel_rfl) (by kernel_rfl) (by kernel_rfl) (fun _ _ _ h => h) (yieldsIf_load_mid (by rfl) 34 (.tmp 36) rfl b (k * 10 + 1) rfl (mcl y.m) _ (fun W hW => ent_mac (hW.1.ent HY.out)) Try.underlying34 rfl Try.size34) hHeld ?_
            change wpAnyH _ _ _ _ _ _ _ ⟨#[.slice (some ⟨b, 0, none⟩) q cap,_,_,.pointer (some ⟨k0, 0, none⟩),_,.int .i64 (k : Int),_,_,_,_,.int .i64 (k : Int),.slice (some ⟨b, 0, none⟩) q cap,.int .i64 (q : Int),.bool true,.bool true,.slice (some ⟨b, 0, none⟩) q cap,.int .i64 (k : Int),.pointer (some ⟨b, k * 10, none⟩),.pointer (some ⟨b, k * 10, none⟩),.int .i64 y.v,.pointer (some ⟨k0, 0, none⟩),.int .i64 x.v,.bool false,.bool false,.slice (some ⟨b, 0, none⟩) q cap,.int .i64 (k : Int),.pointer (some ⟨b, k * 10, none⟩),.pointer (some ⟨b, k * 10, none⟩),.int .i64 y.v,.pointer (some ⟨k0, 0, none⟩),.int .i64 x.v,.bool true,.bool true,.slice (some ⟨b, 0, none⟩) q cap,.int .i64 (k : Int),.pointer (some ⟨b, k * 10, none⟩),.pointer (some ⟨b, k * 10 + 1, none⟩),.agg (MC y.m),_,_,_,_,_,_,_,_,_,_,_,_,_,_,_,_,_,_,_,_,_,_,_], []⟩ _
            refine wpAnyH_take (i := 28) (v := .pointer (some ⟨k0, 1, none⟩)) rfl (by kernel_rfl) (by kernel_rfl) (by kernel_rfl) (fun _ _ _ h => h) (Or.inl ⟨by rfl, ?_⟩) hHeld ?_
            · intro W hW; (try dsimp only at hW); go_simp
            change wpAnyH _ _ _ _ _ _ _ ⟨#[.slice (some ⟨b, 0, none⟩) q cap,_,_,.pointer (some ⟨k0, 0, none⟩),_,.int .i64 (k : Int),_,_,_,_,.int .i64 (k : Int),.slice (some ⟨b, 0, none⟩) q cap,.int .i64 (q : Int),.bool true,.bool true,.slice (some ⟨b, 0, none⟩) q cap,.int .i64 (k : Int),.pointer (some ⟨b, k * 10, none⟩),.pointer (some ⟨b, k * 10, none⟩),.int .i64 y.v,.pointer (some ⟨k0, 0, none⟩),.int .i64 x.v,.bool false,.bool false,.slice (some ⟨b, 0, none⟩) q cap,.int .i64 (k : Int),.pointer (some ⟨b, k * 10, none⟩),.pointer (some ⟨b, k * 10, none⟩),.int .i64 y.v,.pointer (some ⟨k0, 0, none⟩),.int .i64 x.v,.bool true,.bool true,.slice (some ⟨b, 0, none⟩) q cap,.int .i64 (k : Int),.pointer (some ⟨b, k * 10, none⟩),.pointer (some ⟨b, k * 10 + 1, none⟩),.agg (MC y.m),.pointer (some ⟨k0, 1, none⟩),_,_,_,_,_,_,_,_,_,_,_,_,_,_,_,_,_,_,_,_,_,_], []⟩ _
            refine wpAnyH_take (i := 29) (v := .agg (MC x.m)) rfl (by kernel_rfl) (by kernel_rfl) (by kernel_rfl) (fun _ _ _ h => h) (yieldsIf_load_mid (by rfl) 34 (.tmp 38) rfl k0 1 rfl (mcl x.m) _ (fun W hW => mac_of hW.2) Try.underlying34 rfl Try.size34) hHeld ?_
            change wpAnyH _ _ _ _ _ _ _ ⟨#[.slice (some ⟨b, 0, none⟩) q cap,_,_,.pointer (some ⟨k0, 0, none⟩),_,.int .i64 (k : Int),_,_,_,_,.int .i64 (k : Int),.slice (some ⟨b, 0, none⟩) q cap,.int .i64 (q : Int),.bool true,.bool true,.slice (some ⟨b, 0, none⟩) q cap,.int .i64 (k : Int),.pointer (some ⟨b, k * 10, none⟩),.pointer (some ⟨b, k * 10, none⟩),.int .i64 y.v,.pointer (some ⟨k0, 0, none⟩),.int .i64 x.v,.bool false,.bool false,.slice (some ⟨b, 0, none⟩) q cap,.int .i64 (k : Int),.pointer (some ⟨b, k * 10, none⟩),.pointer (some ⟨b, k * 10, none⟩),.int .i64 y.v,.pointer (some ⟨k0, 0, none⟩),.int .i64 x.v,.bool true,.bool true,.slice (some ⟨b, 0, none⟩) q cap,.int .i64 (k : Int),.pointer (some ⟨b, k * 10, none⟩),.pointer (some ⟨b, k * 10 + 1, none⟩),.agg (MC y.m),.pointer (some ⟨k0, 1, none⟩),.agg (MC x.m),_,_,_,_,_,_,_,_,_,_,_,_,_,_,_,_,_,_,_,_,_], []⟩ _
            refine wpAnyH_ready (rs := [30]) (by kernel_rfl) (by simp) ?_
            refine AllReadyH.cons rfl (fun K hK => ?_) AllReadyH.nil
            go_simp
            refine (compare54 y.m x.m _ HYO.out HXO.out).mono ?_
            rintro e u2 ⟨rfl, hb⟩
            replace HB := hide (below_more HB.out hb HB.out.size)
            refine hK.out _ _ ⟨hHeld.1.on hb, hHeld.2.on hb⟩ (fun hHeld => ?_)
            clear hK K hb
            change wpAnyH _ _ _ _ _ _ _ ⟨#[.slice (some ⟨b, 0, none⟩) q cap,_,_,.pointer (some ⟨k0, 0, none⟩),_,.int .i64 (k : Int),_,_,_,_,.int .i64 (k : Int),.slice (some ⟨b, 0, none⟩) q cap,.int .i64 (q : Int),.bool true,.bool true,.slice (some ⟨b, 0, none⟩) q cap,.int .i64 (k : Int),.pointer (some ⟨b, k * 10, none⟩),.pointer (some ⟨b, k * 10, none⟩),.int .i64 y.v,.pointer (some ⟨k0, 0, none⟩),.int .i64 x.v,.bool false,.bool false,.slice (some ⟨b, 0, none⟩) q cap,.int .i64 (k : Int),.pointer (some ⟨b, k * 10, none⟩),.pointer (some ⟨b, k * 10, none⟩),.int .i64 y.v,.pointer (some ⟨k0, 0, none⟩),.int .i64 x.v,.bool true,.bool true,.slice (some ⟨b, 0, none⟩) q cap,.int .i64 (k : Int),.pointer (some ⟨b, k * 10, none⟩),.pointer (some ⟨b, k * 10 + 1, none⟩),.agg (MC y.m),.pointer (some ⟨k0, 1, none⟩),.agg (MC x.m),.int .i64 (cmp3 (num y.m) (num x.m)),_,_,_,_,_,_,_,_,_,_,_,_,_,_,_,_,_,_,_,_], []⟩ _
            refine wpAnyH_take (i := 31) (v := .bool cc) rfl (by kernel_rfl) (by kernel_rfl) (by kernel_rfl) (fun _ _ _ h => h) (Or.inl ⟨by rfl, ?_⟩) hHeld ?_
            · intro W hW; (try dsimp only at hW); go_simp
            change wpAnyH _ _ _ _ _ _ _ ⟨#[.slice (some ⟨b, 0, none⟩) q cap,_,_,.pointer (some ⟨k0, 0, none⟩),_,.int .i64 (k : Int),_,_,_,_,.int .i64 (k : Int),.slice (some ⟨b, 0, none⟩) q cap,.int .i64 (q : Int),.bool true,.bool true,.slice (some ⟨b, 0, none⟩) q cap,.int .i64 (k : Int),.pointer (some ⟨b, k * 10, none⟩),.pointer (some ⟨b, k * 10, none⟩),.int .i64 y.v,.pointer (some ⟨k0, 0, none⟩),.int .i64 x.v,.bool false,.bool false,.slice (some ⟨b, 0, none⟩) q cap,.int .i64 (k : Int),.pointer (some ⟨b, k * 10, none⟩),.pointer (some ⟨b, k * 10, none⟩),.int .i64 y.v,.pointer (some ⟨k0, 0, none⟩),.int .i64 x.v,.bool true,.bool true,.slice (some ⟨b, 0, none⟩) q cap,.int .i64 (k : Int),.pointer (some ⟨b, k * 10, none⟩),.pointer (some ⟨b, k * 10 + 1, none⟩),.agg (MC y.m),.pointer (some ⟨k0, 1, none⟩),.agg (MC x.m),.int .i64 (cmp3 (num y.m) (num x.m)),.bool cc,_,_,_,_,_,_,_,_,_,_,_,_,_,_,_,_,_,_,_], []⟩ _
            refine wpAnyH_take (i := 32) (v := .bool cc) rfl (by kernel_rfl) (by kernel_rfl) (by kernel_rfl) (fun _ _ _ h => h) (Or.inl ⟨by rfl, ?_⟩) hHeld ?_
            · intro W hW; (try dsimp only at hW); go_simp
            change wpAnyH _ _ _ _ _ _ _ ⟨#[.slice (some ⟨b, 0, none⟩) q cap,_,_,.pointer (some ⟨k0, 0, none⟩),_,.int .i64 (k : Int),_,_,_,_,.int .i64 (k : Int),.slice (some ⟨b, 0, none⟩) q cap,.int .i64 (q : Int),.bool true,.bool true,.slice (some ⟨b, 0, none⟩) q cap,.int .i64 (k : Int),.pointer (some ⟨b, k * 10, none⟩),.pointer (some ⟨b, k * 10, none⟩),.int .i64 y.v,.pointer (some ⟨k0, 0, none⟩),.int .i64 x.v,.bool false,.bool false,.slice (some ⟨b, 0, none⟩) q cap,.int .i64 (k : Int),.pointer (some ⟨b, k * 10, none⟩),.pointer (some ⟨b, k * 10, none⟩),.int .i64 y.v,.pointer (some ⟨k0, 0, none⟩),.int .i64 x.v,.bool true,.bool true,.slice (some ⟨b, 0, none⟩) q cap,.int .i64 (k : Int),.pointer (some ⟨b, k * 10, none⟩),.pointer (some ⟨b, k * 10 + 1, none⟩),.agg (MC y.m),.pointer (some ⟨k0, 1, none⟩),.agg (MC x.m),.int .i64 (cmp3 (num y.m) (num x.m)),.bool cc,.bool cc,_,_,_,_,_,_,_,_,_,_,_,_,_,_,_,_,_,_], []⟩ _
            refine wpAnyH_take (i := 33) (v := .bool cc) rfl (by kernel_rfl) (by kernel_rfl) (by kernel_rfl) (fun _ _ _ h => h) (Or.inl ⟨by rfl, ?_⟩) hHeld ?_
            · intro W hW; (try dsimp only at hW); go_simp
            change wpAnyH _ _ _ _ _ _ _ ⟨#[.slice (some ⟨b, 0, none⟩) q cap,_,_,.pointer (some ⟨k0, 0, none⟩),_,.int .i64 (k : Int),_,_,_,_,.int .i64 (k : Int),.slice (some ⟨b, 0, none⟩) q cap,.int .i64 (q : Int),.bool true,.bool true,.slice (some ⟨b, 0, none⟩) q cap,.int .i64 (k : Int),.pointer (some ⟨b, k * 10, none⟩),.pointer (some ⟨b, k * 10, none⟩),.int .i64 y.v,.pointer (some ⟨k0, 0, none⟩),.int .i64 x.v,.bool false,.bool false,.slice (some ⟨b, 0, none⟩) q cap,.int .i64 (k : Int),.pointer (some ⟨b, k * 10, none⟩),.pointer (some ⟨b, k * 10, none⟩),.int .i64 y.v,.pointer (some ⟨k0, 0, none⟩),.int .i64 x.v,.bool true,.bool true,.slice (some ⟨b, 0, none⟩) q cap,.int .i64 (k : Int),.pointer (some ⟨b, k * 10, none⟩),.pointer (some ⟨b, k * 10 + 1, none⟩),.agg (MC y.m),.pointer (some ⟨k0, 1, none⟩),.agg (MC x.m),.int .i64 (cmp3 (num y.m) (num x.m)),.bool cc,.bool cc,.bool cc,_,_,_,_,_,_,_,_,_,_,_,_,_,_,_,_,_], []⟩ _
            refine wpAnyH_take (i := 34) (v := .bool cc) rfl (by kernel_rfl) (by kernel_rfl) (by kernel_rfl) (fun _ _ _ h => h) (Or.inl ⟨by rfl, ?_⟩) hHeld ?_
            · intro W hW; (try dsimp only at hW); go_simp
            change wpAnyH _ _ _ _ _ _ _ ⟨#[.slice (some ⟨b, 0, none⟩) q cap,_,_,.pointer (some ⟨k0, 0, none⟩),_,.int .i64 (k : Int),_,_,_,_,.int .i64 (k : Int),.slice (some ⟨b, 0, none⟩) q cap,.int .i64 (q : Int),.bool true,.bool true,.slice (some ⟨b, 0, none⟩) q cap,.int .i64 (k : Int),.pointer (some ⟨b, k * 10, none⟩),.pointer (some ⟨b, k * 10, none⟩),.int .i64 y.v,.pointer (some ⟨k0, 0, none⟩),.int .i64 x.v,.bool false,.bool false,.slice (some ⟨b, 0, none⟩) q cap,.int .i64 (k : Int),.pointer (some ⟨b, k * 10, none⟩),.pointer (some ⟨b, k * 10, none⟩),.int .i64 y.v,.pointer (some ⟨k0, 0, none⟩),.int .i64 x.v,.bool true,.bool true,.slice (some ⟨b, 0, none⟩) q cap,.int .i64 (k : Int),.pointer (some ⟨b, k * 10, none⟩),.pointer (some ⟨b, k * 10 + 1, none⟩),.agg (MC y.m),.pointer (some ⟨k0, 1, none⟩),.agg (MC x.m),.int .i64 (cmp3 (num y.m) (num x.m)),.bool cc,.bool cc,.bool cc,.bool cc,_,_,_,_,_,_,_,_,_,_,_,_,_,_,_,_], []⟩ _
            have HL := hide hHeld.1
            have HX := hide hHeld.2
            clear hHeld
            refine wpAnyH_done (by kernel_rfl) ?_ _
            clear hcc
            rcases HC.out with ⟨rfl, hlo⟩ | ⟨rfl, hhi⟩
            · have HN := HNX.out hlo
              clear hlo HNX HPU
              go_wp2
              go_roundw
              case rel => exact ⟨k + 1, by omega, by go_num, HN.out, HB.out, HL.out, HX.out⟩
              case measure => simp [intOf]; omega
            · have HUP := HPU.out hhi
              clear hhi HNX HPU
              have hxl := HX.out.lt
              have hbl := HL.out.lt
              have hsz := HB.out.size
              obtain ⟨N, hN⟩ : ∃ N, N = (World.heap u2).size := ⟨_, rfl⟩
              rw [← hN] at hxl hsz hbl
              have b0 : Below N u2 (u2.alloc (.cells #[] 36)) := by rw [hN]; exact below_alloc _ _
              have O1 : Hid ((u2.alloc (.cells #[] 36)).ownsRow N 36 10 (.slice (some ⟨u2.heap.size, 0, none⟩) 0 0) 0 (es [])) := hide (World.ownsRow_lit u2 #[] 0 (by omega) (by unfold maxLen; omega) rfl)
              have M1 : Hid (Ers (u2.alloc (.cells #[] 36)) (some ⟨b, 0, none⟩) k cap (L.take k)) := hide (ers_take (HL.out.below hbl b0) (k := k) (by have := HQ.out; omega) cap)
              have hlt1 : Hid (N ≤ (u2.alloc (.cells #[] 36)).heap.size) := hide (by rw [hN]; simp)
              have B0 := hide b0
              have HN := hide hN
              have hxl0 := hide hxl
              have hsz0 := hide hsz
              have hbl0 := hide hbl
              clear b0 hN
              have tk1 : True := trivial
              have tk2 : True := trivial
              have tk3 : True := trivial
              have tk4 : True := trivial
              have tk5 : True := trivial
              go_wp2_with (first | (have _t := tk1; at_builtin; refine wpl_eapp rfl rfl (.tmp 47) (.tmp 50) rfl N _ 0 [] rfl O1.out _ _ _ _ rfl M1.out (by omega) hlt1.out ?_; clear tk1))
              intro v1 w1 R1 G1
              have B1 := hide (B0.out.grown G1 hlt1.out (fun r hr => (O1.out.lt r hr).1))
              have X1 := (HX.out.below hxl0.out B1.out).at_
              have O2 := hide (World.ownsRow.alloc R1 (.cells (EC x) 36))
              have M2 := hide (ers_one w1 x)
              have hlt2 : Hid (N ≤ (w1.alloc (.cells (EC x) 36)).heap.size) := hide (by have := B1.out.size; have := HN.out; simp; omega)
              clear R1 G1 B0 O1 M1
              go_wp2_with (first | (have _t := tk2; refine wpl_ent (.tmp 3) rfl X1 ?_ ?_ ?_; rfl; rfl; clear tk2) | (have _t := tk3; refine wpl_bs rfl (.tmp 53) x rfl rfl ?_; clear tk3) | (have _t := tk4; at_builtin; refine wpl_eapp rfl rfl (.tmp 52) (.tmp 54) rfl N _ _ _ rfl O2.out _ 1 1 _ rfl M2.out (by omega) hlt2.out ?_; clear tk4))
              intro v2 w2 R2 G2
              have B4 := hide ((B1.out.alloc (by have := B1.out.size; have := HN.out; omega) (.cells (EC x) 36)).grown G2 hlt2.out (fun r hr => (O2.out.lt r hr).1))
              have O3 := hide R2
              have M3 : Hid (Ers w2 (some ⟨b, k * 10, none⟩) (q - k) (cap - k) (L.drop k)) := hide (by have h9 := ers_drop (HL.out.below hbl0.out B4.out) (k := k) (by have := HQ.out; omega) cap (by have := HQ.out; omega); rw [if_neg (by omega), ← HQ.out] at h9; exact h9)
              have hlt3 : Hid (N ≤ w2.heap.size) := hide (by have := B4.out.size; have := HN.out; omega)
              clear R2 G2 B1 O2 M2 X1
              go_wp2_with (first | (have _t := tk5; at_builtin; refine wpl_eapp rfl rfl (.tmp 56) (.tmp 59) rfl N _ _ _ rfl O3.out _ _ _ _ rfl M3.out (by omega) hlt3.out ?_; clear tk5))
              intro v3 w3 R3 G3
              have B5 := hide (B4.out.grown G3 hlt3.out (fun r hr => (O3.out.lt r hr).1))
              have R4 : Hid (w3.ownsRow w.heap.size 36 10 v3 (up l x).length (es (up l x))) := hide (by
                rw [← HUP.out, show (L.take k ++ (x :: L.drop k)).length = (0 + k + 1 + (q - k)) by (simp; have := HQ.out; omega)]
                exact row_mono36 (show w.heap.size ≤ N from hsz0.out) (by simpa using R3))
              have B6 := hide (HB.out.trans (B5.out.mono hsz0.out))
              clear R3 G3 B4 O3 M3 B5
              go_wp2
              go_ret
              exact ⟨_, rfl, R4.out, B6.out⟩
          · have HUP := hup (by unfold ke kn; omega)
            have heq : (y.v == x.v) = false := by simp [c2]
            have hd1 : decide (y.v < x.v) = false := by simpa using c1
            have hd2 : decide (y.v = x.v) = false := by simpa using c2
            obtain ⟨d0, d1, d2, d3, d4, d5, d6, -, -, -⟩ := range_cells A1
            obtain ⟨f0, f1, f2, f3, f4, f5, f6, -, -, -⟩ := range_cells HX.out.at_
            clear hup hnx y0 y1 x0 x1 A1
            go_wp2_with fail
            go_quiet (fail)
            replace HL := hide (boxN HL.out nq)
            replace HX := hide (boxN HX.out nq)
            replace HB := hide (belowN HB.out nq)
            clear d0 d1 d2 d3 d4 d5 d6 f0 f1 f2 f3 f4 f5 f6
            generalize wr.drewN nq = u0 at *
            have hxl := HX.out.lt
            have hbl := HL.out.lt
            have hsz := HB.out.size
            obtain ⟨N, hN⟩ : ∃ N, N = (World.heap u0).size := ⟨_, rfl⟩
            rw [← hN] at hxl hsz hbl
            have b0 : Below N u0 (u0.alloc (.cells #[] 36)) := by rw [hN]; exact below_alloc _ _
            have O1 : Hid ((u0.alloc (.cells #[] 36)).ownsRow N 36 10 (.slice (some ⟨u0.heap.size, 0, none⟩) 0 0) 0 (es [])) := hide (World.ownsRow_lit u0 #[] 0 (by omega) (by unfold maxLen; omega) rfl)
            have M1 : Hid (Ers (u0.alloc (.cells #[] 36)) (some ⟨b, 0, none⟩) k cap (L.take k)) := hide (ers_take (HL.out.below hbl b0) (k := k) (by have := HQ.out; omega) cap)
            have hlt1 : Hid (N ≤ (u0.alloc (.cells #[] 36)).heap.size) := hide (by rw [hN]; simp)
            have B0 := hide b0
            have HN := hide hN
            have hxl0 := hide hxl
            have hsz0 := hide hsz
            have hbl0 := hide hbl
            clear b0 hN
            have tk1 : True := trivial
            have tk2 : True := trivial
            have tk3 : True := trivial
            have tk4 : True := trivial
            have tk5 : True := trivial
            go_wp2_with (first | (have _t := tk1; at_builtin; refine wpl_eapp rfl rfl (.tmp 47) (.tmp 50) rfl N _ 0 [] rfl O1.out _ _ _ _ rfl M1.out (by omega) hlt1.out ?_; clear tk1))
            intro v1 w1 R1 G1
            have B1 := hide (B0.out.grown G1 hlt1.out (fun r hr => (O1.out.lt r hr).1))
            have X1 := (HX.out.below hxl0.out B1.out).at_
            have O2 := hide (World.ownsRow.alloc R1 (.cells (EC x) 36))
            have M2 := hide (ers_one w1 x)
            have hlt2 : Hid (N ≤ (w1.alloc (.cells (EC x) 36)).heap.size) := hide (by have := B1.out.size; have := HN.out; simp; omega)
            clear R1 G1 B0 O1 M1
            go_wp2_with (first | (have _t := tk2; refine wpl_ent (.tmp 3) rfl X1 ?_ ?_ ?_; rfl; rfl; clear tk2) | (have _t := tk3; refine wpl_bs rfl (.tmp 53) x rfl rfl ?_; clear tk3) | (have _t := tk4; at_builtin; refine wpl_eapp rfl rfl (.tmp 52) (.tmp 54) rfl N _ _ _ rfl O2.out _ 1 1 _ rfl M2.out (by omega) hlt2.out ?_; clear tk4))
            intro v2 w2 R2 G2
            have B4 := hide ((B1.out.alloc (by have := B1.out.size; have := HN.out; omega) (.cells (EC x) 36)).grown G2 hlt2.out (fun r hr => (O2.out.lt r hr).1))
            have O3 := hide R2
            have M3 : Hid (Ers w2 (some ⟨b, k * 10, none⟩) (q - k) (cap - k) (L.drop k)) := hide (by have h9 := ers_drop (HL.out.below hbl0.out B4.out) (k := k) (by have := HQ.out; omega) cap (by have := HQ.out; omega); rw [if_neg (by omega), ← HQ.out] at h9; exact h9)
            have hlt3 : Hid (N ≤ w2.heap.size) := hide (by have := B4.out.size; have := HN.out; omega)
            clear R2 G2 B1 O2 M2 X1
            go_wp2_with (first | (have _t := tk5; at_builtin; refine wpl_eapp rfl rfl (.tmp 56) (.tmp 59) rfl N _ _ _ rfl O3.out _ _ _ _ rfl M3.out (by omega) hlt3.out ?_; clear tk5))
            intro v3 w3 R3 G3
            have B5 := hide (B4.out.grown G3 hlt3.out (fun r hr => (O3.out.lt r hr).1))
            have R4 : Hid (w3.ownsRow w.heap.size 36 10 v3 (up l x).length (es (up l x))) := hide (by
              rw [← HUP.out, show (L.take k ++ (x :: L.drop k)).length = (0 + k + 1 + (q - k)) by (simp; have := HQ.out; omega)]
              exact row_mono36 (show w.heap.size ≤ N from hsz0.out) (by simpa using R3))
            have B6 := hide (HB.out.trans (B5.out.mono hsz0.out))
            clear R3 G3 B4 O3 M3 B5
            go_wp2
            go_ret
            exact ⟨_, rfl, R4.out, B6.out⟩
      · have hk2 : ¬ (k : Int) < (q : Int) := by omega
        have HUP : Hid (L.take k ++ (x :: L.drop k) = up l x) := hide (by rw [← HUR.out]; exact up_ins HSR.out (by rw [← HQ.out]; exact hk) HLO.out (fun z hz => by have := (List.getElem?_eq_some_iff.1 hz).1; have := HQ.out; omega))
        go_wp2_with fail
        go_quiet (fail)
        replace HL := hide (boxN HL.out nq)
        replace HX := hide (boxN HX.out nq)
        replace HB := hide (belowN HB.out nq)
        generalize wr.drewN nq = u0 at *
        by_cases hck : k = cap
        · subst hck
          have hxl := HX.out.lt
          have hbl := HL.out.lt
          have hsz := HB.out.size
          obtain ⟨N, hN⟩ : ∃ N, N = (World.heap u0).size := ⟨_, rfl⟩
          rw [← hN] at hxl hsz hbl
          have b0 : Below N u0 (u0.alloc (.cells #[] 36)) := by rw [hN]; exact below_alloc _ _
          have O1 : Hid ((u0.alloc (.cells #[] 36)).ownsRow N 36 10 (.slice (some ⟨u0.heap.size, 0, none⟩) 0 0) 0 (es [])) := hide (World.ownsRow_lit u0 #[] 0 (by omega) (by unfold maxLen; omega) rfl)
          have M1 : Hid (Ers (u0.alloc (.cells #[] 36)) (some ⟨b, 0, none⟩) k k (L.take k)) := hide (ers_take (HL.out.below hbl b0) (k := k) (by have := HQ.out; omega) k)
          have hlt1 : Hid (N ≤ (u0.alloc (.cells #[] 36)).heap.size) := hide (by rw [hN]; simp)
          have B0 := hide b0
          have HN := hide hN
          have hxl0 := hide hxl
          have hsz0 := hide hsz
          have hbl0 := hide hbl
          clear b0 hN
          have tk1 : True := trivial
          have tk2 : True := trivial
          have tk3 : True := trivial
          have tk4 : True := trivial
          have tk5 : True := trivial
          go_wp2_with (first | (have _t := tk1; at_builtin; refine wpl_eapp rfl rfl (.tmp 47) (.tmp 50) rfl N _ 0 [] rfl O1.out _ _ _ _ rfl M1.out (by omega) hlt1.out ?_; clear tk1))
          intro v1 w1 R1 G1
          have B1 := hide (B0.out.grown G1 hlt1.out (fun r hr => (O1.out.lt r hr).1))
          have X1 := (HX.out.below hxl0.out B1.out).at_
          have O2 := hide (World.ownsRow.alloc R1 (.cells (EC x) 36))
          have M2 := hide (ers_one w1 x)
          have hlt2 : Hid (N ≤ (w1.alloc (.cells (EC x) 36)).heap.size) := hide (by have := B1.out.size; have := HN.out; simp; omega)
          clear R1 G1 B0 O1 M1
          go_wp2_with (first | (have _t := tk2; refine wpl_ent (.tmp 3) rfl X1 ?_ ?_ ?_; rfl; rfl; clear tk2) | (have _t := tk3; refine wpl_bs rfl (.tmp 53) x rfl rfl ?_; clear tk3) | (have _t := tk4; at_builtin; refine wpl_eapp rfl rfl (.tmp 52) (.tmp 54) rfl N _ _ _ rfl O2.out _ 1 1 _ rfl M2.out (by omega) hlt2.out ?_; clear tk4))
          intro v2 w2 R2 G2
          have B4 := hide ((B1.out.alloc (by have := B1.out.size; have := HN.out; omega) (.cells (EC x) 36)).grown G2 hlt2.out (fun r hr => (O2.out.lt r hr).1))
          have O3 := hide R2
          have M3 : Hid (Ers w2 (some ⟨b, 0, none⟩) 0 0 []) := hide (ers_nil _ _ _)
          have hlt3 : Hid (N ≤ w2.heap.size) := hide (by have := B4.out.size; have := HN.out; omega)
          clear R2 G2 B1 O2 M2 X1
          go_wp2_with (first | (have _t := tk5; at_builtin; refine wpl_eapp rfl rfl (.tmp 56) (.tmp 59) rfl N _ _ _ rfl O3.out _ _ _ _ rfl M3.out (by omega) hlt3.out ?_; clear tk5))
          intro v3 w3 R3 G3
          have B5 := hide (B4.out.grown G3 hlt3.out (fun r hr => (O3.out.lt r hr).1))
          have R4 : Hid (w3.ownsRow w.heap.size 36 10 v3 (up l x).length (es (up l x))) := hide (by
            rw [← HUP.out, show (L.take k ++ (x :: L.drop k)).length = (0 + k + 1 + 0) by (simp; have := HQ.out; omega)]
            exact row_mono36 (show w.heap.size ≤ N from hsz0.out) (by rw [show L.drop k = [] from List.drop_eq_nil_of_le (by have := HQ.out; omega)]; simpa using R3))
          have B6 := hide (HB.out.trans (B5.out.mono hsz0.out))
          clear R3 G3 B4 O3 M3 B5
          go_wp2
          go_ret
          exact ⟨_, rfl, R4.out, B6.out⟩
        · skip
          have hxl := HX.out.lt
          have hbl := HL.out.lt
          have hsz := HB.out.size
          obtain ⟨N, hN⟩ : ∃ N, N = (World.heap u0).size := ⟨_, rfl⟩
          rw [← hN] at hxl hsz hbl
          have b0 : Below N u0 (u0.alloc (.cells #[] 36)) := by rw [hN]; exact below_alloc _ _
          have O1 : Hid ((u0.alloc (.cells #[] 36)).ownsRow N 36 10 (.slice (some ⟨u0.heap.size, 0, none⟩) 0 0) 0 (es [])) := hide (World.ownsRow_lit u0 #[] 0 (by omega) (by unfold maxLen; omega) rfl)
          have M1 : Hid (Ers (u0.alloc (.cells #[] 36)) (some ⟨b, 0, none⟩) k cap (L.take k)) := hide (ers_take (HL.out.below hbl b0) (k := k) (by have := HQ.out; omega) cap)
          have hlt1 : Hid (N ≤ (u0.alloc (.cells #[] 36)).heap.size) := hide (by rw [hN]; simp)
          have B0 := hide b0
          have HN := hide hN
          have hxl0 := hide hxl
          have hsz0 := hide hsz
          have hbl0 := hide hbl
          clear b0 hN
          have tk1 : True := trivial
          have tk2 : True := trivial
          have tk3 : True := trivial
          have tk4 : True := trivial
          have tk5 : True := trivial
          go_wp2_with (first | (have _t := tk1; at_builtin; refine wpl_eapp rfl rfl (.tmp 47) (.tmp 50) rfl N _ 0 [] rfl O1.out _ _ _ _ rfl M1.out (by omega) hlt1.out ?_; clear tk1))
          intro v1 w1 R1 G1
          have B1 := hide (B0.out.grown G1 hlt1.out (fun r hr => (O1.out.lt r hr).1))
          have X1 := (HX.out.below hxl0.out B1.out).at_
          have O2 := hide (World.ownsRow.alloc R1 (.cells (EC x) 36))
          have M2 := hide (ers_one w1 x)
          have hlt2 : Hid (N ≤ (w1.alloc (.cells (EC x) 36)).heap.size) := hide (by have := B1.out.size; have := HN.out; simp; omega)
          clear R1 G1 B0 O1 M1
          go_wp2_with (first | (have _t := tk2; refine wpl_ent (.tmp 3) rfl X1 ?_ ?_ ?_; rfl; rfl; clear tk2) | (have _t := tk3; refine wpl_bs rfl (.tmp 53) x rfl rfl ?_; clear tk3) | (have _t := tk4; at_builtin; refine wpl_eapp rfl rfl (.tmp 52) (.tmp 54) rfl N _ _ _ rfl O2.out _ 1 1 _ rfl M2.out (by omega) hlt2.out ?_; clear tk4))
          intro v2 w2 R2 G2
          have B4 := hide ((B1.out.alloc (by have := B1.out.size; have := HN.out; omega) (.cells (EC x) 36)).grown G2 hlt2.out (fun r hr => (O2.out.lt r hr).1))
          have O3 := hide R2
          have M3 : Hid (Ers w2 (some ⟨b, k * 10, none⟩) (q - k) (cap - k) (L.drop k)) := hide (by have h9 := ers_drop (HL.out.below hbl0.out B4.out) (k := k) (by have := HQ.out; omega) cap (by have := HQ.out; omega); rw [if_neg (by omega), ← HQ.out] at h9; exact h9)
          have hlt3 : Hid (N ≤ w2.heap.size) := hide (by have := B4.out.size; have := HN.out; omega)
          clear R2 G2 B1 O2 M2 X1
          go_wp2_with (first | (have _t := tk5; at_builtin; refine wpl_eapp rfl rfl (.tmp 56) (.tmp 59) rfl N _ _ _ rfl O3.out _ _ _ _ rfl M3.out (by omega) hlt3.out ?_; clear tk5))
          intro v3 w3 R3 G3
          have B5 := hide (B4.out.grown G3 hlt3.out (fun r hr => (O3.out.lt r hr).1))
          have R4 : Hid (w3.ownsRow w.heap.size 36 10 v3 (up l x).length (es (up l x))) := hide (by
            rw [← HUP.out, show (L.take k ++ (x :: L.drop k)).length = (0 + k + 1 + (q - k)) by (simp; have := HQ.out; omega)]
            exact row_mono36 (show w.heap.size ≤ N from hsz0.out) (by simpa using R3))
          have B6 := hide (HB.out.trans (B5.out.mono hsz0.out))
          clear R3 G3 B4 O3 M3 B5
          go_wp2
          go_ret
          exact ⟨_, rfl, R4.out, B6.out⟩
end Go.Proofs.Ytjlmheecefobaaa
