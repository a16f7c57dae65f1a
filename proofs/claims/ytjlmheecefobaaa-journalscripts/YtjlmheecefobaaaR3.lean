/- Contract of Put of the document's journal. -/
import Derived.Test.YtjlmheecefobaaaR2
namespace Go.Proofs.Ytjlmheecefobaaa
open Go.RowKit Go.PlainAid

theorem Cta.crs {w : World} {B : Nat} {ao : Option Addr} {n c : Nat} {l : List Ch} (h : Cta w B ao n c l) : Crs w ao n c l :=
  ⟨h.len, h.nil, fun a e j u hj => by
    obtain ⟨b, o, e1, _, _, hr⟩ := h.bx a e
    rw [e1, Addr.add_lit]
    exact hr j u hj⟩
theorem crs_box {w : World} {k : Nat} {d : Ch} (h : Box w k (ccl d)) (c : Nat) : Crs w (some ⟨k, 0, none⟩) 1 c [d] :=
  ⟨rfl, fun e => (by cases e), fun a e j u hj => by
    obtain rfl := Option.some.inj e
    have hj' : (ccl d ++ [])[j]? = some u := hj
    rw [List.append_nil] at hj'
    rw [Addr.add_lit]
    exact h.at_ j u hj'⟩
theorem row54_cta {w : World} {B b m c : Nat} {l : List Ch} (h : w.ownsRow B 54 12 (.slice (some ⟨b, 0, none⟩) m c) m (chs l)) (hl : l.length = m) (k : Nat) (hk : k ≤ m) : Cta w B (some ⟨b, k * 12, none⟩) (m - k) (c - k) (l.drop k) := by
  obtain ⟨p1, p2, p3, p4, p5⟩ := box_of_row54 h (by rw [chs_length, hl])
  refine ⟨by rw [List.length_drop, hl], fun e => (by cases e), fun a e => ⟨b, k * 12, (Option.some.inj e).symm, p2, p3, fun j v hj => ?_⟩, by omega, by unfold maxLen at *; omega⟩
  rw [chs_drop' l k (by rw [hl]; exact hk), List.getElem?_drop] at hj
  have := p1.at_ _ v hj
  rw [Nat.zero_add] at this
  exact this
set_option maxRecDepth 100000 in
set_option maxHeartbeats 16000000 in
theorem putr14 (g n m c : Nat) (ao : Option Addr) (cs : List Ch) (x : En) (gn : Bool) (q : Int) (w : World) (H : RJ w g n ao m c cs) (hL : cs.length < 1073741823) (hq : q = (cs.length : Int) + 1) :
    Calls Try.prog 14 #[.pointer (some ⟨g, 0, none⟩), .agg (EC x), .bool gn] w fun e w' => e = .returned (.tuple #[.int .i64 q, .int .i64 0]) ∧ (∃ ao' m' c' cs', cs' = cs ++ [⟨q, x, gn⟩] ∧ cs'.length = cs.length + 1 ∧ RJ w' g n ao' m' c' cs') ∧ Mid g (g + 1) w w' := by
  have n1 := H.n1
  have n2 := H.n2
  have hmx := H.sl.mx
  unfold maxLen at hmx
  have htl := tl_length n cs
  have hml := H.sl.len
  have hmn : m ≤ n ∧ (m < n → cs.length < n) ∧ (n ≤ m → n ≤ cs.length) := by split at htl <;> omega
  have HMN := hide hmn
  have hmk : m ≤ 1000 := by omega
  have HBX := H.bx.alloc (.cells (EC x) 36)
  have HX := hide (box_e w x)
  have HM : Hid (Mid g (g + 1) w (w.alloc (.cells (EC x) 36))) := hide (mid_of (below_alloc w _))
  have HSL := hide (H.sl.on (below_alloc w (.cells (EC x) 36)))
  have HLT := hide H.lt
  have hsz : (w.alloc (.cells (EC x) 36)).heap.size = w.heap.size + 1 := by simp
  have HSZ := hide hsz
  clear H htl hml hmn hsz
  obtain ⟨m1, hm1⟩ : ∃ m1, m1 = m + 1 := ⟨_, rfl⟩
  have HM1 := hide hm1
  clear hm1
  obtain ⟨L, hLL⟩ : ∃ L, L = tl n cs := ⟨_, rfl⟩
  have HLL := hide hLL
  have HL9 : Hid (L.length = m) := hide (by rw [hLL]; exact HSL.out.len)
  rw [← hLL] at HSL
  clear hLL
  obtain ⟨s, hs⟩ : ∃ s, s = cs.length := ⟨_, rfl⟩
  have HS := hide hs
  rw [← hs] at HBX hL hq
  obtain ⟨s1, hs1⟩ : ∃ s1 : Nat, (s1 : Int) = q := ⟨s + 1, by omega⟩
  have HS1 : Hid ((s1 : Int) = q ∧ s1 = s + 1) := hide ⟨hs1, by omega⟩
  have e1 : IntKind.i64.wrap ((s : Int) + 1) = (s1 : Int) := by
    rw [show (s : Int) + 1 = (s1 : Int) by omega]; exact IntWalk.i64_in _ (by omega)
  have hge : ¬ (1073741824 : Int) ≤ (s : Int) := by omega
  rw [← hs1]
  clear hs hs1 hq
  have c1 := HBX.cell 1 _ rfl
  have f1 := HBX.free 1 (by simp [rcl])
  have HB1 := hide HBX
  clear HBX
  obtain ⟨k0, hk0⟩ : ∃ k0, k0 = w.heap.size := ⟨_, rfl⟩
  have HK0 : Hid (g < k0 ∧ k0 = w.heap.size) := hide ⟨by rw [hk0]; exact HLT.out, hk0⟩
  go_enter Try.func14, Try.ntmps14
  go_wp2_with fail
  rw [← hk0] at HX HSZ ⊢
  clear hk0
  generalize w.alloc (.cells (EC x) 36) = W1 at *
  have g2 := setCell_grown W1 g 1 (.int .i64 s1)
  have B2 : Hid (Box (W1.setCell ⟨g, 1, none⟩ (.int .i64 s1)) g (rcl n s1 (.slice ao m c))) := hide (Box.set (A := [.int .i64 n]) (C := [.slice ao m c]) HB1.out rfl)
  have X2 : Hid (Box (W1.setCell ⟨g, 1, none⟩ (.int .i64 s1)) k0 (ecl x)) := hide (HX.out.kept (by have := HK0.out; omega) g2)
  have L2 : Hid (Cta (W1.setCell ⟨g, 1, none⟩ (.int .i64 s1)) (g + 1) ao m c L) := hide (HSL.out.keep (fun b h1 h2 => g2.block b h2 (fun e => by have := Option.some.inj e; omega)) g2.size)
  have M2 : Hid (Mid g (g + 1) w (W1.setCell ⟨g, 1, none⟩ (.int .i64 s1))) := hide (HM.out.trans (mid_grown (h := g) g2 (by omega) (by omega) rfl))
  have hsz2 : (W1.setCell ⟨g, 1, none⟩ (.int .i64 s1)).heap.size = k0 + 1 := by rw [← HSZ.out]; simp [World.setCell]
  clear g2 HB1 HX HSL HM c1 f1
  generalize W1.setCell ⟨g, 1, none⟩ (.int .i64 s1) = W2 at *
  go_wp2_with fail
  refine wp_region_held_drew (S := fun w' => (∃ lv, Box w' g (rcl n s1 lv)) ∧ Box w' k0 (ecl x)) (by kernel_rfl) ⟨⟨_, B2.out.drew⟩, X2.out.drew⟩ (fun hHeld => ?_)
  have HG := hide B2.out.drew
  have HL0 : Hid (Cta W2.drew (g + 1) ao m c L) := hide (L2.out.on (belowOn' (Below.refl _ _)))
  have M0 := hide (mid_drew M2.out)
  have hsz0 : Hid (k0 + 1 = W2.drew.heap.size) := hide hsz2.symm
  clear B2 X2 L2 M2 hsz2
  generalize W2.drew = u0 at *
  obtain ⟨N, hN⟩ : ∃ N, N = u0.heap.size := ⟨_, rfl⟩
  have HN : Hid (N = u0.heap.size ∧ g < N ∧ k0 < N) := hide ⟨hN, by have := HK0.out; have := hsz0.out; omega, by have := hsz0.out; omega⟩
  have BB0 : Hid (Below N u0 u0) := hide (Below.refl _ _)
  have hN0 : Hid (N ≤ u0.heap.size) := hide (by omega)
  clear hN
  refine wpAnyH_take (i := 0) (v := .pointer (some ⟨g, 0, none⟩)) rfl (by kernel_rfl) (by kernel_rfl) (by kernel_rfl) (fun _ _ _ h => h) (Or.inl ⟨by rfl, ?_⟩) hHeld ?_
  · intro W hW; (try dsimp only at hW); go_simp
  change wpAnyH _ _ _ _ _ _ _ ⟨#[.pointer (some ⟨g, 0, none⟩),_,.bool gn,_,.pointer (some ⟨k0, 0, none⟩),_,_,_,_,_,_,_,_,_,_,_,_,_,_,_,.pointer (some ⟨g, 0, none⟩),_,_,_,_,_,_,_,_,_,_,_,_,_,_,_,_,_,_,_,_,_,_,_,_,_,_,_,_,_,_,_,_,_,_,_,_,_,_,_], []⟩ _
  refine wpAnyH_take (i := 2) (v := .pointer (some ⟨g, 0, none⟩)) rfl (by kernel_rfl) (by kernel_rfl) (by kernel_rfl) (fun _ _ _ h => h) (Or.inl ⟨by rfl, ?_⟩) hHeld ?_
  · intro W hW; (try dsimp only at hW); go_simp
  change wpAnyH _ _ _ _ _ _ _ ⟨#[.pointer (some ⟨g, 0, none⟩),_,.bool gn,_,.pointer (some ⟨k0, 0, none⟩),_,_,_,_,_,_,_,_,_,_,_,_,_,_,_,.pointer (some ⟨g, 0, none⟩),_,.pointer (some ⟨g, 0, none⟩),_,_,_,_,_,_,_,_,_,_,_,_,_,_,_,_,_,_,_,_,_,_,_,_,_,_,_,_,_,_,_,_,_,_,_,_,_], []⟩ _
  refine wpAnyH_take (i := 3) (v := .pointer (some ⟨g, 0, none⟩)) rfl (by kernel_rfl) (by kernel_rfl) (by kernel_rfl) (fun _ _ _ h => h) (Or.inl ⟨by rfl, ?_⟩) hHeld ?_
  · intro W hW; (try dsimp only at hW); go_simp
  change wpAnyH _ _ _ _ _ _ _ ⟨#[.pointer (some ⟨g, 0, none⟩),_,.bool gn,_,.pointer (some ⟨k0, 0, none⟩),_,_,_,_,_,_,_,_,_,_,_,_,_,_,_,.pointer (some ⟨g, 0, none⟩),_,.pointer (some ⟨g, 0, none⟩),.pointer (some ⟨g, 0, none⟩),_,_,_,_,_,_,_,_,_,_,_,_,_,_,_,_,_,_,_,_,_,_,_,_,_,_,_,_,_,_,_,_,_,_,_,_], []⟩ _
  refine wpAnyH_take (i := 4) (v := .pointer (some ⟨g, 2, none⟩)) rfl (by kernel_rfl) (by kernel_rfl) (by kernel_rfl) (fun _ _ _ h => h) (Or.inl ⟨by rfl, ?_⟩) hHeld ?_
  · intro W hW; (try dsimp only at hW); go_simp
  change wpAnyH _ _ _ _ _ _ _ ⟨#[.pointer (some ⟨g, 0, none⟩),_,.bool gn,_,.pointer (some ⟨k0, 0, none⟩),_,_,_,_,_,_,_,_,_,_,_,_,_,_,_,.pointer (some ⟨g, 0, none⟩),_,.pointer (some ⟨g, 0, none⟩),.pointer (some ⟨g, 0, none⟩),.pointer (some ⟨g, 2, none⟩),_,_,_,_,_,_,_,_,_,_,_,_,_,_,_,_,_,_,_,_,_,_,_,_,_,_,_,_,_,_,_,_,_,_,_], []⟩ _
  refine wpAnyH_take (i := 7) (v := .pointer (some ⟨g, 0, none⟩)) rfl (by kernel_rfl) (by kernel_rfl) (by kernel_rfl) (fun _ _ _ h => h) (Or.inl ⟨by rfl, ?_⟩) hHeld ?_
  · intro W hW; (try dsimp only at hW); go_simp
  change wpAnyH _ _ _ _ _ _ _ ⟨#[.pointer (some ⟨g, 0, none⟩),_,.bool gn,_,.pointer (some ⟨k0, 0, none⟩),_,_,_,_,_,_,_,_,_,_,_,_,_,_,_,.pointer (some ⟨g, 0, none⟩),_,.pointer (some ⟨g, 0, none⟩),.pointer (some ⟨g, 0, none⟩),.pointer (some ⟨g, 2, none⟩),_,_,.pointer (some ⟨g, 0, none⟩),_,_,_,_,_,_,_,_,_,_,_,_,_,_,_,_,_,_,_,_,_,_,_,_,_,_,_,_,_,_,_,_], []⟩ _
  refine wpAnyH_take (i := 8) (v := .pointer (some ⟨g, 0, none⟩)) rfl (by kernel_rfl) (by kernel_rfl) (by kernel_rfl) (fun _ _ _ h => h) (Or.inl ⟨by rfl, ?_⟩) hHeld ?_
  · intro W hW; (try dsimp only at hW); go_simp
  change wpAnyH _ _ _ _ _ _ _ ⟨#[.pointer (some ⟨g, 0, none⟩),_,.bool gn,_,.pointer (some ⟨k0, 0, none⟩),_,_,_,_,_,_,_,_,_,_,_,_,_,_,_,.pointer (some ⟨g, 0, none⟩),_,.pointer (some ⟨g, 0, none⟩),.pointer (some ⟨g, 0, none⟩),.pointer (some ⟨g, 2, none⟩),_,_,.pointer (some ⟨g, 0, none⟩),.pointer (some ⟨g, 0, none⟩),_,_,_,_,_,_,_,_,_,_,_,_,_,_,_,_,_,_,_,_,_,_,_,_,_,_,_,_,_,_,_], []⟩ _
  refine wpAnyH_take (i := 9) (v := .pointer (some ⟨g, 1, none⟩)) rfl (by kernel_rfl) (by kernel_rfl) (by kernel_rfl) (fun _ _ _ h => h) (Or.inl ⟨by rfl, ?_⟩) hHeld ?_
  · intro W hW; (try dsimp only at hW); go_simp
  change wpAnyH _ _ _ _ _ _ _ ⟨#[.pointer (some ⟨g, 0, none⟩),_,.bool gn,_,.pointer (some ⟨k0, 0, none⟩),_,_,_,_,_,_,_,_,_,_,_,_,_,_,_,.pointer (some ⟨g, 0, none⟩),_,.pointer (some ⟨g, 0, none⟩),.pointer (some ⟨g, 0, none⟩),.pointer (some ⟨g, 2, none⟩),_,_,.pointer (some ⟨g, 0, none⟩),.pointer (some ⟨g, 0, none⟩),.pointer (some ⟨g, 1, none⟩),_,_,_,_,_,_,_,_,_,_,_,_,_,_,_,_,_,_,_,_,_,_,_,_,_,_,_,_,_,_], []⟩ _
  refine wpAnyH_take (i := 10) (v := .int .i64 (s1 : Int)) rfl (by kernel_rfl) (by kernel_rfl) (by kernel_rfl) (fun _ _ _ h => h) (Or.inl ⟨by rfl, ?_⟩) hHeld ?_
  · intro W hW; (try dsimp only at hW); obtain ⟨⟨lv9, hb9⟩, _⟩ := hW; have hc := hb9.cell 1 _ rfl; clear hb9; go_simp
  change wpAnyH _ _ _ _ _ _ _ ⟨#[.pointer (some ⟨g, 0, none⟩),_,.bool gn,_,.pointer (some ⟨k0, 0, none⟩),_,_,_,_,_,_,_,_,_,_,_,_,_,_,_,.pointer (some ⟨g, 0, none⟩),_,.pointer (some ⟨g, 0, none⟩),.pointer (some ⟨g, 0, none⟩),.pointer (some ⟨g, 2, none⟩),_,_,.pointer (some ⟨g, 0, none⟩),.pointer (some ⟨g, 0, none⟩),.pointer (some ⟨g, 1, none⟩),.int .i64 (s1 : Int),_,_,_,_,_,_,_,_,_,_,_,_,_,_,_,_,_,_,_,_,_,_,_,_,_,_,_,_,_], []⟩ _
  refine wpAnyH_take (i := 11) (v := .agg (EC x)) rfl (by kernel_rfl) (by kernel_rfl) (by kernel_rfl) (fun _ _ _ h => h) (yieldsIf_load_mid (by rfl) 36 (.tmp 4) rfl k0 0 rfl (ecl x) _ (fun W hW => hW.2.at_) Try.underlying36 rfl Try.size36) hHeld ?_
  change wpAnyH _ _ _ _ _ _ _ ⟨#[.pointer (some ⟨g, 0, none⟩),_,.bool gn,_,.pointer (some ⟨k0, 0, none⟩),_,_,_,_,_,_,_,_,_,_,_,_,_,_,_,.pointer (some ⟨g, 0, none⟩),_,.pointer (some ⟨g, 0, none⟩),.pointer (some ⟨g, 0, none⟩),.pointer (some ⟨g, 2, none⟩),_,_,.pointer (some ⟨g, 0, none⟩),.pointer (some ⟨g, 0, none⟩),.pointer (some ⟨g, 1, none⟩),.int .i64 (s1 : Int),.agg (EC x),_,_,_,_,_,_,_,_,_,_,_,_,_,_,_,_,_,_,_,_,_,_,_,_,_,_,_,_], []⟩ _
  refine wpAnyH_take (i := 12) (v := .bool gn) rfl (by kernel_rfl) (by kernel_rfl) (by kernel_rfl) (fun _ _ _ h => h) (Or.inl ⟨by rfl, ?_⟩) hHeld ?_
  · intro W hW; (try dsimp only at hW); go_simp
  change wpAnyH _ _ _ _ _ _ _ ⟨#[.pointer (some ⟨g, 0, none⟩),_,.bool gn,_,.pointer (some ⟨k0, 0, none⟩),_,_,_,_,_,_,_,_,_,_,_,_,_,_,_,.pointer (some ⟨g, 0, none⟩),_,.pointer (some ⟨g, 0, none⟩),.pointer (some ⟨g, 0, none⟩),.pointer (some ⟨g, 2, none⟩),_,_,.pointer (some ⟨g, 0, none⟩),.pointer (some ⟨g, 0, none⟩),.pointer (some ⟨g, 1, none⟩),.int .i64 (s1 : Int),.agg (EC x),.bool gn,_,_,_,_,_,_,_,_,_,_,_,_,_,_,_,_,_,_,_,_,_,_,_,_,_,_,_], []⟩ _
  refine wpAnyH_take (i := 13) (v := .agg (CC (⟨(s1 : Int), x, gn⟩ : Ch))) rfl (by kernel_rfl) (by kernel_rfl) (by kernel_rfl) (fun _ _ _ h => h) (Or.inl ⟨by rfl, ?_⟩) hHeld ?_
  · intro W hW; (try dsimp only at hW); clear hW; exact exec_b54 (s1 : Int) x gn (.tmp 30) (.tmp 31) (.tmp 32) rfl rfl rfl rfl W
  change wpAnyH _ _ _ _ _ _ _ ⟨#[.pointer (some ⟨g, 0, none⟩),_,.bool gn,_,.pointer (some ⟨k0, 0, none⟩),_,_,_,_,_,_,_,_,_,_,_,_,_,_,_,.pointer (some ⟨g, 0, none⟩),_,.pointer (some ⟨g, 0, none⟩),.pointer (some ⟨g, 0, none⟩),.pointer (some ⟨g, 2, none⟩),_,_,.pointer (some ⟨g, 0, none⟩),.pointer (some ⟨g, 0, none⟩),.pointer (some ⟨g, 1, none⟩),.int .i64 (s1 : Int),.agg (EC x),.bool gn,.agg (CC (⟨(s1 : Int), x, gn⟩ : Ch)),_,_,_,_,_,_,_,_,_,_,_,_,_,_,_,_,_,_,_,_,_,_,_,_,_,_], []⟩ _
  refine wpAnyH_ready (rs := [1, 5, 14]) (by kernel_rfl) (by simp) ?_
  refine (AllReadyH.cons rfl (fun K hK => ?_) (AllReadyH.cons rfl (fun K hK => ?_) (AllReadyH.cons rfl (fun K hK => ?_) AllReadyH.nil)))
  · rw [if_pos (by rfl)]
    refine wp_bs0 rfl ?_
    have ba0 := below_alloc u0 (.cells #[] 54)
    have ba := ba0.mono hN0.out
    have HO1 : Hid ((u0.alloc (.cells #[] 54)).ownsRow N 54 12 (.slice (some ⟨u0.heap.size, 0, none⟩) 0 0) 0 (chs [])) := hide (row_mono54 hN0.out (World.ownsRow_lit u0 #[] 0 (by omega) (by unfold maxLen; omega) rfl))
    replace HG := hide (HG.out.below HN.out.2.1 ba)
    refine hK.out _ _ ⟨⟨_, HG.out⟩, hHeld.2.below HN.out.2.2 ba⟩ (fun hHeld => ?_)
    clear hK K
    have BB1 := hide (BB0.out.trans ba)
    have hN1 : Hid (N ≤ (u0.alloc (.cells #[] 54)).heap.size) := hide (Nat.le_trans hN0.out ba.size)
    replace HL0 := hide (HL0.out.on ba0)
    obtain ⟨k1, hk1⟩ : ∃ k1, k1 = u0.heap.size := ⟨_, rfl⟩
    have HK1 : Hid (k1 < (u0.alloc (.cells #[] 54)).heap.size) := hide (by rw [hk1]; simp)
    rw [← hk1] at HO1 ⊢
    clear hk1 ba ba0
    generalize u0.alloc (.cells #[] 54) = u1 at *
    change wpAnyH _ _ _ _ _ _ _ ⟨#[.pointer (some ⟨g, 0, none⟩),_,.bool gn,_,.pointer (some ⟨k0, 0, none⟩),_,_,_,_,_,_,_,_,_,_,_,_,_,_,_,.pointer (some ⟨g, 0, none⟩),.slice (some ⟨k1, 0, none⟩) 0 0,.pointer (some ⟨g, 0, none⟩),.pointer (some ⟨g, 0, none⟩),.pointer (some ⟨g, 2, none⟩),_,_,.pointer (some ⟨g, 0, none⟩),.pointer (some ⟨g, 0, none⟩),.pointer (some ⟨g, 1, none⟩),.int .i64 (s1 : Int),.agg (EC x),.bool gn,.agg (CC (⟨(s1 : Int), x, gn⟩ : Ch)),_,_,_,_,_,_,_,_,_,_,_,_,_,_,_,_,_,_,_,_,_,_,_,_,_,_], []⟩ _
    refine wpAnyH_ready (rs := [5, 14]) (by kernel_rfl) (by simp) ?_
    refine (AllReadyH.cons rfl (fun K hK => ?_) (AllReadyH.cons rfl (fun K hK => ?_) AllReadyH.nil))
    · have hc := HG.out.cell 2 _ rfl
      go_simp
      refine hK.out _ _ hHeld (fun hHeld => ?_)
      clear hK K hc
      change wpAnyH _ _ _ _ _ _ _ ⟨#[.pointer (some ⟨g, 0, none⟩),_,.bool gn,_,.pointer (some ⟨k0, 0, none⟩),_,_,_,_,_,_,_,_,_,_,_,_,_,_,_,.pointer (some ⟨g, 0, none⟩),.slice (some ⟨k1, 0, none⟩) 0 0,.pointer (some ⟨g, 0, none⟩),.pointer (some ⟨g, 0, none⟩),.pointer (some ⟨g, 2, none⟩),.slice ao m c,_,.pointer (some ⟨g, 0, none⟩),.pointer (some ⟨g, 0, none⟩),.pointer (some ⟨g, 1, none⟩),.int .i64 (s1 : Int),.agg (EC x),.bool gn,.agg (CC (⟨(s1 : Int), x, gn⟩ : Ch)),_,_,_,_,_,_,_,_,_,_,_,_,_,_,_,_,_,_,_,_,_,_,_,_,_,_], []⟩ _
      refine wpAnyH_ready (rs := [6, 14]) (by kernel_rfl) (by simp) ?_
      refine (AllReadyH.cons rfl (fun K hK => ?_) (AllReadyH.cons rfl (fun K hK => ?_) AllReadyH.nil))
      · rw [if_pos (by rfl)]
        refine wp_capp rfl (.tmp 21) (.tmp 25) rfl N (.slice (some ⟨k1, 0, none⟩) 0 0) 0 [] rfl HO1.out ao m c L rfl HL0.out.crs (by omega) hN1.out ?_
        intro v2 u2 O2 G2
        have ba := (Below.refl N u1).grown G2 hN1.out (fun r hr => (HO1.out.lt r hr).1)
        replace HG := hide (HG.out.below HN.out.2.1 ba)
        refine hK.out _ _ ⟨⟨_, HG.out⟩, hHeld.2.below HN.out.2.2 ba⟩ (fun hHeld => ?_)
        clear hK K
        have HO2 := hide O2
        have BB2 := hide (BB1.out.trans ba)
        have hN2 : Hid (N ≤ u2.heap.size) := hide (Nat.le_trans hN1.out ba.size)
        clear ba G2 O2 HO1 HL0
        change wpAnyH _ _ _ _ _ _ _ ⟨#[.pointer (some ⟨g, 0, none⟩),_,.bool gn,_,.pointer (some ⟨k0, 0, none⟩),_,_,_,_,_,_,_,_,_,_,_,_,_,_,_,.pointer (some ⟨g, 0, none⟩),.slice (some ⟨k1, 0, none⟩) 0 0,.pointer (some ⟨g, 0, none⟩),.pointer (some ⟨g, 0, none⟩),.pointer (some ⟨g, 2, none⟩),.slice ao m c,v2,.pointer (some ⟨g, 0, none⟩),.pointer (some ⟨g, 0, none⟩),.pointer (some ⟨g, 1, none⟩),.int .i64 (s1 : Int),.agg (EC x),.bool gn,.agg (CC (⟨(s1 : Int), x, gn⟩ : Ch)),_,_,_,_,_,_,_,_,_,_,_,_,_,_,_,_,_,_,_,_,_,_,_,_,_,_], []⟩ _
        refine wpAnyH_ready (rs := [14]) (by kernel_rfl) (by simp) ?_
        refine (AllReadyH.cons rfl (fun K hK => ?_) AllReadyH.nil)
        rw [if_pos (by rfl)]
        refine wp_bsC (.tmp 33) (⟨(s1 : Int), x, gn⟩ : Ch) rfl rfl ?_
        have ba0 := below_alloc u2 (.cells (CC (⟨(s1 : Int), x, gn⟩ : Ch)) 54)
        have ba := ba0.mono hN2.out
        have HMB := hide (box_c u2 (⟨(s1 : Int), x, gn⟩ : Ch))
        replace HG := hide (HG.out.below HN.out.2.1 ba)
        refine hK.out _ _ ⟨⟨_, HG.out⟩, hHeld.2.below HN.out.2.2 ba⟩ (fun hHeld => ?_)
        clear hK K
        have BB3 := hide (BB2.out.trans ba)
        have hN3 : Hid (N ≤ (u2.alloc (.cells (CC (⟨(s1 : Int), x, gn⟩ : Ch)) 54)).heap.size) := hide (Nat.le_trans hN2.out ba.size)
        replace HO2 := hide (HO2.out.alloc (.cells (CC (⟨(s1 : Int), x, gn⟩ : Ch)) 54))
        obtain ⟨kb, hkb⟩ : ∃ kb, kb = u2.heap.size := ⟨_, rfl⟩
        have HMB0 : Hid (kb < (u2.alloc (.cells (CC (⟨(s1 : Int), x, gn⟩ : Ch)) 54)).heap.size) := hide (by rw [hkb]; simp)
        rw [← hkb] at HMB ⊢
        clear hkb ba ba0
        generalize u2.alloc (.cells (CC (⟨(s1 : Int), x, gn⟩ : Ch)) 54) = u3 at *
        change wpAnyH _ _ _ _ _ _ _ ⟨#[.pointer (some ⟨g, 0, none⟩),_,.bool gn,_,.pointer (some ⟨k0, 0, none⟩),_,_,_,_,_,_,_,_,_,_,_,_,_,_,_,.pointer (some ⟨g, 0, none⟩),.slice (some ⟨k1, 0, none⟩) 0 0,.pointer (some ⟨g, 0, none⟩),.pointer (some ⟨g, 0, none⟩),.pointer (some ⟨g, 2, none⟩),.slice ao m c,v2,.pointer (some ⟨g, 0, none⟩),.pointer (some ⟨g, 0, none⟩),.pointer (some ⟨g, 1, none⟩),.int .i64 (s1 : Int),.agg (EC x),.bool gn,.agg (CC (⟨(s1 : Int), x, gn⟩ : Ch)),.slice (some ⟨kb, 0, none⟩) 1 1,_,_,_,_,_,_,_,_,_,_,_,_,_,_,_,_,_,_,_,_,_,_,_,_,_], []⟩ _
        refine wpAnyH_ready (rs := [15]) (by kernel_rfl) (by simp) ?_
        refine AllReadyH.cons rfl (fun K hK => ?_) AllReadyH.nil
        rw [if_pos (by rfl)]
        refine wp_capp rfl (.tmp 26) (.tmp 34) rfl N v2 (0 + m) ([] ++ L) rfl HO2.out (some ⟨kb, 0, none⟩) 1 1 [(⟨(s1 : Int), x, gn⟩ : Ch)] rfl (crs_box HMB.out 1) (by omega) hN3.out ?_
        intro v4 u4 O4 G4
        have ba := (Below.refl N u3).grown G4 hN3.out (fun r hr => (HO2.out.lt r hr).1)
        replace HG := hide (HG.out.below HN.out.2.1 ba)
        refine hK.out _ _ ⟨⟨_, HG.out⟩, hHeld.2.below HN.out.2.2 ba⟩ (fun hHeld => ?_)
        clear hK K
        have BB4 := hide (BB3.out.trans ba)
        have hN4 : Hid (N ≤ u4.heap.size) := hide (Nat.le_trans hN3.out ba.size)
        have O3 : Hid (u4.ownsRow N 54 12 v4 m1 (chs (L ++ [(⟨(s1 : Int), x, gn⟩ : Ch)]))) := hide (by
          have h9 := O4
          rw [List.nil_append, Nat.zero_add, ← HM1.out] at h9
          exact h9)
        clear O4
        obtain ⟨b3, c3, hv3, hb3⟩ : ∃ b3 c3, v4 = .slice (some ⟨b3, 0, none⟩) m1 c3 ∧ N ≤ b3 := by
          rcases O3.out.2 with ⟨h1, h2⟩ | ⟨b, cap, cur, h1, hb, _⟩
          · have := HM1.out; omega
          · exact ⟨b, cap, h1, hb⟩
        subst hv3
        have HB3 := hide hb3
        have hro := box_of_row54 O3.out (by have := HL9.out; rw [chs_length, List.length_append, this, HM1.out]; rfl)
        have HCC : Hid (m1 ≤ c3 ∧ c3 ≤ 9223372036854775807) := hide ⟨hro.2.2.2.1, by have := hro.2.2.2.2; unfold maxLen at this; omega⟩
        clear hro hb3
        clear ba G4 HO2 HMB
        change wpAnyH _ _ _ _ _ _ _ ⟨#[.pointer (some ⟨g, 0, none⟩),_,.bool gn,_,.pointer (some ⟨k0, 0, none⟩),_,_,_,_,_,_,_,_,_,_,_,_,_,_,_,.pointer (some ⟨g, 0, none⟩),.slice (some ⟨k1, 0, none⟩) 0 0,.pointer (some ⟨g, 0, none⟩),.pointer (some ⟨g, 0, none⟩),.pointer (some ⟨g, 2, none⟩),.slice ao m c,v2,.pointer (some ⟨g, 0, none⟩),.pointer (some ⟨g, 0, none⟩),.pointer (some ⟨g, 1, none⟩),.int .i64 (s1 : Int),.agg (EC x),.bool gn,.agg (CC (⟨(s1 : Int), x, gn⟩ : Ch)),.slice (some ⟨kb, 0, none⟩) 1 1,.slice (some ⟨b3, 0, none⟩) m1 c3,_,_,_,_,_,_,_,_,_,_,_,_,_,_,_,_,_,_,_,_,_,_,_,_], []⟩ _
        refine wpAnyH_take (i := 16) (v := .pointer (some ⟨g, 0, none⟩)) rfl (by kernel_rfl) (by kernel_rfl) (by kernel_rfl) (fun _ _ _ h => h) (Or.inl ⟨by rfl, ?_⟩) hHeld ?_
        · intro W hW; (try dsimp only at hW); go_simp
        change wpAnyH _ _ _ _ _ _ _ ⟨#[.pointer (some ⟨g, 0, none⟩),_,.bool gn,_,.pointer (some ⟨k0, 0, none⟩),_,_,_,_,_,_,_,_,_,_,_,_,_,_,_,.pointer (some ⟨g, 0, none⟩),.slice (some ⟨k1, 0, none⟩) 0 0,.pointer (some ⟨g, 0, none⟩),.pointer (some ⟨g, 0, none⟩),.pointer (some ⟨g, 2, none⟩),.slice ao m c,v2,.pointer (some ⟨g, 0, none⟩),.pointer (some ⟨g, 0, none⟩),.pointer (some ⟨g, 1, none⟩),.int .i64 (s1 : Int),.agg (EC x),.bool gn,.agg (CC (⟨(s1 : Int), x, gn⟩ : Ch)),.slice (some ⟨kb, 0, none⟩) 1 1,.slice (some ⟨b3, 0, none⟩) m1 c3,.pointer (some ⟨g, 0, none⟩),_,_,_,_,_,_,_,_,_,_,_,_,_,_,_,_,_,_,_,_,_,_,_], []⟩ _
        refine wpAnyH_take (i := 17) (v := .pointer (some ⟨g, 2, none⟩)) rfl (by kernel_rfl) (by kernel_rfl) (by kernel_rfl) (fun _ _ _ h => h) (Or.inl ⟨by rfl, ?_⟩) hHeld ?_
        · intro W hW; (try dsimp only at hW); go_simp
        change wpAnyH _ _ _ _ _ _ _ ⟨#[.pointer (some ⟨g, 0, none⟩),_,.bool gn,_,.pointer (some ⟨k0, 0, none⟩),_,_,_,_,_,_,_,_,_,_,_,_,_,_,_,.pointer (some ⟨g, 0, none⟩),.slice (some ⟨k1, 0, none⟩) 0 0,.pointer (some ⟨g, 0, none⟩),.pointer (some ⟨g, 0, none⟩),.pointer (some ⟨g, 2, none⟩),.slice ao m c,v2,.pointer (some ⟨g, 0, none⟩),.pointer (some ⟨g, 0, none⟩),.pointer (some ⟨g, 1, none⟩),.int .i64 (s1 : Int),.agg (EC x),.bool gn,.agg (CC (⟨(s1 : Int), x, gn⟩ : Ch)),.slice (some ⟨kb, 0, none⟩) 1 1,.slice (some ⟨b3, 0, none⟩) m1 c3,.pointer (some ⟨g, 0, none⟩),.pointer (some ⟨g, 2, none⟩),_,_,_,_,_,_,_,_,_,_,_,_,_,_,_,_,_,_,_,_,_,_], []⟩ _
        refine wpAnyH_ready (rs := [18]) (by kernel_rfl) (by simp) ?_
        refine AllReadyH.cons rfl (fun K hK => ?_) AllReadyH.nil
        have c2 := HG.out.cell 2 _ rfl
        have f2 := HG.out.free 2 (by simp [rcl])
        have g5 := setCell_grown u4 g 2 (.slice (some ⟨b3, 0, none⟩) m1 c3)
        have B5 : Box (u4.setCell ⟨g, 2, none⟩ (.slice (some ⟨b3, 0, none⟩) m1 c3)) g (rcl n s1 (.slice (some ⟨b3, 0, none⟩) m1 c3)) := Box.set (A := [.int .i64 n, .int .i64 s1]) (C := []) HG.out rfl
        have X5 := hHeld.2.kept (show k0 ≠ g by have := HK0.out; omega) g5
        go_simp
        refine hK.out _ _ ⟨⟨_, B5⟩, X5⟩ (fun hHeld => ?_)
        clear hK K hHeld X5 c2 f2
        have M5 : Hid (Mid g (g + 1) w (u4.setCell ⟨g, 2, none⟩ (.slice (some ⟨b3, 0, none⟩) m1 c3))) := hide ((M0.out.trans (by have h9 := BB4.out; rw [HN.out.1] at h9; exact mid_of h9)).trans (mid_grown (h := g) g5 (by omega) (by omega) rfl))
        have O5 : Hid ((u4.setCell ⟨g, 2, none⟩ (.slice (some ⟨b3, 0, none⟩) m1 c3)).ownsRow N 54 12 (.slice (some ⟨b3, 0, none⟩) m1 c3) m1 (chs (L ++ [(⟨(s1 : Int), x, gn⟩ : Ch)]))) := hide (O3.out.kept g5 (Or.inr (fun e => by
          have h9 := Option.some.inj e
          simp at h9
          have := HB3.out
          have := HN.out.2.1
          omega)))
        have HB5 := hide B5
        clear B5 g5 O3 BB4 hN4
        generalize u4.setCell ⟨g, 2, none⟩ (.slice (some ⟨b3, 0, none⟩) m1 c3) = u5 at *
        change wpAnyH _ _ _ _ _ _ _ ⟨#[.pointer (some ⟨g, 0, none⟩),_,.bool gn,_,.pointer (some ⟨k0, 0, none⟩),_,_,_,_,_,_,_,_,_,_,_,_,_,_,_,.pointer (some ⟨g, 0, none⟩),.slice (some ⟨k1, 0, none⟩) 0 0,.pointer (some ⟨g, 0, none⟩),.pointer (some ⟨g, 0, none⟩),.pointer (some ⟨g, 2, none⟩),.slice ao m c,v2,.pointer (some ⟨g, 0, none⟩),.pointer (some ⟨g, 0, none⟩),.pointer (some ⟨g, 1, none⟩),.int .i64 (s1 : Int),.agg (EC x),.bool gn,.agg (CC (⟨(s1 : Int), x, gn⟩ : Ch)),.slice (some ⟨kb, 0, none⟩) 1 1,.slice (some ⟨b3, 0, none⟩) m1 c3,.pointer (some ⟨g, 0, none⟩),.pointer (some ⟨g, 2, none⟩),_,_,_,_,_,_,_,_,_,_,_,_,_,_,_,_,_,_,_,_,_,_], []⟩ _
        refine wpAnyH_done (by kernel_rfl) ?_ _
        have c0 := HB5.out.cell 0 _ rfl
        have c1 := HB5.out.cell 1 _ rfl
        have c2 := HB5.out.cell 2 _ rfl
        have f2 := HB5.out.free 2 (by simp [rcl])
        by_cases hgt : n < m1
        · have d1 : decide ((n : Int) < (m1 : Int)) = true := by simp; omega
          have hc1 : ¬ c3 = 1 := by have := HCC.out.1; omega
          have hm0 : (1 : Int) ≤ (m1 : Int) := by omega
          have hm2 : (m1 : Int) ≤ (c3 : Int) := by have := HCC.out.1; omega
          go_wp2_with fail
          go_quiet (fail)
          have g6 := setCell_grown (u5.drewN nq) g 2 (.slice (some ⟨b3, 12, none⟩) (m1 - 1) (c3 - 1))
          have B6 : Box ((u5.drewN nq).setCell ⟨g, 2, none⟩ (.slice (some ⟨b3, 12, none⟩) (m1 - 1) (c3 - 1))) g (rcl n s1 (.slice (some ⟨b3, 12, none⟩) (m1 - 1) (c3 - 1))) := Box.set (A := [.int .i64 n, .int .i64 s1]) (C := []) (boxN HB5.out nq) rfl
          have c3' := B6.cell 1 _ rfl
          have HG6 := hide g6
          have HB6 := hide B6
          clear g6 B6 c0 c1
          go_wp2
          go_ret2
          have hct := row54_cta O5.out (by rw [List.length_append, HL9.out, HM1.out]; rfl) 1 (by omega)
          rw [Nat.one_mul] at hct
          have hct2 : Cta (u5.drewN nq) (g + 1) (some ⟨b3, 12, none⟩) (m1 - 1) (c3 - 1) ((L ++ [(⟨(s1 : Int), x, gn⟩ : Ch)]).drop 1) := (hct.mono HN.out.2.1).on (belowN (Below.refl _ _) nq)
          have hct3 := hct2.keep (w1 := (u5.drewN nq).setCell ⟨g, 2, none⟩ (.slice (some ⟨b3, 12, none⟩) (m1 - 1) (c3 - 1))) (fun b h1 h2 => HG6.out.block b h2 (fun e => by have := Option.some.inj e; omega)) HG6.out.size
          have htl : tl n (cs ++ [(⟨(s1 : Int), x, gn⟩ : Ch)]) = (L ++ [(⟨(s1 : Int), x, gn⟩ : Ch)]).drop 1 := by rw [HLL.out]; exact tl_long (HMN.out.2.2 (by have := HM1.out; omega)) _
          refine ⟨rfl, ⟨_, m1 - 1, _, _, rfl, by simp, ⟨?_, by rw [htl]; exact hct3, n1, n2⟩⟩, (M5.out.trans (mid_of (belowN (Below.refl _ _) nq))).trans (mid_grown (h := g) HG6.out (by omega) (by omega) rfl)⟩
          rw [show (cs ++ [(⟨(s1 : Int), x, gn⟩ : Ch)]).length = s1 by rw [List.length_append, HS1.out.2, HS.out]; rfl]
          exact HB6.out
        · have d1 : decide ((n : Int) < (m1 : Int)) = false := by simp; omega
          go_wp2_with fail
          go_quiet (fail)
          go_wp2
          go_ret2
          have hct := row54_cta O5.out (by rw [List.length_append, HL9.out, HM1.out]; rfl) 0 (by omega)
          rw [Nat.zero_mul, Nat.sub_zero, Nat.sub_zero, List.drop_zero] at hct
          have hct2 : Cta (u5.drewN nq) (g + 1) (some ⟨b3, 0, none⟩) m1 c3 (L ++ [(⟨(s1 : Int), x, gn⟩ : Ch)]) := (hct.mono HN.out.2.1).on (belowN (Below.refl _ _) nq)
          have htl : tl n (cs ++ [(⟨(s1 : Int), x, gn⟩ : Ch)]) = L ++ [(⟨(s1 : Int), x, gn⟩ : Ch)] := by rw [HLL.out]; exact tl_short (HMN.out.2.1 (by have := HM1.out; omega)) _
          refine ⟨rfl, ⟨_, m1, _, _, rfl, by simp, ⟨?_, by rw [htl]; exact hct2, n1, n2⟩⟩, M5.out.trans (mid_of (belowN (Below.refl _ _) nq))⟩
          rw [show (cs ++ [(⟨(s1 : Int), x, gn⟩ : Ch)]).length = s1 by rw [List.length_append, HS1.out.2, HS.out]; rfl]
          exact boxN HB5.out nq
      · rw [if_pos (by rfl)]
        refine wp_bsC (.tmp 33) (⟨(s1 : Int), x, gn⟩ : Ch) rfl rfl ?_
        have ba0 := below_alloc u1 (.cells (CC (⟨(s1 : Int), x, gn⟩ : Ch)) 54)
        have ba := ba0.mono hN1.out
        have HMB := hide (box_c u1 (⟨(s1 : Int), x, gn⟩ : Ch))
        replace HG := hide (HG.out.below HN.out.2.1 ba)
        refine hK.out _ _ ⟨⟨_, HG.out⟩, hHeld.2.below HN.out.2.2 ba⟩ (fun hHeld => ?_)
        clear hK K
        have BB2 := hide (BB1.out.trans ba)
        have hN2 : Hid (N ≤ (u1.alloc (.cells (CC (⟨(s1 : Int), x, gn⟩ : Ch)) 54)).heap.size) := hide (Nat.le_trans hN1.out ba.size)
        replace HL0 := hide (HL0.out.on ba0)
        replace HO1 := hide (HO1.out.alloc (.cells (CC (⟨(s1 : Int), x, gn⟩ : Ch)) 54))
        have hkk : Hid (k1 ≠ u1.heap.size) := hide (by have := HK1.out; omega)
        obtain ⟨kb, hkb⟩ : ∃ kb, kb = u1.heap.size := ⟨_, rfl⟩
        have HMB0 : Hid (kb < (u1.alloc (.cells (CC (⟨(s1 : Int), x, gn⟩ : Ch)) 54)).heap.size) := hide (by rw [hkb]; simp)
        rw [← hkb] at HMB hkk ⊢
        clear hkb ba ba0
        generalize u1.alloc (.cells (CC (⟨(s1 : Int), x, gn⟩ : Ch)) 54) = u2 at *
        change wpAnyH _ _ _ _ _ _ _ ⟨#[.pointer (some ⟨g, 0, none⟩),_,.bool gn,_,.pointer (some ⟨k0, 0, none⟩),_,_,_,_,_,_,_,_,_,_,_,_,_,_,_,.pointer (some ⟨g, 0, none⟩),.slice (some ⟨k1, 0, none⟩) 0 0,.pointer (some ⟨g, 0, none⟩),.pointer (some ⟨g, 0, none⟩),.pointer (some ⟨g, 2, none⟩),.slice ao m c,_,.pointer (some ⟨g, 0, none⟩),.pointer (some ⟨g, 0, none⟩),.pointer (some ⟨g, 1, none⟩),.int .i64 (s1 : Int),.agg (EC x),.bool gn,.agg (CC (⟨(s1 : Int), x, gn⟩ : Ch)),.slice (some ⟨kb, 0, none⟩) 1 1,_,_,_,_,_,_,_,_,_,_,_,_,_,_,_,_,_,_,_,_,_,_,_,_,_], []⟩ _
        refine wpAnyH_ready (rs := [6]) (by kernel_rfl) (by simp) ?_
        refine (AllReadyH.cons rfl (fun K hK => ?_) AllReadyH.nil)
        rw [if_pos (by rfl)]
        refine wp_capp rfl (.tmp 21) (.tmp 25) rfl N (.slice (some ⟨k1, 0, none⟩) 0 0) 0 [] rfl HO1.out ao m c L rfl HL0.out.crs (by omega) hN2.out ?_
        intro v2 u3 O2 G2
        have ba := (Below.refl N u2).grown G2 hN2.out (fun r hr => (HO1.out.lt r hr).1)
        replace HG := hide (HG.out.below HN.out.2.1 ba)
        refine hK.out _ _ ⟨⟨_, HG.out⟩, hHeld.2.below HN.out.2.2 ba⟩ (fun hHeld => ?_)
        clear hK K
        have HO2 := hide O2
        have BB3 := hide (BB2.out.trans ba)
        have hN3 : Hid (N ≤ u3.heap.size) := hide (Nat.le_trans hN2.out ba.size)
        replace HMB := hide (HMB.out.kept (r := k1) (fun e => hkk.out (by first | exact e.symm | exact e)) G2)
        clear ba G2 O2 HO1 HL0
        change wpAnyH _ _ _ _ _ _ _ ⟨#[.pointer (some ⟨g, 0, none⟩),_,.bool gn,_,.pointer (some ⟨k0, 0, none⟩),_,_,_,_,_,_,_,_,_,_,_,_,_,_,_,.pointer (some ⟨g, 0, none⟩),.slice (some ⟨k1, 0, none⟩) 0 0,.pointer (some ⟨g, 0, none⟩),.pointer (some ⟨g, 0, none⟩),.pointer (some ⟨g, 2, none⟩),.slice ao m c,v2,.pointer (some ⟨g, 0, none⟩),.pointer (some ⟨g, 0, none⟩),.pointer (some ⟨g, 1, none⟩),.int .i64 (s1 : Int),.agg (EC x),.bool gn,.agg (CC (⟨(s1 : Int), x, gn⟩ : Ch)),.slice (some ⟨kb, 0, none⟩) 1 1,_,_,_,_,_,_,_,_,_,_,_,_,_,_,_,_,_,_,_,_,_,_,_,_,_], []⟩ _
        refine wpAnyH_ready (rs := [15]) (by kernel_rfl) (by simp) ?_
        refine AllReadyH.cons rfl (fun K hK => ?_) AllReadyH.nil
        rw [if_pos (by rfl)]
        refine wp_capp rfl (.tmp 26) (.tmp 34) rfl N v2 (0 + m) ([] ++ L) rfl HO2.out (some ⟨kb, 0, none⟩) 1 1 [(⟨(s1 : Int), x, gn⟩ : Ch)] rfl (crs_box HMB.out 1) (by omega) hN3.out ?_
        intro v4 u4 O4 G4
        have ba := (Below.refl N u3).grown G4 hN3.out (fun r hr => (HO2.out.lt r hr).1)
        replace HG := hide (HG.out.below HN.out.2.1 ba)
        refine hK.out _ _ ⟨⟨_, HG.out⟩, hHeld.2.below HN.out.2.2 ba⟩ (fun hHeld => ?_)
        clear hK K
        have BB4 := hide (BB3.out.trans ba)
        have hN4 : Hid (N ≤ u4.heap.size) := hide (Nat.le_trans hN3.out ba.size)
        have O3 : Hid (u4.ownsRow N 54 12 v4 m1 (chs (L ++ [(⟨(s1 : Int), x, gn⟩ : Ch)]))) := hide (by
          have h9 := O4
          rw [List.nil_append, Nat.zero_add, ← HM1.out] at h9
          exact h9)
        clear O4
        obtain ⟨b3, c3, hv3, hb3⟩ : ∃ b3 c3, v4 = .slice (some ⟨b3, 0, none⟩) m1 c3 ∧ N ≤ b3 := by
          rcases O3.out.2 with ⟨h1, h2⟩ | ⟨b, cap, cur, h1, hb, _⟩
          · have := HM1.out; omega
          · exact ⟨b, cap, h1, hb⟩
        subst hv3
        have HB3 := hide hb3
        have hro := box_of_row54 O3.out (by have := HL9.out; rw [chs_length, List.length_append, this, HM1.out]; rfl)
        have HCC : Hid (m1 ≤ c3 ∧ c3 ≤ 9223372036854775807) := hide ⟨hro.2.2.2.1, by have := hro.2.2.2.2; unfold maxLen at this; omega⟩
        clear hro hb3
        clear ba G4 HO2 HMB
        change wpAnyH _ _ _ _ _ _ _ ⟨#[.pointer (some ⟨g, 0, none⟩),_,.bool gn,_,.pointer (some ⟨k0, 0, none⟩),_,_,_,_,_,_,_,_,_,_,_,_,_,_,_,.pointer (some ⟨g, 0, none⟩),.slice (some ⟨k1, 0, none⟩) 0 0,.pointer (some ⟨g, 0, none⟩),.pointer (some ⟨g, 0, none⟩),.pointer (some ⟨g, 2, none⟩),.slice ao m c,v2,.pointer (some ⟨g, 0, none⟩),.pointer (some ⟨g, 0, none⟩),.pointer (some ⟨g, 1, none⟩),.int .i64 (s1 : Int),.agg (EC x),.bool gn,.agg (CC (⟨(s1 : Int), x, gn⟩ : Ch)),.slice (some ⟨kb, 0, none⟩) 1 1,.slice (some ⟨b3, 0, none⟩) m1 c3,_,_,_,_,_,_,_,_,_,_,_,_,_,_,_,_,_,_,_,_,_,_,_,_], []⟩ _
        refine wpAnyH_take (i := 16) (v := .pointer (some ⟨g, 0, none⟩)) rfl (by kernel_rfl) (by kernel_rfl) (by kernel_rfl) (fun _ _ _ h => h) (Or.inl ⟨by rfl, ?_⟩) hHeld ?_
        · intro W hW; (try dsimp only at hW); go_simp
        change wpAnyH _ _ _ _ _ _ _ ⟨#[.pointer (some ⟨g, 0, none⟩),_,.bool gn,_,.pointer (some ⟨k0, 0, none⟩),_,_,_,_,_,_,_,_,_,_,_,_,_,_,_,.pointer (some ⟨g, 0, none⟩),.slice (some ⟨k1, 0, none⟩) 0 0,.pointer (some ⟨g, 0, none⟩),.pointer (some ⟨g, 0, none⟩),.pointer (some ⟨g, 2, none⟩),.slice ao m c,v2,.pointer (some ⟨g, 0, none⟩),.pointer (some ⟨g, 0, none⟩),.pointer (some ⟨g, 1, none⟩),.int .i64 (s1 : Int),.agg (EC x),.bool gn,.agg (CC (⟨(s1 : Int), x, gn⟩ : Ch)),.slice (some ⟨kb, 0, none⟩) 1 1,.slice (some ⟨b3, 0, none⟩) m1 c3,.pointer (some ⟨g, 0, none⟩),_,_,_,_,_,_,_,_,_,_,_,_,_,_,_,_,_,_,_,_,_,_,_], []⟩ _
        refine wpAnyH_take (i := 17) (v := .pointer (some ⟨g, 2, none⟩)) rfl (by kernel_rfl) (by kernel_rfl) (by kernel_rfl) (fun _ _ _ h => h) (Or.inl ⟨by rfl, ?_⟩) hHeld ?_
        · intro W hW; (try dsimp only at hW); go_simp
        change wpAnyH _ _ _ _ _ _ _ ⟨#[.pointer (some ⟨g, 0, none⟩),_,.bool gn,_,.pointer (some ⟨k0, 0, none⟩),_,_,_,_,_,_,_,_,_,_,_,_,_,_,_,.pointer (some ⟨g, 0, none⟩),.slice (some ⟨k1, 0, none⟩) 0 0,.pointer (some ⟨g, 0, none⟩),.pointer (some ⟨g, 0, none⟩),.pointer (some ⟨g, 2, none⟩),.slice ao m c,v2,.pointer (some ⟨g, 0, none⟩),.pointer (some ⟨g, 0, none⟩),.pointer (some ⟨g, 1, none⟩),.int .i64 (s1 : Int),.agg (EC x),.bool gn,.agg (CC (⟨(s1 : Int), x, gn⟩ : Ch)),.slice (some ⟨kb, 0, none⟩) 1 1,.slice (some ⟨b3, 0, none⟩) m1 c3,.pointer (some ⟨g, 0, none⟩),.pointer (some ⟨g, 2, none⟩),_,_,_,_,_,_,_,_,_,_,_,_,_,_,_,_,_,_,_,_,_,_], []⟩ _
        refine wpAnyH_ready (rs := [18]) (by kernel_rfl) (by simp) ?_
        refine AllReadyH.cons rfl (fun K hK => ?_) AllReadyH.nil
        have c2 := HG.out.cell 2 _ rfl
        have f2 := HG.out.free 2 (by simp [rcl])
        have g5 := setCell_grown u4 g 2 (.slice (some ⟨b3, 0, none⟩) m1 c3)
        have B5 : Box (u4.setCell ⟨g, 2, none⟩ (.slice (some ⟨b3, 0, none⟩) m1 c3)) g (rcl n s1 (.slice (some ⟨b3, 0, none⟩) m1 c3)) := Box.set (A := [.int .i64 n, .int .i64 s1]) (C := []) HG.out rfl
        have X5 := hHeld.2.kept (show k0 ≠ g by have := HK0.out; omega) g5
        go_simp
        refine hK.out _ _ ⟨⟨_, B5⟩, X5⟩ (fun hHeld => ?_)
        clear hK K hHeld X5 c2 f2
        have M5 : Hid (Mid g (g + 1) w (u4.setCell ⟨g, 2, none⟩ (.slice (some ⟨b3, 0, none⟩) m1 c3))) := hide ((M0.out.trans (by have h9 := BB4.out; rw [HN.out.1] at h9; exact mid_of h9)).trans (mid_grown (h := g) g5 (by omega) (by omega) rfl))
        have O5 : Hid ((u4.setCell ⟨g, 2, none⟩ (.slice (some ⟨b3, 0, none⟩) m1 c3)).ownsRow N 54 12 (.slice (some ⟨b3, 0, none⟩) m1 c3) m1 (chs (L ++ [(⟨(s1 : Int), x, gn⟩ : Ch)]))) := hide (O3.out.kept g5 (Or.inr (fun e => by
          have h9 := Option.some.inj e
          simp at h9
          have := HB3.out
          have := HN.out.2.1
          omega)))
        have HB5 := hide B5
        clear B5 g5 O3 BB4 hN4
        generalize u4.setCell ⟨g, 2, none⟩ (.slice (some ⟨b3, 0, none⟩) m1 c3) = u5 at *
        change wpAnyH _ _ _ _ _ _ _ ⟨#[.pointer (some ⟨g, 0, none⟩),_,.bool gn,_,.pointer (some ⟨k0, 0, none⟩),_,_,_,_,_,_,_,_,_,_,_,_,_,_,_,.pointer (some ⟨g, 0, none⟩),.slice (some ⟨k1, 0, none⟩) 0 0,.pointer (some ⟨g, 0, none⟩),.pointer (some ⟨g, 0, none⟩),.pointer (some ⟨g, 2, none⟩),.slice ao m c,v2,.pointer (some ⟨g, 0, none⟩),.pointer (some ⟨g, 0, none⟩),.pointer (some ⟨g, 1, none⟩),.int .i64 (s1 : Int),.agg (EC x),.bool gn,.agg (CC (⟨(s1 : Int), x, gn⟩ : Ch)),.slice (some ⟨kb, 0, none⟩) 1 1,.slice (some ⟨b3, 0, none⟩) m1 c3,.pointer (some ⟨g, 0, none⟩),.pointer (some ⟨g, 2, none⟩),_,_,_,_,_,_,_,_,_,_,_,_,_,_,_,_,_,_,_,_,_,_], []⟩ _
        refine wpAnyH_done (by kernel_rfl) ?_ _
        have c0 := HB5.out.cell 0 _ rfl
        have c1 := HB5.out.cell 1 _ rfl
        have c2 := HB5.out.cell 2 _ rfl
        have f2 := HB5.out.free 2 (by simp [rcl])
        by_cases hgt : n < m1
        · have d1 : decide ((n : Int) < (m1 : Int)) = true := by simp; omega
          have hc1 : ¬ c3 = 1 := by have := HCC.out.1; omega
          have hm0 : (1 : Int) ≤ (m1 : Int) := by omega
          have hm2 : (m1 : Int) ≤ (c3 : Int) := by have := HCC.out.1; omega
          go_wp2_with fail
          go_quiet (fail)
          have g6 := setCell_grown (u5.drewN nq) g 2 (.slice (some ⟨b3, 12, none⟩) (m1 - 1) (c3 - 1))
          have B6 : Box ((u5.drewN nq).setCell ⟨g, 2, none⟩ (.slice (some ⟨b3, 12, none⟩) (m1 - 1) (c3 - 1))) g (rcl n s1 (.slice (some ⟨b3, 12, none⟩) (m1 - 1) (c3 - 1))) := Box.set (A := [.int .i64 n, .int .i64 s1]) (C := []) (boxN HB5.out nq) rfl
          have c3' := B6.cell 1 _ rfl
          have HG6 := hide g6
          have HB6 := hide B6
          clear g6 B6 c0 c1
          go_wp2
          go_ret2
          have hct := row54_cta O5.out (by rw [List.length_append, HL9.out, HM1.out]; rfl) 1 (by omega)
          rw [Nat.one_mul] at hct
          have hct2 : Cta (u5.drewN nq) (g + 1) (some ⟨b3, 12, none⟩) (m1 - 1) (c3 - 1) ((L ++ [(⟨(s1 : Int), x, gn⟩ : Ch)]).drop 1) := (hct.mono HN.out.2.1).on (belowN (Below.refl _ _) nq)
          have hct3 := hct2.keep (w1 := (u5.drewN nq).setCell ⟨g, 2, none⟩ (.slice (some ⟨b3, 12, none⟩) (m1 - 1) (c3 - 1))) (fun b h1 h2 => HG6.out.block b h2 (fun e => by have := Option.some.inj e; omega)) HG6.out.size
          have htl : tl n (cs ++ [(⟨(s1 : Int), x, gn⟩ : Ch)]) = (L ++ [(⟨(s1 : Int), x, gn⟩ : Ch)]).drop 1 := by rw [HLL.out]; exact tl_long (HMN.out.2.2 (by have := HM1.out; omega)) _
          refine ⟨rfl, ⟨_, m1 - 1, _, _, rfl, by simp, ⟨?_, by rw [htl]; exact hct3, n1, n2⟩⟩, (M5.out.trans (mid_of (belowN (Below.refl _ _) nq))).trans (mid_grown (h := g) HG6.out (by omega) (by omega) rfl)⟩
          rw [show (cs ++ [(⟨(s1 : Int), x, gn⟩ : Ch)]).length = s1 by rw [List.length_append, HS1.out.2, HS.out]; rfl]
          exact HB6.out
        · have d1 : decide ((n : Int) < (m1 : Int)) = false := by simp; omega
          go_wp2_with fail
          go_quiet (fail)
          go_wp2
          go_ret2
          have hct := row54_cta O5.out (by rw [List.length_append, HL9.out, HM1.out]; rfl) 0 (by omega)
          rw [Nat.zero_mul, Nat.sub_zero, Nat.sub_zero, List.drop_zero] at hct
          have hct2 : Cta (u5.drewN nq) (g + 1) (some ⟨b3, 0, none⟩) m1 c3 (L ++ [(⟨(s1 : Int), x, gn⟩ : Ch)]) := (hct.mono HN.out.2.1).on (belowN (Below.refl _ _) nq)
          have htl : tl n (cs ++ [(⟨(s1 : Int), x, gn⟩ : Ch)]) = L ++ [(⟨(s1 : Int), x, gn⟩ : Ch)] := by rw [HLL.out]; exact tl_short (HMN.out.2.1 (by have := HM1.out; omega)) _
          refine ⟨rfl, ⟨_, m1, _, _, rfl, by simp, ⟨?_, by rw [htl]; exact hct2, n1, n2⟩⟩, M5.out.trans (mid_of (belowN (Below.refl _ _) nq))⟩
          rw [show (cs ++ [(⟨(s1 : Int), x, gn⟩ : Ch)]).length = s1 by rw [List.length_append, HS1.out.2, HS.out]; rfl]
          exact boxN HB5.out nq
    · rw [if_pos (by rfl)]
      refine wp_bsC (.tmp 33) (⟨(s1 : Int), x, gn⟩ : Ch) rfl rfl ?_
      have ba0 := below_alloc u1 (.cells (CC (⟨(s1 : Int), x, gn⟩ : Ch)) 54)
      have ba := ba0.mono hN1.out
      have HMB := hide (box_c u1 (⟨(s1 : Int), x, gn⟩ : Ch))
      replace HG := hide (HG.out.below HN.out.2.1 ba)
      refine hK.out _ _ ⟨⟨_, HG.out⟩, hHeld.2.below HN.out.2.2 ba⟩ (fun hHeld => ?_)
      clear hK K
      have BB2 := hide (BB1.out.trans ba)
      have hN2 : Hid (N ≤ (u1.alloc (.cells (CC (⟨(s1 : Int), x, gn⟩ : Ch)) 54)).heap.size) := hide (Nat.le_trans hN1.out ba.size)
      replace HL0 := hide (HL0.out.on ba0)
      replace HO1 := hide (HO1.out.alloc (.cells (CC (⟨(s1 : Int), x, gn⟩ : Ch)) 54))
      have hkk : Hid (k1 ≠ u1.heap.size) := hide (by have := HK1.out; omega)
      obtain ⟨kb, hkb⟩ : ∃ kb, kb = u1.heap.size := ⟨_, rfl⟩
      have HMB0 : Hid (kb < (u1.alloc (.cells (CC (⟨(s1 : Int), x, gn⟩ : Ch)) 54)).heap.size) := hide (by rw [hkb]; simp)
      rw [← hkb] at HMB hkk ⊢
      clear hkb ba ba0
      generalize u1.alloc (.cells (CC (⟨(s1 : Int), x, gn⟩ : Ch)) 54) = u2 at *
      change wpAnyH _ _ _ _ _ _ _ ⟨#[.pointer (some ⟨g, 0, none⟩),_,.bool gn,_,.pointer (some ⟨k0, 0, none⟩),_,_,_,_,_,_,_,_,_,_,_,_,_,_,_,.pointer (some ⟨g, 0, none⟩),.slice (some ⟨k1, 0, none⟩) 0 0,.pointer (some ⟨g, 0, none⟩),.pointer (some ⟨g, 0, none⟩),.pointer (some ⟨g, 2, none⟩),_,_,.pointer (some ⟨g, 0, none⟩),.pointer (some ⟨g, 0, none⟩),.pointer (some ⟨g, 1, none⟩),.int .i64 (s1 : Int),.agg (EC x),.bool gn,.agg (CC (⟨(s1 : Int), x, gn⟩ : Ch)),.slice (some ⟨kb, 0, none⟩) 1 1,_,_,_,_,_,_,_,_,_,_,_,_,_,_,_,_,_,_,_,_,_,_,_,_,_], []⟩ _
      refine wpAnyH_ready (rs := [5]) (by kernel_rfl) (by simp) ?_
      refine (AllReadyH.cons rfl (fun K hK => ?_) AllReadyH.nil)
      have hc := HG.out.cell 2 _ rfl
      go_simp
      refine hK.out _ _ hHeld (fun hHeld => ?_)
      clear hK K hc
      change wpAnyH _ _ _ _ _ _ _ ⟨#[.pointer (some ⟨g, 0, none⟩),_,.bool gn,_,.pointer (some ⟨k0, 0, none⟩),_,_,_,_,_,_,_,_,_,_,_,_,_,_,_,.pointer (some ⟨g, 0, none⟩),.slice (some ⟨k1, 0, none⟩) 0 0,.pointer (some ⟨g, 0, none⟩),.pointer (some ⟨g, 0, none⟩),.pointer (some ⟨g, 2, none⟩),.slice ao m c,_,.pointer (some ⟨g, 0, none⟩),.pointer (some ⟨g, 0, none⟩),.pointer (some ⟨g, 1, none⟩),.int .i64 (s1 : Int),.agg (EC x),.bool gn,.agg (CC (⟨(s1 : Int), x, gn⟩ : Ch)),.slice (some ⟨kb, 0, none⟩) 1 1,_,_,_,_,_,_,_,_,_,_,_,_,_,_,_,_,_,_,_,_,_,_,_,_,_], []⟩ _
      refine wpAnyH_ready (rs := [6]) (by kernel_rfl) (by simp) ?_
      refine (AllReadyH.cons rfl (fun K hK => ?_) AllReadyH.nil)
      rw [if_pos (by rfl)]
      refine wp_capp rfl (.tmp 21) (.tmp 25) rfl N (.slice (some ⟨k1, 0, none⟩) 0 0) 0 [] rfl HO1.out ao m c L rfl HL0.out.crs (by omega) hN2.out ?_
      intro v2 u3 O2 G2
      have ba := (Below.refl N u2).grown G2 hN2.out (fun r hr => (HO1.out.lt r hr).1)
      replace HG := hide (HG.out.below HN.out.2.1 ba)
      refine hK.out _ _ ⟨⟨_, HG.out⟩, hHeld.2.below HN.out.2.2 ba⟩ (fun hHeld => ?_)
      clear hK K
      have HO2 := hide O2
      have BB3 := hide (BB2.out.trans ba)
      have hN3 : Hid (N ≤ u3.heap.size) := hide (Nat.le_trans hN2.out ba.size)
      replace HMB := hide (HMB.out.kept (r := k1) (fun e => hkk.out (by first | exact e.symm | exact e)) G2)
      clear ba G2 O2 HO1 HL0
      change wpAnyH _ _ _ _ _ _ _ ⟨#[.pointer (some ⟨g, 0, none⟩),_,.bool gn,_,.pointer (some ⟨k0, 0, none⟩),_,_,_,_,_,_,_,_,_,_,_,_,_,_,_,.pointer (some ⟨g, 0, none⟩),.slice (some ⟨k1, 0, none⟩) 0 0,.pointer (some ⟨g, 0, none⟩),.pointer (some ⟨g, 0, none⟩),.pointer (some ⟨g, 2, none⟩),.slice ao m c,v2,.pointer (some ⟨g, 0, none⟩),.pointer (some ⟨g, 0, none⟩),.pointer (some ⟨g, 1, none⟩),.int .i64 (s1 : Int),.agg (EC x),.bool gn,.agg (CC (⟨(s1 : Int), x, gn⟩ : Ch)),.slice (some ⟨kb, 0, none⟩) 1 1,_,_,_,_,_,_,_,_,_,_,_,_,_,_,_,_,_,_,_,_,_,_,_,_,_], []⟩ _
      refine wpAnyH_ready (rs := [15]) (by kernel_rfl) (by simp) ?_
      refine AllReadyH.cons rfl (fun K hK => ?_) AllReadyH.nil
      rw [if_pos (by rfl)]
      refine wp_capp rfl (.tmp 26) (.tmp 34) rfl N v2 (0 + m) ([] ++ L) rfl HO2.out (some ⟨kb, 0, none⟩) 1 1 [(⟨(s1 : Int), x, gn⟩ : Ch)] rfl (crs_box HMB.out 1) (by omega) hN3.out ?_
      intro v4 u4 O4 G4
      have ba := (Below.refl N u3).grown G4 hN3.out (fun r hr => (HO2.out.lt r hr).1)
      replace HG := hide (HG.out.below HN.out.2.1 ba)
      refine hK.out _ _ ⟨⟨_, HG.out⟩, hHeld.2.below HN.out.2.2 ba⟩ (fun hHeld => ?_)
      clear hK K
      have BB4 := hide (BB3.out.trans ba)
      have hN4 : Hid (N ≤ u4.heap.size) := hide (Nat.le_trans hN3.out ba.size)
      have O3 : Hid (u4.ownsRow N 54 12 v4 m1 (chs (L ++ [(⟨(s1 : Int), x, gn⟩ : Ch)]))) := hide (by
        have h9 := O4
        rw [List.nil_append, Nat.zero_add, ← HM1.out] at h9
        exact h9)
      clear O4
      obtain ⟨b3, c3, hv3, hb3⟩ : ∃ b3 c3, v4 = .slice (some ⟨b3, 0, none⟩) m1 c3 ∧ N ≤ b3 := by
        rcases O3.out.2 with ⟨h1, h2⟩ | ⟨b, cap, cur, h1, hb, _⟩
        · have := HM1.out; omega
        · exact ⟨b, cap, h1, hb⟩
      subst hv3
      have HB3 := hide hb3
      have hro := box_of_row54 O3.out (by have := HL9.out; rw [chs_length, List.length_append, this, HM1.out]; rfl)
      have HCC : Hid (m1 ≤ c3 ∧ c3 ≤ 9223372036854775807) := hide ⟨hro.2.2.2.1, by have := hro.2.2.2.2; unfold maxLen at this; omega⟩
      clear hro hb3
      clear ba G4 HO2 HMB
      change wpAnyH _ _ _ _ _ _ _ ⟨#[.pointer (some ⟨g, 0, none⟩),_,.bool gn,_,.pointer (some ⟨k0, 0, none⟩),_,_,_,_,_,_,_,_,_,_,_,_,_,_,_,.pointer (some ⟨g, 0, none⟩),.slice (some ⟨k1, 0, none⟩) 0 0,.pointer (some ⟨g, 0, none⟩),.pointer (some ⟨g, 0, none⟩),.pointer (some ⟨g, 2, none⟩),.slice ao m c,v2,.pointer (some ⟨g, 0, none⟩),.pointer (some ⟨g, 0, none⟩),.pointer (some ⟨g, 1, none⟩),.int .i64 (s1 : Int),.agg (EC x),.bool gn,.agg (CC (⟨(s1 : Int), x, gn⟩ : Ch)),.slice (some ⟨kb, 0, none⟩) 1 1,.slice (some ⟨b3, 0, none⟩) m1 c3,_,_,_,_,_,_,_,_,_,_,_,_,_,_,_,_,_,_,_,_,_,_,_,_], []⟩ _
      refine wpAnyH_take (i := 16) (v := .pointer (some ⟨g, 0, none⟩)) rfl (by kernel_rfl) (by kernel_rfl) (by kernel_rfl) (fun _ _ _ h => h) (Or.inl ⟨by rfl, ?_⟩) hHeld ?_
      · intro W hW; (try dsimp only at hW); go_simp
      change wpAnyH _ _ _ _ _ _ _ ⟨#[.pointer (some ⟨g, 0, none⟩),_,.bool gn,_,.pointer (some ⟨k0, 0, none⟩),_,_,_,_,_,_,_,_,_,_,_,_,_,_,_,.pointer (some ⟨g, 0, none⟩),.slice (some ⟨k1, 0, none⟩) 0 0,.pointer (some ⟨g, 0, none⟩),.pointer (some ⟨g, 0, none⟩),.pointer (some ⟨g, 2, none⟩),.slice ao m c,v2,.pointer (some ⟨g, 0, none⟩),.pointer (some ⟨g, 0, none⟩),.pointer (some ⟨g, 1, none⟩),.int .i64 (s1 : Int),.agg (EC x),.bool gn,.agg (CC (⟨(s1 : Int), x, gn⟩ : Ch)),.slice (some ⟨kb, 0, none⟩) 1 1,.slice (some ⟨b3, 0, none⟩) m1 c3,.pointer (some ⟨g, 0, none⟩),_,_,_,_,_,_,_,_,_,_,_,_,_,_,_,_,_,_,_,_,_,_,_], []⟩ _
      refine wpAnyH_take (i := 17) (v := .pointer (some ⟨g, 2, none⟩)) rfl (by kernel_rfl) (by kernel_rfl) (by kernel_rfl) (fun _ _ _ h => h) (Or.inl ⟨by rfl, ?_⟩) hHeld ?_
      · intro W hW; (try dsimp only at hW); go_simp
      change wpAnyH _ _ _ _ _ _ _ ⟨#[.pointer (some ⟨g, 0, none⟩),_,.bool gn,_,.pointer (some ⟨k0, 0, none⟩),_,_,_,_,_,_,_,_,_,_,_,_,_,_,_,.pointer (some ⟨g, 0, none⟩),.slice (some ⟨k1, 0, none⟩) 0 0,.pointer (some ⟨g, 0, none⟩),.pointer (some ⟨g, 0, none⟩),.pointer (some ⟨g, 2, none⟩),.slice ao m c,v2,.pointer (some ⟨g, 0, none⟩),.pointer (some ⟨g, 0, none⟩),.pointer (some ⟨g, 1, none⟩),.int .i64 (s1 : Int),.agg (EC x),.bool gn,.agg (CC (⟨(s1 : Int), x, gn⟩ : Ch)),.slice (some ⟨kb, 0, none⟩) 1 1,.slice (some ⟨b3, 0, none⟩) m1 c3,.pointer (some ⟨g, 0, none⟩),.pointer (some ⟨g, 2, none⟩),_,_,_,_,_,_,_,_,_,_,_,_,_,_,_,_,_,_,_,_,_,_], []⟩ _
      refine wpAnyH_ready (rs := [18]) (by kernel_rfl) (by simp) ?_
      refine AllReadyH.cons rfl (fun K hK => ?_) AllReadyH.nil
      have c2 := HG.out.cell 2 _ rfl
      have f2 := HG.out.free 2 (by simp [rcl])
      have g5 := setCell_grown u4 g 2 (.slice (some ⟨b3, 0, none⟩) m1 c3)
      have B5 : Box (u4.setCell ⟨g, 2, none⟩ (.slice (some ⟨b3, 0, none⟩) m1 c3)) g (rcl n s1 (.slice (some ⟨b3, 0, none⟩) m1 c3)) := Box.set (A := [.int .i64 n, .int .i64 s1]) (C := []) HG.out rfl
      have X5 := hHeld.2.kept (show k0 ≠ g by have := HK0.out; omega) g5
      go_simp
      refine hK.out _ _ ⟨⟨_, B5⟩, X5⟩ (fun hHeld => ?_)
      clear hK K hHeld X5 c2 f2
      have M5 : Hid (Mid g (g + 1) w (u4.setCell ⟨g, 2, none⟩ (.slice (some ⟨b3, 0, none⟩) m1 c3))) := hide ((M0.out.trans (by have h9 := BB4.out; rw [HN.out.1] at h9; exact mid_of h9)).trans (mid_grown (h := g) g5 (by omega) (by omega) rfl))
      have O5 : Hid ((u4.setCell ⟨g, 2, none⟩ (.slice (some ⟨b3, 0, none⟩) m1 c3)).ownsRow N 54 12 (.slice (some ⟨b3, 0, none⟩) m1 c3) m1 (chs (L ++ [(⟨(s1 : Int), x, gn⟩ : Ch)]))) := hide (O3.out.kept g5 (Or.inr (fun e => by
        have h9 := Option.some.inj e
        simp at h9
        have := HB3.out
        have := HN.out.2.1
        omega)))
      have HB5 := hide B5
      clear B5 g5 O3 BB4 hN4
      generalize u4.setCell ⟨g, 2, none⟩ (.slice (some ⟨b3, 0, none⟩) m1 c3) = u5 at *
      change wpAnyH _ _ _ _ _ _ _ ⟨#[.pointer (some ⟨g, 0, none⟩),_,.bool gn,_,.pointer (some ⟨k0, 0, none⟩),_,_,_,_,_,_,_,_,_,_,_,_,_,_,_,.pointer (some ⟨g, 0, none⟩),.slice (some ⟨k1, 0, none⟩) 0 0,.pointer (some ⟨g, 0, none⟩),.pointer (some ⟨g, 0, none⟩),.pointer (some ⟨g, 2, none⟩),.slice ao m c,v2,.pointer (some ⟨g, 0, none⟩),.pointer (some ⟨g, 0, none⟩),.pointer (some ⟨g, 1, none⟩),.int .i64 (s1 : Int),.agg (EC x),.bool gn,.agg (CC (⟨(s1 : Int), x, gn⟩ : Ch)),.slice (some ⟨kb, 0, none⟩) 1 1,.slice (some ⟨b3, 0, none⟩) m1 c3,.pointer (some ⟨g, 0, none⟩),.pointer (some ⟨g, 2, none⟩),_,_,_,_,_,_,_,_,_,_,_,_,_,_,_,_,_,_,_,_,_,_], []⟩ _
      refine wpAnyH_done (by kernel_rfl) ?_ _
      have c0 := HB5.out.cell 0 _ rfl
      have c1 := HB5.out.cell 1 _ rfl
      have c2 := HB5.out.cell 2 _ rfl
      have f2 := HB5.out.free 2 (by simp [rcl])
      by_cases hgt : n < m1
      · have d1 : decide ((n : Int) < (m1 : Int)) = true := by simp; omega
        have hc1 : ¬ c3 = 1 := by have := HCC.out.1; omega
        have hm0 : (1 : Int) ≤ (m1 : Int) := by omega
        have hm2 : (m1 : Int) ≤ (c3 : Int) := by have := HCC.out.1; omega
        go_wp2_with fail
        go_quiet (fail)
        have g6 := setCell_grown (u5.drewN nq) g 2 (.slice (some ⟨b3, 12, none⟩) (m1 - 1) (c3 - 1))
        have B6 : Box ((u5.drewN nq).setCell ⟨g, 2, none⟩ (.slice (some ⟨b3, 12, none⟩) (m1 - 1) (c3 - 1))) g (rcl n s1 (.slice (some ⟨b3, 12, none⟩) (m1 - 1) (c3 - 1))) := Box.set (A := [.int .i64 n, .int .i64 s1]) (C := []) (boxN HB5.out nq) rfl
        have c3' := B6.cell 1 _ rfl
        have HG6 := hide g6
        have HB6 := hide B6
        clear g6 B6 c0 c1
        go_wp2
        go_ret2
        have hct := row54_cta O5.out (by rw [List.length_append, HL9.out, HM1.out]; rfl) 1 (by omega)
        rw [Nat.one_mul] at hct
        have hct2 : Cta (u5.drewN nq) (g + 1) (some ⟨b3, 12, none⟩) (m1 - 1) (c3 - 1) ((L ++ [(⟨(s1 : Int), x, gn⟩ : Ch)]).drop 1) := (hct.mono HN.out.2.1).on (belowN (Below.refl _ _) nq)
        have hct3 := hct2.keep (w1 := (u5.drewN nq).setCell ⟨g, 2, none⟩ (.slice (some ⟨b3, 12, none⟩) (m1 - 1) (c3 - 1))) (fun b h1 h2 => HG6.out.block b h2 (fun e => by have := Option.some.inj e; omega)) HG6.out.size
        have htl : tl n (cs ++ [(⟨(s1 : Int), x, gn⟩ : Ch)]) = (L ++ [(⟨(s1 : Int), x, gn⟩ : Ch)]).drop 1 := by rw [HLL.out]; exact tl_long (HMN.out.2.2 (by have := HM1.out; omega)) _
        refine ⟨rfl, ⟨_, m1 - 1, _, _, rfl, by simp, ⟨?_, by rw [htl]; exact hct3, n1, n2⟩⟩, (M5.out.trans (mid_of (belowN (Below.refl _ _) nq))).trans (mid_grown (h := g) HG6.out (by omega) (by omega) rfl)⟩
        rw [show (cs ++ [(⟨(s1 : Int), x, gn⟩ : Ch)]).length = s1 by rw [List.length_append, HS1.out.2, HS.out]; rfl]
        exact HB6.out
      · have d1 : decide ((n : Int) < (m1 : Int)) = false := by simp; omega
        go_wp2_with fail
        go_quiet (fail)
        go_wp2
        go_ret2
        have hct := row54_cta O5.out (by rw [List.length_append, HL9.out, HM1.out]; rfl) 0 (by omega)
        rw [Nat.zero_mul, Nat.sub_zero, Nat.sub_zero, List.drop_zero] at hct
        have hct2 : Cta (u5.drewN nq) (g + 1) (some ⟨b3, 0, none⟩) m1 c3 (L ++ [(⟨(s1 : Int), x, gn⟩ : Ch)]) := (hct.mono HN.out.2.1).on (belowN (Below.refl _ _) nq)
        have htl : tl n (cs ++ [(⟨(s1 : Int), x, gn⟩ : Ch)]) = L ++ [(⟨(s1 : Int), x, gn⟩ : Ch)] := by rw [HLL.out]; exact tl_short (HMN.out.2.1 (by have := HM1.out; omega)) _
        refine ⟨rfl, ⟨_, m1, _, _, rfl, by simp, ⟨?_, by rw [htl]; exact hct2, n1, n2⟩⟩, M5.out.trans (mid_of (belowN (Below.refl _ _) nq))⟩
        rw [show (cs ++ [(⟨(s1 : Int), x, gn⟩ : Ch)]).length = s1 by rw [List.length_append, HS1.out.2, HS.out]; rfl]
        exact boxN HB5.out nq
  · have hc := HG.out.cell 2 _ rfl
    go_simp
    refine hK.out _ _ hHeld (fun hHeld => ?_)
    clear hK K hc
    change wpAnyH _ _ _ _ _ _ _ ⟨#[.pointer (some ⟨g, 0, none⟩),_,.bool gn,_,.pointer (some ⟨k0, 0, none⟩),_,_,_,_,_,_,_,_,_,_,_,_,_,_,_,.pointer (some ⟨g, 0, none⟩),_,.pointer (some ⟨g, 0, none⟩),.pointer (some ⟨g, 0, none⟩),.pointer (some ⟨g, 2, none⟩),.slice ao m c,_,.pointer (some ⟨g, 0, none⟩),.pointer (some ⟨g, 0, none⟩),.pointer (some ⟨g, 1, none⟩),.int .i64 (s1 : Int),.agg (EC x),.bool gn,.agg (CC (⟨(s1 : Int), x, gn⟩ : Ch)),_,_,_,_,_,_,_,_,_,_,_,_,_,_,_,_,_,_,_,_,_,_,_,_,_,_], []⟩ _
    refine wpAnyH_ready (rs := [1, 14]) (by kernel_rfl) (by simp) ?_
    refine (AllReadyH.cons rfl (fun K hK => ?_) (AllReadyH.cons rfl (fun K hK => ?_) AllReadyH.nil))
    · rw [if_pos (by rfl)]
      refine wp_bs0 rfl ?_
      have ba0 := below_alloc u0 (.cells #[] 54)
      have ba := ba0.mono hN0.out
      have HO1 : Hid ((u0.alloc (.cells #[] 54)).ownsRow N 54 12 (.slice (some ⟨u0.heap.size, 0, none⟩) 0 0) 0 (chs [])) := hide (row_mono54 hN0.out (World.ownsRow_lit u0 #[] 0 (by omega) (by unfold maxLen; omega) rfl))
      replace HG := hide (HG.out.below HN.out.2.1 ba)
      refine hK.out _ _ ⟨⟨_, HG.out⟩, hHeld.2.below HN.out.2.2 ba⟩ (fun hHeld => ?_)
      clear hK K
      have BB1 := hide (BB0.out.trans ba)
      have hN1 : Hid (N ≤ (u0.alloc (.cells #[] 54)).heap.size) := hide (Nat.le_trans hN0.out ba.size)
      replace HL0 := hide (HL0.out.on ba0)
      obtain ⟨k1, hk1⟩ : ∃ k1, k1 = u0.heap.size := ⟨_, rfl⟩
      have HK1 : Hid (k1 < (u0.alloc (.cells #[] 54)).heap.size) := hide (by rw [hk1]; simp)
      rw [← hk1] at HO1 ⊢
      clear hk1 ba ba0
      generalize u0.alloc (.cells #[] 54) = u1 at *
      change wpAnyH _ _ _ _ _ _ _ ⟨#[.pointer (some ⟨g, 0, none⟩),_,.bool gn,_,.pointer (some ⟨k0, 0, none⟩),_,_,_,_,_,_,_,_,_,_,_,_,_,_,_,.pointer (some ⟨g, 0, none⟩),.slice (some ⟨k1, 0, none⟩) 0 0,.pointer (some ⟨g, 0, none⟩),.pointer (some ⟨g, 0, none⟩),.pointer (some ⟨g, 2, none⟩),.slice ao m c,_,.pointer (some ⟨g, 0, none⟩),.pointer (some ⟨g, 0, none⟩),.pointer (some ⟨g, 1, none⟩),.int .i64 (s1 : Int),.agg (EC x),.bool gn,.agg (CC (⟨(s1 : Int), x, gn⟩ : Ch)),_,_,_,_,_,_,_,_,_,_,_,_,_,_,_,_,_,_,_,_,_,_,_,_,_,_], []⟩ _
      refine wpAnyH_ready (rs := [6, 14]) (by kernel_rfl) (by simp) ?_
      refine (AllReadyH.cons rfl (fun K hK => ?_) (AllReadyH.cons rfl (fun K hK => ?_) AllReadyH.nil))
      · rw [if_pos (by rfl)]
        refine wp_capp rfl (.tmp 21) (.tmp 25) rfl N (.slice (some ⟨k1, 0, none⟩) 0 0) 0 [] rfl HO1.out ao m c L rfl HL0.out.crs (by omega) hN1.out ?_
        intro v2 u2 O2 G2
        have ba := (Below.refl N u1).grown G2 hN1.out (fun r hr => (HO1.out.lt r hr).1)
        replace HG := hide (HG.out.below HN.out.2.1 ba)
        refine hK.out _ _ ⟨⟨_, HG.out⟩, hHeld.2.below HN.out.2.2 ba⟩ (fun hHeld => ?_)
        clear hK K
        have HO2 := hide O2
        have BB2 := hide (BB1.out.trans ba)
        have hN2 : Hid (N ≤ u2.heap.size) := hide (Nat.le_trans hN1.out ba.size)
        clear ba G2 O2 HO1 HL0
        change wpAnyH _ _ _ _ _ _ _ ⟨#[.pointer (some ⟨g, 0, none⟩),_,.bool gn,_,.pointer (some ⟨k0, 0, none⟩),_,_,_,_,_,_,_,_,_,_,_,_,_,_,_,.pointer (some ⟨g, 0, none⟩),.slice (some ⟨k1, 0, none⟩) 0 0,.pointer (some ⟨g, 0, none⟩),.pointer (some ⟨g, 0, none⟩),.pointer (some ⟨g, 2, none⟩),.slice ao m c,v2,.pointer (some ⟨g, 0, none⟩),.pointer (some ⟨g, 0, none⟩),.pointer (some ⟨g, 1, none⟩),.int .i64 (s1 : Int),.agg (EC x),.bool gn,.agg (CC (⟨(s1 : Int), x, gn⟩ : Ch)),_,_,_,_,_,_,_,_,_,_,_,_,_,_,_,_,_,_,_,_,_,_,_,_,_,_], []⟩ _
        refine wpAnyH_ready (rs := [14]) (by kernel_rfl) (by simp) ?_
        refine (AllReadyH.cons rfl (fun K hK => ?_) AllReadyH.nil)
        rw [if_pos (by rfl)]
        refine wp_bsC (.tmp 33) (⟨(s1 : Int), x, gn⟩ : Ch) rfl rfl ?_
        have ba0 := below_alloc u2 (.cells (CC (⟨(s1 : Int), x, gn⟩ : Ch)) 54)
        have ba := ba0.mono hN2.out
        have HMB := hide (box_c u2 (⟨(s1 : Int), x, gn⟩ : Ch))
        replace HG := hide (HG.out.below HN.out.2.1 ba)
        refine hK.out _ _ ⟨⟨_, HG.out⟩, hHeld.2.below HN.out.2.2 ba⟩ (fun hHeld => ?_)
        clear hK K
        have BB3 := hide (BB2.out.trans ba)
        have hN3 : Hid (N ≤ (u2.alloc (.cells (CC (⟨(s1 : Int), x, gn⟩ : Ch)) 54)).heap.size) := hide (Nat.le_trans hN2.out ba.size)
        replace HO2 := hide (HO2.out.alloc (.cells (CC (⟨(s1 : Int), x, gn⟩ : Ch)) 54))
        obtain ⟨kb, hkb⟩ : ∃ kb, kb = u2.heap.size := ⟨_, rfl⟩
        have HMB0 : Hid (kb < (u2.alloc (.cells (CC (⟨(s1 : Int), x, gn⟩ : Ch)) 54)).heap.size) := hide (by rw [hkb]; simp)
        rw [← hkb] at HMB ⊢
        clear hkb ba ba0
        generalize u2.alloc (.cells (CC (⟨(s1 : Int), x, gn⟩ : Ch)) 54) = u3 at *
        change wpAnyH _ _ _ _ _ _ _ ⟨#[.pointer (some ⟨g, 0, none⟩),_,.bool gn,_,.pointer (some ⟨k0, 0, none⟩),_,_,_,_,_,_,_,_,_,_,_,_,_,_,_,.pointer (some ⟨g, 0, none⟩),.slice (some ⟨k1, 0, none⟩) 0 0,.pointer (some ⟨g, 0, none⟩),.pointer (some ⟨g, 0, none⟩),.pointer (some ⟨g, 2, none⟩),.slice ao m c,v2,.pointer (some ⟨g, 0, none⟩),.pointer (some ⟨g, 0, none⟩),.pointer (some ⟨g, 1, none⟩),.int .i64 (s1 : Int),.agg (EC x),.bool gn,.agg (CC (⟨(s1 : Int), x, gn⟩ : Ch)),.slice (some ⟨kb, 0, none⟩) 1 1,_,_,_,_,_,_,_,_,_,_,_,_,_,_,_,_,_,_,_,_,_,_,_,_,_], []⟩ _
        refine wpAnyH_ready (rs := [15]) (by kernel_rfl) (by simp) ?_
        refine AllReadyH.cons rfl (fun K hK => ?_) AllReadyH.nil
        rw [if_pos (by rfl)]
        refine wp_capp rfl (.tmp 26) (.tmp 34) rfl N v2 (0 + m) ([] ++ L) rfl HO2.out (some ⟨kb, 0, none⟩) 1 1 [(⟨(s1 : Int), x, gn⟩ : Ch)] rfl (crs_box HMB.out 1) (by omega) hN3.out ?_
        intro v4 u4 O4 G4
        have ba := (Below.refl N u3).grown G4 hN3.out (fun r hr => (HO2.out.lt r hr).1)
        replace HG := hide (HG.out.below HN.out.2.1 ba)
        refine hK.out _ _ ⟨⟨_, HG.out⟩, hHeld.2.below HN.out.2.2 ba⟩ (fun hHeld => ?_)
        clear hK K
        have BB4 := hide (BB3.out.trans ba)
        have hN4 : Hid (N ≤ u4.heap.size) := hide (Nat.le_trans hN3.out ba.size)
        have O3 : Hid (u4.ownsRow N 54 12 v4 m1 (chs (L ++ [(⟨(s1 : Int), x, gn⟩ : Ch)]))) := hide (by
          have h9 := O4
          rw [List.nil_append, Nat.zero_add, ← HM1.out] at h9
          exact h9)
        clear O4
        obtain ⟨b3, c3, hv3, hb3⟩ : ∃ b3 c3, v4 = .slice (some ⟨b3, 0, none⟩) m1 c3 ∧ N ≤ b3 := by
          rcases O3.out.2 with ⟨h1, h2⟩ | ⟨b, cap, cur, h1, hb, _⟩
          · have := HM1.out; omega
          · exact ⟨b, cap, h1, hb⟩
        subst hv3
        have HB3 := hide hb3
        have hro := box_of_row54 O3.out (by have := HL9.out; rw [chs_length, List.length_append, this, HM1.out]; rfl)
        have HCC : Hid (m1 ≤ c3 ∧ c3 ≤ 9223372036854775807) := hide ⟨hro.2.2.2.1, by have := hro.2.2.2.2; unfold maxLen at this; omega⟩
        clear hro hb3
        clear ba G4 HO2 HMB
        change wpAnyH _ _ _ _ _ _ _ ⟨#[.pointer (some ⟨g, 0, none⟩),_,.bool gn,_,.pointer (some ⟨k0, 0, none⟩),_,_,_,_,_,_,_,_,_,_,_,_,_,_,_,.pointer (some ⟨g, 0, none⟩),.slice (some ⟨k1, 0, none⟩) 0 0,.pointer (some ⟨g, 0, none⟩),.pointer (some ⟨g, 0, none⟩),.pointer (some ⟨g, 2, none⟩),.slice ao m c,v2,.pointer (some ⟨g, 0, none⟩),.pointer (some ⟨g, 0, none⟩),.pointer (some ⟨g, 1, none⟩),.int .i64 (s1 : Int),.agg (EC x),.bool gn,.agg (CC (⟨(s1 : Int), x, gn⟩ : Ch)),.slice (some ⟨kb, 0, none⟩) 1 1,.slice (some ⟨b3, 0, none⟩) m1 c3,_,_,_,_,_,_,_,_,_,_,_,_,_,_,_,_,_,_,_,_,_,_,_,_], []⟩ _
        refine wpAnyH_take (i := 16) (v := .pointer (some ⟨g, 0, none⟩)) rfl (by kernel_rfl) (by kernel_rfl) (by kernel_rfl) (fun _ _ _ h => h) (Or.inl ⟨by rfl, ?_⟩) hHeld ?_
        · intro W hW; (try dsimp only at hW); go_simp
        change wpAnyH _ _ _ _ _ _ _ ⟨#[.pointer (some ⟨g, 0, none⟩),_,.bool gn,_,.pointer (some ⟨k0, 0, none⟩),_,_,_,_,_,_,_,_,_,_,_,_,_,_,_,.pointer (some ⟨g, 0, none⟩),.slice (some ⟨k1, 0, none⟩) 0 0,.pointer (some ⟨g, 0, none⟩),.pointer (some ⟨g, 0, none⟩),.pointer (some ⟨g, 2, none⟩),.slice ao m c,v2,.pointer (some ⟨g, 0, none⟩),.pointer (some ⟨g, 0, none⟩),.pointer (some ⟨g, 1, none⟩),.int .i64 (s1 : Int),.agg (EC x),.bool gn,.agg (CC (⟨(s1 : Int), x, gn⟩ : Ch)),.slice (some ⟨kb, 0, none⟩) 1 1,.slice (some ⟨b3, 0, none⟩) m1 c3,.pointer (some ⟨g, 0, none⟩),_,_,_,_,_,_,_,_,_,_,_,_,_,_,_,_,_,_,_,_,_,_,_], []⟩ _
        refine wpAnyH_take (i := 17) (v := .pointer (some ⟨g, 2, none⟩)) rfl (by kernel_rfl) (by kernel_rfl) (by kernel_rfl) (fun _ _ _ h => h) (Or.inl ⟨by rfl, ?_⟩) hHeld ?_
        · intro W hW; (try dsimp only at hW); go_simp
        change wpAnyH _ _ _ _ _ _ _ ⟨#[.pointer (some ⟨g, 0, none⟩),_,.bool gn,_,.pointer (some ⟨k0, 0, none⟩),_,_,_,_,_,_,_,_,_,_,_,_,_,_,_,.pointer (some ⟨g, 0, none⟩),.slice (some ⟨k1, 0, none⟩) 0 0,.pointer (some ⟨g, 0, none⟩),.pointer (some ⟨g, 0, none⟩),.pointer (some ⟨g, 2, none⟩),.slice ao m c,v2,.pointer (some ⟨g, 0, none⟩),.pointer (some ⟨g, 0, none⟩),.pointer (some ⟨g, 1, none⟩),.int .i64 (s1 : Int),.agg (EC x),.bool gn,.agg (CC (⟨(s1 : Int), x, gn⟩ : Ch)),.slice (some ⟨kb, 0, none⟩) 1 1,.slice (some ⟨b3, 0, none⟩) m1 c3,.pointer (some ⟨g, 0, none⟩),.pointer (some ⟨g, 2, none⟩),_,_,_,_,_,_,_,_,_,_,_,_,_,_,_,_,_,_,_,_,_,_], []⟩ _
        refine wpAnyH_ready (rs := [18]) (by kernel_rfl) (by simp) ?_
        refine AllReadyH.cons rfl (fun K hK => ?_) AllReadyH.nil
        have c2 := HG.out.cell 2 _ rfl
        have f2 := HG.out.free 2 (by simp [rcl])
        have g5 := setCell_grown u4 g 2 (.slice (some ⟨b3, 0, none⟩) m1 c3)
        have B5 : Box (u4.setCell ⟨g, 2, none⟩ (.slice (some ⟨b3, 0, none⟩) m1 c3)) g (rcl n s1 (.slice (some ⟨b3, 0, none⟩) m1 c3)) := Box.set (A := [.int .i64 n, .int .i64 s1]) (C := []) HG.out rfl
        have X5 := hHeld.2.kept (show k0 ≠ g by have := HK0.out; omega) g5
        go_simp
        refine hK.out _ _ ⟨⟨_, B5⟩, X5⟩ (fun hHeld => ?_)
        clear hK K hHeld X5 c2 f2
        have M5 : Hid (Mid g (g + 1) w (u4.setCell ⟨g, 2, none⟩ (.slice (some ⟨b3, 0, none⟩) m1 c3))) := hide ((M0.out.trans (by have h9 := BB4.out; rw [HN.out.1] at h9; exact mid_of h9)).trans (mid_grown (h := g) g5 (by omega) (by omega) rfl))
        have O5 : Hid ((u4.setCell ⟨g, 2, none⟩ (.slice (some ⟨b3, 0, none⟩) m1 c3)).ownsRow N 54 12 (.slice (some ⟨b3, 0, none⟩) m1 c3) m1 (chs (L ++ [(⟨(s1 : Int), x, gn⟩ : Ch)]))) := hide (O3.out.kept g5 (Or.inr (fun e => by
          have h9 := Option.some.inj e
          simp at h9
          have := HB3.out
          have := HN.out.2.1
          omega)))
        have HB5 := hide B5
        clear B5 g5 O3 BB4 hN4
        generalize u4.setCell ⟨g, 2, none⟩ (.slice (some ⟨b3, 0, none⟩) m1 c3) = u5 at *
        change wpAnyH _ _ _ _ _ _ _ ⟨#[.pointer (some ⟨g, 0, none⟩),_,.bool gn,_,.pointer (some ⟨k0, 0, none⟩),_,_,_,_,_,_,_,_,_,_,_,_,_,_,_,.pointer (some ⟨g, 0, none⟩),.slice (some ⟨k1, 0, none⟩) 0 0,.pointer (some ⟨g, 0, none⟩),.pointer (some ⟨g, 0, none⟩),.pointer (some ⟨g, 2, none⟩),.slice ao m c,v2,.pointer (some ⟨g, 0, none⟩),.pointer (some ⟨g, 0, none⟩),.pointer (some ⟨g, 1, none⟩),.int .i64 (s1 : Int),.agg (EC x),.bool gn,.agg (CC (⟨(s1 : Int), x, gn⟩ : Ch)),.slice (some ⟨kb, 0, none⟩) 1 1,.slice (some ⟨b3, 0, none⟩) m1 c3,.pointer (some ⟨g, 0, none⟩),.pointer (some ⟨g, 2, none⟩),_,_,_,_,_,_,_,_,_,_,_,_,_,_,_,_,_,_,_,_,_,_], []⟩ _
        refine wpAnyH_done (by kernel_rfl) ?_ _
        have c0 := HB5.out.cell 0 _ rfl
        have c1 := HB5.out.cell 1 _ rfl
        have c2 := HB5.out.cell 2 _ rfl
        have f2 := HB5.out.free 2 (by simp [rcl])
        by_cases hgt : n < m1
        · have d1 : decide ((n : Int) < (m1 : Int)) = true := by simp; omega
          have hc1 : ¬ c3 = 1 := by have := HCC.out.1; omega
          have hm0 : (1 : Int) ≤ (m1 : Int) := by omega
          have hm2 : (m1 : Int) ≤ (c3 : Int) := by have := HCC.out.1; omega
          go_wp2_with fail
          go_quiet (fail)
          have g6 := setCell_grown (u5.drewN nq) g 2 (.slice (some ⟨b3, 12, none⟩) (m1 - 1) (c3 - 1))
          have B6 : Box ((u5.drewN nq).setCell ⟨g, 2, none⟩ (.slice (some ⟨b3, 12, none⟩) (m1 - 1) (c3 - 1))) g (rcl n s1 (.slice (some ⟨b3, 12, none⟩) (m1 - 1) (c3 - 1))) := Box.set (A := [.int .i64 n, .int .i64 s1]) (C := []) (boxN HB5.out nq) rfl
          have c3' := B6.cell 1 _ rfl
          have HG6 := hide g6
          have HB6 := hide B6
          clear g6 B6 c0 c1
          go_wp2
          go_ret2
          have hct := row54_cta O5.out (by rw [List.length_append, HL9.out, HM1.out]; rfl) 1 (by omega)
          rw [Nat.one_mul] at hct
          have hct2 : Cta (u5.drewN nq) (g + 1) (some ⟨b3, 12, none⟩) (m1 - 1) (c3 - 1) ((L ++ [(⟨(s1 : Int), x, gn⟩ : Ch)]).drop 1) := (hct.mono HN.out.2.1).on (belowN (Below.refl _ _) nq)
          have hct3 := hct2.keep (w1 := (u5.drewN nq).setCell ⟨g, 2, none⟩ (.slice (some ⟨b3, 12, none⟩) (m1 - 1) (c3 - 1))) (fun b h1 h2 => HG6.out.block b h2 (fun e => by have := Option.some.inj e; omega)) HG6.out.size
          have htl : tl n (cs ++ [(⟨(s1 : Int), x, gn⟩ : Ch)]) = (L ++ [(⟨(s1 : Int), x, gn⟩ : Ch)]).drop 1 := by rw [HLL.out]; exact tl_long (HMN.out.2.2 (by have := HM1.out; omega)) _
          refine ⟨rfl, ⟨_, m1 - 1, _, _, rfl, by simp, ⟨?_, by rw [htl]; exact hct3, n1, n2⟩⟩, (M5.out.trans (mid_of (belowN (Below.refl _ _) nq))).trans (mid_grown (h := g) HG6.out (by omega) (by omega) rfl)⟩
          rw [show (cs ++ [(⟨(s1 : Int), x, gn⟩ : Ch)]).length = s1 by rw [List.length_append, HS1.out.2, HS.out]; rfl]
          exact HB6.out
        · have d1 : decide ((n : Int) < (m1 : Int)) = false := by simp; omega
          go_wp2_with fail
          go_quiet (fail)
          go_wp2
          go_ret2
          have hct := row54_cta O5.out (by rw [List.length_append, HL9.out, HM1.out]; rfl) 0 (by omega)
          rw [Nat.zero_mul, Nat.sub_zero, Nat.sub_zero, List.drop_zero] at hct
          have hct2 : Cta (u5.drewN nq) (g + 1) (some ⟨b3, 0, none⟩) m1 c3 (L ++ [(⟨(s1 : Int), x, gn⟩ : Ch)]) := (hct.mono HN.out.2.1).on (belowN (Below.refl _ _) nq)
          have htl : tl n (cs ++ [(⟨(s1 : Int), x, gn⟩ : Ch)]) = L ++ [(⟨(s1 : Int), x, gn⟩ : Ch)] := by rw [HLL.out]; exact tl_short (HMN.out.2.1 (by have := HM1.out; omega)) _
          refine ⟨rfl, ⟨_, m1, _, _, rfl, by simp, ⟨?_, by rw [htl]; exact hct2, n1, n2⟩⟩, M5.out.trans (mid_of (belowN (Below.refl _ _) nq))⟩
          rw [show (cs ++ [(⟨(s1 : Int), x, gn⟩ : Ch)]).length = s1 by rw [List.length_append, HS1.out.2, HS.out]; rfl]
          exact boxN HB5.out nq
      · rw [if_pos (by rfl)]
        refine wp_bsC (.tmp 33) (⟨(s1 : Int), x, gn⟩ : Ch) rfl rfl ?_
        have ba0 := below_alloc u1 (.cells (CC (⟨(s1 : Int), x, gn⟩ : Ch)) 54)
        have ba := ba0.mono hN1.out
        have HMB := hide (box_c u1 (⟨(s1 : Int), x, gn⟩ : Ch))
        replace HG := hide (HG.out.below HN.out.2.1 ba)
        refine hK.out _ _ ⟨⟨_, HG.out⟩, hHeld.2.below HN.out.2.2 ba⟩ (fun hHeld => ?_)
        clear hK K
        have BB2 := hide (BB1.out.trans ba)
        have hN2 : Hid (N ≤ (u1.alloc (.cells (CC (⟨(s1 : Int), x, gn⟩ : Ch)) 54)).heap.size) := hide (Nat.le_trans hN1.out ba.size)
        replace HL0 := hide (HL0.out.on ba0)
        replace HO1 := hide (HO1.out.alloc (.cells (CC (⟨(s1 : Int), x, gn⟩ : Ch)) 54))
        have hkk : Hid (k1 ≠ u1.heap.size) := hide (by have := HK1.out; omega)
        obtain ⟨kb, hkb⟩ : ∃ kb, kb = u1.heap.size := ⟨_, rfl⟩
        have HMB0 : Hid (kb < (u1.alloc (.cells (CC (⟨(s1 : Int), x, gn⟩ : Ch)) 54)).heap.size) := hide (by rw [hkb]; simp)
        rw [← hkb] at HMB hkk ⊢
        clear hkb ba ba0
        generalize u1.alloc (.cells (CC (⟨(s1 : Int), x, gn⟩ : Ch)) 54) = u2 at *
        change wpAnyH _ _ _ _ _ _ _ ⟨#[.pointer (some ⟨g, 0, none⟩),_,.bool gn,_,.pointer (some ⟨k0, 0, none⟩),_,_,_,_,_,_,_,_,_,_,_,_,_,_,_,.pointer (some ⟨g, 0, none⟩),.slice (some ⟨k1, 0, none⟩) 0 0,.pointer (some ⟨g, 0, none⟩),.pointer (some ⟨g, 0, none⟩),.pointer (some ⟨g, 2, none⟩),.slice ao m c,_,.pointer (some ⟨g, 0, none⟩),.pointer (some ⟨g, 0, none⟩),.pointer (some ⟨g, 1, none⟩),.int .i64 (s1 : Int),.agg (EC x),.bool gn,.agg (CC (⟨(s1 : Int), x, gn⟩ : Ch)),.slice (some ⟨kb, 0, none⟩) 1 1,_,_,_,_,_,_,_,_,_,_,_,_,_,_,_,_,_,_,_,_,_,_,_,_,_], []⟩ _
        refine wpAnyH_ready (rs := [6]) (by kernel_rfl) (by simp) ?_
        refine (AllReadyH.cons rfl (fun K hK => ?_) AllReadyH.nil)
        rw [if_pos (by rfl)]
        refine wp_capp rfl (.tmp 21) (.tmp 25) rfl N (.slice (some ⟨k1, 0, none⟩) 0 0) 0 [] rfl HO1.out ao m c L rfl HL0.out.crs (by omega) hN2.out ?_
        intro v2 u3 O2 G2
        have ba := (Below.refl N u2).grown G2 hN2.out (fun r hr => (HO1.out.lt r hr).1)
        replace HG := hide (HG.out.below HN.out.2.1 ba)
        refine hK.out _ _ ⟨⟨_, HG.out⟩, hHeld.2.below HN.out.2.2 ba⟩ (fun hHeld => ?_)
        clear hK K
        have HO2 := hide O2
        have BB3 := hide (BB2.out.trans ba)
        have hN3 : Hid (N ≤ u3.heap.size) := hide (Nat.le_trans hN2.out ba.size)
        replace HMB := hide (HMB.out.kept (r := k1) (fun e => hkk.out (by first | exact e.symm | exact e)) G2)
        clear ba G2 O2 HO1 HL0
        change wpAnyH _ _ _ _ _ _ _ ⟨#[.pointer (some ⟨g, 0, none⟩),_,.bool gn,_,.pointer (some ⟨k0, 0, none⟩),_,_,_,_,_,_,_,_,_,_,_,_,_,_,_,.pointer (some ⟨g, 0, none⟩),.slice (some ⟨k1, 0, none⟩) 0 0,.pointer (some ⟨g, 0, none⟩),.pointer (some ⟨g, 0, none⟩),.pointer (some ⟨g, 2, none⟩),.slice ao m c,v2,.pointer (some ⟨g, 0, none⟩),.pointer (some ⟨g, 0, none⟩),.pointer (some ⟨g, 1, none⟩),.int .i64 (s1 : Int),.agg (EC x),.bool gn,.agg (CC (⟨(s1 : Int), x, gn⟩ : Ch)),.slice (some ⟨kb, 0, none⟩) 1 1,_,_,_,_,_,_,_,_,_,_,_,_,_,_,_,_,_,_,_,_,_,_,_,_,_], []⟩ _
        refine wpAnyH_ready (rs := [15]) (by kernel_rfl) (by simp) ?_
        refine AllReadyH.cons rfl (fun K hK => ?_) AllReadyH.nil
        rw [if_pos (by rfl)]
        refine wp_capp rfl (.tmp 26) (.tmp 34) rfl N v2 (0 + m) ([] ++ L) rfl HO2.out (some ⟨kb, 0, none⟩) 1 1 [(⟨(s1 : Int), x, gn⟩ : Ch)] rfl (crs_box HMB.out 1) (by omega) hN3.out ?_
        intro v4 u4 O4 G4
        have ba := (Below.refl N u3).grown G4 hN3.out (fun r hr => (HO2.out.lt r hr).1)
        replace HG := hide (HG.out.below HN.out.2.1 ba)
        refine hK.out _ _ ⟨⟨_, HG.out⟩, hHeld.2.below HN.out.2.2 ba⟩ (fun hHeld => ?_)
        clear hK K
        have BB4 := hide (BB3.out.trans ba)
        have hN4 : Hid (N ≤ u4.heap.size) := hide (Nat.le_trans hN3.out ba.size)
        have O3 : Hid (u4.ownsRow N 54 12 v4 m1 (chs (L ++ [(⟨(s1 : Int), x, gn⟩ : Ch)]))) := hide (by
          have h9 := O4
          rw [List.nil_append, Nat.zero_add, ← HM1.out] at h9
          exact h9)
        clear O4
        obtain ⟨b3, c3, hv3, hb3⟩ : ∃ b3 c3, v4 = .slice (some ⟨b3, 0, none⟩) m1 c3 ∧ N ≤ b3 := by
          rcases O3.out.2 with ⟨h1, h2⟩ | ⟨b, cap, cur, h1, hb, _⟩
          · have := HM1.out; omega
          · exact ⟨b, cap, h1, hb⟩
        subst hv3
        have HB3 := hide hb3
        have hro := box_of_row54 O3.out (by have := HL9.out; rw [chs_length, List.length_append, this, HM1.out]; rfl)
        have HCC : Hid (m1 ≤ c3 ∧ c3 ≤ 9223372036854775807) := hide ⟨hro.2.2.2.1, by have := hro.2.2.2.2; unfold maxLen at this; omega⟩
        clear hro hb3
        clear ba G4 HO2 HMB
        change wpAnyH _ _ _ _ _ _ _ ⟨#[.pointer (some ⟨g, 0, none⟩),_,.bool gn,_,.pointer (some ⟨k0, 0, none⟩),_,_,_,_,_,_,_,_,_,_,_,_,_,_,_,.pointer (some ⟨g, 0, none⟩),.slice (some ⟨k1, 0, none⟩) 0 0,.pointer (some ⟨g, 0, none⟩),.pointer (some ⟨g, 0, none⟩),.pointer (some ⟨g, 2, none⟩),.slice ao m c,v2,.pointer (some ⟨g, 0, none⟩),.pointer (some ⟨g, 0, none⟩),.pointer (some ⟨g, 1, none⟩),.int .i64 (s1 : Int),.agg (EC x),.bool gn,.agg (CC (⟨(s1 : Int), x, gn⟩ : Ch)),.slice (some ⟨kb, 0, none⟩) 1 1,.slice (some ⟨b3, 0, none⟩) m1 c3,_,_,_,_,_,_,_,_,_,_,_,_,_,_,_,_,_,_,_,_,_,_,_,_], []⟩ _
        refine wpAnyH_take (i := 16) (v := .pointer (some ⟨g, 0, none⟩)) rfl (by kernel_rfl) (by kernel_rfl) (by kernel_rfl) (fun _ _ _ h => h) (Or.inl ⟨by rfl, ?_⟩) hHeld ?_
        · intro W hW; (try dsimp only at hW); go_simp
        change wpAnyH _ _ _ _ _ _ _ ⟨#[.pointer (some ⟨g, 0, none⟩),_,.bool gn,_,.pointer (some ⟨k0, 0, none⟩),_,_,_,_,_,_,_,_,_,_,_,_,_,_,_,.pointer (some ⟨g, 0, none⟩),.slice (some ⟨k1, 0, none⟩) 0 0,.pointer (some ⟨g, 0, none⟩),.pointer (some ⟨g, 0, none⟩),.pointer (some ⟨g, 2, none⟩),.slice ao m c,v2,.pointer (some ⟨g, 0, none⟩),.pointer (some ⟨g, 0, none⟩),.pointer (some ⟨g, 1, none⟩),.int .i64 (s1 : Int),.agg (EC x),.bool gn,.agg (CC (⟨(s1 : Int), x, gn⟩ : Ch)),.slice (some ⟨kb, 0, none⟩) 1 1,.slice (some ⟨b3, 0, none⟩) m1 c3,.pointer (some ⟨g, 0, none⟩),_,_,_,_,_,_,_,_,_,_,_,_,_,_,_,_,_,_,_,_,_,_,_], []⟩ _
        refine wpAnyH_take (i := 17) (v := .pointer (some ⟨g, 2, none⟩)) rfl (by kernel_rfl) (by kernel_rfl) (by kernel_rfl) (fun _ _ _ h => h) (Or.inl ⟨by rfl, ?_⟩) hHeld ?_
        · intro W hW; (try dsimp only at hW); go_simp
        change wpAnyH _ _ _ _ _ _ _ ⟨#[.pointer (some ⟨g, 0, none⟩),_,.bool gn,_,.pointer (some ⟨k0, 0, none⟩),_,_,_,_,_,_,_,_,_,_,_,_,_,_,_,.pointer (some ⟨g, 0, none⟩),.slice (some ⟨k1, 0, none⟩) 0 0,.pointer (some ⟨g, 0, none⟩),.pointer (some ⟨g, 0, none⟩),.pointer (some ⟨g, 2, none⟩),.slice ao m c,v2,.pointer (some ⟨g, 0, none⟩),.pointer (some ⟨g, 0, none⟩),.pointer (some ⟨g, 1, none⟩),.int .i64 (s1 : Int),.agg (EC x),.bool gn,.agg (CC (⟨(s1 : Int), x, gn⟩ : Ch)),.slice (some ⟨kb, 0, none⟩) 1 1,.slice (some ⟨b3, 0, none⟩) m1 c3,.pointer (some ⟨g, 0, none⟩),.pointer (some ⟨g, 2, none⟩),_,_,_,_,_,_,_,_,_,_,_,_,_,_,_,_,_,_,_,_,_,_], []⟩ _
        refine wpAnyH_ready (rs := [18]) (by kernel_rfl) (by simp) ?_
        refine AllReadyH.cons rfl (fun K hK => ?_) AllReadyH.nil
        have c2 := HG.out.cell 2 _ rfl
        have f2 := HG.out.free 2 (by simp [rcl])
        have g5 := setCell_grown u4 g 2 (.slice (some ⟨b3, 0, none⟩) m1 c3)
        have B5 : Box (u4.setCell ⟨g, 2, none⟩ (.slice (some ⟨b3, 0, none⟩) m1 c3)) g (rcl n s1 (.slice (some ⟨b3, 0, none⟩) m1 c3)) := Box.set (A := [.int .i64 n, .int .i64 s1]) (C := []) HG.out rfl
        have X5 := hHeld.2.kept (show k0 ≠ g by have := HK0.out; omega) g5
        go_simp
        refine hK.out _ _ ⟨⟨_, B5⟩, X5⟩ (fun hHeld => ?_)
        clear hK K hHeld X5 c2 f2
        have M5 : Hid (Mid g (g + 1) w (u4.setCell ⟨g, 2, none⟩ (.slice (some ⟨b3, 0, none⟩) m1 c3))) := hide ((M0.out.trans (by have h9 := BB4.out; rw [HN.out.1] at h9; exact mid_of h9)).trans (mid_grown (h := g) g5 (by omega) (by omega) rfl))
        have O5 : Hid ((u4.setCell ⟨g, 2, none⟩ (.slice (some ⟨b3, 0, none⟩) m1 c3)).ownsRow N 54 12 (.slice (some ⟨b3, 0, none⟩) m1 c3) m1 (chs (L ++ [(⟨(s1 : Int), x, gn⟩ : Ch)]))) := hide (O3.out.kept g5 (Or.inr (fun e => by
          have h9 := Option.some.inj e
          simp at h9
          have := HB3.out
          have := HN.out.2.1
          omega)))
        have HB5 := hide B5
        clear B5 g5 O3 BB4 hN4
        generalize u4.setCell ⟨g, 2, none⟩ (.slice (some ⟨b3, 0, none⟩) m1 c3) = u5 at *
        change wpAnyH _ _ _ _ _ _ _ ⟨#[.pointer (some ⟨g, 0, none⟩),_,.bool gn,_,.pointer (some ⟨k0, 0, none⟩),_,_,_,_,_,_,_,_,_,_,_,_,_,_,_,.pointer (some ⟨g, 0, none⟩),.slice (some ⟨k1, 0, none⟩) 0 0,.pointer (some ⟨g, 0, none⟩),.pointer (some ⟨g, 0, none⟩),.pointer (some ⟨g, 2, none⟩),.slice ao m c,v2,.pointer (some ⟨g, 0, none⟩),.pointer (some ⟨g, 0, none⟩),.pointer (some ⟨g, 1, none⟩),.int .i64 (s1 : Int),.agg (EC x),.bool gn,.agg (CC (⟨(s1 : Int), x, gn⟩ : Ch)),.slice (some ⟨kb, 0, none⟩) 1 1,.slice (some ⟨b3, 0, none⟩) m1 c3,.pointer (some ⟨g, 0, none⟩),.pointer (some ⟨g, 2, none⟩),_,_,_,_,_,_,_,_,_,_,_,_,_,_,_,_,_,_,_,_,_,_], []⟩ _
        refine wpAnyH_done (by kernel_rfl) ?_ _
        have c0 := HB5.out.cell 0 _ rfl
        have c1 := HB5.out.cell 1 _ rfl
        have c2 := HB5.out.cell 2 _ rfl
        have f2 := HB5.out.free 2 (by simp [rcl])
        by_cases hgt : n < m1
        · have d1 : decide ((n : Int) < (m1 : Int)) = true := by simp; omega
          have hc1 : ¬ c3 = 1 := by have := HCC.out.1; omega
          have hm0 : (1 : Int) ≤ (m1 : Int) := by omega
          have hm2 : (m1 : Int) ≤ (c3 : Int) := by have := HCC.out.1; omega
          go_wp2_with fail
          go_quiet (fail)
          have g6 := setCell_grown (u5.drewN nq) g 2 (.slice (some ⟨b3, 12, none⟩) (m1 - 1) (c3 - 1))
          have B6 : Box ((u5.drewN nq).setCell ⟨g, 2, none⟩ (.slice (some ⟨b3, 12, none⟩) (m1 - 1) (c3 - 1))) g (rcl n s1 (.slice (some ⟨b3, 12, none⟩) (m1 - 1) (c3 - 1))) := Box.set (A := [.int .i64 n, .int .i64 s1]) (C := []) (boxN HB5.out nq) rfl
          have c3' := B6.cell 1 _ rfl
          have HG6 := hide g6
          have HB6 := hide B6
          clear g6 B6 c0 c1
          go_wp2
          go_ret2
          have hct := row54_cta O5.out (by rw [List.length_append, HL9.out, HM1.out]; rfl) 1 (by omega)
          rw [Nat.one_mul] at hct
          have hct2 : Cta (u5.drewN nq) (g + 1) (some ⟨b3, 12, none⟩) (m1 - 1) (c3 - 1) ((L ++ [(⟨(s1 : Int), x, gn⟩ : Ch)]).drop 1) := (hct.mono HN.out.2.1).on (belowN (Below.refl _ _) nq)
          have hct3 := hct2.keep (w1 := (u5.drewN nq).setCell ⟨g, 2, none⟩ (.slice (some ⟨b3, 12, none⟩) (m1 - 1) (c3 - 1))) (fun b h1 h2 => HG6.out.block b h2 (fun e => by have := Option.some.inj e; omega)) HG6.out.size
          have htl : tl n (cs ++ [(⟨(s1 : Int), x, gn⟩ : Ch)]) = (L ++ [(⟨(s1 : Int), x, gn⟩ : Ch)]).drop 1 := by rw [HLL.out]; exact tl_long (HMN.out.2.2 (by have := HM1.out; omega)) _
          refine ⟨rfl, ⟨_, m1 - 1, _, _, rfl, by simp, ⟨?_, by rw [htl]; exact hct3, n1, n2⟩⟩, (M5.out.trans (mid_of (belowN (Below.refl _ _) nq))).trans (mid_grown (h := g) HG6.out (by omega) (by omega) rfl)⟩
          rw [show (cs ++ [(⟨(s1 : Int), x, gn⟩ : Ch)]).length = s1 by rw [List.length_append, HS1.out.2, HS.out]; rfl]
          exact HB6.out
        · have d1 : decide ((n : Int) < (m1 : Int)) = false := by simp; omega
          go_wp2_with fail
          go_quiet (fail)
          go_wp2
          go_ret2
          have hct := row54_cta O5.out (by rw [List.length_append, HL9.out, HM1.out]; rfl) 0 (by omega)
          rw [Nat.zero_mul, Nat.sub_zero, Nat.sub_zero, List.drop_zero] at hct
          have hct2 : Cta (u5.drewN nq) (g + 1) (some ⟨b3, 0, none⟩) m1 c3 (L ++ [(⟨(s1 : Int), x, gn⟩ : Ch)]) := (hct.mono HN.out.2.1).on (belowN (Below.refl _ _) nq)
          have htl : tl n (cs ++ [(⟨(s1 : Int), x, gn⟩ : Ch)]) = L ++ [(⟨(s1 : Int), x, gn⟩ : Ch)] := by rw [HLL.out]; exact tl_short (HMN.out.2.1 (by have := HM1.out; omega)) _
          refine ⟨rfl, ⟨_, m1, _, _, rfl, by simp, ⟨?_, by rw [htl]; exact hct2, n1, n2⟩⟩, M5.out.trans (mid_of (belowN (Below.refl _ _) nq))⟩
          rw [show (cs ++ [(⟨(s1 : Int), x, gn⟩ : Ch)]).length = s1 by rw [List.length_append, HS1.out.2, HS.out]; rfl]
          exact boxN HB5.out nq
    · rw [if_pos (by rfl)]
      refine wp_bsC (.tmp 33) (⟨(s1 : Int), x, gn⟩ : Ch) rfl rfl ?_
      have ba0 := below_alloc u0 (.cells (CC (⟨(s1 : Int), x, gn⟩ : Ch)) 54)
      have ba := ba0.mono hN0.out
      have HMB := hide (box_c u0 (⟨(s1 : Int), x, gn⟩ : Ch))
      replace HG := hide (HG.out.below HN.out.2.1 ba)
      refine hK.out _ _ ⟨⟨_, HG.out⟩, hHeld.2.below HN.out.2.2 ba⟩ (fun hHeld => ?_)
      clear hK K
      have BB1 := hide (BB0.out.trans ba)
      have hN1 : Hid (N ≤ (u0.alloc (.cells (CC (⟨(s1 : Int), x, gn⟩ : Ch)) 54)).heap.size) := hide (Nat.le_trans hN0.out ba.size)
      replace HL0 := hide (HL0.out.on ba0)
      obtain ⟨kb, hkb⟩ : ∃ kb, kb = u0.heap.size := ⟨_, rfl⟩
      have HMB0 : Hid (kb < (u0.alloc (.cells (CC (⟨(s1 : Int), x, gn⟩ : Ch)) 54)).heap.size) := hide (by rw [hkb]; simp)
      rw [← hkb] at HMB ⊢
      clear hkb ba ba0
      generalize u0.alloc (.cells (CC (⟨(s1 : Int), x, gn⟩ : Ch)) 54) = u1 at *
      change wpAnyH _ _ _ _ _ _ _ ⟨#[.pointer (some ⟨g, 0, none⟩),_,.bool gn,_,.pointer (some ⟨k0, 0, none⟩),_,_,_,_,_,_,_,_,_,_,_,_,_,_,_,.pointer (some ⟨g, 0, none⟩),_,.pointer (some ⟨g, 0, none⟩),.pointer (some ⟨g, 0, none⟩),.pointer (some ⟨g, 2, none⟩),.slice ao m c,_,.pointer (some ⟨g, 0, none⟩),.pointer (some ⟨g, 0, none⟩),.pointer (some ⟨g, 1, none⟩),.int .i64 (s1 : Int),.agg (EC x),.bool gn,.agg (CC (⟨(s1 : Int), x, gn⟩ : Ch)),.slice (some ⟨kb, 0, none⟩) 1 1,_,_,_,_,_,_,_,_,_,_,_,_,_,_,_,_,_,_,_,_,_,_,_,_,_], []⟩ _
      refine wpAnyH_ready (rs := [1]) (by kernel_rfl) (by simp) ?_
      refine (AllReadyH.cons rfl (fun K hK => ?_) AllReadyH.nil)
      rw [if_pos (by rfl)]
      refine wp_bs0 rfl ?_
      have ba0 := below_alloc u1 (.cells #[] 54)
      have ba := ba0.mono hN1.out
      have HO1 : Hid ((u1.alloc (.cells #[] 54)).ownsRow N 54 12 (.slice (some ⟨u1.heap.size, 0, none⟩) 0 0) 0 (chs [])) := hide (row_mono54 hN1.out (World.ownsRow_lit u1 #[] 0 (by omega) (by unfold maxLen; omega) rfl))
      replace HG := hide (HG.out.below HN.out.2.1 ba)
      refine hK.out _ _ ⟨⟨_, HG.out⟩, hHeld.2.below HN.out.2.2 ba⟩ (fun hHeld => ?_)
      clear hK K
      have BB2 := hide (BB1.out.trans ba)
      have hN2 : Hid (N ≤ (u1.alloc (.cells #[] 54)).heap.size) := hide (Nat.le_trans hN1.out ba.size)
      replace HL0 := hide (HL0.out.on ba0)
      replace HMB := hide (HMB.out.on ba0)
      have hkk : Hid (u1.heap.size ≠ kb) := hide (by have := HMB0.out; omega)
      obtain ⟨k1, hk1⟩ : ∃ k1, k1 = u1.heap.size := ⟨_, rfl⟩
      have HK1 : Hid (k1 < (u1.alloc (.cells #[] 54)).heap.size) := hide (by rw [hk1]; simp)
      rw [← hk1] at HO1 hkk ⊢
      clear hk1 ba ba0
      generalize u1.alloc (.cells #[] 54) = u2 at *
      change wpAnyH _ _ _ _ _ _ _ ⟨#[.pointer (some ⟨g, 0, none⟩),_,.bool gn,_,.pointer (some ⟨k0, 0, none⟩),_,_,_,_,_,_,_,_,_,_,_,_,_,_,_,.pointer (some ⟨g, 0, none⟩),.slice (some ⟨k1, 0, none⟩) 0 0,.pointer (some ⟨g, 0, none⟩),.pointer (some ⟨g, 0, none⟩),.pointer (some ⟨g, 2, none⟩),.slice ao m c,_,.pointer (some ⟨g, 0, none⟩),.pointer (some ⟨g, 0, none⟩),.pointer (some ⟨g, 1, none⟩),.int .i64 (s1 : Int),.agg (EC x),.bool gn,.agg (CC (⟨(s1 : Int), x, gn⟩ : Ch)),.slice (some ⟨kb, 0, none⟩) 1 1,_,_,_,_,_,_,_,_,_,_,_,_,_,_,_,_,_,_,_,_,_,_,_,_,_], []⟩ _
      refine wpAnyH_ready (rs := [6]) (by kernel_rfl) (by simp) ?_
      refine (AllReadyH.cons rfl (fun K hK => ?_) AllReadyH.nil)
      rw [if_pos (by rfl)]
      refine wp_capp rfl (.tmp 21) (.tmp 25) rfl N (.slice (some ⟨k1, 0, none⟩) 0 0) 0 [] rfl HO1.out ao m c L rfl HL0.out.crs (by omega) hN2.out ?_
      intro v2 u3 O2 G2
      have ba := (Below.refl N u2).grown G2 hN2.out (fun r hr => (HO1.out.lt r hr).1)
      replace HG := hide (HG.out.below HN.out.2.1 ba)
      refine hK.out _ _ ⟨⟨_, HG.out⟩, hHeld.2.below HN.out.2.2 ba⟩ (fun hHeld => ?_)
      clear hK K
      have HO2 := hide O2
      have BB3 := hide (BB2.out.trans ba)
      have hN3 : Hid (N ≤ u3.heap.size) := hide (Nat.le_trans hN2.out ba.size)
      replace HMB := hide (HMB.out.kept (r := k1) (fun e => hkk.out (by first | exact e.symm | exact e)) G2)
      clear ba G2 O2 HO1 HL0
      change wpAnyH _ _ _ _ _ _ _ ⟨#[.pointer (some ⟨g, 0, none⟩),_,.bool gn,_,.pointer (some ⟨k0, 0, none⟩),_,_,_,_,_,_,_,_,_,_,_,_,_,_,_,.pointer (some ⟨g, 0, none⟩),.slice (some ⟨k1, 0, none⟩) 0 0,.pointer (some ⟨g, 0, none⟩),.pointer (some ⟨g, 0, none⟩),.pointer (some ⟨g, 2, none⟩),.slice ao m c,v2,.pointer (some ⟨g, 0, none⟩),.pointer (some ⟨g, 0, none⟩),.pointer (some ⟨g, 1, none⟩),.int .i64 (s1 : Int),.agg (EC x),.bool gn,.agg (CC (⟨(s1 : Int), x, gn⟩ : Ch)),.slice (some ⟨kb, 0, none⟩) 1 1,_,_,_,_,_,_,_,_,_,_,_,_,_,_,_,_,_,_,_,_,_,_,_,_,_], []⟩ _
      refine wpAnyH_ready (rs := [15]) (by kernel_rfl) (by simp) ?_
      refine AllReadyH.cons rfl (fun K hK => ?_) AllReadyH.nil
      rw [if_pos (by rfl)]
      refine wp_capp rfl (.tmp 26) (.tmp 34) rfl N v2 (0 + m) ([] ++ L) rfl HO2.out (some ⟨kb, 0, none⟩) 1 1 [(⟨(s1 : Int), x, gn⟩ : Ch)] rfl (crs_box HMB.out 1) (by omega) hN3.out ?_
      intro v4 u4 O4 G4
      have ba := (Below.refl N u3).grown G4 hN3.out (fun r hr => (HO2.out.lt r hr).1)
      replace HG := hide (HG.out.below HN.out.2.1 ba)
      refine hK.out _ _ ⟨⟨_, HG.out⟩, hHeld.2.below HN.out.2.2 ba⟩ (fun hHeld => ?_)
      clear hK K
      have BB4 := hide (BB3.out.trans ba)
      have hN4 : Hid (N ≤ u4.heap.size) := hide (Nat.le_trans hN3.out ba.size)
      have O3 : Hid (u4.ownsRow N 54 12 v4 m1 (chs (L ++ [(⟨(s1 : Int), x, gn⟩ : Ch)]))) := hide (by
        have h9 := O4
        rw [List.nil_append, Nat.zero_add, ← HM1.out] at h9
        exact h9)
      clear O4
      obtain ⟨b3, c3, hv3, hb3⟩ : ∃ b3 c3, v4 = .slice (some ⟨b3, 0, none⟩) m1 c3 ∧ N ≤ b3 := by
        rcases O3.out.2 with ⟨h1, h2⟩ | ⟨b, cap, cur, h1, hb, _⟩
        · have := HM1.out; omega
        · exact ⟨b, cap, h1, hb⟩
      subst hv3
      have HB3 := hide hb3
      have hro := box_of_row54 O3.out (by have := HL9.out; rw [chs_length, List.length_append, this, HM1.out]; rfl)
      have HCC : Hid (m1 ≤ c3 ∧ c3 ≤ 9223372036854775807) := hide ⟨hro.2.2.2.1, by have := hro.2.2.2.2; unfold maxLen at this; omega⟩
      clear hro hb3
      clear ba G4 HO2 HMB
      change wpAnyH _ _ _ _ _ _ _ ⟨#[.pointer (some ⟨g, 0, none⟩),_,.bool gn,_,.pointer (some ⟨k0, 0, none⟩),_,_,_,_,_,_,_,_,_,_,_,_,_,_,_,.pointer (some ⟨g, 0, none⟩),.slice (some ⟨k1, 0, none⟩) 0 0,.pointer (some ⟨g, 0, none⟩),.pointer (some ⟨g, 0, none⟩),.pointer (some ⟨g, 2, none⟩),.slice ao m c,v2,.pointer (some ⟨g, 0, none⟩),.pointer (some ⟨g, 0, none⟩),.pointer (some ⟨g, 1, none⟩),.int .i64 (s1 : Int),.agg (EC x),.bool gn,.agg (CC (⟨(s1 : Int), x, gn⟩ : Ch)),.slice (some ⟨kb, 0, none⟩) 1 1,.slice (some ⟨b3, 0, none⟩) m1 c3,_,_,_,_,_,_,_,_,_,_,_,_,_,_,_,_,_,_,_,_,_,_,_,_], []⟩ _
      refine wpAnyH_take (i := 16) (v := .pointer (some ⟨g, 0, none⟩)) rfl (by kernel_rfl) (by kernel_rfl) (by kernel_rfl) (fun _ _ _ h => h) (Or.inl ⟨by rfl, ?_⟩) hHeld ?_
      · intro W hW; (try dsimp only at hW); go_simp
      change wpAnyH _ _ _ _ _ _ _ ⟨#[.pointer (some ⟨g, 0, none⟩),_,.bool gn,_,.pointer (some ⟨k0, 0, none⟩),_,_,_,_,_,_,_,_,_,_,_,_,_,_,_,.pointer (some ⟨g, 0, none⟩),.slice (some ⟨k1, 0, none⟩) 0 0,.pointer (some ⟨g, 0, none⟩),.pointer (some ⟨g, 0, none⟩),.pointer (some ⟨g, 2, none⟩),.slice ao m c,v2,.pointer (some ⟨g, 0, none⟩),.pointer (some ⟨g, 0, none⟩),.pointer (some ⟨g, 1, none⟩),.int .i64 (s1 : Int),.agg (EC x),.bool gn,.agg (CC (⟨(s1 : Int), x, gn⟩ : Ch)),.slice (some ⟨kb, 0, none⟩) 1 1,.slice (some ⟨b3, 0, none⟩) m1 c3,.pointer (some ⟨g, 0, none⟩),_,_,_,_,_,_,_,_,_,_,_,_,_,_,_,_,_,_,_,_,_,_,_], []⟩ _
      refine wpAnyH_take (i := 17) (v := .pointer (some ⟨g, 2, none⟩)) rfl (by kernel_rfl) (by kernel_rfl) (by kernel_rfl) (fun _ _ _ h => h) (Or.inl ⟨by rfl, ?_⟩) hHeld ?_
      · intro W hW; (try dsimp only at hW); go_simp
      change wpAnyH _ _ _ _ _ _ _ ⟨#[.pointer (some ⟨g, 0, none⟩),_,.bool gn,_,.pointer (some ⟨k0, 0, none⟩),_,_,_,_,_,_,_,_,_,_,_,_,_,_,_,.pointer (some ⟨g, 0, none⟩),.slice (some ⟨k1, 0, none⟩) 0 0,.pointer (some ⟨g, 0, none⟩),.pointer (some ⟨g, 0, none⟩),.pointer (some ⟨g, 2, none⟩),.slice ao m c,v2,.pointer (some ⟨g, 0, none⟩),.pointer (some ⟨g, 0, none⟩),.pointer (some ⟨g, 1, none⟩),.int .i64 (s1 : Int),.agg (EC x),.bool gn,.agg (CC (⟨(s1 : Int), x, gn⟩ : Ch)),.slice (some ⟨kb, 0, none⟩) 1 1,.slice (some ⟨b3, 0, none⟩) m1 c3,.pointer (some ⟨g, 0, none⟩),.pointer (some ⟨g, 2, none⟩),_,_,_,_,_,_,_,_,_,_,_,_,_,_,_,_,_,_,_,_,_,_], []⟩ _
      refine wpAnyH_ready (rs := [18]) (by kernel_rfl) (by simp) ?_
      refine AllReadyH.cons rfl (fun K hK => ?_) AllReadyH.nil
      have c2 := HG.out.cell 2 _ rfl
      have f2 := HG.out.free 2 (by simp [rcl])
      have g5 := setCell_grown u4 g 2 (.slice (some ⟨b3, 0, none⟩) m1 c3)
      have B5 : Box (u4.setCell ⟨g, 2, none⟩ (.slice (some ⟨b3, 0, none⟩) m1 c3)) g (rcl n s1 (.slice (some ⟨b3, 0, none⟩) m1 c3)) := Box.set (A := [.int .i64 n, .int .i64 s1]) (C := []) HG.out rfl
      have X5 := hHeld.2.kept (show k0 ≠ g by have := HK0.out; omega) g5
      go_simp
      refine hK.out _ _ ⟨⟨_, B5⟩, X5⟩ (fun hHeld => ?_)
      clear hK K hHeld X5 c2 f2
      have M5 : Hid (Mid g (g + 1) w (u4.setCell ⟨g, 2, none⟩ (.slice (some ⟨b3, 0, none⟩) m1 c3))) := hide ((M0.out.trans (by have h9 := BB4.out; rw [HN.out.1] at h9; exact mid_of h9)).trans (mid_grown (h := g) g5 (by omega) (by omega) rfl))
      have O5 : Hid ((u4.setCell ⟨g, 2, none⟩ (.slice (some ⟨b3, 0, none⟩) m1 c3)).ownsRow N 54 12 (.slice (some ⟨b3, 0, none⟩) m1 c3) m1 (chs (L ++ [(⟨(s1 : Int), x, gn⟩ : Ch)]))) := hide (O3.out.kept g5 (Or.inr (fun e => by
        have h9 := Option.some.inj e
        simp at h9
        have := HB3.out
        have := HN.out.2.1
        omega)))
      have HB5 := hide B5
      clear B5 g5 O3 BB4 hN4
      generalize u4.setCell ⟨g, 2, none⟩ (.slice (some ⟨b3, 0, none⟩) m1 c3) = u5 at *
      change wpAnyH _ _ _ _ _ _ _ ⟨#[.pointer (some ⟨g, 0, none⟩),_,.bool gn,_,.pointer (some ⟨k0, 0, none⟩),_,_,_,_,_,_,_,_,_,_,_,_,_,_,_,.pointer (some ⟨g, 0, none⟩),.slice (some ⟨k1, 0, none⟩) 0 0,.pointer (some ⟨g, 0, none⟩),.pointer (some ⟨g, 0, none⟩),.pointer (some ⟨g, 2, none⟩),.slice ao m c,v2,.pointer (some ⟨g, 0, none⟩),.pointer (some ⟨g, 0, none⟩),.pointer (some ⟨g, 1, none⟩),.int .i64 (s1 : Int),.agg (EC x),.bool gn,.agg (CC (⟨(s1 : Int), x, gn⟩ : Ch)),.slice (some ⟨kb, 0, none⟩) 1 1,.slice (some ⟨b3, 0, none⟩) m1 c3,.pointer (some ⟨g, 0, none⟩),.pointer (some ⟨g, 2, none⟩),_,_,_,_,_,_,_,_,_,_,_,_,_,_,_,_,_,_,_,_,_,_], []⟩ _
      refine wpAnyH_done (by kernel_rfl) ?_ _
      have c0 := HB5.out.cell 0 _ rfl
      have c1 := HB5.out.cell 1 _ rfl
      have c2 := HB5.out.cell 2 _ rfl
      have f2 := HB5.out.free 2 (by simp [rcl])
      by_cases hgt : n < m1
      · have d1 : decide ((n : Int) < (m1 : Int)) = true := by simp; omega
        have hc1 : ¬ c3 = 1 := by have := HCC.out.1; omega
        have hm0 : (1 : Int) ≤ (m1 : Int) := by omega
        have hm2 : (m1 : Int) ≤ (c3 : Int) := by have := HCC.out.1; omega
        go_wp2_with fail
        go_quiet (fail)
        have g6 := setCell_grown (u5.drewN nq) g 2 (.slice (some ⟨b3, 12, none⟩) (m1 - 1) (c3 - 1))
        have B6 : Box ((u5.drewN nq).setCell ⟨g, 2, none⟩ (.slice (some ⟨b3, 12, none⟩) (m1 - 1) (c3 - 1))) g (rcl n s1 (.slice (some ⟨b3, 12, none⟩) (m1 - 1) (c3 - 1))) := Box.set (A := [.int .i64 n, .int .i64 s1]) (C := []) (boxN HB5.out nq) rfl
        have c3' := B6.cell 1 _ rfl
        have HG6 := hide g6
        have HB6 := hide B6
        clear g6 B6 c0 c1
        go_wp2
        go_ret2
        have hct := row54_cta O5.out (by rw [List.length_append, HL9.out, HM1.out]; rfl) 1 (by omega)
        rw [Nat.one_mul] at hct
        have hct2 : Cta (u5.drewN nq) (g + 1) (some ⟨b3, 12, none⟩) (m1 - 1) (c3 - 1) ((L ++ [(⟨(s1 : Int), x, gn⟩ : Ch)]).drop 1) := (hct.mono HN.out.2.1).on (belowN (Below.refl _ _) nq)
        have hct3 := hct2.keep (w1 := (u5.drewN nq).setCell ⟨g, 2, none⟩ (.slice (some ⟨b3, 12, none⟩) (m1 - 1) (c3 - 1))) (fun b h1 h2 => HG6.out.block b h2 (fun e => by have := Option.some.inj e; omega)) HG6.out.size
        have htl : tl n (cs ++ [(⟨(s1 : Int), x, gn⟩ : Ch)]) = (L ++ [(⟨(s1 : Int), x, gn⟩ : Ch)]).drop 1 := by rw [HLL.out]; exact tl_long (HMN.out.2.2 (by have := HM1.out; omega)) _
        refine ⟨rfl, ⟨_, m1 - 1, _, _, rfl, by simp, ⟨?_, by rw [htl]; exact hct3, n1, n2⟩⟩, (M5.out.trans (mid_of (belowN (Below.refl _ _) nq))).trans (mid_grown (h := g) HG6.out (by omega) (by omega) rfl)⟩
        rw [show (cs ++ [(⟨(s1 : Int), x, gn⟩ : Ch)]).length = s1 by rw [List.length_append, HS1.out.2, HS.out]; rfl]
        exact HB6.out
      · have d1 : decide ((n : Int) < (m1 : Int)) = false := by simp; omega
        go_wp2_with fail
        go_quiet (fail)
        go_wp2
        go_ret2
        have hct := row54_cta O5.out (by rw [List.length_append, HL9.out, HM1.out]; rfl) 0 (by omega)
        rw [Nat.zero_mul, Nat.sub_zero, Nat.sub_zero, List.drop_zero] at hct
        have hct2 : Cta (u5.drewN nq) (g + 1) (some ⟨b3, 0, none⟩) m1 c3 (L ++ [(⟨(s1 : Int), x, gn⟩ : Ch)]) := (hct.mono HN.out.2.1).on (belowN (Below.refl _ _) nq)
        have htl : tl n (cs ++ [(⟨(s1 : Int), x, gn⟩ : Ch)]) = L ++ [(⟨(s1 : Int), x, gn⟩ : Ch)] := by rw [HLL.out]; exact tl_short (HMN.out.2.1 (by have := HM1.out; omega)) _
        refine ⟨rfl, ⟨_, m1, _, _, rfl, by simp, ⟨?_, by rw [htl]; exact hct2, n1, n2⟩⟩, M5.out.trans (mid_of (belowN (Below.refl _ _) nq))⟩
        rw [show (cs ++ [(⟨(s1 : Int), x, gn⟩ : Ch)]).length = s1 by rw [List.length_append, HS1.out.2, HS.out]; rfl]
        exact boxN HB5.out nq
  · rw [if_pos (by rfl)]
    refine wp_bsC (.tmp 33) (⟨(s1 : Int), x, gn⟩ : Ch) rfl rfl ?_
    have ba0 := below_alloc u0 (.cells (CC (⟨(s1 : Int), x, gn⟩ : Ch)) 54)
    have ba := ba0.mono hN0.out
    have HMB := hide (box_c u0 (⟨(s1 : Int), x, gn⟩ : Ch))
    replace HG := hide (HG.out.below HN.out.2.1 ba)
    refine hK.out _ _ ⟨⟨_, HG.out⟩, hHeld.2.below HN.out.2.2 ba⟩ (fun hHeld => ?_)
    clear hK K
    have BB1 := hide (BB0.out.trans ba)
    have hN1 : Hid (N ≤ (u0.alloc (.cells (CC (⟨(s1 : Int), x, gn⟩ : Ch)) 54)).heap.size) := hide (Nat.le_trans hN0.out ba.size)
    replace HL0 := hide (HL0.out.on ba0)
    obtain ⟨kb, hkb⟩ : ∃ kb, kb = u0.heap.size := ⟨_, rfl⟩
    have HMB0 : Hid (kb < (u0.alloc (.cells (CC (⟨(s1 : Int), x, gn⟩ : Ch)) 54)).heap.size) := hide (by rw [hkb]; simp)
    rw [← hkb] at HMB ⊢
    clear hkb ba ba0
    generalize u0.alloc (.cells (CC (⟨(s1 : Int), x, gn⟩ : Ch)) 54) = u1 at *
    change wpAnyH _ _ _ _ _ _ _ ⟨#[.pointer (some ⟨g, 0, none⟩),_,.bool gn,_,.pointer (some ⟨k0, 0, none⟩),_,_,_,_,_,_,_,_,_,_,_,_,_,_,_,.pointer (some ⟨g, 0, none⟩),_,.pointer (some ⟨g, 0, none⟩),.pointer (some ⟨g, 0, none⟩),.pointer (some ⟨g, 2, none⟩),_,_,.pointer (some ⟨g, 0, none⟩),.pointer (some ⟨g, 0, none⟩),.pointer (some ⟨g, 1, none⟩),.int .i64 (s1 : Int),.agg (EC x),.bool gn,.agg (CC (⟨(s1 : Int), x, gn⟩ : Ch)),.slice (some ⟨kb, 0, none⟩) 1 1,_,_,_,_,_,_,_,_,_,_,_,_,_,_,_,_,_,_,_,_,_,_,_,_,_], []⟩ _
    refine wpAnyH_ready (rs := [1, 5]) (by kernel_rfl) (by simp) ?_
    refine (AllReadyH.cons rfl (fun K hK => ?_) (AllReadyH.cons rfl (fun K hK => ?_) AllReadyH.nil))
    · rw [if_pos (by rfl)]
      refine wp_bs0 rfl ?_
      have ba0 := below_alloc u1 (.cells #[] 54)
      have ba := ba0.mono hN1.out
      have HO1 : Hid ((u1.alloc (.cells #[] 54)).ownsRow N 54 12 (.slice (some ⟨u1.heap.size, 0, none⟩) 0 0) 0 (chs [])) := hide (row_mono54 hN1.out (World.ownsRow_lit u1 #[] 0 (by omega) (by unfold maxLen; omega) rfl))
      replace HG := hide (HG.out.below HN.out.2.1 ba)
      refine hK.out _ _ ⟨⟨_, HG.out⟩, hHeld.2.below HN.out.2.2 ba⟩ (fun hHeld => ?_)
      clear hK K
      have BB2 := hide (BB1.out.trans ba)
      have hN2 : Hid (N ≤ (u1.alloc (.cells #[] 54)).heap.size) := hide (Nat.le_trans hN1.out ba.size)
      replace HL0 := hide (HL0.out.on ba0)
      replace HMB := hide (HMB.out.on ba0)
      have hkk : Hid (u1.heap.size ≠ kb) := hide (by have := HMB0.out; omega)
      obtain ⟨k1, hk1⟩ : ∃ k1, k1 = u1.heap.size := ⟨_, rfl⟩
      have HK1 : Hid (k1 < (u1.alloc (.cells #[] 54)).heap.size) := hide (by rw [hk1]; simp)
      rw [← hk1] at HO1 hkk ⊢
      clear hk1 ba ba0
      generalize u1.alloc (.cells #[] 54) = u2 at *
      change wpAnyH _ _ _ _ _ _ _ ⟨#[.pointer (some ⟨g, 0, none⟩),_,.bool gn,_,.pointer (some ⟨k0, 0, none⟩),_,_,_,_,_,_,_,_,_,_,_,_,_,_,_,.pointer (some ⟨g, 0, none⟩),.slice (some ⟨k1, 0, none⟩) 0 0,.pointer (some ⟨g, 0, none⟩),.pointer (some ⟨g, 0, none⟩),.pointer (some ⟨g, 2, none⟩),_,_,.pointer (some ⟨g, 0, none⟩),.pointer (some ⟨g, 0, none⟩),.pointer (some ⟨g, 1, none⟩),.int .i64 (s1 : Int),.agg (EC x),.bool gn,.agg (CC (⟨(s1 : Int), x, gn⟩ : Ch)),.slice (some ⟨kb, 0, none⟩) 1 1,_,_,_,_,_,_,_,_,_,_,_,_,_,_,_,_,_,_,_,_,_,_,_,_,_], []⟩ _
      refine wpAnyH_ready (rs := [5]) (by kernel_rfl) (by simp) ?_
      refine (AllReadyH.cons rfl (fun K hK => ?_) AllReadyH.nil)
      have hc := HG.out.cell 2 _ rfl
      go_simp
      refine hK.out _ _ hHeld (fun hHeld => ?_)
      clear hK K hc
      change wpAnyH _ _ _ _ _ _ _ ⟨#[.pointer (some ⟨g, 0, none⟩),_,.bool gn,_,.pointer (some ⟨k0, 0, none⟩),_,_,_,_,_,_,_,_,_,_,_,_,_,_,_,.pointer (some ⟨g, 0, none⟩),.slice (some ⟨k1, 0, none⟩) 0 0,.pointer (some ⟨g, 0, none⟩),.pointer (some ⟨g, 0, none⟩),.pointer (some ⟨g, 2, none⟩),.slice ao m c,_,.pointer (some ⟨g, 0, none⟩),.pointer (some ⟨g, 0, none⟩),.pointer (some ⟨g, 1, none⟩),.int .i64 (s1 : Int),.agg (EC x),.bool gn,.agg (CC (⟨(s1 : Int), x, gn⟩ : Ch)),.slice (some ⟨kb, 0, none⟩) 1 1,_,_,_,_,_,_,_,_,_,_,_,_,_,_,_,_,_,_,_,_,_,_,_,_,_], []⟩ _
      refine wpAnyH_ready (rs := [6]) (by kernel_rfl) (by simp) ?_
      refine (AllReadyH.cons rfl (fun K hK => ?_) AllReadyH.nil)
      rw [if_pos (by rfl)]
      refine wp_capp rfl (.tmp 21) (.tmp 25) rfl N (.slice (some ⟨k1, 0, none⟩) 0 0) 0 [] rfl HO1.out ao m c L rfl HL0.out.crs (by omega) hN2.out ?_
      intro v2 u3 O2 G2
      have ba := (Below.refl N u2).grown G2 hN2.out (fun r hr => (HO1.out.lt r hr).1)
      replace HG := hide (HG.out.below HN.out.2.1 ba)
      refine hK.out _ _ ⟨⟨_, HG.out⟩, hHeld.2.below HN.out.2.2 ba⟩ (fun hHeld => ?_)
      clear hK K
      have HO2 := hide O2
      have BB3 := hide (BB2.out.trans ba)
      have hN3 : Hid (N ≤ u3.heap.size) := hide (Nat.le_trans hN2.out ba.size)
      replace HMB := hide (HMB.out.kept (r := k1) (fun e => hkk.out (by first | exact e.symm | exact e)) G2)
      clear ba G2 O2 HO1 HL0
      change wpAnyH _ _ _ _ _ _ _ ⟨#[.pointer (some ⟨g, 0, none⟩),_,.bool gn,_,.pointer (some ⟨k0, 0, none⟩),_,_,_,_,_,_,_,_,_,_,_,_,_,_,_,.pointer (some ⟨g, 0, none⟩),.slice (some ⟨k1, 0, none⟩) 0 0,.pointer (some ⟨g, 0, none⟩),.pointer (some ⟨g, 0, none⟩),.pointer (some ⟨g, 2, none⟩),.slice ao m c,v2,.pointer (some ⟨g, 0, none⟩),.pointer (some ⟨g, 0, none⟩),.pointer (some ⟨g, 1, none⟩),.int .i64 (s1 : Int),.agg (EC x),.bool gn,.agg (CC (⟨(s1 : Int), x, gn⟩ : Ch)),.slice (some ⟨kb, 0, none⟩) 1 1,_,_,_,_,_,_,_,_,_,_,_,_,_,_,_,_,_,_,_,_,_,_,_,_,_], []⟩ _
      refine wpAnyH_ready (rs := [15]) (by kernel_rfl) (by simp) ?_
      refine AllReadyH.cons rfl (fun K hK => ?_) AllReadyH.nil
      rw [if_pos (by rfl)]
      refine wp_capp rfl (.tmp 26) (.tmp 34) rfl N v2 (0 + m) ([] ++ L) rfl HO2.out (some ⟨kb, 0, none⟩) 1 1 [(⟨(s1 : Int), x, gn⟩ : Ch)] rfl (crs_box HMB.out 1) (by omega) hN3.out ?_
      intro v4 u4 O4 G4
      have ba := (Below.refl N u3).grown G4 hN3.out (fun r hr => (HO2.out.lt r hr).1)
      replace HG := hide (HG.out.below HN.out.2.1 ba)
      refine hK.out _ _ ⟨⟨_, HG.out⟩, hHeld.2.below HN.out.2.2 ba⟩ (fun hHeld => ?_)
      clear hK K
      have BB4 := hide (BB3.out.trans ba)
      have hN4 : Hid (N ≤ u4.heap.size) := hide (Nat.le_trans hN3.out ba.size)
      have O3 : Hid (u4.ownsRow N 54 12 v4 m1 (chs (L ++ [(⟨(s1 : Int), x, gn⟩ : Ch)]))) := hide (by
        have h9 := O4
        rw [List.nil_append, Nat.zero_add, ← HM1.out] at h9
        exact h9)
      clear O4
      obtain ⟨b3, c3, hv3, hb3⟩ : ∃ b3 c3, v4 = .slice (some ⟨b3, 0, none⟩) m1 c3 ∧ N ≤ b3 := by
        rcases O3.out.2 with ⟨h1, h2⟩ | ⟨b, cap, cur, h1, hb, _⟩
        · have := HM1.out; omega
        · exact ⟨b, cap, h1, hb⟩
      subst hv3
      have HB3 := hide hb3
      have hro := box_of_row54 O3.out (by have := HL9.out; rw [chs_length, List.length_append, this, HM1.out]; rfl)
      have HCC : Hid (m1 ≤ c3 ∧ c3 ≤ 9223372036854775807) := hide ⟨hro.2.2.2.1, by have := hro.2.2.2.2; unfold maxLen at this; omega⟩
      clear hro hb3
      clear ba G4 HO2 HMB
      change wpAnyH _ _ _ _ _ _ _ ⟨#[.pointer (some ⟨g, 0, none⟩),_,.bool gn,_,.pointer (some ⟨k0, 0, none⟩),_,_,_,_,_,_,_,_,_,_,_,_,_,_,_,.pointer (some ⟨g, 0, none⟩),.slice (some ⟨k1, 0, none⟩) 0 0,.pointer (some ⟨g, 0, none⟩),.pointer (some ⟨g, 0, none⟩),.pointer (some ⟨g, 2, none⟩),.slice ao m c,v2,.pointer (some ⟨g, 0, none⟩),.pointer (some ⟨g, 0, none⟩),.pointer (some ⟨g, 1, none⟩),.int .i64 (s1 : Int),.agg (EC x),.bool gn,.agg (CC (⟨(s1 : Int), x, gn⟩ : Ch)),.slice (some ⟨kb, 0, none⟩) 1 1,.slice (some ⟨b3, 0, none⟩) m1 c3,_,_,_,_,_,_,_,_,_,_,_,_,_,_,_,_,_,_,_,_,_,_,_,_], []⟩ _
      refine wpAnyH_take (i := 16) (v := .pointer (some ⟨g, 0, none⟩)) rfl (by kernel_rfl) (by kernel_rfl) (by kernel_rfl) (fun _ _ _ h => h) (Or.inl ⟨by rfl, ?_⟩) hHeld ?_
      · intro W hW; (try dsimp only at hW); go_simp
      change wpAnyH _ _ _ _ _ _ _ ⟨#[.pointer (some ⟨g, 0, none⟩),_,.bool gn,_,.pointer (some ⟨k0, 0, none⟩),_,_,_,_,_,_,_,_,_,_,_,_,_,_,_,.pointer (some ⟨g, 0, none⟩),.slice (some ⟨k1, 0, none⟩) 0 0,.pointer (some ⟨g, 0, none⟩),.pointer (some ⟨g, 0, none⟩),.pointer (some ⟨g, 2, none⟩),.slice ao m c,v2,.pointer (some ⟨g, 0, none⟩),.pointer (some ⟨g, 0, none⟩),.pointer (some ⟨g, 1, none⟩),.int .i64 (s1 : Int),.agg (EC x),.bool gn,.agg (CC (⟨(s1 : Int), x, gn⟩ : Ch)),.slice (some ⟨kb, 0, none⟩) 1 1,.slice (some ⟨b3, 0, none⟩) m1 c3,.pointer (some ⟨g, 0, none⟩),_,_,_,_,_,_,_,_,_,_,_,_,_,_,_,_,_,_,_,_,_,_,_], []⟩ _
      refine wpAnyH_take (i := 17) (v := .pointer (some ⟨g, 2, none⟩)) rfl (by kernel_rfl) (by kernel_rfl) (by kernel_rfl) (fun _ _ _ h => h) (Or.inl ⟨by rfl, ?_⟩) hHeld ?_
      · intro W hW; (try dsimp only at hW); go_simp
      change wpAnyH _ _ _ _ _ _ _ ⟨#[.pointer (some ⟨g, 0, none⟩),_,.bool gn,_,.pointer (some ⟨k0, 0, none⟩),_,_,_,_,_,_,_,_,_,_,_,_,_,_,_,.pointer (some ⟨g, 0, none⟩),.slice (some ⟨k1, 0, none⟩) 0 0,.pointer (some ⟨g, 0, none⟩),.pointer (some ⟨g, 0, none⟩),.pointer (some ⟨g, 2, none⟩),.slice ao m c,v2,.pointer (some ⟨g, 0, none⟩),.pointer (some ⟨g, 0, none⟩),.pointer (some ⟨g, 1, none⟩),.int .i64 (s1 : Int),.agg (EC x),.bool gn,.agg (CC (⟨(s1 : Int), x, gn⟩ : Ch)),.slice (some ⟨kb, 0, none⟩) 1 1,.slice (some ⟨b3, 0, none⟩) m1 c3,.pointer (some ⟨g, 0, none⟩),.pointer (some ⟨g, 2, none⟩),_,_,_,_,_,_,_,_,_,_,_,_,_,_,_,_,_,_,_,_,_,_], []⟩ _
      refine wpAnyH_ready (rs := [18]) (by kernel_rfl) (by simp) ?_
      refine AllReadyH.cons rfl (fun K hK => ?_) AllReadyH.nil
      have c2 := HG.out.cell 2 _ rfl
      have f2 := HG.out.free 2 (by simp [rcl])
      have g5 := setCell_grown u4 g 2 (.slice (some ⟨b3, 0, none⟩) m1 c3)
      have B5 : Box (u4.setCell ⟨g, 2, none⟩ (.slice (some ⟨b3, 0, none⟩) m1 c3)) g (rcl n s1 (.slice (some ⟨b3, 0, none⟩) m1 c3)) := Box.set (A := [.int .i64 n, .int .i64 s1]) (C := []) HG.out rfl
      have X5 := hHeld.2.kept (show k0 ≠ g by have := HK0.out; omega) g5
      go_simp
      refine hK.out _ _ ⟨⟨_, B5⟩, X5⟩ (fun hHeld => ?_)
      clear hK K hHeld X5 c2 f2
      have M5 : Hid (Mid g (g + 1) w (u4.setCell ⟨g, 2, none⟩ (.slice (some ⟨b3, 0, none⟩) m1 c3))) := hide ((M0.out.trans (by have h9 := BB4.out; rw [HN.out.1] at h9; exact mid_of h9)).trans (mid_grown (h := g) g5 (by omega) (by omega) rfl))
      have O5 : Hid ((u4.setCell ⟨g, 2, none⟩ (.slice (some ⟨b3, 0, none⟩) m1 c3)).ownsRow N 54 12 (.slice (some ⟨b3, 0, none⟩) m1 c3) m1 (chs (L ++ [(⟨(s1 : Int), x, gn⟩ : Ch)]))) := hide (O3.out.kept g5 (Or.inr (fun e => by
        have h9 := Option.some.inj e
        simp at h9
        have := HB3.out
        have := HN.out.2.1
        omega)))
      have HB5 := hide B5
      clear B5 g5 O3 BB4 hN4
      generalize u4.setCell ⟨g, 2, none⟩ (.slice (some ⟨b3, 0, none⟩) m1 c3) = u5 at *
      change wpAnyH _ _ _ _ _ _ _ ⟨#[.pointer (some ⟨g, 0, none⟩),_,.bool gn,_,.pointer (some ⟨k0, 0, none⟩),_,_,_,_,_,_,_,_,_,_,_,_,_,_,_,.pointer (some ⟨g, 0, none⟩),.slice (some ⟨k1, 0, none⟩) 0 0,.pointer (some ⟨g, 0, none⟩),.pointer (some ⟨g, 0, none⟩),.pointer (some ⟨g, 2, none⟩),.slice ao m c,v2,.pointer (some ⟨g, 0, none⟩),.pointer (some ⟨g, 0, none⟩),.pointer (some ⟨g, 1, none⟩),.int .i64 (s1 : Int),.agg (EC x),.bool gn,.agg (CC (⟨(s1 : Int), x, gn⟩ : Ch)),.slice (some ⟨kb, 0, none⟩) 1 1,.slice (some ⟨b3, 0, none⟩) m1 c3,.pointer (some ⟨g, 0, none⟩),.pointer (some ⟨g, 2, none⟩),_,_,_,_,_,_,_,_,_,_,_,_,_,_,_,_,_,_,_,_,_,_], []⟩ _
      refine wpAnyH_done (by kernel_rfl) ?_ _
      have c0 := HB5.out.cell 0 _ rfl
      have c1 := HB5.out.cell 1 _ rfl
      have c2 := HB5.out.cell 2 _ rfl
      have f2 := HB5.out.free 2 (by simp [rcl])
      by_cases hgt : n < m1
      · have d1 : decide ((n : Int) < (m1 : Int)) = true := by simp; omega
        have hc1 : ¬ c3 = 1 := by have := HCC.out.1; omega
        have hm0 : (1 : Int) ≤ (m1 : Int) := by omega
        have hm2 : (m1 : Int) ≤ (c3 : Int) := by have := HCC.out.1; omega
        go_wp2_with fail
        go_quiet (fail)
        have g6 := setCell_grown (u5.drewN nq) g 2 (.slice (some ⟨b3, 12, none⟩) (m1 - 1) (c3 - 1))
        have B6 : Box ((u5.drewN nq).setCell ⟨g, 2, none⟩ (.slice (some ⟨b3, 12, none⟩) (m1 - 1) (c3 - 1))) g (rcl n s1 (.slice (some ⟨b3, 12, none⟩) (m1 - 1) (c3 - 1))) := Box.set (A := [.int .i64 n, .int .i64 s1]) (C := []) (boxN HB5.out nq) rfl
        have c3' := B6.cell 1 _ rfl
        have HG6 := hide g6
        have HB6 := hide B6
        clear g6 B6 c0 c1
        go_wp2
        go_ret2
        have hct := row54_cta O5.out (by rw [List.length_append, HL9.out, HM1.out]; rfl) 1 (by omega)
        rw [Nat.one_mul] at hct
        have hct2 : Cta (u5.drewN nq) (g + 1) (some ⟨b3, 12, none⟩) (m1 - 1) (c3 - 1) ((L ++ [(⟨(s1 : Int), x, gn⟩ : Ch)]).drop 1) := (hct.mono HN.out.2.1).on (belowN (Below.refl _ _) nq)
        have hct3 := hct2.keep (w1 := (u5.drewN nq).setCell ⟨g, 2, none⟩ (.slice (some ⟨b3, 12, none⟩) (m1 - 1) (c3 - 1))) (fun b h1 h2 => HG6.out.block b h2 (fun e => by have := Option.some.inj e; omega)) HG6.out.size
        have htl : tl n (cs ++ [(⟨(s1 : Int), x, gn⟩ : Ch)]) = (L ++ [(⟨(s1 : Int), x, gn⟩ : Ch)]).drop 1 := by rw [HLL.out]; exact tl_long (HMN.out.2.2 (by have := HM1.out; omega)) _
        refine ⟨rfl, ⟨_, m1 - 1, _, _, rfl, by simp, ⟨?_, by rw [htl]; exact hct3, n1, n2⟩⟩, (M5.out.trans (mid_of (belowN (Below.refl _ _) nq))).trans (mid_grown (h := g) HG6.out (by omega) (by omega) rfl)⟩
        rw [show (cs ++ [(⟨(s1 : Int), x, gn⟩ : Ch)]).length = s1 by rw [List.length_append, HS1.out.2, HS.out]; rfl]
        exact HB6.out
      · have d1 : decide ((n : Int) < (m1 : Int)) = false := by simp; omega
        go_wp2_with fail
        go_quiet (fail)
        go_wp2
        go_ret2
        have hct := row54_cta O5.out (by rw [List.length_append, HL9.out, HM1.out]; rfl) 0 (by omega)
        rw [Nat.zero_mul, Nat.sub_zero, Nat.sub_zero, List.drop_zero] at hct
        have hct2 : Cta (u5.drewN nq) (g + 1) (some ⟨b3, 0, none⟩) m1 c3 (L ++ [(⟨(s1 : Int), x, gn⟩ : Ch)]) := (hct.mono HN.out.2.1).on (belowN (Below.refl _ _) nq)
        have htl : tl n (cs ++ [(⟨(s1 : Int), x, gn⟩ : Ch)]) = L ++ [(⟨(s1 : Int), x, gn⟩ : Ch)] := by rw [HLL.out]; exact tl_short (HMN.out.2.1 (by have := HM1.out; omega)) _
        refine ⟨rfl, ⟨_, m1, _, _, rfl, by simp, ⟨?_, by rw [htl]; exact hct2, n1, n2⟩⟩, M5.out.trans (mid_of (belowN (Below.refl _ _) nq))⟩
        rw [show (cs ++ [(⟨(s1 : Int), x, gn⟩ : Ch)]).length = s1 by rw [List.length_append, HS1.out.2, HS.out]; rfl]
        exact boxN HB5.out nq
    · have hc := HG.out.cell 2 _ rfl
      go_simp
      refine hK.out _ _ hHeld (fun hHeld => ?_)
      clear hK K hc
      change wpAnyH _ _ _ _ _ _ _ ⟨#[.pointer (some ⟨g, 0, none⟩),_,.bool gn,_,.pointer (some ⟨k0, 0, none⟩),_,_,_,_,_,_,_,_,_,_,_,_,_,_,_,.pointer (some ⟨g, 0, none⟩),_,.pointer (some ⟨g, 0, none⟩),.pointer (some ⟨g, 0, none⟩),.pointer (some ⟨g, 2, none⟩),.slice ao m c,_,.pointer (some ⟨g, 0, none⟩),.pointer (some ⟨g, 0, none⟩),.pointer (some ⟨g, 1, none⟩),.int .i64 (s1 : Int),.agg (EC x),.bool gn,.agg (CC (⟨(s1 : Int), x, gn⟩ : Ch)),.slice (some ⟨kb, 0, none⟩) 1 1,_,_,_,_,_,_,_,_,_,_,_,_,_,_,_,_,_,_,_,_,_,_,_,_,_], []⟩ _
      refine wpAnyH_ready (rs := [1]) (by kernel_rfl) (by simp) ?_
      refine (AllReadyH.cons rfl (fun K hK => ?_) AllReadyH.nil)
      rw [if_pos (by rfl)]
      refine wp_bs0 rfl ?_
      have ba0 := below_alloc u1 (.cells #[] 54)
      have ba := ba0.mono hN1.out
      have HO1 : Hid ((u1.alloc (.cells #[] 54)).ownsRow N 54 12 (.slice (some ⟨u1.heap.size, 0, none⟩) 0 0) 0 (chs [])) := hide (row_mono54 hN1.out (World.ownsRow_lit u1 #[] 0 (by omega) (by unfold maxLen; omega) rfl))
      replace HG := hide (HG.out.below HN.out.2.1 ba)
      refine hK.out _ _ ⟨⟨_, HG.out⟩, hHeld.2.below HN.out.2.2 ba⟩ (fun hHeld => ?_)
      clear hK K
      have BB2 := hide (BB1.out.trans ba)
      have hN2 : Hid (N ≤ (u1.alloc (.cells #[] 54)).heap.size) := hide (Nat.le_trans hN1.out ba.size)
      replace HL0 := hide (HL0.out.on ba0)
      replace HMB := hide (HMB.out.on ba0)
      have hkk : Hid (u1.heap.size ≠ kb) := hide (by have := HMB0.out; omega)
      obtain ⟨k1, hk1⟩ : ∃ k1, k1 = u1.heap.size := ⟨_, rfl⟩
      have HK1 : Hid (k1 < (u1.alloc (.cells #[] 54)).heap.size) := hide (by rw [hk1]; simp)
      rw [← hk1] at HO1 hkk ⊢
      clear hk1 ba ba0
      generalize u1.alloc (.cells #[] 54) = u2 at *
      change wpAnyH _ _ _ _ _ _ _ ⟨#[.pointer (some ⟨g, 0, none⟩),_,.bool gn,_,.pointer (some ⟨k0, 0, none⟩),_,_,_,_,_,_,_,_,_,_,_,_,_,_,_,.pointer (some ⟨g, 0, none⟩),.slice (some ⟨k1, 0, none⟩) 0 0,.pointer (some ⟨g, 0, none⟩),.pointer (some ⟨g, 0, none⟩),.pointer (some ⟨g, 2, none⟩),.slice ao m c,_,.pointer (some ⟨g, 0, none⟩),.pointer (some ⟨g, 0, none⟩),.pointer (some ⟨g, 1, none⟩),.int .i64 (s1 : Int),.agg (EC x),.bool gn,.agg (CC (⟨(s1 : Int), x, gn⟩ : Ch)),.slice (some ⟨kb, 0, none⟩) 1 1,_,_,_,_,_,_,_,_,_,_,_,_,_,_,_,_,_,_,_,_,_,_,_,_,_], []⟩ _
      refine wpAnyH_ready (rs := [6]) (by kernel_rfl) (by simp) ?_
      refine (AllReadyH.cons rfl (fun K hK => ?_) AllReadyH.nil)
      rw [if_pos (by rfl)]
      refine wp_capp rfl (.tmp 21) (.tmp 25) rfl N (.slice (some ⟨k1, 0, none⟩) 0 0) 0 [] rfl HO1.out ao m c L rfl HL0.out.crs (by omega) hN2.out ?_
      intro v2 u3 O2 G2
      have ba := (Below.refl N u2).grown G2 hN2.out (fun r hr => (HO1.out.lt r hr).1)
      replace HG := hide (HG.out.below HN.out.2.1 ba)
      refine hK.out _ _ ⟨⟨_, HG.out⟩, hHeld.2.below HN.out.2.2 ba⟩ (fun hHeld => ?_)
      clear hK K
      have HO2 := hide O2
      have BB3 := hide (BB2.out.trans ba)
      have hN3 : Hid (N ≤ u3.heap.size) := hide (Nat.le_trans hN2.out ba.size)
      replace HMB := hide (HMB.out.kept (r := k1) (fun e => hkk.out (by first | exact e.symm | exact e)) G2)
      clear ba G2 O2 HO1 HL0
      change wpAnyH _ _ _ _ _ _ _ ⟨#[.pointer (some ⟨g, 0, none⟩),_,.bool gn,_,.pointer (some ⟨k0, 0, none⟩),_,_,_,_,_,_,_,_,_,_,_,_,_,_,_,.pointer (some ⟨g, 0, none⟩),.slice (some ⟨k1, 0, none⟩) 0 0,.pointer (some ⟨g, 0, none⟩),.pointer (some ⟨g, 0, none⟩),.pointer (some ⟨g, 2, none⟩),.slice ao m c,v2,.pointer (some ⟨g, 0, none⟩),.pointer (some ⟨g, 0, none⟩),.pointer (some ⟨g, 1, none⟩),.int .i64 (s1 : Int),.agg (EC x),.bool gn,.agg (CC (⟨(s1 : Int), x, gn⟩ : Ch)),.slice (some ⟨kb, 0, none⟩) 1 1,_,_,_,_,_,_,_,_,_,_,_,_,_,_,_,_,_,_,_,_,_,_,_,_,_], []⟩ _
      refine wpAnyH_ready (rs := [15]) (by kernel_rfl) (by simp) ?_
      refine AllReadyH.cons rfl (fun K hK => ?_) AllReadyH.nil
      rw [if_pos (by rfl)]
      refine wp_capp rfl (.tmp 26) (.tmp 34) rfl N v2 (0 + m) ([] ++ L) rfl HO2.out (some ⟨kb, 0, none⟩) 1 1 [(⟨(s1 : Int), x, gn⟩ : Ch)] rfl (crs_box HMB.out 1) (by omega) hN3.out ?_
      intro v4 u4 O4 G4
      have ba := (Below.refl N u3).grown G4 hN3.out (fun r hr => (HO2.out.lt r hr).1)
      replace HG := hide (HG.out.below HN.out.2.1 ba)
      refine hK.out _ _ ⟨⟨_, HG.out⟩, hHeld.2.below HN.out.2.2 ba⟩ (fun hHeld => ?_)
      clear hK K
      have BB4 := hide (BB3.out.trans ba)
      have hN4 : Hid (N ≤ u4.heap.size) := hide (Nat.le_trans hN3.out ba.size)
      have O3 : Hid (u4.ownsRow N 54 12 v4 m1 (chs (L ++ [(⟨(s1 : Int), x, gn⟩ : Ch)]))) := hide (by
        have h9 := O4
        rw [List.nil_append, Nat.zero_add, ← HM1.out] at h9
        exact h9)
      clear O4
      obtain ⟨b3, c3, hv3, hb3⟩ : ∃ b3 c3, v4 = .slice (some ⟨b3, 0, none⟩) m1 c3 ∧ N ≤ b3 := by
        rcases O3.out.2 with ⟨h1, h2⟩ | ⟨b, cap, cur, h1, hb, _⟩
        · have := HM1.out; omega
        · exact ⟨b, cap, h1, hb⟩
      subst hv3
      have HB3 := hide hb3
      have hro := box_of_row54 O3.out (by have := HL9.out; rw [chs_length, List.length_append, this, HM1.out]; rfl)
      have HCC : Hid (m1 ≤ c3 ∧ c3 ≤ 9223372036854775807) := hide ⟨hro.2.2.2.1, by have := hro.2.2.2.2; unfold maxLen at this; omega⟩
      clear hro hb3
      clear ba G4 HO2 HMB
      change wpAnyH _ _ _ _ _ _ _ ⟨#[.pointer (some ⟨g, 0, none⟩),_,.bool gn,_,.pointer (some ⟨k0, 0, none⟩),_,_,_,_,_,_,_,_,_,_,_,_,_,_,_,.pointer (some ⟨g, 0, none⟩),.slice (some ⟨k1, 0, none⟩) 0 0,.pointer (some ⟨g, 0, none⟩),.pointer (some ⟨g, 0, none⟩),.pointer (some ⟨g, 2, none⟩),.slice ao m c,v2,.pointer (some ⟨g, 0, none⟩),.pointer (some ⟨g, 0, none⟩),.pointer (some ⟨g, 1, none⟩),.int .i64 (s1 : Int),.agg (EC x),.bool gn,.agg (CC (⟨(s1 : Int), x, gn⟩ : Ch)),.slice (some ⟨kb, 0, none⟩) 1 1,.slice (some ⟨b3, 0, none⟩) m1 c3,_,_,_,_,_,_,_,_,_,_,_,_,_,_,_,_,_,_,_,_,_,_,_,_], []⟩ _
      refine wpAnyH_take (i := 16) (v := .pointer (some ⟨g, 0, none⟩)) rfl (by kernel_rfl) (by kernel_rfl) (by kernel_rfl) (fun _ _ _ h => h) (Or.inl ⟨by rfl, ?_⟩) hHeld ?_
      · intro W hW; (try dsimp only at hW); go_simp
      change wpAnyH _ _ _ _ _ _ _ ⟨#[.pointer (some ⟨g, 0, none⟩),_,.bool gn,_,.pointer (some ⟨k0, 0, none⟩),_,_,_,_,_,_,_,_,_,_,_,_,_,_,_,.pointer (some ⟨g, 0, none⟩),.slice (some ⟨k1, 0, none⟩) 0 0,.pointer (some ⟨g, 0, none⟩),.pointer (some ⟨g, 0, none⟩),.pointer (some ⟨g, 2, none⟩),.slice ao m c,v2,.pointer (some ⟨g, 0, none⟩),.pointer (some ⟨g, 0, none⟩),.pointer (some ⟨g, 1, none⟩),.int .i64 (s1 : Int),.agg (EC x),.bool gn,.agg (CC (⟨(s1 : Int), x, gn⟩ : Ch)),.slice (some ⟨kb, 0, none⟩) 1 1,.slice (some ⟨b3, 0, none⟩) m1 c3,.pointer (some ⟨g, 0, none⟩),_,_,_,_,_,_,_,_,_,_,_,_,_,_,_,_,_,_,_,_,_,_,_], []⟩ _
      refine wpAnyH_take (i := 17) (v := .pointer (some ⟨g, 2, none⟩)) rfl (by kernel_rfl) (by kernel_rfl) (by kernel_rfl) (fun _ _ _ h => h) (Or.inl ⟨by rfl, ?_⟩) hHeld ?_
      · intro W hW; (try dsimp only at hW); go_simp
      change wpAnyH _ _ _ _ _ _ _ ⟨#[.pointer (some ⟨g, 0, none⟩),_,.bool gn,_,.pointer (some ⟨k0, 0, none⟩),_,_,_,_,_,_,_,_,_,_,_,_,_,_,_,.pointer (some ⟨g, 0, none⟩),.slice (some ⟨k1, 0, none⟩) 0 0,.pointer (some ⟨g, 0, none⟩),.pointer (some ⟨g, 0, none⟩),.pointer (some ⟨g, 2, none⟩),.slice ao m c,v2,.pointer (some ⟨g, 0, none⟩),.pointer (some ⟨g, 0, none⟩),.pointer (some ⟨g, 1, none⟩),.int .i64 (s1 : Int),.agg (EC x),.bool gn,.agg (CC (⟨(s1 : Int), x, gn⟩ : Ch)),.slice (some ⟨kb, 0, none⟩) 1 1,.slice (some ⟨b3, 0, none⟩) m1 c3,.pointer (some ⟨g, 0, none⟩),.pointer (some ⟨g, 2, none⟩),_,_,_,_,_,_,_,_,_,_,_,_,_,_,_,_,_,_,_,_,_,_], []⟩ _
      refine wpAnyH_ready (rs := [18]) (by kernel_rfl) (by simp) ?_
      refine AllReadyH.cons rfl (fun K hK => ?_) AllReadyH.nil
      have c2 := HG.out.cell 2 _ rfl
      have f2 := HG.out.free 2 (by simp [rcl])
      have g5 := setCell_grown u4 g 2 (.slice (some ⟨b3, 0, none⟩) m1 c3)
      have B5 : Box (u4.setCell ⟨g, 2, none⟩ (.slice (some ⟨b3, 0, none⟩) m1 c3)) g (rcl n s1 (.slice (some ⟨b3, 0, none⟩) m1 c3)) := Box.set (A := [.int .i64 n, .int .i64 s1]) (C := []) HG.out rfl
      have X5 := hHeld.2.kept (show k0 ≠ g by have := HK0.out; omega) g5
      go_simp
      refine hK.out _ _ ⟨⟨_, B5⟩, X5⟩ (fun hHeld => ?_)
      clear hK K hHeld X5 c2 f2
      have M5 : Hid (Mid g (g + 1) w (u4.setCell ⟨g, 2, none⟩ (.slice (some ⟨b3, 0, none⟩) m1 c3))) := hide ((M0.out.trans (by have h9 := BB4.out; rw [HN.out.1] at h9; exact mid_of h9)).trans (mid_grown (h := g) g5 (by omega) (by omega) rfl))
      have O5 : Hid ((u4.setCell ⟨g, 2, none⟩ (.slice (some ⟨b3, 0, none⟩) m1 c3)).ownsRow N 54 12 (.slice (some ⟨b3, 0, none⟩) m1 c3) m1 (chs (L ++ [(⟨(s1 : Int), x, gn⟩ : Ch)]))) := hide (O3.out.kept g5 (Or.inr (fun e => by
        have h9 := Option.some.inj e
        simp at h9
        have := HB3.out
        have := HN.out.2.1
        omega)))
      have HB5 := hide B5
      clear B5 g5 O3 BB4 hN4
      generalize u4.setCell ⟨g, 2, none⟩ (.slice (some ⟨b3, 0, none⟩) m1 c3) = u5 at *
      change wpAnyH _ _ _ _ _ _ _ ⟨#[.pointer (some ⟨g, 0, none⟩),_,.bool gn,_,.pointer (some ⟨k0, 0, none⟩),_,_,_,_,_,_,_,_,_,_,_,_,_,_,_,.pointer (some ⟨g, 0, none⟩),.slice (some ⟨k1, 0, none⟩) 0 0,.pointer (some ⟨g, 0, none⟩),.pointer (some ⟨g, 0, none⟩),.pointer (some ⟨g, 2, none⟩),.slice ao m c,v2,.pointer (some ⟨g, 0, none⟩),.pointer (some ⟨g, 0, none⟩),.pointer (some ⟨g, 1, none⟩),.int .i64 (s1 : Int),.agg (EC x),.bool gn,.agg (CC (⟨(s1 : Int), x, gn⟩ : Ch)),.slice (some ⟨kb, 0, none⟩) 1 1,.slice (some ⟨b3, 0, none⟩) m1 c3,.pointer (some ⟨g, 0, none⟩),.pointer (some ⟨g, 2, none⟩),_,_,_,_,_,_,_,_,_,_,_,_,_,_,_,_,_,_,_,_,_,_], []⟩ _
      refine wpAnyH_done (by kernel_rfl) ?_ _
      have c0 := HB5.out.cell 0 _ rfl
      have c1 := HB5.out.cell 1 _ rfl
      have c2 := HB5.out.cell 2 _ rfl
      have f2 := HB5.out.free 2 (by simp [rcl])
      by_cases hgt : n < m1
      · have d1 : decide ((n : Int) < (m1 : Int)) = true := by simp; omega
        have hc1 : ¬ c3 = 1 := by have := HCC.out.1; omega
        have hm0 : (1 : Int) ≤ (m1 : Int) := by omega
        have hm2 : (m1 : Int) ≤ (c3 : Int) := by have := HCC.out.1; omega
        go_wp2_with fail
        go_quiet (fail)
        have g6 := setCell_grown (u5.drewN nq) g 2 (.slice (some ⟨b3, 12, none⟩) (m1 - 1) (c3 - 1))
        have B6 : Box ((u5.drewN nq).setCell ⟨g, 2, none⟩ (.slice (some ⟨b3, 12, none⟩) (m1 - 1) (c3 - 1))) g (rcl n s1 (.slice (some ⟨b3, 12, none⟩) (m1 - 1) (c3 - 1))) := Box.set (A := [.int .i64 n, .int .i64 s1]) (C := []) (boxN HB5.out nq) rfl
        have c3' := B6.cell 1 _ rfl
        have HG6 := hide g6
        have HB6 := hide B6
        clear g6 B6 c0 c1
        go_wp2
        go_ret2
        have hct := row54_cta O5.out (by rw [List.length_append, HL9.out, HM1.out]; rfl) 1 (by omega)
        rw [Nat.one_mul] at hct
        have hct2 : Cta (u5.drewN nq) (g + 1) (some ⟨b3, 12, none⟩) (m1 - 1) (c3 - 1) ((L ++ [(⟨(s1 : Int), x, gn⟩ : Ch)]).drop 1) := (hct.mono HN.out.2.1).on (belowN (Below.refl _ _) nq)
        have hct3 := hct2.keep (w1 := (u5.drewN nq).setCell ⟨g, 2, none⟩ (.slice (some ⟨b3, 12, none⟩) (m1 - 1) (c3 - 1))) (fun b h1 h2 => HG6.out.block b h2 (fun e => by have := Option.some.inj e; omega)) HG6.out.size
        have htl : tl n (cs ++ [(⟨(s1 : Int), x, gn⟩ : Ch)]) = (L ++ [(⟨(s1 : Int), x, gn⟩ : Ch)]).drop 1 := by rw [HLL.out]; exact tl_long (HMN.out.2.2 (by have := HM1.out; omega)) _
        refine ⟨rfl, ⟨_, m1 - 1, _, _, rfl, by simp, ⟨?_, by rw [htl]; exact hct3, n1, n2⟩⟩, (M5.out.trans (mid_of (belowN (Below.refl _ _) nq))).trans (mid_grown (h := g) HG6.out (by omega) (by omega) rfl)⟩
        rw [show (cs ++ [(⟨(s1 : Int), x, gn⟩ : Ch)]).length = s1 by rw [List.length_append, HS1.out.2, HS.out]; rfl]
        exact HB6.out
      · have d1 : decide ((n : Int) < (m1 : Int)) = false := by simp; omega
        go_wp2_with fail
        go_quiet (fail)
        go_wp2
        go_ret2
        have hct := row54_cta O5.out (by rw [List.length_append, HL9.out, HM1.out]; rfl) 0 (by omega)
        rw [Nat.zero_mul, Nat.sub_zero, Nat.sub_zero, List.drop_zero] at hct
        have hct2 : Cta (u5.drewN nq) (g + 1) (some ⟨b3, 0, none⟩) m1 c3 (L ++ [(⟨(s1 : Int), x, gn⟩ : Ch)]) := (hct.mono HN.out.2.1).on (belowN (Below.refl _ _) nq)
        have htl : tl n (cs ++ [(⟨(s1 : Int), x, gn⟩ : Ch)]) = L ++ [(⟨(s1 : Int), x, gn⟩ : Ch)] := by rw [HLL.out]; exact tl_short (HMN.out.2.1 (by have := HM1.out; omega)) _
        refine ⟨rfl, ⟨_, m1, _, _, rfl, by simp, ⟨?_, by rw [htl]; exact hct2, n1, n2⟩⟩, M5.out.trans (mid_of (belowN (Below.refl _ _) nq))⟩
        rw [show (cs ++ [(⟨(s1 : Int), x, gn⟩ : Ch)]).length = s1 by rw [List.length_append, HS1.out.2, HS.out]; rfl]
        exact boxN HB5.out nq
end Go.Proofs.Ytjlmheecefobaaa
