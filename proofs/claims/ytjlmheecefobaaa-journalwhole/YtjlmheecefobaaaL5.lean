/- JournalWhole: for every pair of numbers, all entries and all steps the law answers true, and all three read behind the call as they read before. No condition. -/
import Derived.Test.YtjlmheecefobaaaOp
import Derived.Test.YtjlmheecefobaaaK1
import Derived.Test.YtjlmheecefobaaaL6
import Derived.Test.YtjlmheecefobaaaAw
namespace Go.Proofs.Ytjlmheecefobaaa
open Go.ChangeShapes Go.WideShapes Go.ChangeAt Go.RowKit Go.PlainAid

theorem lst_take_eq : ∀ (ss : List Sp) (m : Nat) (f : Int), lst (ss.take m) f = (lst ss f).take m
  | [], m, f => by simp [lst]
  | p :: r, 0, f => by simp [lst]
  | p :: r, m + 1, f => by rw [List.take_succ_cons, lst, lst, List.take_succ_cons, lst_take_eq r m]
/-- What was there at a number, as far as one has come. -/
def thn (l : List En) (ss : List Sp) (y : Int) (k : Nat) : List En := if 1 ≤ y ∧ y ≤ k then rep l (lst (ss.take y.toNat) 0) else srt l
theorem thn_no {l : List En} {ss : List Sp} {y : Int} {k : Nat} (h : ¬ (k : Int) + 1 = y) : thn l ss y (k + 1) = thn l ss y k := by
  unfold thn
  by_cases c : 1 ≤ y ∧ y ≤ k
  · rw [if_pos c, if_pos (by omega)]
  · rw [if_neg c, if_neg (by omega)]
theorem thn_yes {l : List En} {ss : List Sp} {y : Int} {k : Nat} (h : (k : Int) + 1 = y) : thn l ss y (k + 1) = rep l (lst (ss.take (k + 1)) 0) := by
  unfold thn
  rw [if_pos (by omega), show y.toNat = k + 1 by omega]
theorem thn_end {l : List En} {ss : List Sp} {m k : Nat} (h : m ≤ k) : thn l ss m k = rep l (lst (ss.take m) 0) := by
  unfold thn
  by_cases c : 1 ≤ (m : Int) ∧ (m : Int) ≤ k
  · rw [if_pos c, show (m : Int).toNat = m by omega]
  · obtain rfl : m = 0 := by omega
    rw [if_neg c]; rfl
theorem thn_le (l : List En) (ss : List Sp) (y : Int) (k : Nat) : (thn l ss y k).length ≤ l.length + ss.length := by
  unfold thn
  split
  · have h1 := rep_le l (lst (ss.take y.toNat) 0)
    rw [lst_length, List.length_take] at h1
    omega
  · have := srt_le l; omega
theorem thn_ok {l : List En} {ss : List Sp} (y : Int) (k : Nat) (h : ∀ s ∈ l, Eok s) (g : ∀ s ∈ ss, Eok s.x) : ∀ s ∈ thn l ss y k, Eok s := by
  unfold thn
  split
  · exact rep_all (p := Eok) h (fun d hd => by obtain ⟨p, h1, h2⟩ := lst_mem hd; rw [h2]; exact g p (List.mem_of_mem_take h1))
  · exact rep_all (p := Eok) (cs := []) h (fun d hd => by simp at hd)
theorem lst_ok {ss : List Sp} (g : ∀ s ∈ ss, Eok s.x) (k : Nat) : ∀ d ∈ lst (ss.take k) 0, Eok d.x := fun d hd => by
  obtain ⟨p, h1, h2⟩ := lst_mem hd
  rw [h2]; exact g p (List.mem_of_mem_take h1)
theorem sl_one (w : World) (d : Ch) : Sl ccl 12 (w.alloc (.cells (CC d) 54)) (w.alloc (.cells (CC d) 54)).heap.size (some ⟨w.heap.size, 0, none⟩) 1 1 [d] :=
  ⟨rfl, fun e => (by cases e), fun j s hj => by
    have hj0 : j = 0 := by have := (List.getElem?_eq_some_iff.1 hj).1; simp at this; omega
    subst hj0
    simp at hj
    subst hj
    exact ⟨_, 0, rfl, by simp, by rw [Nat.zero_mul]; exact (box_c w d).at_⟩, Nat.le_refl _, by unfold maxLen; omega⟩
theorem box_two2 (w : World) (x y : Int) : Box (w.alloc (.cells #[.int .i64 x, .int .i64 y] 52)) w.heap.size [.int .i64 x, .int .i64 y] := Box.new w [.int .i64 x, .int .i64 y] 52
set_option maxRecDepth 100000 in
set_option maxHeartbeats 4000000 in
theorem wholeNo (x y : Int) (ao : Option Addr) (n c : Nat) (ao1 : Option Addr) (n1 c1 : Nat) (w : World) (h : ¬ (1 ≤ x ∧ x ≤ 1000)) :
    Calls Try.prog 5 #[.agg #[.int .i64 x, .int .i64 y], .slice ao n c, .slice ao1 n1 c1] w fun e w' => e = .returned (.bool true) ∧ Below w.heap.size w w' := by
  have HH := hide h
  have X0 := hide (box_two2 w x y)
  have W0 := hide (below_alloc w (.cells #[.int .i64 x, .int .i64 y] 52))
  clear h
  go_enter Try.func5, Try.ntmps5
  go_wp2_with fail
  refine (awake10 _).mono ?_
  rintro e w1 ⟨rfl, B1⟩
  have HB := hide (below_more W0.out B1 W0.out.size)
  have c0 := (X0.out.on B1).cell 0 _ rfl
  clear B1 X0 W0
  go_wp2_with fail
  refine (new11_no x _ HH.out).mono ?_
  rintro e w2 ⟨rfl, rfl⟩
  go_wp2
  go_ret
  exact ⟨rfl, HB.out⟩
set_option maxRecDepth 100000 in
set_option maxHeartbeats 4000000 in
theorem wholeLongA (x : Nat) (y : Int) (ao : Option Addr) (n c : Nat) (ao1 : Option Addr) (n1 c1 : Nat) (w : World) (h1 : 1 ≤ x) (h2 : x ≤ 1000) (hn : (40 : Int) < (n : Int)) :
    Calls Try.prog 5 #[.agg #[.int .i64 x, .int .i64 y], .slice ao n c, .slice ao1 n1 c1] w fun e w' => e = .returned (.bool true) ∧ Below w.heap.size w w' := by
  have X0 := hide (box_two2 w x y)
  have W0 := hide (below_alloc w (.cells #[.int .i64 x, .int .i64 y] 52))
  go_enter Try.func5, Try.ntmps5
  go_wp2_with fail
  refine (awake10 _).mono ?_
  rintro e w1 ⟨rfl, B1⟩
  have HB := hide (below_more W0.out B1 W0.out.size)
  have c0 := (X0.out.on B1).cell 0 _ rfl
  clear B1 X0 W0
  go_wp2_with fail
  refine (new11 x _ h1 h2).mono ?_
  rintro e w2 ⟨rfl, -, B2⟩
  replace HB := hide (below_more HB.out B2 HB.out.size)
  clear B2 c0
  go_wp2
  go_ret
  exact ⟨rfl, HB.out⟩
set_option maxRecDepth 100000 in
set_option maxHeartbeats 4000000 in
theorem wholeLongB (x : Nat) (y : Int) (ao : Option Addr) (n c : Nat) (ao1 : Option Addr) (n1 c1 : Nat) (w : World) (h1 : 1 ≤ x) (h2 : x ≤ 1000) (hn0 : ¬ (40 : Int) < (n : Int)) (hn : (60 : Int) < (n1 : Int)) :
    Calls Try.prog 5 #[.agg #[.int .i64 x, .int .i64 y], .slice ao n c, .slice ao1 n1 c1] w fun e w' => e = .returned (.bool true) ∧ Below w.heap.size w w' := by
  have X0 := hide (box_two2 w x y)
  have W0 := hide (below_alloc w (.cells #[.int .i64 x, .int .i64 y] 52))
  go_enter Try.func5, Try.ntmps5
  go_wp2_with fail
  refine (awake10 _).mono ?_
  rintro e w1 ⟨rfl, B1⟩
  have HB := hide (below_more W0.out B1 W0.out.size)
  have c0 := (X0.out.on B1).cell 0 _ rfl
  clear B1 X0 W0
  go_wp2_with fail
  refine (new11 x _ h1 h2).mono ?_
  rintro e w2 ⟨rfl, -, B2⟩
  replace HB := hide (below_more HB.out B2 HB.out.size)
  clear B2 c0
  go_wp2
  go_ret
  exact ⟨rfl, HB.out⟩
set_option maxRecDepth 100000 in
set_option maxHeartbeats 8000000 in
theorem wholeYes (x : Nat) (y : Int) (ao : Option Addr) (n c : Nat) (l : List En) (ao1 : Option Addr) (n1 c1 : Nat) (ss : List Sp) (w : World) (h1 : 1 ≤ x) (h2 : x ≤ 1000) (hn : n ≤ 40) (hn1 : n1 ≤ 60) (hl : Sl ecl 10 w w.heap.size ao n c l) (ho : ∀ s ∈ l, Eok s) (hs : Sl pcl 11 w w.heap.size ao1 n1 c1 ss) (hp : ∀ s ∈ ss, Eok s.x) (hy : I64 y) :
    Calls Try.prog 5 #[.agg #[.int .i64 x, .int .i64 y], .slice ao n c, .slice ao1 n1 c1] w fun e w' => e = .returned (.bool true) ∧ Below w.heap.size w w' := by
  have X0 := hide (box_two2 w x y)
  have W0 := hide (below_alloc w (.cells #[.int .i64 x, .int .i64 y] 52))
  have HL := hide (hl.on W0.out)
  have HS := hide (hs.below W0.out)
  have HLN : Hid (l.length = n) := hide hl.len
  have HSL : Hid (ss.length = n1) := hide hs.len
  have hsc := hs.le
  have hsm := hs.mx
  unfold maxLen at hsm
  have HO := hide ho
  have HP := hide hp
  have HY := hide hy
  have a1 : ¬ (40 : Int) < (n : Int) := by omega
  have a2 : ¬ (60 : Int) < (n1 : Int) := by omega
  clear hl hs ho hp hy
  go_enter Try.func5, Try.ntmps5
  go_wp2_with fail
  obtain ⟨G, hG⟩ : ∃ G, G = w.heap.size := ⟨_, rfl⟩
  have hs0 : Hid ((w.alloc (.cells #[.int .i64 x, .int .i64 y] 52)).heap.size = G + 1) := hide (by simp [hG])
  have HGG := hide hG
  rw [← hG] at X0 W0 HS ⊢
  clear hG
  generalize w.alloc (.cells #[.int .i64 x, .int .i64 y] 52) = w0 at *
  refine (awake10 _).mono ?_
  rintro e w1 ⟨rfl, B1⟩
  have hb := B1
  rw [hs0.out] at hb
  have HB := hide (W0.out.trans (hb.mono (Nat.le_succ G)))
  replace HL := hide (HL.out.on B1)
  replace HS := hide (HS.out.below (hb.mono (Nat.le_succ G)))
  have HX := hide (X0.out.on B1)
  have HG1 : Hid (G + 1 ≤ w1.heap.size) := hide (by have := B1.size; rw [hs0.out] at this; exact this)
  have c0 := HX.out.cell 0 _ rfl
  clear B1 X0 W0 hb hs0
  go_wp2_with fail
  refine (new11 x _ h1 h2).mono ?_
  rintro e w2 ⟨rfl, P2, B2⟩
  replace HL := hide (HL.out.on B2)
  obtain ⟨h, hh⟩ : ∃ h, h = w1.heap.size := ⟨_, rfl⟩
  rw [← hh] at P2 B2 HG1 ⊢
  have HGH : Hid (G + 1 ≤ h) := hide HG1.out
  replace HS := hide (HS.out.below (B2.mono (by have := HGH.out; omega)))
  replace HB := hide (HB.out.trans (B2.mono (by have := HGH.out; omega)))
  replace HX := hide (HX.out.below (by have := HGH.out; omega) B2)
  have HP2 := hide P2
  clear B2 P2 hh HG1 c0
  go_wp2_with fail
  refine (replay21 ao n c l none 0 0 [] _ HL.out (sl_nil _ _ _ _) HO.out (fun d hd => by simp at hd) (by omega)).mono ?_
  rintro e w3 ⟨aoT, cT, rfl, E3, B3⟩
  have hz := HP2.out.lt
  have HE := hide (E3.mono hz)
  replace HP2 := hide (HP2.out.on B3)
  replace HS := hide (HS.out.below (B3.mono (by have := HGH.out; omega)))
  replace HB := hide (HB.out.trans (B3.mono (by have := HGH.out; omega)))
  replace HX := hide (HX.out.on B3)
  have hthn : Hid (rep l [] = thn l ss y 0) := hide (by unfold thn; rw [if_neg (by omega)]; rfl)
  have hnow : Hid (rep l [] = rep l (lst (ss.take 0) 0)) := hide rfl
  clear B3 E3 HL hz
  go_wp2
  go_loopw [10, 11, 12, 13, 14] (fun tv nv i _ _ wr => ∃ (k : Nat) (pl cs : List Ch) (aoT : Option Addr) (cT : Nat) (aoN : Option Addr) (cN : Nat), k ≤ n1 ∧ i = .int .i64 k ∧ tv = .slice aoT (thn l ss y k).length cT ∧ nv = .slice aoN (rep l (lst (ss.take k) 0)).length cN ∧ Ets wr (h + 2) aoT (thn l ss y k).length cT (thn l ss y k) ∧ Ets wr (h + 2) aoN (rep l (lst (ss.take k) 0)).length cN (rep l (lst (ss.take k) 0)) ∧ PJ wr h x pl cs ∧ cs.length = k ∧ cs = lst (ss.take k) 0 ∧ Below G w wr ∧ Sl pcl 11 wr G ao1 n1 c1 ss ∧ Box wr G [.int .i64 x, .int .i64 y]) (fun _ _ i _ _ _ => n1 - (intOf i).toNat)
  case atStart => exact ⟨0, _, [], aoT, cT, aoT, cT, Nat.zero_le _, rfl, by rw [← hthn.out], by rw [← hnow.out], by rw [← hthn.out]; exact HE.out, by rw [← hnow.out]; exact HE.out, HP2.out, rfl, rfl, HB.out, HS.out, HX.out⟩
  case round =>
    obtain ⟨k, pl, cs, aoT, cT, aoN, cN, hk, rfl, rfl, rfl, hET, hEN, hP, hcl, hcs, hB, hS, hX⟩ := hrel
    clear HP2 HB HS HX HE hthn hnow
    have HET := hide hET
    have HEN := hide hEN
    have HP1 := hide hP
    have HCL := hide hcl
    have HCS := hide hcs
    have HB := hide hB
    have HS := hide hS
    have HX := hide hX
    clear hET hEN hP hcl hcs hB hS hX
    by_cases hkn : k < n1
    · obtain ⟨p, hp⟩ : ∃ p, ss[k]? = some p := ⟨_, List.getElem?_eq_getElem (by rw [HSL.out]; exact hkn)⟩
      obtain ⟨b0, o0, rfl, hbG, hA⟩ := HS.out.cell k p hp
      have HBG := hide hbG
      have HPO := hide (HP.out p (List.mem_of_getElem? hp))
      have HTK := hide (lst_take 0 hp)
      have hk2 : (k : Int) < (n1 : Int) := by omega
      have e1 : IntKind.i64.wrap ((k : Int) + 1) = (k : Int) + 1 := IntWalk.i64_in _ (by omega)
      have hne : (((k : Int) + 1) != ((k : Int) + 1)) = false := by simp
      clear hp hbG
      go_wp2_with fail
      refine wp_region_held_drew (S := fun w' => w'.rangeAt b0 (o0 + k * 11) (pcl p)) (by kernel_rfl) hA (fun hHeld => ?_)
      clear hA
      replace HP1 : Hid (PJ wr.drew h x pl cs) := hide (HP1.out.keep (fun _ _ _ => rfl))
      replace HB := hide (belowOn' HB.out)
      replace HS := hide HS.out.drew
      replace HX := hide HX.out.drew
      replace HET : Hid (Ets wr.drew (h + 2) aoT (thn l ss y k).length cT (thn l ss y k)) := hide (HET.out.on ⟨rfl, rfl, rfl, Nat.le_refl _, fun _ _ => rfl⟩)
      replace HEN : Hid (Ets wr.drew (h + 2) aoN (rep l (lst (ss.take k) 0)).length cN (rep l (lst (ss.take k) 0))) := hide (HEN.out.on ⟨rfl, rfl, rfl, Nat.le_refl _, fun _ _ => rfl⟩)
      obtain ⟨NW, hNW⟩ : ∃ NW, NW = rep l (lst (ss.take k) 0) := ⟨_, rfl⟩
      have HNW := hide hNW
      rw [← hNW] at HEN ⊢
      clear hNW
      obtain ⟨TN, hTN⟩ : ∃ TN, TN = thn l ss y k := ⟨_, rfl⟩
      have HTN := hide hTN
      rw [← hTN] at HET ⊢
      clear hTN
      generalize wr.drew = u0 at *
      refine wpAnyH_take (i := 0) (v := .pointer (some ⟨h + 1, 0, none⟩)) rfl (by kernel_rfl) (by kernel_rfl) (by kernel_rfl) (fun _ _ _ h => h) (Or.inl ⟨by rfl, ?_⟩) hHeld ?_
      · intro W hW; (try dsimp only at hW); go_simp
      change wpAnyH _ _ _ _ _ _ _ ⟨#[_,_,.slice (some ⟨b0, o0, none⟩) n1 c1,_,_,_,_,_,.pointer (some ⟨h + 1, 0, none⟩),_,_,_,.int .i64 (k : Int),_,_,_,_,_,_,_,_,_,_,_,_,_,_,_,_,_,_,_,_,_,_,_,_,_,_,_,_,_,_,_,_,_,_,_,_,_,_,_,_,_,_,_,_,_,_,_,_,_,_,_,_,.pointer (some ⟨h + 1, 0, none⟩),_,_,_,_,_,_,_,_,_,_,_,_,_,_,_,_,_,_,_,_,_,_,_,_,_,_,_,_,_,_,_,_,_,_,_,_,_,_,_,_,_,_,_,_,_,_,_,_,_,_,_,_,_,_,_,_,_,_,_,_,_,_,_,_,_,_,_,_,_,_,_,_,_,_,_,_,_,_,_,_,_,_,_,_,_,_], []⟩ _
      refine wpAnyH_take (i := 1) (v := .slice (some ⟨b0, o0, none⟩) n1 c1) rfl (by kernel_rfl) (by kernel_rfl) (by kernel_rfl) (fun _ _ _ h => h) (Or.inl ⟨by rfl, ?_⟩) hHeld ?_
      · intro W hW; (try dsimp only at hW); go_simp
      change wpAnyH _ _ _ _ _ _ _ ⟨#[_,_,.slice (some ⟨b0, o0, none⟩) n1 c1,_,_,_,_,_,.pointer (some ⟨h + 1, 0, none⟩),_,_,_,.int .i64 (k : Int),_,_,_,_,_,_,_,_,_,_,_,_,_,_,_,_,_,_,_,_,_,_,_,_,_,_,_,_,_,_,_,_,_,_,_,_,_,_,_,_,_,_,_,_,_,_,_,_,_,_,_,_,.pointer (some ⟨h + 1, 0, none⟩),.slice (some ⟨b0, o0, none⟩) n1 c1,_,_,_,_,_,_,_,_,_,_,_,_,_,_,_,_,_,_,_,_,_,_,_,_,_,_,_,_,_,_,_,_,_,_,_,_,_,_,_,_,_,_,_,_,_,_,_,_,_,_,_,_,_,_,_,_,_,_,_,_,_,_,_,_,_,_,_,_,_,_,_,_,_,_,_,_,_,_,_,_,_,_,_,_,_], []⟩ _
      refine wpAnyH_take (i := 2) (v := .int .i64 (k : Int)) rfl (by kernel_rfl) (by kernel_rfl) (by kernel_rfl) (fun _ _ _ h => h) (Or.inl ⟨by rfl, ?_⟩) hHeld ?_
      · intro W hW; (try dsimp only at hW); go_simp
      change wpAnyH _ _ _ _ _ _ _ ⟨#[_,_,.slice (some ⟨b0, o0, none⟩) n1 c1,_,_,_,_,_,.pointer (some ⟨h + 1, 0, none⟩),_,_,_,.int .i64 (k : Int),_,_,_,_,_,_,_,_,_,_,_,_,_,_,_,_,_,_,_,_,_,_,_,_,_,_,_,_,_,_,_,_,_,_,_,_,_,_,_,_,_,_,_,_,_,_,_,_,_,_,_,_,.pointer (some ⟨h + 1, 0, none⟩),.slice (some ⟨b0, o0, none⟩) n1 c1,.int .i64 (k : Int),_,_,_,_,_,_,_,_,_,_,_,_,_,_,_,_,_,_,_,_,_,_,_,_,_,_,_,_,_,_,_,_,_,_,_,_,_,_,_,_,_,_,_,_,_,_,_,_,_,_,_,_,_,_,_,_,_,_,_,_,_,_,_,_,_,_,_,_,_,_,_,_,_,_,_,_,_,_,_,_,_,_,_,_], []⟩ _
      refine wpAnyH_take (i := 3) (v := .pointer (some ⟨b0, o0 + k * 11, none⟩)) rfl (by kernel_rfl) (by kernel_rfl) (by kernel_rfl) (fun _ _ _ h => h) (Or.inl ⟨by rfl, ?_⟩) hHeld ?_
      · intro W hW; (try dsimp only at hW); go_simp
      change wpAnyH _ _ _ _ _ _ _ ⟨#[_,_,.slice (some ⟨b0, o0, none⟩) n1 c1,_,_,_,_,_,.pointer (some ⟨h + 1, 0, none⟩),_,_,_,.int .i64 (k : Int),_,_,_,_,_,_,_,_,_,_,_,_,_,_,_,_,_,_,_,_,_,_,_,_,_,_,_,_,_,_,_,_,_,_,_,_,_,_,_,_,_,_,_,_,_,_,_,_,_,_,_,_,.pointer (some ⟨h + 1, 0, none⟩),.slice (some ⟨b0, o0, none⟩) n1 c1,.int .i64 (k : Int),.pointer (some ⟨b0, o0 + k * 11, none⟩),_,_,_,_,_,_,_,_,_,_,_,_,_,_,_,_,_,_,_,_,_,_,_,_,_,_,_,_,_,_,_,_,_,_,_,_,_,_,_,_,_,_,_,_,_,_,_,_,_,_,_,_,_,_,_,_,_,_,_,_,_,_,_,_,_,_,_,_,_,_,_,_,_,_,_,_,_,_,_,_,_,_,_], []⟩ _
      refine wpAnyH_take (i := 4) (v := .pointer (some ⟨b0, o0 + k * 11, none⟩)) rfl (by kernel_rfl) (by kernel_rfl) (by kernel_rfl) (fun _ _ _ h => h) (Or.inl ⟨by rfl, ?_⟩) hHeld ?_
      · intro W hW; (try dsimp only at hW); go_simp
      change wpAnyH _ _ _ _ _ _ _ ⟨#[_,_,.slice (some ⟨b0, o0, none⟩) n1 c1,_,_,_,_,_,.pointer (some ⟨h + 1, 0, none⟩),_,_,_,.int .i64 (k : Int),_,_,_,_,_,_,_,_,_,_,_,_,_,_,_,_,_,_,_,_,_,_,_,_,_,_,_,_,_,_,_,_,_,_,_,_,_,_,_,_,_,_,_,_,_,_,_,_,_,_,_,_,.pointer (some ⟨h + 1, 0, none⟩),.slice (some ⟨b0, o0, none⟩) n1 c1,.int .i64 (k : Int),.pointer (some ⟨b0, o0 + k * 11, none⟩),.pointer (some ⟨b0, o0 + k * 11, none⟩),_,_,_,_,_,_,_,_,_,_,_,_,_,_,_,_,_,_,_,_,_,_,_,_,_,_,_,_,_,_,_,_,_,_,_,_,_,_,_,_,_,_,_,_,_,_,_,_,_,_,_,_,_,_,_,_,_,_,_,_,_,_,_,_,_,_,_,_,_,_,_,_,_,_,_,_,_,_,_,_,_,_], []⟩ _
      refine wpAnyH_take (i := 5) (v := .agg (EC p.x)) rfl (by kernel_rfl) (by kernel_rfl) (by kernel_rfl) (fun _ _ _ h => h) (yieldsIf_load_mid (by rfl) 36 (.tmp 69) rfl b0 (o0 + k * 11) rfl (ecl p.x) _ (fun W hW => stp_ent hW) Try.underlying36 rfl Try.size36) hHeld ?_
      change wpAnyH _ _ _ _ _ _ _ ⟨#[_,_,.slice (some ⟨b0, o0, none⟩) n1 c1,_,_,_,_,_,.pointer (some ⟨h + 1, 0, none⟩),_,_,_,.int .i64 (k : Int),_,_,_,_,_,_,_,_,_,_,_,_,_,_,_,_,_,_,_,_,_,_,_,_,_,_,_,_,_,_,_,_,_,_,_,_,_,_,_,_,_,_,_,_,_,_,_,_,_,_,_,_,.pointer (some ⟨h + 1, 0, none⟩),.slice (some ⟨b0, o0, none⟩) n1 c1,.int .i64 (k : Int),.pointer (some ⟨b0, o0 + k * 11, none⟩),.pointer (some ⟨b0, o0 + k * 11, none⟩),.agg (EC p.x),_,_,_,_,_,_,_,_,_,_,_,_,_,_,_,_,_,_,_,_,_,_,_,_,_,_,_,_,_,_,_,_,_,_,_,_,_,_,_,_,_,_,_,_,_,_,_,_,_,_,_,_,_,_,_,_,_,_,_,_,_,_,_,_,_,_,_,_,_,_,_,_,_,_,_,_,_,_,_,_,_], []⟩ _
      refine wpAnyH_take (i := 6) (v := .slice (some ⟨b0, o0, none⟩) n1 c1) rfl (by kernel_rfl) (by kernel_rfl) (by kernel_rfl) (fun _ _ _ h => h) (Or.inl ⟨by rfl, ?_⟩) hHeld ?_
      · intro W hW; (try dsimp only at hW); go_simp
      change wpAnyH _ _ _ _ _ _ _ ⟨#[_,_,.slice (some ⟨b0, o0, none⟩) n1 c1,_,_,_,_,_,.pointer (some ⟨h + 1, 0, none⟩),_,_,_,.int .i64 (k : Int),_,_,_,_,_,_,_,_,_,_,_,_,_,_,_,_,_,_,_,_,_,_,_,_,_,_,_,_,_,_,_,_,_,_,_,_,_,_,_,_,_,_,_,_,_,_,_,_,_,_,_,_,.pointer (some ⟨h + 1, 0, none⟩),.slice (some ⟨b0, o0, none⟩) n1 c1,.int .i64 (k : Int),.pointer (some ⟨b0, o0 + k * 11, none⟩),.pointer (some ⟨b0, o0 + k * 11, none⟩),.agg (EC p.x),.slice (some ⟨b0, o0, none⟩) n1 c1,_,_,_,_,_,_,_,_,_,_,_,_,_,_,_,_,_,_,_,_,_,_,_,_,_,_,_,_,_,_,_,_,_,_,_,_,_,_,_,_,_,_,_,_,_,_,_,_,_,_,_,_,_,_,_,_,_,_,_,_,_,_,_,_,_,_,_,_,_,_,_,_,_,_,_,_,_,_,_,_], []⟩ _
      refine wpAnyH_take (i := 7) (v := .int .i64 (k : Int)) rfl (by kernel_rfl) (by kernel_rfl) (by kernel_rfl) (fun _ _ _ h => h) (Or.inl ⟨by rfl, ?_⟩) hHeld ?_
      · intro W hW; (try dsimp only at hW); go_simp
      change wpAnyH _ _ _ _ _ _ _ ⟨#[_,_,.slice (some ⟨b0, o0, none⟩) n1 c1,_,_,_,_,_,.pointer (some ⟨h + 1, 0, none⟩),_,_,_,.int .i64 (k : Int),_,_,_,_,_,_,_,_,_,_,_,_,_,_,_,_,_,_,_,_,_,_,_,_,_,_,_,_,_,_,_,_,_,_,_,_,_,_,_,_,_,_,_,_,_,_,_,_,_,_,_,_,.pointer (some ⟨h + 1, 0, none⟩),.slice (some ⟨b0, o0, none⟩) n1 c1,.int .i64 (k : Int),.pointer (some ⟨b0, o0 + k * 11, none⟩),.pointer (some ⟨b0, o0 + k * 11, none⟩),.agg (EC p.x),.slice (some ⟨b0, o0, none⟩) n1 c1,.int .i64 (k : Int),_,_,_,_,_,_,_,_,_,_,_,_,_,_,_,_,_,_,_,_,_,_,_,_,_,_,_,_,_,_,_,_,_,_,_,_,_,_,_,_,_,_,_,_,_,_,_,_,_,_,_,_,_,_,_,_,_,_,_,_,_,_,_,_,_,_,_,_,_,_,_,_,_,_,_,_,_,_,_], []⟩ _
      refine wpAnyH_take (i := 8) (v := .pointer (some ⟨b0, o0 + k * 11, none⟩)) rfl (by kernel_rfl) (by kernel_rfl) (by kernel_rfl) (fun _ _ _ h => h) (Or.inl ⟨by rfl, ?_⟩) hHeld ?_
      · intro W hW; (try dsimp only at hW); go_simp
      change wpAnyH _ _ _ _ _ _ _ ⟨#[_,_,.slice (some ⟨b0, o0, none⟩) n1 c1,_,_,_,_,_,.pointer (some ⟨h + 1, 0, none⟩),_,_,_,.int .i64 (k : Int),_,_,_,_,_,_,_,_,_,_,_,_,_,_,_,_,_,_,_,_,_,_,_,_,_,_,_,_,_,_,_,_,_,_,_,_,_,_,_,_,_,_,_,_,_,_,_,_,_,_,_,_,.pointer (some ⟨h + 1, 0, none⟩),.slice (some ⟨b0, o0, none⟩) n1 c1,.int .i64 (k : Int),.pointer (some ⟨b0, o0 + k * 11, none⟩),.pointer (some ⟨b0, o0 + k * 11, none⟩),.agg (EC p.x),.slice (some ⟨b0, o0, none⟩) n1 c1,.int .i64 (k : Int),.pointer (some ⟨b0, o0 + k * 11, none⟩),_,_,_,_,_,_,_,_,_,_,_,_,_,_,_,_,_,_,_,_,_,_,_,_,_,_,_,_,_,_,_,_,_,_,_,_,_,_,_,_,_,_,_,_,_,_,_,_,_,_,_,_,_,_,_,_,_,_,_,_,_,_,_,_,_,_,_,_,_,_,_,_,_,_,_,_,_,_], []⟩ _
      refine wpAnyH_take (i := 9) (v := .pointer (some ⟨b0, o0 + k * 11 + 10, none⟩)) rfl (by kernel_rfl) (by kernel_rfl) (by kernel_rfl) (fun _ _ _ h => h) (Or.inl ⟨by rfl, ?_⟩) hHeld ?_
      · intro W hW; (try dsimp only at hW); go_simp
      change wpAnyH _ _ _ _ _ _ _ ⟨#[_,_,.slice (some ⟨b0, o0, none⟩) n1 c1,_,_,_,_,_,.pointer (some ⟨h + 1, 0, none⟩),_,_,_,.int .i64 (k : Int),_,_,_,_,_,_,_,_,_,_,_,_,_,_,_,_,_,_,_,_,_,_,_,_,_,_,_,_,_,_,_,_,_,_,_,_,_,_,_,_,_,_,_,_,_,_,_,_,_,_,_,_,.pointer (some ⟨h + 1, 0, none⟩),.slice (some ⟨b0, o0, none⟩) n1 c1,.int .i64 (k : Int),.pointer (some ⟨b0, o0 + k * 11, none⟩),.pointer (some ⟨b0, o0 + k * 11, none⟩),.agg (EC p.x),.slice (some ⟨b0, o0, none⟩) n1 c1,.int .i64 (k : Int),.pointer (some ⟨b0, o0 + k * 11, none⟩),.pointer (some ⟨b0, o0 + k * 11 + 10, none⟩),_,_,_,_,_,_,_,_,_,_,_,_,_,_,_,_,_,_,_,_,_,_,_,_,_,_,_,_,_,_,_,_,_,_,_,_,_,_,_,_,_,_,_,_,_,_,_,_,_,_,_,_,_,_,_,_,_,_,_,_,_,_,_,_,_,_,_,_,_,_,_,_,_,_,_,_,_], []⟩ _
      refine wpAnyH_take (i := 10) (v := .bool p.g) rfl (by kernel_rfl) (by kernel_rfl) (by kernel_rfl) (fun _ _ _ h => h) (Or.inl ⟨by rfl, ?_⟩) hHeld ?_
      · intro W hW; (try dsimp only at hW); have hc := rng_cell hW (show (pcl p)[10]? = some (.bool p.g) from rfl); clear hW; go_simp
      change wpAnyH _ _ _ _ _ _ _ ⟨#[_,_,.slice (some ⟨b0, o0, none⟩) n1 c1,_,_,_,_,_,.pointer (some ⟨h + 1, 0, none⟩),_,_,_,.int .i64 (k : Int),_,_,_,_,_,_,_,_,_,_,_,_,_,_,_,_,_,_,_,_,_,_,_,_,_,_,_,_,_,_,_,_,_,_,_,_,_,_,_,_,_,_,_,_,_,_,_,_,_,_,_,_,.pointer (some ⟨h + 1, 0, none⟩),.slice (some ⟨b0, o0, none⟩) n1 c1,.int .i64 (k : Int),.pointer (some ⟨b0, o0 + k * 11, none⟩),.pointer (some ⟨b0, o0 + k * 11, none⟩),.agg (EC p.x),.slice (some ⟨b0, o0, none⟩) n1 c1,.int .i64 (k : Int),.pointer (some ⟨b0, o0 + k * 11, none⟩),.pointer (some ⟨b0, o0 + k * 11 + 10, none⟩),.bool p.g,_,_,_,_,_,_,_,_,_,_,_,_,_,_,_,_,_,_,_,_,_,_,_,_,_,_,_,_,_,_,_,_,_,_,_,_,_,_,_,_,_,_,_,_,_,_,_,_,_,_,_,_,_,_,_,_,_,_,_,_,_,_,_,_,_,_,_,_,_,_,_,_,_,_,_,_], []⟩ _
      refine wpAnyH_ready (rs := [11]) (by kernel_rfl) (by simp) ?_
      refine AllReadyH.cons rfl (fun K hK => ?_) AllReadyH.nil
      go_simp
      refine (put13q h x pl cs p.x p.g ((k : Int) + 1) _ HP1.out (by rw [HCL.out]; omega) (by rw [HCL.out])).mono ?_
      rintro e u1 ⟨rfl, ⟨pl', cs', ecs, lcs, P1⟩, M1⟩
      have hhs : h ≤ u0.heap.size := by have := HP1.out.lt; omega
      have hb1 := M1.under (Nat.le_refl h) hhs
      refine hK.out _ _ (fun i v hi => (hb1.cell (p := ⟨b0, o0 + k * 11 + i, none⟩) (by have := HBG.out; have := HGH.out; show b0 < h; omega)).trans (hHeld i v hi)) (fun hHeld => ?_)
      clear hK K
      replace HB := hide (HB.out.trans (hb1.mono (by have := HGH.out; omega)))
      replace HS := hide (HS.out.below (hb1.mono (by have := HGH.out; omega)))
      replace HX := hide (HX.out.below (by have := HGH.out; omega) hb1)
      replace HET := hide (HET.out.mid M1 (Nat.le_refl _))
      replace HEN := hide (HEN.out.mid M1 (Nat.le_refl _))
      have HPA := hide P1
      have HLA : Hid (cs'.length = k + 1) := hide (by rw [lcs, HCL.out])
      have HCA : Hid (cs' = lst (ss.take (k + 1)) 0) := hide (by rw [ecs, HTK.out, HCS.out]; simp)
      clear P1 M1 hb1 ecs lcs HP1 HCL HCS hhs
      change wpAnyH _ _ _ _ _ _ _ ⟨#[_,_,.slice (some ⟨b0, o0, none⟩) n1 c1,_,_,_,_,_,.pointer (some ⟨h + 1, 0, none⟩),_,_,_,.int .i64 (k : Int),_,_,_,_,_,_,_,_,_,_,_,_,_,_,_,_,_,_,_,_,_,_,_,_,_,_,_,_,_,_,_,_,_,_,_,_,_,_,_,_,_,_,_,_,_,_,_,_,_,_,_,_,.pointer (some ⟨h + 1, 0, none⟩),.slice (some ⟨b0, o0, none⟩) n1 c1,.int .i64 (k : Int),.pointer (some ⟨b0, o0 + k * 11, none⟩),.pointer (some ⟨b0, o0 + k * 11, none⟩),.agg (EC p.x),.slice (some ⟨b0, o0, none⟩) n1 c1,.int .i64 (k : Int),.pointer (some ⟨b0, o0 + k * 11, none⟩),.pointer (some ⟨b0, o0 + k * 11 + 10, none⟩),.bool p.g,.tuple #[.int .i64 ((k : Int) + 1), .int .i64 0],_,_,_,_,_,_,_,_,_,_,_,_,_,_,_,_,_,_,_,_,_,_,_,_,_,_,_,_,_,_,_,_,_,_,_,_,_,_,_,_,_,_,_,_,_,_,_,_,_,_,_,_,_,_,_,_,_,_,_,_,_,_,_,_,_,_,_,_,_,_,_,_,_,_,_], []⟩ _
      refine wpAnyH_take (i := 12) (v := .tuple #[.int .i64 ((k : Int) + 1), .int .i64 0]) rfl (by kernel_rfl) (by kernel_rfl) (by kernel_rfl) (fun _ _ _ h => h) (Or.inl ⟨by rfl, ?_⟩) hHeld ?_
      · intro W hW; (try dsimp only at hW); go_simp
      change wpAnyH _ _ _ _ _ _ _ ⟨#[_,_,.slice (some ⟨b0, o0, none⟩) n1 c1,_,_,_,_,_,.pointer (some ⟨h + 1, 0, none⟩),_,_,_,.int .i64 (k : Int),_,_,_,_,_,_,_,_,_,_,_,_,_,_,_,_,_,_,_,_,_,_,_,_,_,_,_,_,_,_,_,_,_,_,_,_,_,_,_,_,_,_,_,_,_,_,_,_,_,_,_,.tuple #[.int .i64 ((k : Int) + 1), .int .i64 0],.pointer (some ⟨h + 1, 0, none⟩),.slice (some ⟨b0, o0, none⟩) n1 c1,.int .i64 (k : Int),.pointer (some ⟨b0, o0 + k * 11, none⟩),.pointer (some ⟨b0, o0 + k * 11, none⟩),.agg (EC p.x),.slice (some ⟨b0, o0, none⟩) n1 c1,.int .i64 (k : Int),.pointer (some ⟨b0, o0 + k * 11, none⟩),.pointer (some ⟨b0, o0 + k * 11 + 10, none⟩),.bool p.g,.tuple #[.int .i64 ((k : Int) + 1), .int .i64 0],_,_,_,_,_,_,_,_,_,_,_,_,_,_,_,_,_,_,_,_,_,_,_,_,_,_,_,_,_,_,_,_,_,_,_,_,_,_,_,_,_,_,_,_,_,_,_,_,_,_,_,_,_,_,_,_,_,_,_,_,_,_,_,_,_,_,_,_,_,_,_,_,_,_,_], []⟩ _
      refine wpAnyH_take (i := 13) (v := .int .i64 ((k : Int) + 1)) rfl (by kernel_rfl) (by kernel_rfl) (by kernel_rfl) (fun _ _ _ h => h) (Or.inl ⟨by rfl, ?_⟩) hHeld ?_
      · intro W hW; (try dsimp only at hW); go_simp
      change wpAnyH _ _ _ _ _ _ _ ⟨#[_,_,.slice (some ⟨b0, o0, none⟩) n1 c1,_,_,_,_,_,.pointer (some ⟨h + 1, 0, none⟩),_,_,_,.int .i64 (k : Int),_,_,_,_,_,_,_,_,_,_,_,_,_,_,_,_,_,_,_,_,_,_,_,_,_,_,_,_,_,_,_,_,_,_,_,_,_,_,_,_,_,_,_,_,_,_,_,_,_,_,_,.tuple #[.int .i64 ((k : Int) + 1), .int .i64 0],.pointer (some ⟨h + 1, 0, none⟩),.slice (some ⟨b0, o0, none⟩) n1 c1,.int .i64 (k : Int),.pointer (some ⟨b0, o0 + k * 11, none⟩),.pointer (some ⟨b0, o0 + k * 11, none⟩),.agg (EC p.x),.slice (some ⟨b0, o0, none⟩) n1 c1,.int .i64 (k : Int),.pointer (some ⟨b0, o0 + k * 11, none⟩),.pointer (some ⟨b0, o0 + k * 11 + 10, none⟩),.bool p.g,.tuple #[.int .i64 ((k : Int) + 1), .int .i64 0],.int .i64 ((k : Int) + 1),_,_,_,_,_,_,_,_,_,_,_,_,_,_,_,_,_,_,_,_,_,_,_,_,_,_,_,_,_,_,_,_,_,_,_,_,_,_,_,_,_,_,_,_,_,_,_,_,_,_,_,_,_,_,_,_,_,_,_,_,_,_,_,_,_,_,_,_,_,_,_,_,_,_], []⟩ _
      refine wpAnyH_take (i := 14) (v := .int .i64 0) rfl (by kernel_rfl) (by kernel_rfl) (by kernel_rfl) (fun _ _ _ h => h) (Or.inl ⟨by rfl, ?_⟩) hHeld ?_
      · intro W hW; (try dsimp only at hW); go_simp
      change wpAnyH _ _ _ _ _ _ _ ⟨#[_,_,.slice (some ⟨b0, o0, none⟩) n1 c1,_,_,_,_,_,.pointer (some ⟨h + 1, 0, none⟩),_,_,_,.int .i64 (k : Int),_,_,_,_,_,_,_,_,_,_,_,_,_,_,_,_,_,_,_,_,_,_,_,_,_,_,_,_,_,_,_,_,_,_,_,_,_,_,_,_,_,_,_,_,_,_,_,_,_,_,_,.tuple #[.int .i64 ((k : Int) + 1), .int .i64 0],.pointer (some ⟨h + 1, 0, none⟩),.slice (some ⟨b0, o0, none⟩) n1 c1,.int .i64 (k : Int),.pointer (some ⟨b0, o0 + k * 11, none⟩),.pointer (some ⟨b0, o0 + k * 11, none⟩),.agg (EC p.x),.slice (some ⟨b0, o0, none⟩) n1 c1,.int .i64 (k : Int),.pointer (some ⟨b0, o0 + k * 11, none⟩),.pointer (some ⟨b0, o0 + k * 11 + 10, none⟩),.bool p.g,.tuple #[.int .i64 ((k : Int) + 1), .int .i64 0],.int .i64 ((k : Int) + 1),.int .i64 0,_,_,_,_,_,_,_,_,_,_,_,_,_,_,_,_,_,_,_,_,_,_,_,_,_,_,_,_,_,_,_,_,_,_,_,_,_,_,_,_,_,_,_,_,_,_,_,_,_,_,_,_,_,_,_,_,_,_,_,_,_,_,_,_,_,_,_,_,_,_,_,_,_], []⟩ _
      refine wpAnyH_take (i := 15) (v := .int .i64 ((k : Int) + 1)) rfl (by kernel_rfl) (by kernel_rfl) (by kernel_rfl) (fun _ _ _ h => h) (Or.inl ⟨by rfl, ?_⟩) hHeld ?_
      · intro W hW; (try dsimp only at hW); go_simp
      change wpAnyH _ _ _ _ _ _ _ ⟨#[_,_,.slice (some ⟨b0, o0, none⟩) n1 c1,_,_,_,_,_,.pointer (some ⟨h + 1, 0, none⟩),_,_,_,.int .i64 (k : Int),.int .i64 ((k : Int) + 1),_,_,_,_,_,_,_,_,_,_,_,_,_,_,_,_,_,_,_,_,_,_,_,_,_,_,_,_,_,_,_,_,_,_,_,_,_,_,_,_,_,_,_,_,_,_,_,_,_,_,.tuple #[.int .i64 ((k : Int) + 1), .int .i64 0],.pointer (some ⟨h + 1, 0, none⟩),.slice (some ⟨b0, o0, none⟩) n1 c1,.int .i64 (k : Int),.pointer (some ⟨b0, o0 + k * 11, none⟩),.pointer (some ⟨b0, o0 + k * 11, none⟩),.agg (EC p.x),.slice (some ⟨b0, o0, none⟩) n1 c1,.int .i64 (k : Int),.pointer (some ⟨b0, o0 + k * 11, none⟩),.pointer (some ⟨b0, o0 + k * 11 + 10, none⟩),.bool p.g,.tuple #[.int .i64 ((k : Int) + 1), .int .i64 0],.int .i64 ((k : Int) + 1),.int .i64 0,_,_,_,_,_,_,_,_,_,_,_,_,_,_,_,_,_,_,_,_,_,_,_,_,_,_,_,_,_,_,_,_,_,_,_,_,_,_,_,_,_,_,_,_,_,_,_,_,_,_,_,_,_,_,_,_,_,_,_,_,_,_,_,_,_,_,_,_,_,_,_,_,_], []⟩ _
      refine wpAnyH_take (i := 16) (v := .int .i64 0) rfl (by kernel_rfl) (by kernel_rfl) (by kernel_rfl) (fun _ _ _ h => h) (Or.inl ⟨by rfl, ?_⟩) hHeld ?_
      · intro W hW; (try dsimp only at hW); go_simp
      change wpAnyH _ _ _ _ _ _ _ ⟨#[_,_,.slice (some ⟨b0, o0, none⟩) n1 c1,_,_,_,_,_,.pointer (some ⟨h + 1, 0, none⟩),_,_,_,.int .i64 (k : Int),.int .i64 ((k : Int) + 1),.int .i64 0,_,_,_,_,_,_,_,_,_,_,_,_,_,_,_,_,_,_,_,_,_,_,_,_,_,_,_,_,_,_,_,_,_,_,_,_,_,_,_,_,_,_,_,_,_,_,_,_,_,.tuple #[.int .i64 ((k : Int) + 1), .int .i64 0],.pointer (some ⟨h + 1, 0, none⟩),.slice (some ⟨b0, o0, none⟩) n1 c1,.int .i64 (k : Int),.pointer (some ⟨b0, o0 + k * 11, none⟩),.pointer (some ⟨b0, o0 + k * 11, none⟩),.agg (EC p.x),.slice (some ⟨b0, o0, none⟩) n1 c1,.int .i64 (k : Int),.pointer (some ⟨b0, o0 + k * 11, none⟩),.pointer (some ⟨b0, o0 + k * 11 + 10, none⟩),.bool p.g,.tuple #[.int .i64 ((k : Int) + 1), .int .i64 0],.int .i64 ((k : Int) + 1),.int .i64 0,_,_,_,_,_,_,_,_,_,_,_,_,_,_,_,_,_,_,_,_,_,_,_,_,_,_,_,_,_,_,_,_,_,_,_,_,_,_,_,_,_,_,_,_,_,_,_,_,_,_,_,_,_,_,_,_,_,_,_,_,_,_,_,_,_,_,_,_,_,_,_,_,_], []⟩ _
      have HRA := hide hHeld
      clear hHeld
      refine wpAnyH_done (by kernel_rfl) ?_ _
      go_wp2_with fail
      refine wp_region_held_drew (S := fun w' => w'.rangeAt b0 (o0 + k * 11) (pcl p)) (by kernel_rfl) HRA.out (fun hHeld => ?_)
      clear HRA
      replace HPA : Hid (PJ u1.drew h x pl' cs') := hide (HPA.out.keep (fun _ _ _ => rfl))
      replace HB := hide (belowOn' HB.out)
      replace HS := hide HS.out.drew
      replace HX := hide HX.out.drew
      replace HET : Hid (Ets u1.drew (h + 2) aoT TN.length cT TN) := hide (HET.out.on ⟨rfl, rfl, rfl, Nat.le_refl _, fun _ _ => rfl⟩)
      replace HEN : Hid (Ets u1.drew (h + 2) aoN NW.length cN NW) := hide (HEN.out.on ⟨rfl, rfl, rfl, Nat.le_refl _, fun _ _ => rfl⟩)
      generalize u1.drew = u2 at *
      refine wpAnyH_take (i := 0) (v := .slice aoN NW.length cN) rfl (by kernel_rfl) (by kernel_rfl) (by kernel_rfl) (fun _ _ _ h => h) (Or.inl ⟨by rfl, ?_⟩) hHeld ?_
      · intro W hW; (try dsimp only at hW); go_simp
      change wpAnyH _ _ _ _ _ _ _ ⟨#[_,_,.slice (some ⟨b0, o0, none⟩) n1 c1,_,_,_,_,_,.pointer (some ⟨h + 1, 0, none⟩),_,_,.slice aoN NW.length cN,.int .i64 (k : Int),.int .i64 ((k : Int) + 1),_,_,_,_,_,_,_,_,_,_,_,_,_,_,_,_,_,_,_,_,_,_,_,_,_,_,_,_,_,_,_,_,_,_,_,_,_,_,_,_,_,_,_,_,_,_,_,_,_,_,_,_,_,_,_,_,_,_,_,_,_,_,_,_,_,_,_,_,_,_,_,_,_,.slice aoN NW.length cN,_,_,_,_,_,_,_,_,_,_,_,_,_,_,_,_,_,_,_,_,_,_,_,_,_,_,_,_,_,_,_,_,_,_,_,_,_,_,_,_,_,_,_,_,_,_,_,_,_,_,_,_,_,_,_,_,_,_,_,_,_,_,_,_], []⟩ _
      refine wpAnyH_take (i := 1) (v := .int .i64 ((k : Int) + 1)) rfl (by kernel_rfl) (by kernel_rfl) (by kernel_rfl) (fun _ _ _ h => h) (Or.inl ⟨by rfl, ?_⟩) hHeld ?_
      · intro W hW; (try dsimp only at hW); go_simp
      change wpAnyH _ _ _ _ _ _ _ ⟨#[_,_,.slice (some ⟨b0, o0, none⟩) n1 c1,_,_,_,_,_,.pointer (some ⟨h + 1, 0, none⟩),_,_,.slice aoN NW.length cN,.int .i64 (k : Int),.int .i64 ((k : Int) + 1),_,_,_,_,_,_,_,_,_,_,_,_,_,_,_,_,_,_,_,_,_,_,_,_,_,_,_,_,_,_,_,_,_,_,_,_,_,_,_,_,_,_,_,_,_,_,_,_,_,_,_,_,_,_,_,_,_,_,_,_,_,_,_,_,_,_,_,_,_,_,_,_,_,.slice aoN NW.length cN,.int .i64 ((k : Int) + 1),_,_,_,_,_,_,_,_,_,_,_,_,_,_,_,_,_,_,_,_,_,_,_,_,_,_,_,_,_,_,_,_,_,_,_,_,_,_,_,_,_,_,_,_,_,_,_,_,_,_,_,_,_,_,_,_,_,_,_,_,_,_,_], []⟩ _
      refine wpAnyH_take (i := 2) (v := .slice (some ⟨b0, o0, none⟩) n1 c1) rfl (by kernel_rfl) (by kernel_rfl) (by kernel_rfl) (fun _ _ _ h => h) (Or.inl ⟨by rfl, ?_⟩) hHeld ?_
      · intro W hW; (try dsimp only at hW); go_simp
      change wpAnyH _ _ _ _ _ _ _ ⟨#[_,_,.slice (some ⟨b0, o0, none⟩) n1 c1,_,_,_,_,_,.pointer (some ⟨h + 1, 0, none⟩),_,_,.slice aoN NW.length cN,.int .i64 (k : Int),.int .i64 ((k : Int) + 1),_,_,_,_,_,_,_,_,_,_,_,_,_,_,_,_,_,_,_,_,_,_,_,_,_,_,_,_,_,_,_,_,_,_,_,_,_,_,_,_,_,_,_,_,_,_,_,_,_,_,_,_,_,_,_,_,_,_,_,_,_,_,_,_,_,_,_,_,_,_,_,_,_,.slice aoN NW.length cN,.int .i64 ((k : Int) + 1),.slice (some ⟨b0, o0, none⟩) n1 c1,_,_,_,_,_,_,_,_,_,_,_,_,_,_,_,_,_,_,_,_,_,_,_,_,_,_,_,_,_,_,_,_,_,_,_,_,_,_,_,_,_,_,_,_,_,_,_,_,_,_,_,_,_,_,_,_,_,_,_,_,_,_], []⟩ _
      refine wpAnyH_take (i := 3) (v := .int .i64 (k : Int)) rfl (by kernel_rfl) (by kernel_rfl) (by kernel_rfl) (fun _ _ _ h => h) (Or.inl ⟨by rfl, ?_⟩) hHeld ?_
      · intro W hW; (try dsimp only at hW); go_simp
      change wpAnyH _ _ _ _ _ _ _ ⟨#[_,_,.slice (some ⟨b0, o0, none⟩) n1 c1,_,_,_,_,_,.pointer (some ⟨h + 1, 0, none⟩),_,_,.slice aoN NW.length cN,.int .i64 (k : Int),.int .i64 ((k : Int) + 1),_,_,_,_,_,_,_,_,_,_,_,_,_,_,_,_,_,_,_,_,_,_,_,_,_,_,_,_,_,_,_,_,_,_,_,_,_,_,_,_,_,_,_,_,_,_,_,_,_,_,_,_,_,_,_,_,_,_,_,_,_,_,_,_,_,_,_,_,_,_,_,_,_,.slice aoN NW.length cN,.int .i64 ((k : Int) + 1),.slice (some ⟨b0, o0, none⟩) n1 c1,.int .i64 (k : Int),_,_,_,_,_,_,_,_,_,_,_,_,_,_,_,_,_,_,_,_,_,_,_,_,_,_,_,_,_,_,_,_,_,_,_,_,_,_,_,_,_,_,_,_,_,_,_,_,_,_,_,_,_,_,_,_,_,_,_,_,_], []⟩ _
      refine wpAnyH_take (i := 4) (v := .pointer (some ⟨b0, o0 + k * 11, none⟩)) rfl (by kernel_rfl) (by kernel_rfl) (by kernel_rfl) (fun _ _ _ h => h) (Or.inl ⟨by rfl, ?_⟩) hHeld ?_
      · intro W hW; (try dsimp only at hW); go_simp
      change wpAnyH _ _ _ _ _ _ _ ⟨#[_,_,.slice (some ⟨b0, o0, none⟩) n1 c1,_,_,_,_,_,.pointer (some ⟨h + 1, 0, none⟩),_,_,.slice aoN NW.length cN,.int .i64 (k : Int),.int .i64 ((k : Int) + 1),_,_,_,_,_,_,_,_,_,_,_,_,_,_,_,_,_,_,_,_,_,_,_,_,_,_,_,_,_,_,_,_,_,_,_,_,_,_,_,_,_,_,_,_,_,_,_,_,_,_,_,_,_,_,_,_,_,_,_,_,_,_,_,_,_,_,_,_,_,_,_,_,_,.slice aoN NW.length cN,.int .i64 ((k : Int) + 1),.slice (some ⟨b0, o0, none⟩) n1 c1,.int .i64 (k : Int),.pointer (some ⟨b0, o0 + k * 11, none⟩),_,_,_,_,_,_,_,_,_,_,_,_,_,_,_,_,_,_,_,_,_,_,_,_,_,_,_,_,_,_,_,_,_,_,_,_,_,_,_,_,_,_,_,_,_,_,_,_,_,_,_,_,_,_,_,_,_,_,_,_], []⟩ _
      refine wpAnyH_take (i := 5) (v := .pointer (some ⟨b0, o0 + k * 11, none⟩)) rfl (by kernel_rfl) (by kernel_rfl) (by kernel_rfl) (fun _ _ _ h => h) (Or.inl ⟨by rfl, ?_⟩) hHeld ?_
      · intro W hW; (try dsimp only at hW); go_simp
      change wpAnyH _ _ _ _ _ _ _ ⟨#[_,_,.slice (some ⟨b0, o0, none⟩) n1 c1,_,_,_,_,_,.pointer (some ⟨h + 1, 0, none⟩),_,_,.slice aoN NW.length cN,.int .i64 (k : Int),.int .i64 ((k : Int) + 1),_,_,_,_,_,_,_,_,_,_,_,_,_,_,_,_,_,_,_,_,_,_,_,_,_,_,_,_,_,_,_,_,_,_,_,_,_,_,_,_,_,_,_,_,_,_,_,_,_,_,_,_,_,_,_,_,_,_,_,_,_,_,_,_,_,_,_,_,_,_,_,_,_,.slice aoN NW.length cN,.int .i64 ((k : Int) + 1),.slice (some ⟨b0, o0, none⟩) n1 c1,.int .i64 (k : Int),.pointer (some ⟨b0, o0 + k * 11, none⟩),.pointer (some ⟨b0, o0 + k * 11, none⟩),_,_,_,_,_,_,_,_,_,_,_,_,_,_,_,_,_,_,_,_,_,_,_,_,_,_,_,_,_,_,_,_,_,_,_,_,_,_,_,_,_,_,_,_,_,_,_,_,_,_,_,_,_,_,_,_,_,_,_], []⟩ _
      refine wpAnyH_take (i := 6) (v := .agg (EC p.x)) rfl (by kernel_rfl) (by kernel_rfl) (by kernel_rfl) (fun _ _ _ h => h) (yieldsIf_load_mid (by rfl) 36 (.tmp 92) rfl b0 (o0 + k * 11) rfl (ecl p.x) _ (fun W hW => stp_ent hW) Try.underlying36 rfl Try.size36) hHeld ?_
      change wpAnyH _ _ _ _ _ _ _ ⟨#[_,_,.slice (some ⟨b0, o0, none⟩) n1 c1,_,_,_,_,_,.pointer (some ⟨h + 1, 0, none⟩),_,_,.slice aoN NW.length cN,.int .i64 (k : Int),.int .i64 ((k : Int) + 1),_,_,_,_,_,_,_,_,_,_,_,_,_,_,_,_,_,_,_,_,_,_,_,_,_,_,_,_,_,_,_,_,_,_,_,_,_,_,_,_,_,_,_,_,_,_,_,_,_,_,_,_,_,_,_,_,_,_,_,_,_,_,_,_,_,_,_,_,_,_,_,_,_,.slice aoN NW.length cN,.int .i64 ((k : Int) + 1),.slice (some ⟨b0, o0, none⟩) n1 c1,.int .i64 (k : Int),.pointer (some ⟨b0, o0 + k * 11, none⟩),.pointer (some ⟨b0, o0 + k * 11, none⟩),.agg (EC p.x),_,_,_,_,_,_,_,_,_,_,_,_,_,_,_,_,_,_,_,_,_,_,_,_,_,_,_,_,_,_,_,_,_,_,_,_,_,_,_,_,_,_,_,_,_,_,_,_,_,_,_,_,_,_,_,_,_,_], []⟩ _
      refine wpAnyH_take (i := 7) (v := .slice (some ⟨b0, o0, none⟩) n1 c1) rfl (by kernel_rfl) (by kernel_rfl) (by kernel_rfl) (fun _ _ _ h => h) (Or.inl ⟨by rfl, ?_⟩) hHeld ?_
      · intro W hW; (try dsimp only at hW); go_simp
      change wpAnyH _ _ _ _ _ _ _ ⟨#[_,_,.slice (some ⟨b0, o0, none⟩) n1 c1,_,_,_,_,_,.pointer (some ⟨h + 1, 0, none⟩),_,_,.slice aoN NW.length cN,.int .i64 (k : Int),.int .i64 ((k : Int) + 1),_,_,_,_,_,_,_,_,_,_,_,_,_,_,_,_,_,_,_,_,_,_,_,_,_,_,_,_,_,_,_,_,_,_,_,_,_,_,_,_,_,_,_,_,_,_,_,_,_,_,_,_,_,_,_,_,_,_,_,_,_,_,_,_,_,_,_,_,_,_,_,_,_,.slice aoN NW.length cN,.int .i64 ((k : Int) + 1),.slice (some ⟨b0, o0, none⟩) n1 c1,.int .i64 (k : Int),.pointer (some ⟨b0, o0 + k * 11, none⟩),.pointer (some ⟨b0, o0 + k * 11, none⟩),.agg (EC p.x),.slice (some ⟨b0, o0, none⟩) n1 c1,_,_,_,_,_,_,_,_,_,_,_,_,_,_,_,_,_,_,_,_,_,_,_,_,_,_,_,_,_,_,_,_,_,_,_,_,_,_,_,_,_,_,_,_,_,_,_,_,_,_,_,_,_,_,_,_,_], []⟩ _
      refine wpAnyH_take (i := 8) (v := .int .i64 (k : Int)) rfl (by kernel_rfl) (by kernel_rfl) (by kernel_rfl) (fun _ _ _ h => h) (Or.inl ⟨by rfl, ?_⟩) hHeld ?_
      · intro W hW; (try dsimp only at hW); go_simp
      change wpAnyH _ _ _ _ _ _ _ ⟨#[_,_,.slice (some ⟨b0, o0, none⟩) n1 c1,_,_,_,_,_,.pointer (some ⟨h + 1, 0, none⟩),_,_,.slice aoN NW.length cN,.int .i64 (k : Int),.int .i64 ((k : Int) + 1),_,_,_,_,_,_,_,_,_,_,_,_,_,_,_,_,_,_,_,_,_,_,_,_,_,_,_,_,_,_,_,_,_,_,_,_,_,_,_,_,_,_,_,_,_,_,_,_,_,_,_,_,_,_,_,_,_,_,_,_,_,_,_,_,_,_,_,_,_,_,_,_,_,.slice aoN NW.length cN,.int .i64 ((k : Int) + 1),.slice (some ⟨b0, o0, none⟩) n1 c1,.int .i64 (k : Int),.pointer (some ⟨b0, o0 + k * 11, none⟩),.pointer (some ⟨b0, o0 + k * 11, none⟩),.agg (EC p.x),.slice (some ⟨b0, o0, none⟩) n1 c1,.int .i64 (k : Int),_,_,_,_,_,_,_,_,_,_,_,_,_,_,_,_,_,_,_,_,_,_,_,_,_,_,_,_,_,_,_,_,_,_,_,_,_,_,_,_,_,_,_,_,_,_,_,_,_,_,_,_,_,_,_,_], []⟩ _
      refine wpAnyH_take (i := 9) (v := .pointer (some ⟨b0, o0 + k * 11, none⟩)) rfl (by kernel_rfl) (by kernel_rfl) (by kernel_rfl) (fun _ _ _ h => h) (Or.inl ⟨by rfl, ?_⟩) hHeld ?_
      · intro W hW; (try dsimp only at hW); go_simp
      change wpAnyH _ _ _ _ _ _ _ ⟨#[_,_,.slice (some ⟨b0, o0, none⟩) n1 c1,_,_,_,_,_,.pointer (some ⟨h + 1, 0, none⟩),_,_,.slice aoN NW.length cN,.int .i64 (k : Int),.int .i64 ((k : Int) + 1),_,_,_,_,_,_,_,_,_,_,_,_,_,_,_,_,_,_,_,_,_,_,_,_,_,_,_,_,_,_,_,_,_,_,_,_,_,_,_,_,_,_,_,_,_,_,_,_,_,_,_,_,_,_,_,_,_,_,_,_,_,_,_,_,_,_,_,_,_,_,_,_,_,.slice aoN NW.length cN,.int .i64 ((k : Int) + 1),.slice (some ⟨b0, o0, none⟩) n1 c1,.int .i64 (k : Int),.pointer (some ⟨b0, o0 + k * 11, none⟩),.pointer (some ⟨b0, o0 + k * 11, none⟩),.agg (EC p.x),.slice (some ⟨b0, o0, none⟩) n1 c1,.int .i64 (k : Int),.pointer (some ⟨b0, o0 + k * 11, none⟩),_,_,_,_,_,_,_,_,_,_,_,_,_,_,_,_,_,_,_,_,_,_,_,_,_,_,_,_,_,_,_,_,_,_,_,_,_,_,_,_,_,_,_,_,_,_,_,_,_,_,_,_,_,_,_], []⟩ _
      refine wpAnyH_take (i := 10) (v := .pointer (some ⟨b0, o0 + k * 11 + 10, none⟩)) rfl (by kernel_rfl) (by kernel_rfl) (by kernel_rfl) (fun _ _ _ h => h) (Or.inl ⟨by rfl, ?_⟩) hHeld ?_
      · intro W hW; (try dsimp only at hW); go_simp
      change wpAnyH _ _ _ _ _ _ _ ⟨#[_,_,.slice (some ⟨b0, o0, none⟩) n1 c1,_,_,_,_,_,.pointer (some ⟨h + 1, 0, none⟩),_,_,.slice aoN NW.length cN,.int .i64 (k : Int),.int .i64 ((k : Int) + 1),_,_,_,_,_,_,_,_,_,_,_,_,_,_,_,_,_,_,_,_,_,_,_,_,_,_,_,_,_,_,_,_,_,_,_,_,_,_,_,_,_,_,_,_,_,_,_,_,_,_,_,_,_,_,_,_,_,_,_,_,_,_,_,_,_,_,_,_,_,_,_,_,_,.slice aoN NW.length cN,.int .i64 ((k : Int) + 1),.slice (some ⟨b0, o0, none⟩) n1 c1,.int .i64 (k : Int),.pointer (some ⟨b0, o0 + k * 11, none⟩),.pointer (some ⟨b0, o0 + k * 11, none⟩),.agg (EC p.x),.slice (some ⟨b0, o0, none⟩) n1 c1,.int .i64 (k : Int),.pointer (some ⟨b0, o0 + k * 11, none⟩),.pointer (some ⟨b0, o0 + k * 11 + 10, none⟩),_,_,_,_,_,_,_,_,_,_,_,_,_,_,_,_,_,_,_,_,_,_,_,_,_,_,_,_,_,_,_,_,_,_,_,_,_,_,_,_,_,_,_,_,_,_,_,_,_,_,_,_,_,_], []⟩ _
      refine wpAnyH_take (i := 11) (v := .bool p.g) rfl (by kernel_rfl) (by kernel_rfl) (by kernel_rfl) (fun _ _ _ h => h) (Or.inl ⟨by rfl, ?_⟩) hHeld ?_
      · intro W hW; (try dsimp only at hW); have hc := rng_cell hW (show (pcl p)[10]? = some (.bool p.g) from rfl); clear hW; go_simp
      change wpAnyH _ _ _ _ _ _ _ ⟨#[_,_,.slice (some ⟨b0, o0, none⟩) n1 c1,_,_,_,_,_,.pointer (some ⟨h + 1, 0, none⟩),_,_,.slice aoN NW.length cN,.int .i64 (k : Int),.int .i64 ((k : Int) + 1),_,_,_,_,_,_,_,_,_,_,_,_,_,_,_,_,_,_,_,_,_,_,_,_,_,_,_,_,_,_,_,_,_,_,_,_,_,_,_,_,_,_,_,_,_,_,_,_,_,_,_,_,_,_,_,_,_,_,_,_,_,_,_,_,_,_,_,_,_,_,_,_,_,.slice aoN NW.length cN,.int .i64 ((k : Int) + 1),.slice (some ⟨b0, o0, none⟩) n1 c1,.int .i64 (k : Int),.pointer (some ⟨b0, o0 + k * 11, none⟩),.pointer (some ⟨b0, o0 + k * 11, none⟩),.agg (EC p.x),.slice (some ⟨b0, o0, none⟩) n1 c1,.int .i64 (k : Int),.pointer (some ⟨b0, o0 + k * 11, none⟩),.pointer (some ⟨b0, o0 + k * 11 + 10, none⟩),.bool p.g,_,_,_,_,_,_,_,_,_,_,_,_,_,_,_,_,_,_,_,_,_,_,_,_,_,_,_,_,_,_,_,_,_,_,_,_,_,_,_,_,_,_,_,_,_,_,_,_,_,_,_,_,_], []⟩ _
      refine wpAnyH_take (i := 12) (v := .agg (CC ⟨(k : Int) + 1, p.x, p.g⟩)) rfl (by kernel_rfl) (by kernel_rfl) (by kernel_rfl) (fun _ _ _ h => h) (Or.inl ⟨by rfl, ?_⟩) hHeld ?_
      · intro W hW; (try dsimp only at hW); clear hW; exact exec_b54 ((k : Int) + 1) p.x p.g (.tmp 88) (.tmp 93) (.tmp 98) rfl rfl rfl rfl W
      change wpAnyH _ _ _ _ _ _ _ ⟨#[_,_,.slice (some ⟨b0, o0, none⟩) n1 c1,_,_,_,_,_,.pointer (some ⟨h + 1, 0, none⟩),_,_,.slice aoN NW.length cN,.int .i64 (k : Int),.int .i64 ((k : Int) + 1),_,_,_,_,_,_,_,_,_,_,_,_,_,_,_,_,_,_,_,_,_,_,_,_,_,_,_,_,_,_,_,_,_,_,_,_,_,_,_,_,_,_,_,_,_,_,_,_,_,_,_,_,_,_,_,_,_,_,_,_,_,_,_,_,_,_,_,_,_,_,_,_,_,.slice aoN NW.length cN,.int .i64 ((k : Int) + 1),.slice (some ⟨b0, o0, none⟩) n1 c1,.int .i64 (k : Int),.pointer (some ⟨b0, o0 + k * 11, none⟩),.pointer (some ⟨b0, o0 + k * 11, none⟩),.agg (EC p.x),.slice (some ⟨b0, o0, none⟩) n1 c1,.int .i64 (k : Int),.pointer (some ⟨b0, o0 + k * 11, none⟩),.pointer (some ⟨b0, o0 + k * 11 + 10, none⟩),.bool p.g,.agg (CC ⟨(k : Int) + 1, p.x, p.g⟩),_,_,_,_,_,_,_,_,_,_,_,_,_,_,_,_,_,_,_,_,_,_,_,_,_,_,_,_,_,_,_,_,_,_,_,_,_,_,_,_,_,_,_,_,_,_,_,_,_,_,_,_], []⟩ _
      refine wpAnyH_ready (rs := [13]) (by kernel_rfl) (by simp) ?_
      refine AllReadyH.cons rfl (fun K hK => ?_) AllReadyH.nil
      rw [if_pos (by rfl)]
      refine wp_bsC (.tmp 99) ⟨(k : Int) + 1, p.x, p.g⟩ rfl rfl ?_
      have ba := below_alloc u2 (.cells (CC ⟨(k : Int) + 1, p.x, p.g⟩) 54)
      have HONE := hide (sl_one u2 ⟨(k : Int) + 1, p.x, p.g⟩)
      have hgu : G + 1 ≤ u2.heap.size := by have := HPA.out.lt; have := HGH.out; omega
      refine hK.out _ _ (fun i v hi => (ba.cell (p := ⟨b0, o0 + k * 11 + i, none⟩) (by have := HBG.out; show b0 < u2.heap.size; omega)).trans (hHeld i v hi)) (fun hHeld => ?_)
      clear hK K
      replace HB := hide (HB.out.trans (ba.mono (by omega)))
      replace HS := hide (HS.out.below (ba.mono (by omega)))
      replace HX := hide (HX.out.on ba)
      replace HET := hide (HET.out.on ba)
      replace HEN := hide (HEN.out.on ba)
      replace HPA := hide (HPA.out.on ba)
      clear ba hgu
      obtain ⟨ku, hku⟩ : ∃ ku, ku = u2.heap.size := ⟨_, rfl⟩
      rw [← hku] at HONE ⊢
      clear hku
      generalize u2.alloc (.cells (CC ⟨(k : Int) + 1, p.x, p.g⟩) 54) = u3 at *
      change wpAnyH _ _ _ _ _ _ _ ⟨#[_,_,.slice (some ⟨b0, o0, none⟩) n1 c1,_,_,_,_,_,.pointer (some ⟨h + 1, 0, none⟩),_,_,.slice aoN NW.length cN,.int .i64 (k : Int),.int .i64 ((k : Int) + 1),_,_,_,_,_,_,_,_,_,_,_,_,_,_,_,_,_,_,_,_,_,_,_,_,_,_,_,_,_,_,_,_,_,_,_,_,_,_,_,_,_,_,_,_,_,_,_,_,_,_,_,_,_,_,_,_,_,_,_,_,_,_,_,_,_,_,_,_,_,_,_,_,_,.slice aoN NW.length cN,.int .i64 ((k : Int) + 1),.slice (some ⟨b0, o0, none⟩) n1 c1,.int .i64 (k : Int),.pointer (some ⟨b0, o0 + k * 11, none⟩),.pointer (some ⟨b0, o0 + k * 11, none⟩),.agg (EC p.x),.slice (some ⟨b0, o0, none⟩) n1 c1,.int .i64 (k : Int),.pointer (some ⟨b0, o0 + k * 11, none⟩),.pointer (some ⟨b0, o0 + k * 11 + 10, none⟩),.bool p.g,.agg (CC ⟨(k : Int) + 1, p.x, p.g⟩),.slice (some ⟨ku, 0, none⟩) 1 1,_,_,_,_,_,_,_,_,_,_,_,_,_,_,_,_,_,_,_,_,_,_,_,_,_,_,_,_,_,_,_,_,_,_,_,_,_,_,_,_,_,_,_,_,_,_,_,_,_,_,_], []⟩ _
      refine wpAnyH_ready (rs := [14]) (by kernel_rfl) (by simp) ?_
      refine AllReadyH.cons rfl (fun K hK => ?_) AllReadyH.nil
      go_simp
      have hnl : NW.length ≤ n + k := by have h1 := rep_le l (lst (ss.take k) 0); rw [lst_length, List.length_take, HLN.out] at h1; rw [HNW.out]; omega
      have hno : ∀ s ∈ NW, Eok s := by rw [HNW.out]; exact rep_all (p := Eok) HO.out (lst_ok HP.out k)
      refine (replay21 aoN NW.length cN NW (some ⟨ku, 0, none⟩) 1 1 [ ⟨(k : Int) + 1, p.x, p.g⟩] _ HEN.out.sl HONE.out hno (fun d hd => by rw [List.mem_singleton.1 hd]; exact HPO.out) (by omega)).mono ?_
      rintro e u4 ⟨aoM, cM, rfl, E4, B4⟩
      have hgu : h + 2 ≤ u3.heap.size := HPA.out.lt
      refine hK.out _ _ (fun i v hi => (B4.cell (p := ⟨b0, o0 + k * 11 + i, none⟩) (by have := HBG.out; have := HGH.out; show b0 < u3.heap.size; omega)).trans (hHeld i v hi)) (fun hHeld => ?_)
      clear hK K
      have HEM := hide (E4.mono hgu)
      replace HB := hide (HB.out.trans (B4.mono (by have := HGH.out; omega)))
      replace HS := hide (HS.out.below (B4.mono (by have := HGH.out; omega)))
      replace HX := hide (HX.out.on B4)
      replace HET := hide (HET.out.on B4)
      replace HPA := hide (HPA.out.on B4)
      have hrq : rep NW [ ⟨(k : Int) + 1, p.x, p.g⟩] = rep l (lst (ss.take (k + 1)) 0) := by rw [HNW.out, HTK.out, ← rep_parts]; simp
      rw [hrq] at HEM ⊢
      clear hrq B4 E4 HEN HONE hgu hnl hno
      change wpAnyH _ _ _ _ _ _ _ ⟨#[_,_,.slice (some ⟨b0, o0, none⟩) n1 c1,_,_,_,_,_,.pointer (some ⟨h + 1, 0, none⟩),_,_,.slice aoN NW.length cN,.int .i64 (k : Int),.int .i64 ((k : Int) + 1),_,_,_,_,_,_,_,_,_,_,_,_,_,_,_,_,_,_,_,_,_,_,_,_,_,_,_,_,_,_,_,_,_,_,_,_,_,_,_,_,_,_,_,_,_,_,_,_,_,_,_,_,_,_,_,_,_,_,_,_,_,_,_,_,_,_,_,_,_,_,_,_,_,.slice aoN NW.length cN,.int .i64 ((k : Int) + 1),.slice (some ⟨b0, o0, none⟩) n1 c1,.int .i64 (k : Int),.pointer (some ⟨b0, o0 + k * 11, none⟩),.pointer (some ⟨b0, o0 + k * 11, none⟩),.agg (EC p.x),.slice (some ⟨b0, o0, none⟩) n1 c1,.int .i64 (k : Int),.pointer (some ⟨b0, o0 + k * 11, none⟩),.pointer (some ⟨b0, o0 + k * 11 + 10, none⟩),.bool p.g,.agg (CC ⟨(k : Int) + 1, p.x, p.g⟩),.slice (some ⟨ku, 0, none⟩) 1 1,.slice aoM (rep l (lst (ss.take (k + 1)) 0)).length cM,_,_,_,_,_,_,_,_,_,_,_,_,_,_,_,_,_,_,_,_,_,_,_,_,_,_,_,_,_,_,_,_,_,_,_,_,_,_,_,_,_,_,_,_,_,_,_,_,_,_], []⟩ _
      refine wpAnyH_take (i := 15) (v := .slice aoM (rep l (lst (ss.take (k + 1)) 0)).length cM) rfl (by kernel_rfl) (by kernel_rfl) (by kernel_rfl) (fun _ _ _ h => h) (Or.inl ⟨by rfl, ?_⟩) hHeld ?_
      · intro W hW; (try dsimp only at hW); go_simp
      change wpAnyH _ _ _ _ _ _ _ ⟨#[_,_,.slice (some ⟨b0, o0, none⟩) n1 c1,_,_,_,_,_,.pointer (some ⟨h + 1, 0, none⟩),_,_,.slice aoM (rep l (lst (ss.take (k + 1)) 0)).length cM,.int .i64 (k : Int),.int .i64 ((k : Int) + 1),_,_,_,_,_,_,_,_,_,_,_,_,_,_,_,_,_,_,_,_,_,_,_,_,_,_,_,_,_,_,_,_,_,_,_,_,_,_,_,_,_,_,_,_,_,_,_,_,_,_,_,_,_,_,_,_,_,_,_,_,_,_,_,_,_,_,_,_,_,_,_,_,_,.slice aoN NW.length cN,.int .i64 ((k : Int) + 1),.slice (some ⟨b0, o0, none⟩) n1 c1,.int .i64 (k : Int),.pointer (some ⟨b0, o0 + k * 11, none⟩),.pointer (some ⟨b0, o0 + k * 11, none⟩),.agg (EC p.x),.slice (some ⟨b0, o0, none⟩) n1 c1,.int .i64 (k : Int),.pointer (some ⟨b0, o0 + k * 11, none⟩),.pointer (some ⟨b0, o0 + k * 11 + 10, none⟩),.bool p.g,.agg (CC ⟨(k : Int) + 1, p.x, p.g⟩),.slice (some ⟨ku, 0, none⟩) 1 1,.slice aoM (rep l (lst (ss.take (k + 1)) 0)).length cM,_,_,_,_,_,_,_,_,_,_,_,_,_,_,_,_,_,_,_,_,_,_,_,_,_,_,_,_,_,_,_,_,_,_,_,_,_,_,_,_,_,_,_,_,_,_,_,_,_,_], []⟩ _
      clear hHeld HNW HTK
      refine wpAnyH_done (by kernel_rfl) ?_ _
      have c1 := HX.out.cell 1 _ rfl
      by_cases hky : (k : Int) + 1 = y
      · have HYE : Hid (thn l ss y (k + 1) = rep l (lst (ss.take (k + 1)) 0)) := hide (thn_yes hky)
        have hky2 : ((k : Int) + 1 == y) = true := by simp [hky]
        go_wp2
        go_roundw
        case rel => exact ⟨k + 1, pl', cs', aoM, cM, aoM, cM, by omega, by go_num, by rw [HYE.out], rfl, by rw [HYE.out]; exact HEM.out, HEM.out, HPA.out, HLA.out, HCA.out, HB.out, HS.out, HX.out⟩
        case measure => simp [intOf]; omega
      · have HYE : Hid (thn l ss y (k + 1) = TN) := hide (by rw [thn_no hky, HTN.out])
        have hky2 : ((k : Int) + 1 == y) = false := by simp [hky]
        go_wp2
        go_roundw
        case rel => exact ⟨k + 1, pl', cs', aoT, cT, aoM, cM, by omega, by go_num, by rw [HYE.out], rfl, by rw [HYE.out]; exact HET.out, HEM.out, HPA.out, HLA.out, HCA.out, HB.out, HS.out, HX.out⟩
        case measure => simp [intOf]; omega
    · have hk2 : ¬ (k : Int) < (n1 : Int) := by omega
      obtain rfl : k = n1 := by omega
      have hall : ss.take k = ss := List.take_of_length_le (by rw [HSL.out]; omega)
      rw [hall] at HCS HEN
      rw [hall]
      clear hall
      have c0 := HX.out.cell 0 _ rfl
      have c1 := HX.out.cell 1 _ rfl
      have hgs : Hid (G ≤ wr.heap.size) := hide (by have := HP1.out.lt; have := HGH.out; omega)
      by_cases y1 : y < 0
      · have q := since16_no h x pl cs y wr HP1.out (by rw [HCL.out]; omega) (by rw [HCL.out]; exact Or.inl y1)
        have Q := hide q
        clear q
        go_wp2_with fail
        refine Q.out.mono ?_
        rintro e w6 ⟨rfl, B6⟩
        replace HB := hide (HB.out.trans (B6.mono hgs.out))
        clear B6 Q c0 c1
        go_wp2
        go_ret
        exact ⟨rfl, by rw [← HGG.out]; exact HB.out⟩
      by_cases y2 : (k : Int) < y
      · have q := since16_no h x pl cs y wr HP1.out (by rw [HCL.out]; omega) (by rw [HCL.out]; exact Or.inr (Or.inl y2))
        have Q := hide q
        clear q
        go_wp2_with fail
        refine Q.out.mono ?_
        rintro e w6 ⟨rfl, B6⟩
        replace HB := hide (HB.out.trans (B6.mono hgs.out))
        clear B6 Q c0 c1
        go_wp2
        go_ret
        exact ⟨rfl, by rw [← HGG.out]; exact HB.out⟩
      obtain ⟨m, rfl⟩ := Int.eq_ofNat_of_zero_le (show 0 ≤ y by omega)
      have hmk : m ≤ k := by omega
      have e1 : IntKind.i64.wrap ((k : Int) - (m : Int)) = (k : Int) - (m : Int) := IntWalk.i64_in _ (by omega)
      by_cases hkx : (x : Int) < (k : Int) - (m : Int)
      · have hkx2 : ¬ (k : Int) - (m : Int) ≤ (x : Int) := by omega
        have q := since16_no h x pl cs m wr HP1.out (by rw [HCL.out]; omega) (by rw [HCL.out]; exact Or.inr (Or.inr hkx))
        have Q := hide q
        clear q hkx
        go_wp2_with fail
        refine Q.out.mono ?_
        rintro e w6 ⟨rfl, B6⟩
        replace HB := hide (HB.out.trans (B6.mono hgs.out))
        replace HX := hide (HX.out.on B6)
        clear B6 Q c0 c1
        have c0 := HX.out.cell 0 _ rfl
        have c1 := HX.out.cell 1 _ rfl
        go_wp2
        go_ret
        exact ⟨rfl, by rw [← HGG.out]; exact HB.out⟩
      · have hkx2 : (k : Int) - (m : Int) ≤ (x : Int) := by omega
        have q := since16 h x pl cs m wr HP1.out (by rw [HCL.out]; omega) (by rw [HCL.out]; exact hmk) (by rw [HCL.out]; omega)
        rw [HCL.out] at q
        have Q := hide q
        clear q hkx
        go_wp2_with fail
        refine Q.out.mono ?_
        rintro e w6 ⟨ao6, c6, rfl, C6, B6⟩
        replace HB := hide (HB.out.trans (B6.mono hgs.out))
        replace HX := hide (HX.out.on B6)
        have hgs6 : Hid (G ≤ w6.heap.size) := hide (Nat.le_trans hgs.out B6.size)
        have HT6 := hide (HET.out.on B6).sl
        have HN6 := hide (HEN.out.on B6).sl
        have HC6 := hide C6.sl
        have hto : Hid (∀ s ∈ thn l ss m k, Eok s) := hide (thn_ok _ _ HO.out HP.out)
        have htl : Hid ((thn l ss m k).length + (k - m) ≤ 50000) := hide (by have := thn_le l ss m k; rw [HLN.out, HSL.out] at this; omega)
        have hco : Hid (∀ d ∈ cs.drop m, Eok d.x) := hide (fun d hd => by
          have h9 := List.mem_of_mem_drop hd
          rw [HCS.out] at h9
          obtain ⟨p, p1, p2⟩ := lst_mem h9
          rw [p2]; exact HP.out p p1)
        have hre : Hid (rep (thn l ss m k) (cs.drop m) = rep l (lst ss 0)) := hide (by
          rw [thn_end hmk, lst_take_eq, HCS.out, ← rep_parts, List.take_append_drop])
        clear B6 Q C6 c0 c1 HET HEN
        have c0 := HX.out.cell 0 _ rfl
        have c1 := HX.out.cell 1 _ rfl
        go_wp2_with fail
        refine (replay21 aoT _ cT (thn l ss m k) ao6 (k - m) c6 (cs.drop m) _ HT6.out HC6.out hto.out hco.out htl.out).mono ?_
        rintro e w7 ⟨ao7, c7, rfl, E7, B7⟩
        rw [hre.out] at E7 ⊢
        replace HB := hide (HB.out.trans (B7.mono hgs6.out))
        have hgs7 : Hid (G ≤ w7.heap.size) := hide (Nat.le_trans hgs6.out B7.size)
        replace HN6 := hide (HN6.out.on B7)
        have HF := hide E7.sl
        clear B7 E7 HT6 HC6 c0 c1
        go_wp2_with fail
        refine (same20 (rep l (lst ss 0)) _ _ ao7 aoN c7 cN _ HF.out HN6.out).mono ?_
        rintro e w8 ⟨rfl, B8⟩
        replace HB := hide (HB.out.trans (B8.mono hgs7.out))
        clear B8
        go_wp2
        go_ret
        exact ⟨rfl, by rw [← HGG.out]; exact HB.out⟩
theorem wholeWalk (x y : Int) (ao : Option Addr) (n c : Nat) (l : List En) (ao1 : Option Addr) (n1 c1 : Nat) (ss : List Sp) (w : World) (_ : I64 x) (hy : I64 y) (hl : Sl ecl 10 w w.heap.size ao n c l) (ho : ∀ s ∈ l, Eok s) (hs : Sl pcl 11 w w.heap.size ao1 n1 c1 ss) (hp : ∀ s ∈ ss, Eok s.x) :
    Calls Try.prog 5 #[.agg #[.int .i64 x, .int .i64 y], .slice ao n c, .slice ao1 n1 c1] w fun e w' => e = .returned (.bool true) ∧ Below w.heap.size w w' := by
  by_cases h : 1 ≤ x ∧ x ≤ 1000
  · obtain ⟨m, rfl⟩ := Int.eq_ofNat_of_zero_le (show 0 ≤ x by omega)
    by_cases hn : (40 : Int) < (n : Int)
    · exact wholeLongA m y ao n c ao1 n1 c1 w (by omega) (by omega) hn
    · by_cases hn1 : (60 : Int) < (n1 : Int)
      · exact wholeLongB m y ao n c ao1 n1 c1 w (by omega) (by omega) hn hn1
      · exact wholeYes m y ao n c l ao1 n1 c1 ss w (by omega) (by omega) (by omega) (by omega) hl ho hs hp hy
  · exact wholeNo x y ao n c ao1 n1 c1 w h
set_option maxRecDepth 100000 in
set_option maxHeartbeats 2000000 in
theorem journalWholelifted (os : Os) (started : os.Started) (H : Type) (enc : TypeId × Value → H) :
    ReturnsInHanded {} Try.checked os 5 .any (Rows.journalWholeSpec.pre6 enc Try.prog Try.f5 Rows.journalWholeRow.domain false) (Rows.journalWholeSpec.post enc Try.prog Try.f5 false true false false) := by
  refine returnsInHanded_of_change (C := Try.checked) own started (by kernel_rfl) Try.func5
    (ChangeSpec.witness6 (enc := enc) (C := Try.checked) false ⟨#[], #[.agg #[.int .i64 0, .int .i64 0], .slice none 0 0, .slice none 0 0], []⟩ 8 (by kernel_rfl) (by kernel_rfl) (by kernel_rfl) (by kernel_rfl)) ?_
  intro W base args ds gs before hval0 hW _ _
  have hval : ∀ (j : Nat) t v, Try.f5.params[j]? = some t → args[j]? = some v → Value.okWide Try.prog W .any base t v := hval0
  have hW' := hW
  obtain ⟨p, q, hA0, hV, rfl, _, _⟩ := hW
  have hA : DataW.TrodAll enc Try.prog W 0 (fun _ => true) true Try.f5.params.toList args.toList ds p := hA0
  rw [Try.params5] at hA hval
  obtain ⟨v0, vs0, d0, ds0, p0, q0, hargs, rfl, rfl, h0, r0⟩ := trodAll_cons hA
  obtain ⟨v1, vs1, d1, ds1, p1, q1, rfl, rfl, rfl, h1, r1⟩ := trodAll_cons r0
  obtain ⟨v2, vs2, d2, ds2, p2, q2, rfl, rfl, rfl, h2, r2⟩ := trodAll_cons r1
  obtain ⟨rfl, rfl, rfl⟩ := trodAll_nil r2
  obtain rfl : args = #[v0, v1, v2] := by cases args; simp_all
  obtain ⟨rfl, rfl⟩ := trodVars_none hV
  have h0k := h0
  obtain ⟨x0, y0, rfl, hx0, hy0⟩ := open_two (hval 0 52 v0 rfl rfl) h0
  have h1k := h1
  obtain ⟨ao1, n1, c1, ss1, rfl, hs1, ho1⟩ := open_ents (hval 1 47 v1 rfl rfl) h1
  have h2k := h2
  obtain ⟨ao2, n2, c2, ss2, rfl, hs2, ho2⟩ := open_sps (hval 2 22 v2 rfl rfl) h2
  clear hA0 hval0
  simp only [List.append_nil] at hW'
  have hlt : ∀ x ∈ p0 ++ p1 ++ p2, x.block < W.heap.size := fun x hx => by simpa using hW'.lt x (by simpa using hx)
  refine (wholeWalk x0 y0 ao1 n1 c1 ss1 ao2 n2 c2 ss2 W hx0 hy0 hs1 ho1 hs2 ho2).mono fun e W' ⟨he, hbl⟩ => ?_
  subst he
  exact ⟨_, rfl, _, _, _, [], _, [], hW', (trodAll_cons_mk (shut_bool Try.underlying4 _) trodAll_mk0), (trodAll_cons_mk (Below.trod Try.laidOut (by kernel_rfl) (of_decide_eq_true (by kernel_rfl)) h0k hbl (fun x hx => hlt x (by simp [hx]))) (trodAll_cons_mk (Below.trod Try.laidOut (by kernel_rfl) (of_decide_eq_true (by kernel_rfl)) h1k hbl (fun x hx => hlt x (by simp [hx]))) (trodAll_cons_mk (Below.trod Try.laidOut (by kernel_rfl) (of_decide_eq_true (by kernel_rfl)) h2k hbl (fun x hx => hlt x (by simp [hx]))) trodAll_mk0))), rfl, hbl.frame _, fun h => by cases h⟩

theorem journalWhole_holds : Rows.JournalWholeSaid :=
  OpenClaim.holds_of_wide 5 Try.f5 rfl rfl rfl rfl rfl rfl rfl ⟨rfl, rfl, rfl, rfl, rfl⟩ rfl rfl rfl rfl rfl (by kernel_rfl) Try.func5 (by kernel_rfl)
    (of_decide_eq_true (by kernel_rfl)) (by unfold Func.isWrapper; first | (rw [if_pos (by decide +kernel)]; kernel_rfl) | (rw [if_neg (by decide +kernel)]; exact ⟨rfl, rfl⟩))
    (fun os started H enc _ => journalWholelifted os started H enc)

#print axioms journalWhole_holds
end Go.Proofs.Ytjlmheecefobaaa
