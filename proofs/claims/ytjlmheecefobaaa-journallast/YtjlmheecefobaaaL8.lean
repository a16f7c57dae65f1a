/- JournalLast: for every room, all steps and every number the law answers true, and all three read behind the call as they read before. No condition. -/
import Derived.Test.YtjlmheecefobaaaOp
import Derived.Test.YtjlmheecefobaaaK1
import Derived.Test.YtjlmheecefobaaaL6
import Derived.Test.YtjlmheecefobaaaAw
namespace Go.Proofs.Ytjlmheecefobaaa
open Go.ChangeShapes Go.WideShapes Go.ChangeAt Go.RowKit Go.PlainAid

theorem sl_mid {α : Type} {cl : α → List Value} {k : Nat} {w w1 : World} {G N M : Nat} {ao : Option Addr} {n c : Nat} {l : List α} (h : Sl cl k w G ao n c l) (hm : Mid N M w w1) (hG : G ≤ N) (hs : G ≤ w.heap.size) : Sl cl k w1 G ao n c l :=
  h.below (hm.under hG hs)
set_option maxRecDepth 100000 in
set_option maxHeartbeats 4000000 in
theorem lastNo (x : Int) (ao : Option Addr) (n c : Nat) (y : Int) (w : World) (h : ¬ (1 ≤ x ∧ x ≤ 1000)) :
    Calls Try.prog 8 #[.int .i64 x, .slice ao n c, .int .i64 y] w fun e w' => e = .returned (.bool true) ∧ Below w.heap.size w w' := by
  have HH := hide h
  clear h
  go_enter Try.func8, Try.ntmps8
  go_wp2_with fail
  refine (awake10 _).mono ?_
  rintro e w1 ⟨rfl, B1⟩
  have HB := hide B1
  clear B1
  go_wp2_with fail
  refine (new11_no x _ HH.out).mono ?_
  rintro e w2 ⟨rfl, rfl⟩
  go_wp2
  go_ret
  exact ⟨rfl, HB.out⟩
set_option maxRecDepth 100000 in
set_option maxHeartbeats 4000000 in
theorem lastLong (x : Nat) (ao : Option Addr) (n c : Nat) (y : Int) (w : World) (h1 : 1 ≤ x) (h2 : x ≤ 1000) (hn : (300 : Int) < (n : Int)) :
    Calls Try.prog 8 #[.int .i64 x, .slice ao n c, .int .i64 y] w fun e w' => e = .returned (.bool true) ∧ Below w.heap.size w w' := by
  go_enter Try.func8, Try.ntmps8
  go_wp2_with fail
  refine (awake10 _).mono ?_
  rintro e w1 ⟨rfl, B1⟩
  have HB := hide B1
  clear B1
  go_wp2_with fail
  refine (new11 x _ h1 h2).mono ?_
  rintro e w2 ⟨rfl, -, B2⟩
  replace HB := hide (below_more HB.out B2 HB.out.size)
  clear B2
  go_wp2
  go_ret
  exact ⟨rfl, HB.out⟩
set_option maxRecDepth 100000 in
set_option maxHeartbeats 8000000 in
theorem lastYes (x : Nat) (ao : Option Addr) (n c : Nat) (ss : List Sp) (y : Int) (w : World) (h1 : 1 ≤ x) (h2 : x ≤ 1000) (hn : n ≤ 300) (hs : Sl pcl 11 w w.heap.size ao n c ss) (hy : I64 y) :
    Calls Try.prog 8 #[.int .i64 x, .slice ao n c, .int .i64 y] w fun e w' => e = .returned (.bool true) ∧ Below w.heap.size w w' := by
  have HS0 := hide hs
  have HSL : Hid (ss.length = n) := hide hs.len
  have hsc := hs.le
  have hsm := hs.mx
  unfold maxLen at hsm
  have HY := hide hy
  have hn3 : ¬ (300 : Int) < (n : Int) := by omega
  clear hs hy
  obtain ⟨G, hG⟩ : ∃ G, G = w.heap.size := ⟨_, rfl⟩
  have HGG := hide hG
  rw [← hG] at HS0 ⊢
  clear hG
  go_enter Try.func8, Try.ntmps8
  go_wp2_with fail
  refine (awake10 _).mono ?_
  rintro e w1 ⟨rfl, B1⟩
  rw [← HGG.out] at B1
  have HB := hide B1
  have HS := hide (HS0.out.below B1)
  clear B1 HS0
  go_wp2_with fail
  refine (new11 x _ h1 h2).mono ?_
  rintro e w2 ⟨rfl, P2, B2⟩
  obtain ⟨h, hh⟩ : ∃ h, h = w1.heap.size := ⟨_, rfl⟩
  have HGH : Hid (G ≤ h) := hide (by rw [hh]; have := HB.out.size; rw [← HGG.out] at this; exact this)
  rw [← hh] at P2 B2 ⊢
  replace HS := hide (HS.out.below (B2.mono HGH.out))
  replace HB := hide (HB.out.trans (B2.mono HGH.out))
  have HP := hide P2
  have HZ : Hid (h + 2 ≤ w2.heap.size) := hide P2.lt
  clear B2 P2 hh
  go_wp2
  go_loopw [10, 11, 12] (fun i _ _ wr => ∃ (k : Nat) (pl cs : List Ch), k ≤ n ∧ i = .int .i64 k ∧ PJ wr h x pl cs ∧ cs.length = k ∧ cs = lst (ss.take k) 0 ∧ Below G w wr ∧ Sl pcl 11 wr G ao n c ss ∧ G ≤ wr.heap.size) (fun i _ _ _ => n - (intOf i).toNat)
  case atStart => exact ⟨0, _, [], Nat.zero_le _, rfl, HP.out, rfl, rfl, HB.out, HS.out, by have := HZ.out; have := HGH.out; omega⟩
  case round =>
    obtain ⟨k, pl, cs, hk, rfl, hP, hcl, hcs, hB, hS, hGs⟩ := hrel
    clear HP HB HS HZ
    have HP := hide hP
    have HCL := hide hcl
    have HCS := hide hcs
    have HB := hide hB
    have HS := hide hS
    have HGS := hide hGs
    clear hP hcl hcs hB hS hGs
    by_cases hkn : k < n
    · obtain ⟨p, hp⟩ : ∃ p, ss[k]? = some p := ⟨_, List.getElem?_eq_getElem (by rw [HSL.out]; exact hkn)⟩
      obtain ⟨b0, o0, rfl, hbG, hA⟩ := HS.out.cell k p hp
      have HBG := hide hbG
      have HTK := hide (lst_take 0 hp)
      have hk2 : (k : Int) < (n : Int) := by omega
      have e1 : IntKind.i64.wrap ((k : Int) + 1) = (k : Int) + 1 := IntWalk.i64_in _ (by omega)
      have hne : (((k : Int) + 1) != ((k : Int) + 1)) = false := by simp
      clear hp hbG
      go_wp2_with fail
      refine wp_region_held_drew (S := fun w' => w'.rangeAt b0 (o0 + k * 11) (pcl p)) (by kernel_rfl) hA (fun hHeld => ?_)
      clear hA
      replace HP : Hid (PJ wr.drew h x pl cs) := hide (HP.out.keep (fun _ _ _ => rfl))
      replace HB := hide (belowOn' HB.out)
      replace HS := hide HS.out.drew
      replace HGS : Hid (G ≤ wr.drew.heap.size) := hide HGS.out
      generalize wr.drew = u0 at *
      refine wpAnyH_take (i := 0) (v := .pointer (some ⟨h + 1, 0, none⟩)) rfl (by kernel_rfl) (by kernel_rfl) (by kernel_rfl) (fun _ _ _ h => h) (Or.inl ⟨by rfl, ?_⟩) hHeld ?_
      · intro W hW; (try dsimp only at hW); go_simp
      change wpAnyH _ _ _ _ _ _ _ ⟨#[_,.slice (some ⟨b0, o0, none⟩) n c,_,_,_,_,_,_,.pointer (some ⟨h + 1, 0, none⟩),_,.int .i64 (k : Int),_,_,_,_,_,_,_,_,_,_,_,_,_,_,_,_,_,_,_,_,_,_,_,_,_,_,_,_,_,_,_,_,_,_,_,_,_,_,_,_,_,_,_,_,_,.pointer (some ⟨h + 1, 0, none⟩),_,_,_,_,_,_,_,_,_,_,_,_,_,_,_,_,_,_,_,_,_,_,_,_,_,_,_,_,_,_,_,_,_,_,_,_,_,_,_,_,_,_,_,_,_,_,_,_,_,_,_,_,_,_,_,_,_,_,_,_,_,_,_,_,_,_,_,_,_,_,_,_,_,_,_,_,_,_,_,_,_,_,_,_,_,_,_,_,_,_,_,_,_,_,_,_,_,_,_,_,_,_,_,_,_,_,_,_,_,_,_,_,_,_,_,_,_,_], []⟩ _
      refine wpAnyH_take (i := 1) (v := .slice (some ⟨b0, o0, none⟩) n c) rfl (by kernel_rfl) (by kernel_rfl) (by kernel_rfl) (fun _ _ _ h => h) (Or.inl ⟨by rfl, ?_⟩) hHeld ?_
      · intro W hW; (try dsimp only at hW); go_simp
      change wpAnyH _ _ _ _ _ _ _ ⟨#[_,.slice (some ⟨b0, o0, none⟩) n c,_,_,_,_,_,_,.pointer (some ⟨h + 1, 0, none⟩),_,.int .i64 (k : Int),_,_,_,_,_,_,_,_,_,_,_,_,_,_,_,_,_,_,_,_,_,_,_,_,_,_,_,_,_,_,_,_,_,_,_,_,_,_,_,_,_,_,_,_,_,.pointer (some ⟨h + 1, 0, none⟩),.slice (some ⟨b0, o0, none⟩) n c,_,_,_,_,_,_,_,_,_,_,_,_,_,_,_,_,_,_,_,_,_,_,_,_,_,_,_,_,_,_,_,_,_,_,_,_,_,_,_,_,_,_,_,_,_,_,_,_,_,_,_,_,_,_,_,_,_,_,_,_,_,_,_,_,_,_,_,_,_,_,_,_,_,_,_,_,_,_,_,_,_,_,_,_,_,_,_,_,_,_,_,_,_,_,_,_,_,_,_,_,_,_,_,_,_,_,_,_,_,_,_,_,_,_,_,_,_], []⟩ _
      refine wpAnyH_take (i := 2) (v := .int .i64 (k : Int)) rfl (by kernel_rfl) (by kernel_rfl) (by kernel_rfl) (fun _ _ _ h => h) (Or.inl ⟨by rfl, ?_⟩) hHeld ?_
      · intro W hW; (try dsimp only at hW); go_simp
      change wpAnyH _ _ _ _ _ _ _ ⟨#[_,.slice (some ⟨b0, o0, none⟩) n c,_,_,_,_,_,_,.pointer (some ⟨h + 1, 0, none⟩),_,.int .i64 (k : Int),_,_,_,_,_,_,_,_,_,_,_,_,_,_,_,_,_,_,_,_,_,_,_,_,_,_,_,_,_,_,_,_,_,_,_,_,_,_,_,_,_,_,_,_,_,.pointer (some ⟨h + 1, 0, none⟩),.slice (some ⟨b0, o0, none⟩) n c,.int .i64 (k : Int),_,_,_,_,_,_,_,_,_,_,_,_,_,_,_,_,_,_,_,_,_,_,_,_,_,_,_,_,_,_,_,_,_,_,_,_,_,_,_,_,_,_,_,_,_,_,_,_,_,_,_,_,_,_,_,_,_,_,_,_,_,_,_,_,_,_,_,_,_,_,_,_,_,_,_,_,_,_,_,_,_,_,_,_,_,_,_,_,_,_,_,_,_,_,_,_,_,_,_,_,_,_,_,_,_,_,_,_,_,_,_,_,_,_,_,_], []⟩ _
      refine wpAnyH_take (i := 3) (v := .pointer (some ⟨b0, o0 + k * 11, none⟩)) rfl (by kernel_rfl) (by kernel_rfl) (by kernel_rfl) (fun _ _ _ h => h) (Or.inl ⟨by rfl, ?_⟩) hHeld ?_
      · intro W hW; (try dsimp only at hW); go_simp
      change wpAnyH _ _ _ _ _ _ _ ⟨#[_,.slice (some ⟨b0, o0, none⟩) n c,_,_,_,_,_,_,.pointer (some ⟨h + 1, 0, none⟩),_,.int .i64 (k : Int),_,_,_,_,_,_,_,_,_,_,_,_,_,_,_,_,_,_,_,_,_,_,_,_,_,_,_,_,_,_,_,_,_,_,_,_,_,_,_,_,_,_,_,_,_,.pointer (some ⟨h + 1, 0, none⟩),.slice (some ⟨b0, o0, none⟩) n c,.int .i64 (k : Int),.pointer (some ⟨b0, o0 + k * 11, none⟩),_,_,_,_,_,_,_,_,_,_,_,_,_,_,_,_,_,_,_,_,_,_,_,_,_,_,_,_,_,_,_,_,_,_,_,_,_,_,_,_,_,_,_,_,_,_,_,_,_,_,_,_,_,_,_,_,_,_,_,_,_,_,_,_,_,_,_,_,_,_,_,_,_,_,_,_,_,_,_,_,_,_,_,_,_,_,_,_,_,_,_,_,_,_,_,_,_,_,_,_,_,_,_,_,_,_,_,_,_,_,_,_,_,_,_], []⟩ _
      refine wpAnyH_take (i := 4) (v := .pointer (some ⟨b0, o0 + k * 11, none⟩)) rfl (by kernel_rfl) (by kernel_rfl) (by kernel_rfl) (fun _ _ _ h => h) (Or.inl ⟨by rfl, ?_⟩) hHeld ?_
      · intro W hW; (try dsimp only at hW); go_simp
      change wpAnyH _ _ _ _ _ _ _ ⟨#[_,.slice (some ⟨b0, o0, none⟩) n c,_,_,_,_,_,_,.pointer (some ⟨h + 1, 0, none⟩),_,.int .i64 (k : Int),_,_,_,_,_,_,_,_,_,_,_,_,_,_,_,_,_,_,_,_,_,_,_,_,_,_,_,_,_,_,_,_,_,_,_,_,_,_,_,_,_,_,_,_,_,.pointer (some ⟨h + 1, 0, none⟩),.slice (some ⟨b0, o0, none⟩) n c,.int .i64 (k : Int),.pointer (some ⟨b0, o0 + k * 11, none⟩),.pointer (some ⟨b0, o0 + k * 11, none⟩),_,_,_,_,_,_,_,_,_,_,_,_,_,_,_,_,_,_,_,_,_,_,_,_,_,_,_,_,_,_,_,_,_,_,_,_,_,_,_,_,_,_,_,_,_,_,_,_,_,_,_,_,_,_,_,_,_,_,_,_,_,_,_,_,_,_,_,_,_,_,_,_,_,_,_,_,_,_,_,_,_,_,_,_,_,_,_,_,_,_,_,_,_,_,_,_,_,_,_,_,_,_,_,_,_,_,_,_,_,_,_,_,_,_], []⟩ _
      refine wpAnyH_take (i := 5) (v := .agg (EC p.x)) rfl (by kernel_rfl) (by kernel_rfl) (by kernel_rfl) (fun _ _ _ h => h) (yieldsIf_load_mid (by rfl) 36 (.tmp 60) rfl b0 (o0 + k * 11) rfl (ecl p.x) _ (fun W hW => stp_ent hW) Try.underlying36 rfl Try.size36) hHeld ?_
      change wpAnyH _ _ _ _ _ _ _ ⟨#[_,.slice (some ⟨b0, o0, none⟩) n c,_,_,_,_,_,_,.pointer (some ⟨h + 1, 0, none⟩),_,.int .i64 (k : Int),_,_,_,_,_,_,_,_,_,_,_,_,_,_,_,_,_,_,_,_,_,_,_,_,_,_,_,_,_,_,_,_,_,_,_,_,_,_,_,_,_,_,_,_,_,.pointer (some ⟨h + 1, 0, none⟩),.slice (some ⟨b0, o0, none⟩) n c,.int .i64 (k : Int),.pointer (some ⟨b0, o0 + k * 11, none⟩),.pointer (some ⟨b0, o0 + k * 11, none⟩),.agg (EC p.x),_,_,_,_,_,_,_,_,_,_,_,_,_,_,_,_,_,_,_,_,_,_,_,_,_,_,_,_,_,_,_,_,_,_,_,_,_,_,_,_,_,_,_,_,_,_,_,_,_,_,_,_,_,_,_,_,_,_,_,_,_,_,_,_,_,_,_,_,_,_,_,_,_,_,_,_,_,_,_,_,_,_,_,_,_,_,_,_,_,_,_,_,_,_,_,_,_,_,_,_,_,_,_,_,_,_,_,_,_,_,_,_,_], []⟩ _
      refine wpAnyH_take (i := 6) (v := .slice (some ⟨b0, o0, none⟩) n c) rfl (by kernel_rfl) (by kernel_rfl) (by kernel_rfl) (fun _ _ _ h => h) (Or.inl ⟨by rfl, ?_⟩) hHeld ?_
      · intro W hW; (try dsimp only at hW); go_simp
      change wpAnyH _ _ _ _ _ _ _ ⟨#[_,.slice (some ⟨b0, o0, none⟩) n c,_,_,_,_,_,_,.pointer (some ⟨h + 1, 0, none⟩),_,.int .i64 (k : Int),_,_,_,_,_,_,_,_,_,_,_,_,_,_,_,_,_,_,_,_,_,_,_,_,_,_,_,_,_,_,_,_,_,_,_,_,_,_,_,_,_,_,_,_,_,.pointer (some ⟨h + 1, 0, none⟩),.slice (some ⟨b0, o0, none⟩) n c,.int .i64 (k : Int),.pointer (some ⟨b0, o0 + k * 11, none⟩),.pointer (some ⟨b0, o0 + k * 11, none⟩),.agg (EC p.x),.slice (some ⟨b0, o0, none⟩) n c,_,_,_,_,_,_,_,_,_,_,_,_,_,_,_,_,_,_,_,_,_,_,_,_,_,_,_,_,_,_,_,_,_,_,_,_,_,_,_,_,_,_,_,_,_,_,_,_,_,_,_,_,_,_,_,_,_,_,_,_,_,_,_,_,_,_,_,_,_,_,_,_,_,_,_,_,_,_,_,_,_,_,_,_,_,_,_,_,_,_,_,_,_,_,_,_,_,_,_,_,_,_,_,_,_,_,_,_,_,_,_,_], []⟩ _
      refine wpAnyH_take (i := 7) (v := .int .i64 (k : Int)) rfl (by kernel_rfl) (by kernel_rfl) (by kernel_rfl) (fun _ _ _ h => h) (Or.inl ⟨by rfl, ?_⟩) hHeld ?_
      · intro W hW; (try dsimp only at hW); go_simp
      change wpAnyH _ _ _ _ _ _ _ ⟨#[_,.slice (some ⟨b0, o0, none⟩) n c,_,_,_,_,_,_,.pointer (some ⟨h + 1, 0, none⟩),_,.int .i64 (k : Int),_,_,_,_,_,_,_,_,_,_,_,_,_,_,_,_,_,_,_,_,_,_,_,_,_,_,_,_,_,_,_,_,_,_,_,_,_,_,_,_,_,_,_,_,_,.pointer (some ⟨h + 1, 0, none⟩),.slice (some ⟨b0, o0, none⟩) n c,.int .i64 (k : Int),.pointer (some ⟨b0, o0 + k * 11, none⟩),.pointer (some ⟨b0, o0 + k * 11, none⟩),.agg (EC p.x),.slice (some ⟨b0, o0, none⟩) n c,.int .i64 (k : Int),_,_,_,_,_,_,_,_,_,_,_,_,_,_,_,_,_,_,_,_,_,_,_,_,_,_,_,_,_,_,_,_,_,_,_,_,_,_,_,_,_,_,_,_,_,_,_,_,_,_,_,_,_,_,_,_,_,_,_,_,_,_,_,_,_,_,_,_,_,_,_,_,_,_,_,_,_,_,_,_,_,_,_,_,_,_,_,_,_,_,_,_,_,_,_,_,_,_,_,_,_,_,_,_,_,_,_,_,_,_,_], []⟩ _
      refine wpAnyH_take (i := 8) (v := .pointer (some ⟨b0, o0 + k * 11, none⟩)) rfl (by kernel_rfl) (by kernel_rfl) (by kernel_rfl) (fun _ _ _ h => h) (Or.inl ⟨by rfl, ?_⟩) hHeld ?_
      · intro W hW; (try dsimp only at hW); go_simp
      change wpAnyH _ _ _ _ _ _ _ ⟨#[_,.slice (some ⟨b0, o0, none⟩) n c,_,_,_,_,_,_,.pointer (some ⟨h + 1, 0, none⟩),_,.int .i64 (k : Int),_,_,_,_,_,_,_,_,_,_,_,_,_,_,_,_,_,_,_,_,_,_,_,_,_,_,_,_,_,_,_,_,_,_,_,_,_,_,_,_,_,_,_,_,_,.pointer (some ⟨h + 1, 0, none⟩),.slice (some ⟨b0, o0, none⟩) n c,.int .i64 (k : Int),.pointer (some ⟨b0, o0 + k * 11, none⟩),.pointer (some ⟨b0, o0 + k * 11, none⟩),.agg (EC p.x),.slice (some ⟨b0, o0, none⟩) n c,.int .i64 (k : Int),.pointer (some ⟨b0, o0 + k * 11, none⟩),_,_,_,_,_,_,_,_,_,_,_,_,_,_,_,_,_,_,_,_,_,_,_,_,_,_,_,_,_,_,_,_,_,_,_,_,_,_,_,_,_,_,_,_,_,_,_,_,_,_,_,_,_,_,_,_,_,_,_,_,_,_,_,_,_,_,_,_,_,_,_,_,_,_,_,_,_,_,_,_,_,_,_,_,_,_,_,_,_,_,_,_,_,_,_,_,_,_,_,_,_,_,_,_,_,_,_,_,_,_], []⟩ _
      refine wpAnyH_take (i := 9) (v := .pointer (some ⟨b0, o0 + k * 11 + 10, none⟩)) rfl (by kernel_rfl) (by kernel_rfl) (by kernel_rfl) (fun _ _ _ h => h) (Or.inl ⟨by rfl, ?_⟩) hHeld ?_
      · intro W hW; (try dsimp only at hW); go_simp
      change wpAnyH _ _ _ _ _ _ _ ⟨#[_,.slice (some ⟨b0, o0, none⟩) n c,_,_,_,_,_,_,.pointer (some ⟨h + 1, 0, none⟩),_,.int .i64 (k : Int),_,_,_,_,_,_,_,_,_,_,_,_,_,_,_,_,_,_,_,_,_,_,_,_,_,_,_,_,_,_,_,_,_,_,_,_,_,_,_,_,_,_,_,_,_,.pointer (some ⟨h + 1, 0, none⟩),.slice (some ⟨b0, o0, none⟩) n c,.int .i64 (k : Int),.pointer (some ⟨b0, o0 + k * 11, none⟩),.pointer (some ⟨b0, o0 + k * 11, none⟩),.agg (EC p.x),.slice (some ⟨b0, o0, none⟩) n c,.int .i64 (k : Int),.pointer (some ⟨b0, o0 + k * 11, none⟩),.pointer (some ⟨b0, o0 + k * 11 + 10, none⟩),_,_,_,_,_,_,_,_,_,_,_,_,_,_,_,_,_,_,_,_,_,_,_,_,_,_,_,_,_,_,_,_,_,_,_,_,_,_,_,_,_,_,_,_,_,_,_,_,_,_,_,_,_,_,_,_,_,_,_,_,_,_,_,_,_,_,_,_,_,_,_,_,_,_,_,_,_,_,_,_,_,_,_,_,_,_,_,_,_,_,_,_,_,_,_,_,_,_,_,_,_,_,_,_,_,_,_,_,_], []⟩ _
      refine wpAnyH_take (i := 10) (v := .bool p.g) rfl (by kernel_rfl) (by kernel_rfl) (by kernel_rfl) (fun _ _ _ h => h) (Or.inl ⟨by rfl, ?_⟩) hHeld ?_
      · intro W hW; (try dsimp only at hW); have hc := rng_cell hW (show (pcl p)[10]? = some (.bool p.g) from rfl); clear hW; go_simp
      change wpAnyH _ _ _ _ _ _ _ ⟨#[_,.slice (some ⟨b0, o0, none⟩) n c,_,_,_,_,_,_,.pointer (some ⟨h + 1, 0, none⟩),_,.int .i64 (k : Int),_,_,_,_,_,_,_,_,_,_,_,_,_,_,_,_,_,_,_,_,_,_,_,_,_,_,_,_,_,_,_,_,_,_,_,_,_,_,_,_,_,_,_,_,_,.pointer (some ⟨h + 1, 0, none⟩),.slice (some ⟨b0, o0, none⟩) n c,.int .i64 (k : Int),.pointer (some ⟨b0, o0 + k * 11, none⟩),.pointer (some ⟨b0, o0 + k * 11, none⟩),.agg (EC p.x),.slice (some ⟨b0, o0, none⟩) n c,.int .i64 (k : Int),.pointer (some ⟨b0, o0 + k * 11, none⟩),.pointer (some ⟨b0, o0 + k * 11 + 10, none⟩),.bool p.g,_,_,_,_,_,_,_,_,_,_,_,_,_,_,_,_,_,_,_,_,_,_,_,_,_,_,_,_,_,_,_,_,_,_,_,_,_,_,_,_,_,_,_,_,_,_,_,_,_,_,_,_,_,_,_,_,_,_,_,_,_,_,_,_,_,_,_,_,_,_,_,_,_,_,_,_,_,_,_,_,_,_,_,_,_,_,_,_,_,_,_,_,_,_,_,_,_,_,_,_,_,_,_,_,_,_,_,_], []⟩ _
      refine wpAnyH_ready (rs := [11]) (by kernel_rfl) (by simp) ?_
      refine AllReadyH.cons rfl (fun K hK => ?_) AllReadyH.nil
      go_simp
      refine (put13q h x pl cs p.x p.g ((k : Int) + 1) _ HP.out (by rw [HCL.out]; omega) (by rw [HCL.out])).mono ?_
      rintro e u1 ⟨rfl, ⟨pl', cs', ecs, lcs, P1⟩, M1⟩
      have hb1 := M1.under HGH.out HGS.out
      refine hK.out _ _ (fun i v hi => (hb1.cell (p := ⟨b0, o0 + k * 11 + i, none⟩) HBG.out).trans (hHeld i v hi)) (fun hHeld => ?_)
      clear hK K
      replace HB := hide (HB.out.trans hb1)
      replace HS := hide (HS.out.below hb1)
      replace HGS := hide (Nat.le_trans HGS.out hb1.size)
      have HP1 := hide P1
      have HL1 : Hid (cs'.length = k + 1) := hide (by rw [lcs, HCL.out])
      have HC1 : Hid (cs' = lst (ss.take (k + 1)) 0) := hide (by rw [ecs, HTK.out, HCS.out]; simp)
      clear P1 M1 hb1 ecs lcs HP HCL HCS HTK
      change wpAnyH _ _ _ _ _ _ _ ⟨#[_,.slice (some ⟨b0, o0, none⟩) n c,_,_,_,_,_,_,.pointer (some ⟨h + 1, 0, none⟩),_,.int .i64 (k : Int),_,_,_,_,_,_,_,_,_,_,_,_,_,_,_,_,_,_,_,_,_,_,_,_,_,_,_,_,_,_,_,_,_,_,_,_,_,_,_,_,_,_,_,_,_,.pointer (some ⟨h + 1, 0, none⟩),.slice (some ⟨b0, o0, none⟩) n c,.int .i64 (k : Int),.pointer (some ⟨b0, o0 + k * 11, none⟩),.pointer (some ⟨b0, o0 + k * 11, none⟩),.agg (EC p.x),.slice (some ⟨b0, o0, none⟩) n c,.int .i64 (k : Int),.pointer (some ⟨b0, o0 + k * 11, none⟩),.pointer (some ⟨b0, o0 + k * 11 + 10, none⟩),.bool p.g,.tuple #[.int .i64 ((k : Int) + 1), .int .i64 0],_,_,_,_,_,_,_,_,_,_,_,_,_,_,_,_,_,_,_,_,_,_,_,_,_,_,_,_,_,_,_,_,_,_,_,_,_,_,_,_,_,_,_,_,_,_,_,_,_,_,_,_,_,_,_,_,_,_,_,_,_,_,_,_,_,_,_,_,_,_,_,_,_,_,_,_,_,_,_,_,_,_,_,_,_,_,_,_,_,_,_,_,_,_,_,_,_,_,_,_,_,_,_,_,_,_,_], []⟩ _
      refine wpAnyH_take (i := 12) (v := .tuple #[.int .i64 ((k : Int) + 1), .int .i64 0]) rfl (by kernel_rfl) (by kernel_rfl) (by kernel_rfl) (fun _ _ _ h => h) (Or.inl ⟨by rfl, ?_⟩) hHeld ?_
      · intro W hW; (try dsimp only at hW); go_simp
      change wpAnyH _ _ _ _ _ _ _ ⟨#[_,.slice (some ⟨b0, o0, none⟩) n c,_,_,_,_,_,_,.pointer (some ⟨h + 1, 0, none⟩),_,.int .i64 (k : Int),_,_,_,_,_,_,_,_,_,_,_,_,_,_,_,_,_,_,_,_,_,_,_,_,_,_,_,_,_,_,_,_,_,_,_,_,_,_,_,_,_,_,_,_,.tuple #[.int .i64 ((k : Int) + 1), .int .i64 0],.pointer (some ⟨h + 1, 0, none⟩),.slice (some ⟨b0, o0, none⟩) n c,.int .i64 (k : Int),.pointer (some ⟨b0, o0 + k * 11, none⟩),.pointer (some ⟨b0, o0 + k * 11, none⟩),.agg (EC p.x),.slice (some ⟨b0, o0, none⟩) n c,.int .i64 (k : Int),.pointer (some ⟨b0, o0 + k * 11, none⟩),.pointer (some ⟨b0, o0 + k * 11 + 10, none⟩),.bool p.g,.tuple #[.int .i64 ((k : Int) + 1), .int .i64 0],_,_,_,_,_,_,_,_,_,_,_,_,_,_,_,_,_,_,_,_,_,_,_,_,_,_,_,_,_,_,_,_,_,_,_,_,_,_,_,_,_,_,_,_,_,_,_,_,_,_,_,_,_,_,_,_,_,_,_,_,_,_,_,_,_,_,_,_,_,_,_,_,_,_,_,_,_,_,_,_,_,_,_,_,_,_,_,_,_,_,_,_,_,_,_,_,_,_,_,_,_,_,_,_,_,_,_], []⟩ _
      refine wpAnyH_take (i := 13) (v := .int .i64 ((k : Int) + 1)) rfl (by kernel_rfl) (by kernel_rfl) (by kernel_rfl) (fun _ _ _ h => h) (Or.inl ⟨by rfl, ?_⟩) hHeld ?_
      · intro W hW; (try dsimp only at hW); go_simp
      change wpAnyH _ _ _ _ _ _ _ ⟨#[_,.slice (some ⟨b0, o0, none⟩) n c,_,_,_,_,_,_,.pointer (some ⟨h + 1, 0, none⟩),_,.int .i64 (k : Int),_,_,_,_,_,_,_,_,_,_,_,_,_,_,_,_,_,_,_,_,_,_,_,_,_,_,_,_,_,_,_,_,_,_,_,_,_,_,_,_,_,_,_,_,.tuple #[.int .i64 ((k : Int) + 1), .int .i64 0],.pointer (some ⟨h + 1, 0, none⟩),.slice (some ⟨b0, o0, none⟩) n c,.int .i64 (k : Int),.pointer (some ⟨b0, o0 + k * 11, none⟩),.pointer (some ⟨b0, o0 + k * 11, none⟩),.agg (EC p.x),.slice (some ⟨b0, o0, none⟩) n c,.int .i64 (k : Int),.pointer (some ⟨b0, o0 + k * 11, none⟩),.pointer (some ⟨b0, o0 + k * 11 + 10, none⟩),.bool p.g,.tuple #[.int .i64 ((k : Int) + 1), .int .i64 0],.int .i64 ((k : Int) + 1),_,_,_,_,_,_,_,_,_,_,_,_,_,_,_,_,_,_,_,_,_,_,_,_,_,_,_,_,_,_,_,_,_,_,_,_,_,_,_,_,_,_,_,_,_,_,_,_,_,_,_,_,_,_,_,_,_,_,_,_,_,_,_,_,_,_,_,_,_,_,_,_,_,_,_,_,_,_,_,_,_,_,_,_,_,_,_,_,_,_,_,_,_,_,_,_,_,_,_,_,_,_,_,_,_,_], []⟩ _
      refine wpAnyH_take (i := 14) (v := .int .i64 0) rfl (by kernel_rfl) (by kernel_rfl) (by kernel_rfl) (fun _ _ _ h => h) (Or.inl ⟨by rfl, ?_⟩) hHeld ?_
      · intro W hW; (try dsimp only at hW); go_simp
      change wpAnyH _ _ _ _ _ _ _ ⟨#[_,.slice (some ⟨b0, o0, none⟩) n c,_,_,_,_,_,_,.pointer (some ⟨h + 1, 0, none⟩),_,.int .i64 (k : Int),_,_,_,_,_,_,_,_,_,_,_,_,_,_,_,_,_,_,_,_,_,_,_,_,_,_,_,_,_,_,_,_,_,_,_,_,_,_,_,_,_,_,_,_,.tuple #[.int .i64 ((k : Int) + 1), .int .i64 0],.pointer (some ⟨h + 1, 0, none⟩),.slice (some ⟨b0, o0, none⟩) n c,.int .i64 (k : Int),.pointer (some ⟨b0, o0 + k * 11, none⟩),.pointer (some ⟨b0, o0 + k * 11, none⟩),.agg (EC p.x),.slice (some ⟨b0, o0, none⟩) n c,.int .i64 (k : Int),.pointer (some ⟨b0, o0 + k * 11, none⟩),.pointer (some ⟨b0, o0 + k * 11 + 10, none⟩),.bool p.g,.tuple #[.int .i64 ((k : Int) + 1), .int .i64 0],.int .i64 ((k : Int) + 1),.int .i64 0,_,_,_,_,_,_,_,_,_,_,_,_,_,_,_,_,_,_,_,_,_,_,_,_,_,_,_,_,_,_,_,_,_,_,_,_,_,_,_,_,_,_,_,_,_,_,_,_,_,_,_,_,_,_,_,_,_,_,_,_,_,_,_,_,_,_,_,_,_,_,_,_,_,_,_,_,_,_,_,_,_,_,_,_,_,_,_,_,_,_,_,_,_,_,_,_,_,_,_,_,_,_,_,_,_], []⟩ _
      refine wpAnyH_take (i := 15) (v := .int .i64 ((k : Int) + 1)) rfl (by kernel_rfl) (by kernel_rfl) (by kernel_rfl) (fun _ _ _ h => h) (Or.inl ⟨by rfl, ?_⟩) hHeld ?_
      · intro W hW; (try dsimp only at hW); go_simp
      change wpAnyH _ _ _ _ _ _ _ ⟨#[_,.slice (some ⟨b0, o0, none⟩) n c,_,_,_,_,_,_,.pointer (some ⟨h + 1, 0, none⟩),_,.int .i64 (k : Int),.int .i64 ((k : Int) + 1),_,_,_,_,_,_,_,_,_,_,_,_,_,_,_,_,_,_,_,_,_,_,_,_,_,_,_,_,_,_,_,_,_,_,_,_,_,_,_,_,_,_,_,.tuple #[.int .i64 ((k : Int) + 1), .int .i64 0],.pointer (some ⟨h + 1, 0, none⟩),.slice (some ⟨b0, o0, none⟩) n c,.int .i64 (k : Int),.pointer (some ⟨b0, o0 + k * 11, none⟩),.pointer (some ⟨b0, o0 + k * 11, none⟩),.agg (EC p.x),.slice (some ⟨b0, o0, none⟩) n c,.int .i64 (k : Int),.pointer (some ⟨b0, o0 + k * 11, none⟩),.pointer (some ⟨b0, o0 + k * 11 + 10, none⟩),.bool p.g,.tuple #[.int .i64 ((k : Int) + 1), .int .i64 0],.int .i64 ((k : Int) + 1),.int .i64 0,_,_,_,_,_,_,_,_,_,_,_,_,_,_,_,_,_,_,_,_,_,_,_,_,_,_,_,_,_,_,_,_,_,_,_,_,_,_,_,_,_,_,_,_,_,_,_,_,_,_,_,_,_,_,_,_,_,_,_,_,_,_,_,_,_,_,_,_,_,_,_,_,_,_,_,_,_,_,_,_,_,_,_,_,_,_,_,_,_,_,_,_,_,_,_,_,_,_,_,_,_,_,_,_,_], []⟩ _
      refine wpAnyH_take (i := 16) (v := .int .i64 0) rfl (by kernel_rfl) (by kernel_rfl) (by kernel_rfl) (fun _ _ _ h => h) (Or.inl ⟨by rfl, ?_⟩) hHeld ?_
      · intro W hW; (try dsimp only at hW); go_simp
      change wpAnyH _ _ _ _ _ _ _ ⟨#[_,.slice (some ⟨b0, o0, none⟩) n c,_,_,_,_,_,_,.pointer (some ⟨h + 1, 0, none⟩),_,.int .i64 (k : Int),.int .i64 ((k : Int) + 1),.int .i64 0,_,_,_,_,_,_,_,_,_,_,_,_,_,_,_,_,_,_,_,_,_,_,_,_,_,_,_,_,_,_,_,_,_,_,_,_,_,_,_,_,_,_,.tuple #[.int .i64 ((k : Int) + 1), .int .i64 0],.pointer (some ⟨h + 1, 0, none⟩),.slice (some ⟨b0, o0, none⟩) n c,.int .i64 (k : Int),.pointer (some ⟨b0, o0 + k * 11, none⟩),.pointer (some ⟨b0, o0 + k * 11, none⟩),.agg (EC p.x),.slice (some ⟨b0, o0, none⟩) n c,.int .i64 (k : Int),.pointer (some ⟨b0, o0 + k * 11, none⟩),.pointer (some ⟨b0, o0 + k * 11 + 10, none⟩),.bool p.g,.tuple #[.int .i64 ((k : Int) + 1), .int .i64 0],.int .i64 ((k : Int) + 1),.int .i64 0,_,_,_,_,_,_,_,_,_,_,_,_,_,_,_,_,_,_,_,_,_,_,_,_,_,_,_,_,_,_,_,_,_,_,_,_,_,_,_,_,_,_,_,_,_,_,_,_,_,_,_,_,_,_,_,_,_,_,_,_,_,_,_,_,_,_,_,_,_,_,_,_,_,_,_,_,_,_,_,_,_,_,_,_,_,_,_,_,_,_,_,_,_,_,_,_,_,_,_,_,_,_,_,_,_], []⟩ _
      clear hHeld
      refine wpAnyH_done (by kernel_rfl) ?_ _
      go_wp2
      go_roundw
      case rel => exact ⟨k + 1, pl', cs', by omega, by go_num, HP1.out, HL1.out, HC1.out, HB.out, HS.out, HGS.out⟩
      case measure => simp [intOf]; omega
    · have hk2 : ¬ (k : Int) < (n : Int) := by omega
      obtain rfl : k = n := by omega
      have hall : ss.take k = ss := List.take_of_length_le (by rw [HSL.out]; omega)
      rw [hall] at HCS
      have hq := HP.out.wf.n1
      clear hall hq
      have q1 := fun w H => last15 h x k w H
      have hbx : Hid (∀ w', PJ w' h x pl cs → Box w' (h + 1) (jcl h x k)) := hide (fun w' H => by have := H.bx; rw [HCL.out] at this; exact this)
      go_wp2_with fail
      refine (q1 _ (hbx.out _ HP.out)).mono ?_
      rintro e w3 ⟨rfl, rfl⟩
      have q2 := since16 h x pl cs k w3 HP.out (by rw [HCL.out]; omega) (by rw [HCL.out]; exact Nat.le_refl _) (by rw [HCL.out]; omega)
      rw [HCL.out, Nat.sub_self] at q2
      have Q2 := hide q2
      clear q2
      go_wp2_with fail
      refine Q2.out.mono ?_
      rintro e w4 ⟨ao4, c4, rfl, -, B4⟩
      clear Q2
      replace HP := hide (HP.out.on B4)
      replace HS := hide (HS.out.below (B4.mono HGS.out))
      replace HB := hide (HB.out.trans (B4.mono HGS.out))
      replace HGS := hide (Nat.le_trans HGS.out B4.size)
      clear B4
      have hnn : ((k : Int) != (k : Int)) = false := by simp
      go_wp2_with fail
      refine (q1 _ (hbx.out _ HP.out)).mono ?_
      rintro e w5 ⟨rfl, rfl⟩
      clear q1
      by_cases y1 : y < 0
      · go_wp2
        go_ret
        exact ⟨rfl, HB.out⟩
      by_cases y2 : (k : Int) < y
      · go_wp2
        go_ret
        exact ⟨rfl, HB.out⟩
      obtain ⟨r, hr⟩ : ∃ r : Nat, (r : Int) = (k : Int) - y := ⟨((k : Int) - y).toNat, by omega⟩
      have HR := hide hr
      have e1 : IntKind.i64.wrap ((k : Int) - y) = (r : Int) := by rw [hr]; exact IntWalk.i64_in _ (by omega)
      have hrk : r ≤ k := by omega
      by_cases hkn2 : (x : Int) < (k : Int) - (r : Int)
      · have y3 : ¬ y ≤ (x : Int) := by omega
        have q3 := since16_no h x pl cs r w5 HP.out (by rw [HCL.out]; omega) (by rw [HCL.out]; exact Or.inr (Or.inr hkn2))
        have Q3 := hide q3
        clear q3 hr hkn2
        go_wp2_with fail
        refine Q3.out.mono ?_
        rintro e w6 ⟨rfl, B6⟩
        replace HB := hide (HB.out.trans (B6.mono HGS.out))
        clear B6 Q3
        go_wp2
        go_loopw [17, 18] (fun i _ wr => i = .int .i64 0 ∧ wr = w6) (fun _ _ _ => 0)
        case atStart => exact ⟨rfl, rfl⟩
        case round =>
          obtain ⟨rfl, rfl⟩ := hrel
          go_wp2
          go_ret
          exact ⟨rfl, HB.out⟩
      · have y3 : y ≤ (x : Int) := by omega
        have q3 := since16 h x pl cs r w5 HP.out (by rw [HCL.out]; omega) (by rw [HCL.out]; exact hrk) (by rw [HCL.out]; omega)
        obtain ⟨q2, hq2⟩ : ∃ q2, q2 = k - r := ⟨_, rfl⟩
        rw [HCL.out, ← hq2] at q3
        have Q3 := hide q3
        have HQ2 : Hid (r + q2 = k ∧ y = (q2 : Int)) := hide ⟨by omega, by omega⟩
        have hq2k : q2 ≤ 300 := by omega
        clear q3 hr hkn2 hq2
        go_wp2_with fail
        refine Q3.out.mono ?_
        rintro e w6 ⟨ao6, c6, rfl, C6, B6⟩
        replace HS := hide (HS.out.below (B6.mono HGS.out))
        replace HB := hide (HB.out.trans (B6.mono HGS.out))
        have HC := hide C6
        have hc6 := C6.le
        have hc7 := C6.mx
        unfold maxLen at hc7
        clear B6 Q3 C6
        go_wp2
        go_loopw [17, 18] (fun i _ wr => ∃ j q : Nat, j ≤ q2 ∧ i = .int .i64 j ∧ wr = w6.drewN q) (fun i _ _ => q2 - (intOf i).toNat)
        case atStart => exact ⟨0, 0, Nat.zero_le _, rfl, rfl⟩
        case round =>
          obtain ⟨j, qq, hj, rfl, rfl⟩ := hrel
          by_cases hjq : j < q2
          · obtain ⟨a, ha⟩ : ∃ a, a = r + j := ⟨_, rfl⟩
            have hak : a < k := by have := HQ2.out.1; omega
            obtain ⟨p, hp⟩ : ∃ p, ss[a]? = some p := ⟨_, List.getElem?_eq_getElem (by rw [HSL.out]; exact hak)⟩
            obtain ⟨b0, o0, rfl, hbG, hA⟩ := HS.out.cell a p hp
            have hcc : (cs.drop r)[j]? = some ⟨(a : Int) + 1, p.x, p.g⟩ := by
              rw [List.getElem?_drop, ← ha, HCS.out, lst_get hp]; simp
            obtain ⟨bC, rfl, -, -, hAC⟩ := HC.out.chg hcc
            have e2 : IntKind.i64.wrap ((r : Int) + (j : Int)) = (a : Int) := by rw [ha]; exact IntWalk.i64_in _ (by omega)
            have e3 : IntKind.i64.wrap ((a : Int) + 1) = (a : Int) + 1 := IntWalk.i64_in _ (by omega)
            have e4 : IntKind.i64.wrap ((j : Int) + 1) = (j : Int) + 1 := IntWalk.i64_in _ (by omega)
            have hne : (((a : Int) + 1) != ((a : Int) + 1)) = false := by simp
            have hj2 : (j : Int) < (q2 : Int) := by omega
            have hak2 : (a : Int) < (k : Int) := by omega
            clear ha hp hbG hcc
            go_wp2_with fail
            refine wp_region_held_drew (S := fun w' => w'.rangeAt bC (j * 12) (ccl ⟨(a : Int) + 1, p.x, p.g⟩) ∧ w'.rangeAt b0 (o0 + a * 11) (pcl p)) (by kernel_rfl) ⟨hAC, hA⟩ (fun hHeld => ?_)
            refine wpAnyH_take (i := 0) (v := .slice (some ⟨bC, 0, none⟩) q2 c6) rfl (by kernel_rfl) (by kernel_rfl) (by kernel_rfl) (fun _ _ _ h => h) (Or.inl ⟨by rfl, ?_⟩) hHeld ?_
            · intro W hW; (try dsimp only at hW); go_simp
            change wpAnyH _ _ _ _ _ _ _ ⟨#[_,.slice (some ⟨b0, o0, none⟩) k c,_,_,_,_,_,_,_,_,_,_,_,_,_,.slice (some ⟨bC, 0, none⟩) q2 c6,_,.int .i64 (j : Int),.int .i64 (a : Int),_,_,_,_,_,_,_,_,_,_,_,_,_,_,_,_,_,_,_,_,_,_,_,_,_,_,_,_,_,_,_,_,_,_,_,_,_,_,_,_,_,_,_,_,_,_,_,_,_,_,_,_,_,_,_,_,_,_,_,_,_,_,_,_,_,_,_,_,_,_,_,_,_,_,_,_,_,_,_,_,_,_,_,_,_,_,_,_,_,_,_,_,_,_,_,_,_,_,_,_,_,_,_,_,_,_,_,_,_,_,_,_,_,_,.slice (some ⟨bC, 0, none⟩) q2 c6,_,_,_,_,_,_,_,_,_,_,_,_,_,_,_,_,_,_,_,_,_,_,_,_,_,_,_,_,_,_,_,_,_,_,_,_,_,_,_,_,_], []⟩ _
            refine wpAnyH_take (i := 1) (v := .int .i64 (j : Int)) rfl (by kernel_rfl) (by kernel_rfl) (by kernel_rfl) (fun _ _ _ h => h) (Or.inl ⟨by rfl, ?_⟩) hHeld ?_
            · intro W hW; (try dsimp only at hW); go_simp
            change wpAnyH _ _ _ _ _ _ _ ⟨#[_,.slice (some ⟨b0, o0, none⟩) k c,_,_,_,_,_,_,_,_,_,_,_,_,_,.slice (some ⟨bC, 0, none⟩) q2 c6,_,.int .i64 (j : Int),.int .i64 (a : Int),_,_,_,_,_,_,_,_,_,_,_,_,_,_,_,_,_,_,_,_,_,_,_,_,_,_,_,_,_,_,_,_,_,_,_,_,_,_,_,_,_,_,_,_,_,_,_,_,_,_,_,_,_,_,_,_,_,_,_,_,_,_,_,_,_,_,_,_,_,_,_,_,_,_,_,_,_,_,_,_,_,_,_,_,_,_,_,_,_,_,_,_,_,_,_,_,_,_,_,_,_,_,_,_,_,_,_,_,_,_,_,_,_,_,.slice (some ⟨bC, 0, none⟩) q2 c6,.int .i64 (j : Int),_,_,_,_,_,_,_,_,_,_,_,_,_,_,_,_,_,_,_,_,_,_,_,_,_,_,_,_,_,_,_,_,_,_,_,_,_,_,_,_], []⟩ _
            refine wpAnyH_take (i := 2) (v := .pointer (some ⟨bC, j * 12, none⟩)) rfl (by kernel_rfl) (by kernel_rfl) (by kernel_rfl) (fun _ _ _ h => h) (Or.inl ⟨by rfl, ?_⟩) hHeld ?_
            · intro W hW; (try dsimp only at hW); go_simp
            change wpAnyH _ _ _ _ _ _ _ ⟨#[_,.slice (some ⟨b0, o0, none⟩) k c,_,_,_,_,_,_,_,_,_,_,_,_,_,.slice (some ⟨bC, 0, none⟩) q2 c6,_,.int .i64 (j : Int),.int .i64 (a : Int),_,_,_,_,_,_,_,_,_,_,_,_,_,_,_,_,_,_,_,_,_,_,_,_,_,_,_,_,_,_,_,_,_,_,_,_,_,_,_,_,_,_,_,_,_,_,_,_,_,_,_,_,_,_,_,_,_,_,_,_,_,_,_,_,_,_,_,_,_,_,_,_,_,_,_,_,_,_,_,_,_,_,_,_,_,_,_,_,_,_,_,_,_,_,_,_,_,_,_,_,_,_,_,_,_,_,_,_,_,_,_,_,_,_,.slice (some ⟨bC, 0, none⟩) q2 c6,.int .i64 (j : Int),.pointer (some ⟨bC, j * 12, none⟩),_,_,_,_,_,_,_,_,_,_,_,_,_,_,_,_,_,_,_,_,_,_,_,_,_,_,_,_,_,_,_,_,_,_,_,_,_,_,_], []⟩ _
            refine wpAnyH_take (i := 3) (v := .pointer (some ⟨bC, j * 12, none⟩)) rfl (by kernel_rfl) (by kernel_rfl) (by kernel_rfl) (fun _ _ _ h => h) (Or.inl ⟨by rfl, ?_⟩) hHeld ?_
            · intro W hW; (try dsimp only at hW); go_simp
            change wpAnyH _ _ _ _ _ _ _ ⟨#[_,.slice (some ⟨b0, o0, none⟩) k c,_,_,_,_,_,_,_,_,_,_,_,_,_,.slice (some ⟨bC, 0, none⟩) q2 c6,_,.int .i64 (j : Int),.int .i64 (a : Int),_,_,_,_,_,_,_,_,_,_,_,_,_,_,_,_,_,_,_,_,_,_,_,_,_,_,_,_,_,_,_,_,_,_,_,_,_,_,_,_,_,_,_,_,_,_,_,_,_,_,_,_,_,_,_,_,_,_,_,_,_,_,_,_,_,_,_,_,_,_,_,_,_,_,_,_,_,_,_,_,_,_,_,_,_,_,_,_,_,_,_,_,_,_,_,_,_,_,_,_,_,_,_,_,_,_,_,_,_,_,_,_,_,_,.slice (some ⟨bC, 0, none⟩) q2 c6,.int .i64 (j : Int),.pointer (some ⟨bC, j * 12, none⟩),.pointer (some ⟨bC, j * 12, none⟩),_,_,_,_,_,_,_,_,_,_,_,_,_,_,_,_,_,_,_,_,_,_,_,_,_,_,_,_,_,_,_,_,_,_,_,_,_,_], []⟩ _
            refine wpAnyH_take (i := 4) (v := .int .i64 ((a : Int) + 1)) rfl (by kernel_rfl) (by kernel_rfl) (by kernel_rfl) (fun _ _ _ h => h) (Or.inl ⟨by rfl, ?_⟩) hHeld ?_
            · intro W hW; (try dsimp only at hW); have hc := rng_cell hW.1 (show (ccl ⟨(a : Int) + 1, p.x, p.g⟩)[0]? = some (.int .i64 ((a : Int) + 1)) from rfl); rw [Nat.add_zero] at hc; clear hW; go_simp
            change wpAnyH _ _ _ _ _ _ _ ⟨#[_,.slice (some ⟨b0, o0, none⟩) k c,_,_,_,_,_,_,_,_,_,_,_,_,_,.slice (some ⟨bC, 0, none⟩) q2 c6,_,.int .i64 (j : Int),.int .i64 (a : Int),_,_,_,_,_,_,_,_,_,_,_,_,_,_,_,_,_,_,_,_,_,_,_,_,_,_,_,_,_,_,_,_,_,_,_,_,_,_,_,_,_,_,_,_,_,_,_,_,_,_,_,_,_,_,_,_,_,_,_,_,_,_,_,_,_,_,_,_,_,_,_,_,_,_,_,_,_,_,_,_,_,_,_,_,_,_,_,_,_,_,_,_,_,_,_,_,_,_,_,_,_,_,_,_,_,_,_,_,_,_,_,_,_,_,.slice (some ⟨bC, 0, none⟩) q2 c6,.int .i64 (j : Int),.pointer (some ⟨bC, j * 12, none⟩),.pointer (some ⟨bC, j * 12, none⟩),.int .i64 ((a : Int) + 1),_,_,_,_,_,_,_,_,_,_,_,_,_,_,_,_,_,_,_,_,_,_,_,_,_,_,_,_,_,_,_,_,_,_,_,_,_], []⟩ _
            refine wpAnyH_take (i := 5) (v := .int .i64 (a : Int)) rfl (by kernel_rfl) (by kernel_rfl) (by kernel_rfl) (fun _ _ _ h => h) (Or.inl ⟨by rfl, ?_⟩) hHeld ?_
            · intro W hW; (try dsimp only at hW); go_simp
            change wpAnyH _ _ _ _ _ _ _ ⟨#[_,.slice (some ⟨b0, o0, none⟩) k c,_,_,_,_,_,_,_,_,_,_,_,_,_,.slice (some ⟨bC, 0, none⟩) q2 c6,_,.int .i64 (j : Int),.int .i64 (a : Int),_,_,_,_,_,_,_,_,_,_,_,_,_,_,_,_,_,_,_,_,_,_,_,_,_,_,_,_,_,_,_,_,_,_,_,_,_,_,_,_,_,_,_,_,_,_,_,_,_,_,_,_,_,_,_,_,_,_,_,_,_,_,_,_,_,_,_,_,_,_,_,_,_,_,_,_,_,_,_,_,_,_,_,_,_,_,_,_,_,_,_,_,_,_,_,_,_,_,_,_,_,_,_,_,_,_,_,_,_,_,_,_,_,_,.slice (some ⟨bC, 0, none⟩) q2 c6,.int .i64 (j : Int),.pointer (some ⟨bC, j * 12, none⟩),.pointer (some ⟨bC, j * 12, none⟩),.int .i64 ((a : Int) + 1),.int .i64 (a : Int),_,_,_,_,_,_,_,_,_,_,_,_,_,_,_,_,_,_,_,_,_,_,_,_,_,_,_,_,_,_,_,_,_,_,_,_], []⟩ _
            refine wpAnyH_take (i := 6) (v := .int .i64 ((a : Int) + 1)) rfl (by kernel_rfl) (by kernel_rfl) (by kernel_rfl) (fun _ _ _ h => h) (Or.inl ⟨by rfl, ?_⟩) hHeld ?_
            · intro W hW; (try dsimp only at hW); go_simp
            change wpAnyH _ _ _ _ _ _ _ ⟨#[_,.slice (some ⟨b0, o0, none⟩) k c,_,_,_,_,_,_,_,_,_,_,_,_,_,.slice (some ⟨bC, 0, none⟩) q2 c6,_,.int .i64 (j : Int),.int .i64 (a : Int),_,_,_,_,_,_,_,_,_,_,_,_,_,_,_,_,_,_,_,_,_,_,_,_,_,_,_,_,_,_,_,_,_,_,_,_,_,_,_,_,_,_,_,_,_,_,_,_,_,_,_,_,_,_,_,_,_,_,_,_,_,_,_,_,_,_,_,_,_,_,_,_,_,_,_,_,_,_,_,_,_,_,_,_,_,_,_,_,_,_,_,_,_,_,_,_,_,_,_,_,_,_,_,_,_,_,_,_,_,_,_,_,_,_,.slice (some ⟨bC, 0, none⟩) q2 c6,.int .i64 (j : Int),.pointer (some ⟨bC, j * 12, none⟩),.pointer (some ⟨bC, j * 12, none⟩),.int .i64 ((a : Int) + 1),.int .i64 (a : Int),.int .i64 ((a : Int) + 1),_,_,_,_,_,_,_,_,_,_,_,_,_,_,_,_,_,_,_,_,_,_,_,_,_,_,_,_,_,_,_,_,_,_,_], []⟩ _
            refine wpAnyH_take (i := 7) (v := .bool false) rfl (by kernel_rfl) (by kernel_rfl) (by kernel_rfl) (fun _ _ _ h => h) (Or.inl ⟨by rfl, ?_⟩) hHeld ?_
            · intro W hW; (try dsimp only at hW); go_simp
            change wpAnyH _ _ _ _ _ _ _ ⟨#[_,.slice (some ⟨b0, o0, none⟩) k c,_,_,_,_,_,_,_,_,_,_,_,_,_,.slice (some ⟨bC, 0, none⟩) q2 c6,_,.int .i64 (j : Int),.int .i64 (a : Int),_,_,_,_,_,_,_,_,_,_,_,_,_,_,_,_,_,_,_,_,_,_,_,_,_,_,_,_,_,_,_,_,_,_,_,_,_,_,_,_,_,_,_,_,_,_,_,_,_,_,_,_,_,_,_,_,_,_,_,_,_,_,_,_,_,_,_,_,_,_,_,_,_,_,_,_,_,_,_,_,_,_,_,_,_,_,_,_,_,_,_,_,_,_,_,_,_,_,_,_,_,_,_,_,_,_,_,_,_,_,_,_,_,_,.slice (some ⟨bC, 0, none⟩) q2 c6,.int .i64 (j : Int),.pointer (some ⟨bC, j * 12, none⟩),.pointer (some ⟨bC, j * 12, none⟩),.int .i64 ((a : Int) + 1),.int .i64 (a : Int),.int .i64 ((a : Int) + 1),.bool false,_,_,_,_,_,_,_,_,_,_,_,_,_,_,_,_,_,_,_,_,_,_,_,_,_,_,_,_,_,_,_,_,_,_], []⟩ _
            refine wpAnyH_take (i := 8) (v := .bool false) rfl (by kernel_rfl) (by kernel_rfl) (by kernel_rfl) (fun _ _ _ h => h) (Or.inl ⟨by rfl, ?_⟩) hHeld ?_
            · intro W hW; (try dsimp only at hW); go_simp
            change wpAnyH _ _ _ _ _ _ _ ⟨#[_,.slice (some ⟨b0, o0, none⟩) k c,_,_,_,_,_,_,_,_,_,_,_,_,_,.slice (some ⟨bC, 0, none⟩) q2 c6,_,.int .i64 (j : Int),.int .i64 (a : Int),_,_,_,_,_,_,_,_,_,_,_,_,_,_,_,_,_,_,_,_,_,_,_,_,_,_,_,_,_,_,_,_,_,_,_,_,_,_,_,_,_,_,_,_,_,_,_,_,_,_,_,_,_,_,_,_,_,_,_,_,_,_,_,_,_,_,_,_,_,_,_,_,_,_,_,_,_,_,_,_,_,_,_,_,_,_,_,_,_,_,_,_,_,_,_,_,_,_,_,_,_,_,_,_,_,_,_,_,_,_,_,_,_,_,.slice (some ⟨bC, 0, none⟩) q2 c6,.int .i64 (j : Int),.pointer (some ⟨bC, j * 12, none⟩),.pointer (some ⟨bC, j * 12, none⟩),.int .i64 ((a : Int) + 1),.int .i64 (a : Int),.int .i64 ((a : Int) + 1),.bool false,.bool false,_,_,_,_,_,_,_,_,_,_,_,_,_,_,_,_,_,_,_,_,_,_,_,_,_,_,_,_,_,_,_,_,_], []⟩ _
            refine wpAnyH_take (i := 9) (v := .slice (some ⟨bC, 0, none⟩) q2 c6) rfl (by kernel_rfl) (by kernel_rfl) (by kernel_rfl) (fun _ _ _ h => h) (Or.inl ⟨by rfl, ?_⟩) hHeld ?_
            · intro W hW; (try dsimp only at hW); go_simp
            change wpAnyH _ _ _ _ _ _ _ ⟨#[_,.slice (some ⟨b0, o0, none⟩) k c,_,_,_,_,_,_,_,_,_,_,_,_,_,.slice (some ⟨bC, 0, none⟩) q2 c6,_,.int .i64 (j : Int),.int .i64 (a : Int),_,_,_,_,_,_,_,_,_,_,_,_,_,_,_,_,_,_,_,_,_,_,_,_,_,_,_,_,_,_,_,_,_,_,_,_,_,_,_,_,_,_,_,_,_,_,_,_,_,_,_,_,_,_,_,_,_,_,_,_,_,_,_,_,_,_,_,_,_,_,_,_,_,_,_,_,_,_,_,_,_,_,_,_,_,_,_,_,_,_,_,_,_,_,_,_,_,_,_,_,_,_,_,_,_,_,_,_,_,_,_,_,_,_,.slice (some ⟨bC, 0, none⟩) q2 c6,.int .i64 (j : Int),.pointer (some ⟨bC, j * 12, none⟩),.pointer (some ⟨bC, j * 12, none⟩),.int .i64 ((a : Int) + 1),.int .i64 (a : Int),.int .i64 ((a : Int) + 1),.bool false,.bool false,.slice (some ⟨bC, 0, none⟩) q2 c6,_,_,_,_,_,_,_,_,_,_,_,_,_,_,_,_,_,_,_,_,_,_,_,_,_,_,_,_,_,_,_,_], []⟩ _
            refine wpAnyH_take (i := 10) (v := .int .i64 (j : Int)) rfl (by kernel_rfl) (by kernel_rfl) (by kernel_rfl) (fun _ _ _ h => h) (Or.inl ⟨by rfl, ?_⟩) hHeld ?_
            · intro W hW; (try dsimp only at hW); go_simp
            change wpAnyH _ _ _ _ _ _ _ ⟨#[_,.slice (some ⟨b0, o0, none⟩) k c,_,_,_,_,_,_,_,_,_,_,_,_,_,.slice (some ⟨bC, 0, none⟩) q2 c6,_,.int .i64 (j : Int),.int .i64 (a : Int),_,_,_,_,_,_,_,_,_,_,_,_,_,_,_,_,_,_,_,_,_,_,_,_,_,_,_,_,_,_,_,_,_,_,_,_,_,_,_,_,_,_,_,_,_,_,_,_,_,_,_,_,_,_,_,_,_,_,_,_,_,_,_,_,_,_,_,_,_,_,_,_,_,_,_,_,_,_,_,_,_,_,_,_,_,_,_,_,_,_,_,_,_,_,_,_,_,_,_,_,_,_,_,_,_,_,_,_,_,_,_,_,_,_,.slice (some ⟨bC, 0, none⟩) q2 c6,.int .i64 (j : Int),.pointer (some ⟨bC, j * 12, none⟩),.pointer (some ⟨bC, j * 12, none⟩),.int .i64 ((a : Int) + 1),.int .i64 (a : Int),.int .i64 ((a : Int) + 1),.bool false,.bool false,.slice (some ⟨bC, 0, none⟩) q2 c6,.int .i64 (j : Int),_,_,_,_,_,_,_,_,_,_,_,_,_,_,_,_,_,_,_,_,_,_,_,_,_,_,_,_,_,_,_], []⟩ _
            refine wpAnyH_take (i := 11) (v := .pointer (some ⟨bC, j * 12, none⟩)) rfl (by kernel_rfl) (by kernel_rfl) (by kernel_rfl) (fun _ _ _ h => h) (Or.inl ⟨by rfl, ?_⟩) hHeld ?_
            · intro W hW; (try dsimp only at hW); go_simp
            change wpAnyH _ _ _ _ _ _ _ ⟨#[_,.slice (some ⟨b0, o0, none⟩) k c,_,_,_,_,_,_,_,_,_,_,_,_,_,.slice (some ⟨bC, 0, none⟩) q2 c6,_,.int .i64 (j : Int),.int .i64 (a : Int),_,_,_,_,_,_,_,_,_,_,_,_,_,_,_,_,_,_,_,_,_,_,_,_,_,_,_,_,_,_,_,_,_,_,_,_,_,_,_,_,_,_,_,_,_,_,_,_,_,_,_,_,_,_,_,_,_,_,_,_,_,_,_,_,_,_,_,_,_,_,_,_,_,_,_,_,_,_,_,_,_,_,_,_,_,_,_,_,_,_,_,_,_,_,_,_,_,_,_,_,_,_,_,_,_,_,_,_,_,_,_,_,_,_,.slice (some ⟨bC, 0, none⟩) q2 c6,.int .i64 (j : Int),.pointer (some ⟨bC, j * 12, none⟩),.pointer (some ⟨bC, j * 12, none⟩),.int .i64 ((a : Int) + 1),.int .i64 (a : Int),.int .i64 ((a : Int) + 1),.bool false,.bool false,.slice (some ⟨bC, 0, none⟩) q2 c6,.int .i64 (j : Int),.pointer (some ⟨bC, j * 12, none⟩),_,_,_,_,_,_,_,_,_,_,_,_,_,_,_,_,_,_,_,_,_,_,_,_,_,_,_,_,_,_], []⟩ _
            refine wpAnyH_take (i := 12) (v := .pointer (some ⟨bC, j * 12 + 1, none⟩)) rfl (by kernel_rfl) (by kernel_rfl) (by kernel_rfl) (fun _ _ _ h => h) (Or.inl ⟨by rfl, ?_⟩) hHeld ?_
            · intro W hW; (try dsimp only at hW); go_simp
            change wpAnyH _ _ _ _ _ _ _ ⟨#[_,.slice (some ⟨b0, o0, none⟩) k c,_,_,_,_,_,_,_,_,_,_,_,_,_,.slice (some ⟨bC, 0, none⟩) q2 c6,_,.int .i64 (j : Int),.int .i64 (a : Int),_,_,_,_,_,_,_,_,_,_,_,_,_,_,_,_,_,_,_,_,_,_,_,_,_,_,_,_,_,_,_,_,_,_,_,_,_,_,_,_,_,_,_,_,_,_,_,_,_,_,_,_,_,_,_,_,_,_,_,_,_,_,_,_,_,_,_,_,_,_,_,_,_,_,_,_,_,_,_,_,_,_,_,_,_,_,_,_,_,_,_,_,_,_,_,_,_,_,_,_,_,_,_,_,_,_,_,_,_,_,_,_,_,_,.slice (some ⟨bC, 0, none⟩) q2 c6,.int .i64 (j : Int),.pointer (some ⟨bC, j * 12, none⟩),.pointer (some ⟨bC, j * 12, none⟩),.int .i64 ((a : Int) + 1),.int .i64 (a : Int),.int .i64 ((a : Int) + 1),.bool false,.bool false,.slice (some ⟨bC, 0, none⟩) q2 c6,.int .i64 (j : Int),.pointer (some ⟨bC, j * 12, none⟩),.pointer (some ⟨bC, j * 12 + 1, none⟩),_,_,_,_,_,_,_,_,_,_,_,_,_,_,_,_,_,_,_,_,_,_,_,_,_,_,_,_,_], []⟩ _
            refine wpAnyH_take (i := 13) (v := .agg (EC p.x)) rfl (by kernel_rfl) (by kernel_rfl) (by kernel_rfl) (fun _ _ _ h => h) (yieldsIf_load_mid (by rfl) 36 (.tmp 145) rfl bC (j * 12 + 1) rfl (ecl p.x) _ (fun W hW => chg_ent hW.1) Try.underlying36 rfl Try.size36) hHeld ?_
            change wpAnyH _ _ _ _ _ _ _ ⟨#[_,.slice (some ⟨b0, o0, none⟩) k c,_,_,_,_,_,_,_,_,_,_,_,_,_,.slice (some ⟨bC, 0, none⟩) q2 c6,_,.int .i64 (j : Int),.int .i64 (a : Int),_,_,_,_,_,_,_,_,_,_,_,_,_,_,_,_,_,_,_,_,_,_,_,_,_,_,_,_,_,_,_,_,_,_,_,_,_,_,_,_,_,_,_,_,_,_,_,_,_,_,_,_,_,_,_,_,_,_,_,_,_,_,_,_,_,_,_,_,_,_,_,_,_,_,_,_,_,_,_,_,_,_,_,_,_,_,_,_,_,_,_,_,_,_,_,_,_,_,_,_,_,_,_,_,_,_,_,_,_,_,_,_,_,_,.slice (some ⟨bC, 0, none⟩) q2 c6,.int .i64 (j : Int),.pointer (some ⟨bC, j * 12, none⟩),.pointer (some ⟨bC, j * 12, none⟩),.int .i64 ((a : Int) + 1),.int .i64 (a : Int),.int .i64 ((a : Int) + 1),.bool false,.bool false,.slice (some ⟨bC, 0, none⟩) q2 c6,.int .i64 (j : Int),.pointer (some ⟨bC, j * 12, none⟩),.pointer (some ⟨bC, j * 12 + 1, none⟩),.agg (EC p.x),_,_,_,_,_,_,_,_,_,_,_,_,_,_,_,_,_,_,_,_,_,_,_,_,_,_,_,_], []⟩ _
            refine wpAnyH_take (i := 14) (v := .slice (some ⟨b0, o0, none⟩) k c) rfl (by kernel_rfl) (by kernel_rfl) (by kernel_rfl) (fun _ _ _ h => h) (Or.inl ⟨by rfl, ?_⟩) hHeld ?_
            · intro W hW; (try dsimp only at hW); go_simp
            change wpAnyH _ _ _ _ _ _ _ ⟨#[_,.slice (some ⟨b0, o0, none⟩) k c,_,_,_,_,_,_,_,_,_,_,_,_,_,.slice (some ⟨bC, 0, none⟩) q2 c6,_,.int .i64 (j : Int),.int .i64 (a : Int),_,_,_,_,_,_,_,_,_,_,_,_,_,_,_,_,_,_,_,_,_,_,_,_,_,_,_,_,_,_,_,_,_,_,_,_,_,_,_,_,_,_,_,_,_,_,_,_,_,_,_,_,_,_,_,_,_,_,_,_,_,_,_,_,_,_,_,_,_,_,_,_,_,_,_,_,_,_,_,_,_,_,_,_,_,_,_,_,_,_,_,_,_,_,_,_,_,_,_,_,_,_,_,_,_,_,_,_,_,_,_,_,_,_,.slice (some ⟨bC, 0, none⟩) q2 c6,.int .i64 (j : Int),.pointer (some ⟨bC, j * 12, none⟩),.pointer (some ⟨bC, j * 12, none⟩),.int .i64 ((a : Int) + 1),.int .i64 (a : Int),.int .i64 ((a : Int) + 1),.bool false,.bool false,.slice (some ⟨bC, 0, none⟩) q2 c6,.int .i64 (j : Int),.pointer (some ⟨bC, j * 12, none⟩),.pointer (some ⟨bC, j * 12 + 1, none⟩),.agg (EC p.x),.slice (some ⟨b0, o0, none⟩) k c,_,_,_,_,_,_,_,_,_,_,_,_,_,_,_,_,_,_,_,_,_,_,_,_,_,_,_], []⟩ _
            refine wpAnyH_take (i := 15) (v := .int .i64 (a : Int)) rfl (by kernel_rfl) (by kernel_rfl) (by kernel_rfl) (fun _ _ _ h => h) (Or.inl ⟨by rfl, ?_⟩) hHeld ?_
            · intro W hW; (try dsimp only at hW); go_simp
            change wpAnyH _ _ _ _ _ _ _ ⟨#[_,.slice (some ⟨b0, o0, none⟩) k c,_,_,_,_,_,_,_,_,_,_,_,_,_,.slice (some ⟨bC, 0, none⟩) q2 c6,_,.int .i64 (j : Int),.int .i64 (a : Int),_,_,_,_,_,_,_,_,_,_,_,_,_,_,_,_,_,_,_,_,_,_,_,_,_,_,_,_,_,_,_,_,_,_,_,_,_,_,_,_,_,_,_,_,_,_,_,_,_,_,_,_,_,_,_,_,_,_,_,_,_,_,_,_,_,_,_,_,_,_,_,_,_,_,_,_,_,_,_,_,_,_,_,_,_,_,_,_,_,_,_,_,_,_,_,_,_,_,_,_,_,_,_,_,_,_,_,_,_,_,_,_,_,_,.slice (some ⟨bC, 0, none⟩) q2 c6,.int .i64 (j : Int),.pointer (some ⟨bC, j * 12, none⟩),.pointer (some ⟨bC, j * 12, none⟩),.int .i64 ((a : Int) + 1),.int .i64 (a : Int),.int .i64 ((a : Int) + 1),.bool false,.bool false,.slice (some ⟨bC, 0, none⟩) q2 c6,.int .i64 (j : Int),.pointer (some ⟨bC, j * 12, none⟩),.pointer (some ⟨bC, j * 12 + 1, none⟩),.agg (EC p.x),.slice (some ⟨b0, o0, none⟩) k c,.int .i64 (a : Int),_,_,_,_,_,_,_,_,_,_,_,_,_,_,_,_,_,_,_,_,_,_,_,_,_,_], []⟩ _
            refine wpAnyH_take (i := 16) (v := .pointer (some ⟨b0, o0 + a * 11, none⟩)) rfl (by kernel_rfl) (by kernel_rfl) (by kernel_rfl) (fun _ _ _ h => h) (Or.inl ⟨by rfl, ?_⟩) hHeld ?_
            · intro W hW; (try dsimp only at hW); go_simp
            change wpAnyH _ _ _ _ _ _ _ ⟨#[_,.slice (some ⟨b0, o0, none⟩) k c,_,_,_,_,_,_,_,_,_,_,_,_,_,.slice (some ⟨bC, 0, none⟩) q2 c6,_,.int .i64 (j : Int),.int .i64 (a : Int),_,_,_,_,_,_,_,_,_,_,_,_,_,_,_,_,_,_,_,_,_,_,_,_,_,_,_,_,_,_,_,_,_,_,_,_,_,_,_,_,_,_,_,_,_,_,_,_,_,_,_,_,_,_,_,_,_,_,_,_,_,_,_,_,_,_,_,_,_,_,_,_,_,_,_,_,_,_,_,_,_,_,_,_,_,_,_,_,_,_,_,_,_,_,_,_,_,_,_,_,_,_,_,_,_,_,_,_,_,_,_,_,_,_,.slice (some ⟨bC, 0, none⟩) q2 c6,.int .i64 (j : Int),.pointer (some ⟨bC, j * 12, none⟩),.pointer (some ⟨bC, j * 12, none⟩),.int .i64 ((a : Int) + 1),.int .i64 (a : Int),.int .i64 ((a : Int) + 1),.bool false,.bool false,.slice (some ⟨bC, 0, none⟩) q2 c6,.int .i64 (j : Int),.pointer (some ⟨bC, j * 12, none⟩),.pointer (some ⟨bC, j * 12 + 1, none⟩),.agg (EC p.x),.slice (some ⟨b0, o0, none⟩) k c,.int .i64 (a : Int),.pointer (some ⟨b0, o0 + a * 11, none⟩),_,_,_,_,_,_,_,_,_,_,_,_,_,_,_,_,_,_,_,_,_,_,_,_,_], []⟩ _
            refine wpAnyH_take (i := 17) (v := .pointer (some ⟨b0, o0 + a * 11, none⟩)) rfl (by kernel_rfl) (by kernel_rfl) (by kernel_rfl) (fun _ _ _ h => h) (Or.inl ⟨by rfl, ?_⟩) hHeld ?_
            · intro W hW; (try dsimp only at hW); go_simp
            change wpAnyH _ _ _ _ _ _ _ ⟨#[_,.slice (some ⟨b0, o0, none⟩) k c,_,_,_,_,_,_,_,_,_,_,_,_,_,.slice (some ⟨bC, 0, none⟩) q2 c6,_,.int .i64 (j : Int),.int .i64 (a : Int),_,_,_,_,_,_,_,_,_,_,_,_,_,_,_,_,_,_,_,_,_,_,_,_,_,_,_,_,_,_,_,_,_,_,_,_,_,_,_,_,_,_,_,_,_,_,_,_,_,_,_,_,_,_,_,_,_,_,_,_,_,_,_,_,_,_,_,_,_,_,_,_,_,_,_,_,_,_,_,_,_,_,_,_,_,_,_,_,_,_,_,_,_,_,_,_,_,_,_,_,_,_,_,_,_,_,_,_,_,_,_,_,_,_,.slice (some ⟨bC, 0, none⟩) q2 c6,.int .i64 (j : Int),.pointer (some ⟨bC, j * 12, none⟩),.pointer (some ⟨bC, j * 12, none⟩),.int .i64 ((a : Int) + 1),.int .i64 (a : Int),.int .i64 ((a : Int) + 1),.bool false,.bool false,.slice (some ⟨bC, 0, none⟩) q2 c6,.int .i64 (j : Int),.pointer (some ⟨bC, j * 12, none⟩),.pointer (some ⟨bC, j * 12 + 1, none⟩),.agg (EC p.x),.slice (some ⟨b0, o0, none⟩) k c,.int .i64 (a : Int),.pointer (some ⟨b0, o0 + a * 11, none⟩),.pointer (some ⟨b0, o0 + a * 11, none⟩),_,_,_,_,_,_,_,_,_,_,_,_,_,_,_,_,_,_,_,_,_,_,_,_], []⟩ _
            refine wpAnyH_take (i := 18) (v := .agg (EC p.x)) rfl (by kernel_rfl) (by kernel_rfl) (by kernel_rfl) (fun _ _ _ h => h) (yieldsIf_load_mid (by rfl) 36 (.tmp 150) rfl b0 (o0 + a * 11) rfl (ecl p.x) _ (fun W hW => stp_ent hW.2) Try.underlying36 rfl Try.size36) hHeld ?_
            change wpAnyH _ _ _ _ _ _ _ ⟨#[_,.slice (some ⟨b0, o0, none⟩) k c,_,_,_,_,_,_,_,_,_,_,_,_,_,.slice (some ⟨bC, 0, none⟩) q2 c6,_,.int .i64 (j : Int),.int .i64 (a : Int),_,_,_,_,_,_,_,_,_,_,_,_,_,_,_,_,_,_,_,_,_,_,_,_,_,_,_,_,_,_,_,_,_,_,_,_,_,_,_,_,_,_,_,_,_,_,_,_,_,_,_,_,_,_,_,_,_,_,_,_,_,_,_,_,_,_,_,_,_,_,_,_,_,_,_,_,_,_,_,_,_,_,_,_,_,_,_,_,_,_,_,_,_,_,_,_,_,_,_,_,_,_,_,_,_,_,_,_,_,_,_,_,_,_,.slice (some ⟨bC, 0, none⟩) q2 c6,.int .i64 (j : Int),.pointer (some ⟨bC, j * 12, none⟩),.pointer (some ⟨bC, j * 12, none⟩),.int .i64 ((a : Int) + 1),.int .i64 (a : Int),.int .i64 ((a : Int) + 1),.bool false,.bool false,.slice (some ⟨bC, 0, none⟩) q2 c6,.int .i64 (j : Int),.pointer (some ⟨bC, j * 12, none⟩),.pointer (some ⟨bC, j * 12 + 1, none⟩),.agg (EC p.x),.slice (some ⟨b0, o0, none⟩) k c,.int .i64 (a : Int),.pointer (some ⟨b0, o0 + a * 11, none⟩),.pointer (some ⟨b0, o0 + a * 11, none⟩),.agg (EC p.x),_,_,_,_,_,_,_,_,_,_,_,_,_,_,_,_,_,_,_,_,_,_,_], []⟩ _
            refine wpAnyH_take (i := 19) (v := .bool false) rfl (by kernel_rfl) (by kernel_rfl) (by kernel_rfl) (fun _ _ _ h => h) (Or.inl ⟨by rfl, ?_⟩) hHeld ?_
            · intro W hW; (try dsimp only at hW); clear hW; have he := eqEnt p.x p.x; rw [(eqE_iff p.x p.x).2 rfl] at he; go_simp
            change wpAnyH _ _ _ _ _ _ _ ⟨#[_,.slice (some ⟨b0, o0, none⟩) k c,_,_,_,_,_,_,_,_,_,_,_,_,_,.slice (some ⟨bC, 0, none⟩) q2 c6,_,.int .i64 (j : Int),.int .i64 (a : Int),_,_,_,_,_,_,_,_,_,_,_,_,_,_,_,_,_,_,_,_,_,_,_,_,_,_,_,_,_,_,_,_,_,_,_,_,_,_,_,_,_,_,_,_,_,_,_,_,_,_,_,_,_,_,_,_,_,_,_,_,_,_,_,_,_,_,_,_,_,_,_,_,_,_,_,_,_,_,_,_,_,_,_,_,_,_,_,_,_,_,_,_,_,_,_,_,_,_,_,_,_,_,_,_,_,_,_,_,_,_,_,_,_,_,.slice (some ⟨bC, 0, none⟩) q2 c6,.int .i64 (j : Int),.pointer (some ⟨bC, j * 12, none⟩),.pointer (some ⟨bC, j * 12, none⟩),.int .i64 ((a : Int) + 1),.int .i64 (a : Int),.int .i64 ((a : Int) + 1),.bool false,.bool false,.slice (some ⟨bC, 0, none⟩) q2 c6,.int .i64 (j : Int),.pointer (some ⟨bC, j * 12, none⟩),.pointer (some ⟨bC, j * 12 + 1, none⟩),.agg (EC p.x),.slice (some ⟨b0, o0, none⟩) k c,.int .i64 (a : Int),.pointer (some ⟨b0, o0 + a * 11, none⟩),.pointer (some ⟨b0, o0 + a * 11, none⟩),.agg (EC p.x),.bool false,_,_,_,_,_,_,_,_,_,_,_,_,_,_,_,_,_,_,_,_,_,_], []⟩ _
            refine wpAnyH_take (i := 20) (v := .bool false) rfl (by kernel_rfl) (by kernel_rfl) (by kernel_rfl) (fun _ _ _ h => h) (Or.inl ⟨by rfl, ?_⟩) hHeld ?_
            · intro W hW; (try dsimp only at hW); go_simp
            change wpAnyH _ _ _ _ _ _ _ ⟨#[_,.slice (some ⟨b0, o0, none⟩) k c,_,_,_,_,_,_,_,_,_,_,_,_,_,.slice (some ⟨bC, 0, none⟩) q2 c6,_,.int .i64 (j : Int),.int .i64 (a : Int),_,_,_,_,_,_,_,_,_,_,_,_,_,_,_,_,_,_,_,_,_,_,_,_,_,_,_,_,_,_,_,_,_,_,_,_,_,_,_,_,_,_,_,_,_,_,_,_,_,_,_,_,_,_,_,_,_,_,_,_,_,_,_,_,_,_,_,_,_,_,_,_,_,_,_,_,_,_,_,_,_,_,_,_,_,_,_,_,_,_,_,_,_,_,_,_,_,_,_,_,_,_,_,_,_,_,_,_,_,_,_,_,_,_,.slice (some ⟨bC, 0, none⟩) q2 c6,.int .i64 (j : Int),.pointer (some ⟨bC, j * 12, none⟩),.pointer (some ⟨bC, j * 12, none⟩),.int .i64 ((a : Int) + 1),.int .i64 (a : Int),.int .i64 ((a : Int) + 1),.bool false,.bool false,.slice (some ⟨bC, 0, none⟩) q2 c6,.int .i64 (j : Int),.pointer (some ⟨bC, j * 12, none⟩),.pointer (some ⟨bC, j * 12 + 1, none⟩),.agg (EC p.x),.slice (some ⟨b0, o0, none⟩) k c,.int .i64 (a : Int),.pointer (some ⟨b0, o0 + a * 11, none⟩),.pointer (some ⟨b0, o0 + a * 11, none⟩),.agg (EC p.x),.bool false,.bool false,_,_,_,_,_,_,_,_,_,_,_,_,_,_,_,_,_,_,_,_,_], []⟩ _
            refine wpAnyH_take (i := 21) (v := .bool false) rfl (by kernel_rfl) (by kernel_rfl) (by kernel_rfl) (fun _ _ _ h => h) (Or.inl ⟨by rfl, ?_⟩) hHeld ?_
            · intro W hW; (try dsimp only at hW); go_simp
            change wpAnyH _ _ _ _ _ _ _ ⟨#[_,.slice (some ⟨b0, o0, none⟩) k c,_,_,_,_,_,_,_,_,_,_,_,_,_,.slice (some ⟨bC, 0, none⟩) q2 c6,_,.int .i64 (j : Int),.int .i64 (a : Int),_,_,_,_,_,_,_,_,_,_,_,_,_,_,_,_,_,_,_,_,_,_,_,_,_,_,_,_,_,_,_,_,_,_,_,_,_,_,_,_,_,_,_,_,_,_,_,_,_,_,_,_,_,_,_,_,_,_,_,_,_,_,_,_,_,_,_,_,_,_,_,_,_,_,_,_,_,_,_,_,_,_,_,_,_,_,_,_,_,_,_,_,_,_,_,_,_,_,_,_,_,_,_,_,_,_,_,_,_,_,_,_,_,_,.slice (some ⟨bC, 0, none⟩) q2 c6,.int .i64 (j : Int),.pointer (some ⟨bC, j * 12, none⟩),.pointer (some ⟨bC, j * 12, none⟩),.int .i64 ((a : Int) + 1),.int .i64 (a : Int),.int .i64 ((a : Int) + 1),.bool false,.bool false,.slice (some ⟨bC, 0, none⟩) q2 c6,.int .i64 (j : Int),.pointer (some ⟨bC, j * 12, none⟩),.pointer (some ⟨bC, j * 12 + 1, none⟩),.agg (EC p.x),.slice (some ⟨b0, o0, none⟩) k c,.int .i64 (a : Int),.pointer (some ⟨b0, o0 + a * 11, none⟩),.pointer (some ⟨b0, o0 + a * 11, none⟩),.agg (EC p.x),.bool false,.bool false,.bool false,_,_,_,_,_,_,_,_,_,_,_,_,_,_,_,_,_,_,_,_], []⟩ _
            refine wpAnyH_take (i := 22) (v := .slice (some ⟨bC, 0, none⟩) q2 c6) rfl (by kernel_rfl) (by kernel_rfl) (by kernel_rfl) (fun _ _ _ h => h) (Or.inl ⟨by rfl, ?_⟩) hHeld ?_
            · intro W hW; (try dsimp only at hW); go_simp
            change wpAnyH _ _ _ _ _ _ _ ⟨#[_,.slice (some ⟨b0, o0, none⟩) k c,_,_,_,_,_,_,_,_,_,_,_,_,_,.slice (some ⟨bC, 0, none⟩) q2 c6,_,.int .i64 (j : Int),.int .i64 (a : Int),_,_,_,_,_,_,_,_,_,_,_,_,_,_,_,_,_,_,_,_,_,_,_,_,_,_,_,_,_,_,_,_,_,_,_,_,_,_,_,_,_,_,_,_,_,_,_,_,_,_,_,_,_,_,_,_,_,_,_,_,_,_,_,_,_,_,_,_,_,_,_,_,_,_,_,_,_,_,_,_,_,_,_,_,_,_,_,_,_,_,_,_,_,_,_,_,_,_,_,_,_,_,_,_,_,_,_,_,_,_,_,_,_,_,.slice (some ⟨bC, 0, none⟩) q2 c6,.int .i64 (j : Int),.pointer (some ⟨bC, j * 12, none⟩),.pointer (some ⟨bC, j * 12, none⟩),.int .i64 ((a : Int) + 1),.int .i64 (a : Int),.int .i64 ((a : Int) + 1),.bool false,.bool false,.slice (some ⟨bC, 0, none⟩) q2 c6,.int .i64 (j : Int),.pointer (some ⟨bC, j * 12, none⟩),.pointer (some ⟨bC, j * 12 + 1, none⟩),.agg (EC p.x),.slice (some ⟨b0, o0, none⟩) k c,.int .i64 (a : Int),.pointer (some ⟨b0, o0 + a * 11, none⟩),.pointer (some ⟨b0, o0 + a * 11, none⟩),.agg (EC p.x),.bool false,.bool false,.bool false,.slice (some ⟨bC, 0, none⟩) q2 c6,_,_,_,_,_,_,_,_,_,_,_,_,_,_,_,_,_,_,_], []⟩ _
            refine wpAnyH_take (i := 23) (v := .int .i64 (j : Int)) rfl (by kernel_rfl) (by kernel_rfl) (by kernel_rfl) (fun _ _ _ h => h) (Or.inl ⟨by rfl, ?_⟩) hHeld ?_
            · intro W hW; (try dsimp only at hW); go_simp
            change wpAnyH _ _ _ _ _ _ _ ⟨#[_,.slice (some ⟨b0, o0, none⟩) k c,_,_,_,_,_,_,_,_,_,_,_,_,_,.slice (some ⟨bC, 0, none⟩) q2 c6,_,.int .i64 (j : Int),.int .i64 (a : Int),_,_,_,_,_,_,_,_,_,_,_,_,_,_,_,_,_,_,_,_,_,_,_,_,_,_,_,_,_,_,_,_,_,_,_,_,_,_,_,_,_,_,_,_,_,_,_,_,_,_,_,_,_,_,_,_,_,_,_,_,_,_,_,_,_,_,_,_,_,_,_,_,_,_,_,_,_,_,_,_,_,_,_,_,_,_,_,_,_,_,_,_,_,_,_,_,_,_,_,_,_,_,_,_,_,_,_,_,_,_,_,_,_,_,.slice (some ⟨bC, 0, none⟩) q2 c6,.int .i64 (j : Int),.pointer (some ⟨bC, j * 12, none⟩),.pointer (some ⟨bC, j * 12, none⟩),.int .i64 ((a : Int) + 1),.int .i64 (a : Int),.int .i64 ((a : Int) + 1),.bool false,.bool false,.slice (some ⟨bC, 0, none⟩) q2 c6,.int .i64 (j : Int),.pointer (some ⟨bC, j * 12, none⟩),.pointer (some ⟨bC, j * 12 + 1, none⟩),.agg (EC p.x),.slice (some ⟨b0, o0, none⟩) k c,.int .i64 (a : Int),.pointer (some ⟨b0, o0 + a * 11, none⟩),.pointer (some ⟨b0, o0 + a * 11, none⟩),.agg (EC p.x),.bool false,.bool false,.bool false,.slice (some ⟨bC, 0, none⟩) q2 c6,.int .i64 (j : Int),_,_,_,_,_,_,_,_,_,_,_,_,_,_,_,_,_,_], []⟩ _
            refine wpAnyH_take (i := 24) (v := .pointer (some ⟨bC, j * 12, none⟩)) rfl (by kernel_rfl) (by kernel_rfl) (by kernel_rfl) (fun _ _ _ h => h) (Or.inl ⟨by rfl, ?_⟩) hHeld ?_
            · intro W hW; (try dsimp only at hW); go_simp
            change wpAnyH _ _ _ _ _ _ _ ⟨#[_,.slice (some ⟨b0, o0, none⟩) k c,_,_,_,_,_,_,_,_,_,_,_,_,_,.slice (some ⟨bC, 0, none⟩) q2 c6,_,.int .i64 (j : Int),.int .i64 (a : Int),_,_,_,_,_,_,_,_,_,_,_,_,_,_,_,_,_,_,_,_,_,_,_,_,_,_,_,_,_,_,_,_,_,_,_,_,_,_,_,_,_,_,_,_,_,_,_,_,_,_,_,_,_,_,_,_,_,_,_,_,_,_,_,_,_,_,_,_,_,_,_,_,_,_,_,_,_,_,_,_,_,_,_,_,_,_,_,_,_,_,_,_,_,_,_,_,_,_,_,_,_,_,_,_,_,_,_,_,_,_,_,_,_,_,.slice (some ⟨bC, 0, none⟩) q2 c6,.int .i64 (j : Int),.pointer (some ⟨bC, j * 12, none⟩),.pointer (some ⟨bC, j * 12, none⟩),.int .i64 ((a : Int) + 1),.int .i64 (a : Int),.int .i64 ((a : Int) + 1),.bool false,.bool false,.slice (some ⟨bC, 0, none⟩) q2 c6,.int .i64 (j : Int),.pointer (some ⟨bC, j * 12, none⟩),.pointer (some ⟨bC, j * 12 + 1, none⟩),.agg (EC p.x),.slice (some ⟨b0, o0, none⟩) k c,.int .i64 (a : Int),.pointer (some ⟨b0, o0 + a * 11, none⟩),.pointer (some ⟨b0, o0 + a * 11, none⟩),.agg (EC p.x),.bool false,.bool false,.bool false,.slice (some ⟨bC, 0, none⟩) q2 c6,.int .i64 (j : Int),.pointer (some ⟨bC, j * 12, none⟩),_,_,_,_,_,_,_,_,_,_,_,_,_,_,_,_,_], []⟩ _
            refine wpAnyH_take (i := 25) (v := .pointer (some ⟨bC, j * 12 + 11, none⟩)) rfl (by kernel_rfl) (by kernel_rfl) (by kernel_rfl) (fun _ _ _ h => h) (Or.inl ⟨by rfl, ?_⟩) hHeld ?_
            · intro W hW; (try dsimp only at hW); go_simp
            change wpAnyH _ _ _ _ _ _ _ ⟨#[_,.slice (some ⟨b0, o0, none⟩) k c,_,_,_,_,_,_,_,_,_,_,_,_,_,.slice (some ⟨bC, 0, none⟩) q2 c6,_,.int .i64 (j : Int),.int .i64 (a : Int),_,_,_,_,_,_,_,_,_,_,_,_,_,_,_,_,_,_,_,_,_,_,_,_,_,_,_,_,_,_,_,_,_,_,_,_,_,_,_,_,_,_,_,_,_,_,_,_,_,_,_,_,_,_,_,_,_,_,_,_,_,_,_,_,_,_,_,_,_,_,_,_,_,_,_,_,_,_,_,_,_,_,_,_,_,_,_,_,_,_,_,_,_,_,_,_,_,_,_,_,_,_,_,_,_,_,_,_,_,_,_,_,_,_,.slice (some ⟨bC, 0, none⟩) q2 c6,.int .i64 (j : Int),.pointer (some ⟨bC, j * 12, none⟩),.pointer (some ⟨bC, j * 12, none⟩),.int .i64 ((a : Int) + 1),.int .i64 (a : Int),.int .i64 ((a : Int) + 1),.bool false,.bool false,.slice (some ⟨bC, 0, none⟩) q2 c6,.int .i64 (j : Int),.pointer (some ⟨bC, j * 12, none⟩),.pointer (some ⟨bC, j * 12 + 1, none⟩),.agg (EC p.x),.slice (some ⟨b0, o0, none⟩) k c,.int .i64 (a : Int),.pointer (some ⟨b0, o0 + a * 11, none⟩),.pointer (some ⟨b0, o0 + a * 11, none⟩),.agg (EC p.x),.bool false,.bool false,.bool false,.slice (some ⟨bC, 0, none⟩) q2 c6,.int .i64 (j : Int),.pointer (some ⟨bC, j * 12, none⟩),.pointer (some ⟨bC, j * 12 + 11, none⟩),_,_,_,_,_,_,_,_,_,_,_,_,_,_,_,_], []⟩ _
            refine wpAnyH_take (i := 26) (v := .bool p.g) rfl (by kernel_rfl) (by kernel_rfl) (by kernel_rfl) (fun _ _ _ h => h) (Or.inl ⟨by rfl, ?_⟩) hHeld ?_
            · intro W hW; (try dsimp only at hW); have hc := rng_cell hW.1 (show (ccl ⟨(a : Int) + 1, p.x, p.g⟩)[11]? = some (.bool p.g) from rfl); clear hW; go_simp
            change wpAnyH _ _ _ _ _ _ _ ⟨#[_,.slice (some ⟨b0, o0, none⟩) k c,_,_,_,_,_,_,_,_,_,_,_,_,_,.slice (some ⟨bC, 0, none⟩) q2 c6,_,.int .i64 (j : Int),.int .i64 (a : Int),_,_,_,_,_,_,_,_,_,_,_,_,_,_,_,_,_,_,_,_,_,_,_,_,_,_,_,_,_,_,_,_,_,_,_,_,_,_,_,_,_,_,_,_,_,_,_,_,_,_,_,_,_,_,_,_,_,_,_,_,_,_,_,_,_,_,_,_,_,_,_,_,_,_,_,_,_,_,_,_,_,_,_,_,_,_,_,_,_,_,_,_,_,_,_,_,_,_,_,_,_,_,_,_,_,_,_,_,_,_,_,_,_,_,.slice (some ⟨bC, 0, none⟩) q2 c6,.int .i64 (j : Int),.pointer (some ⟨bC, j * 12, none⟩),.pointer (some ⟨bC, j * 12, none⟩),.int .i64 ((a : Int) + 1),.int .i64 (a : Int),.int .i64 ((a : Int) + 1),.bool false,.bool false,.slice (some ⟨bC, 0, none⟩) q2 c6,.int .i64 (j : Int),.pointer (some ⟨bC, j * 12, none⟩),.pointer (some ⟨bC, j * 12 + 1, none⟩),.agg (EC p.x),.slice (some ⟨b0, o0, none⟩) k c,.int .i64 (a : Int),.pointer (some ⟨b0, o0 + a * 11, none⟩),.pointer (some ⟨b0, o0 + a * 11, none⟩),.agg (EC p.x),.bool false,.bool false,.bool false,.slice (some ⟨bC, 0, none⟩) q2 c6,.int .i64 (j : Int),.pointer (some ⟨bC, j * 12, none⟩),.pointer (some ⟨bC, j * 12 + 11, none⟩),.bool p.g,_,_,_,_,_,_,_,_,_,_,_,_,_,_,_], []⟩ _
            refine wpAnyH_take (i := 27) (v := .slice (some ⟨b0, o0, none⟩) k c) rfl (by kernel_rfl) (by kernel_rfl) (by kernel_rfl) (fun _ _ _ h => h) (Or.inl ⟨by rfl, ?_⟩) hHeld ?_
            · intro W hW; (try dsimp only at hW); go_simp
            change wpAnyH _ _ _ _ _ _ _ ⟨#[_,.slice (some ⟨b0, o0, none⟩) k c,_,_,_,_,_,_,_,_,_,_,_,_,_,.slice (some ⟨bC, 0, none⟩) q2 c6,_,.int .i64 (j : Int),.int .i64 (a : Int),_,_,_,_,_,_,_,_,_,_,_,_,_,_,_,_,_,_,_,_,_,_,_,_,_,_,_,_,_,_,_,_,_,_,_,_,_,_,_,_,_,_,_,_,_,_,_,_,_,_,_,_,_,_,_,_,_,_,_,_,_,_,_,_,_,_,_,_,_,_,_,_,_,_,_,_,_,_,_,_,_,_,_,_,_,_,_,_,_,_,_,_,_,_,_,_,_,_,_,_,_,_,_,_,_,_,_,_,_,_,_,_,_,_,.slice (some ⟨bC, 0, none⟩) q2 c6,.int .i64 (j : Int),.pointer (some ⟨bC, j * 12, none⟩),.pointer (some ⟨bC, j * 12, none⟩),.int .i64 ((a : Int) + 1),.int .i64 (a : Int),.int .i64 ((a : Int) + 1),.bool false,.bool false,.slice (some ⟨bC, 0, none⟩) q2 c6,.int .i64 (j : Int),.pointer (some ⟨bC, j * 12, none⟩),.pointer (some ⟨bC, j * 12 + 1, none⟩),.agg (EC p.x),.slice (some ⟨b0, o0, none⟩) k c,.int .i64 (a : Int),.pointer (some ⟨b0, o0 + a * 11, none⟩),.pointer (some ⟨b0, o0 + a * 11, none⟩),.agg (EC p.x),.bool false,.bool false,.bool false,.slice (some ⟨bC, 0, none⟩) q2 c6,.int .i64 (j : Int),.pointer (some ⟨bC, j * 12, none⟩),.pointer (some ⟨bC, j * 12 + 11, none⟩),.bool p.g,.slice (some ⟨b0, o0, none⟩) k c,_,_,_,_,_,_,_,_,_,_,_,_,_,_], []⟩ _
            refine wpAnyH_take (i := 28) (v := .int .i64 (a : Int)) rfl (by kernel_rfl) (by kernel_rfl) (by kernel_rfl) (fun _ _ _ h => h) (Or.inl ⟨by rfl, ?_⟩) hHeld ?_
            · intro W hW; (try dsimp only at hW); go_simp
            change wpAnyH _ _ _ _ _ _ _ ⟨#[_,.slice (some ⟨b0, o0, none⟩) k c,_,_,_,_,_,_,_,_,_,_,_,_,_,.slice (some ⟨bC, 0, none⟩) q2 c6,_,.int .i64 (j : Int),.int .i64 (a : Int),_,_,_,_,_,_,_,_,_,_,_,_,_,_,_,_,_,_,_,_,_,_,_,_,_,_,_,_,_,_,_,_,_,_,_,_,_,_,_,_,_,_,_,_,_,_,_,_,_,_,_,_,_,_,_,_,_,_,_,_,_,_,_,_,_,_,_,_,_,_,_,_,_,_,_,_,_,_,_,_,_,_,_,_,_,_,_,_,_,_,_,_,_,_,_,_,_,_,_,_,_,_,_,_,_,_,_,_,_,_,_,_,_,_,.slice (some ⟨bC, 0, none⟩) q2 c6,.int .i64 (j : Int),.pointer (some ⟨bC, j * 12, none⟩),.pointer (some ⟨bC, j * 12, none⟩),.int .i64 ((a : Int) + 1),.int .i64 (a : Int),.int .i64 ((a : Int) + 1),.bool false,.bool false,.slice (some ⟨bC, 0, none⟩) q2 c6,.int .i64 (j : Int),.pointer (some ⟨bC, j * 12, none⟩),.pointer (some ⟨bC, j * 12 + 1, none⟩),.agg (EC p.x),.slice (some ⟨b0, o0, none⟩) k c,.int .i64 (a : Int),.pointer (some ⟨b0, o0 + a * 11, none⟩),.pointer (some ⟨b0, o0 + a * 11, none⟩),.agg (EC p.x),.bool false,.bool false,.bool false,.slice (some ⟨bC, 0, none⟩) q2 c6,.int .i64 (j : Int),.pointer (some ⟨bC, j * 12, none⟩),.pointer (some ⟨bC, j * 12 + 11, none⟩),.bool p.g,.slice (some ⟨b0, o0, none⟩) k c,.int .i64 (a : Int),_,_,_,_,_,_,_,_,_,_,_,_,_], []⟩ _
            refine wpAnyH_take (i := 29) (v := .pointer (some ⟨b0, o0 + a * 11, none⟩)) rfl (by kernel_rfl) (by kernel_rfl) (by kernel_rfl) (fun _ _ _ h => h) (Or.inl ⟨by rfl, ?_⟩) hHeld ?_
            · intro W hW; (try dsimp only at hW); go_simp
            change wpAnyH _ _ _ _ _ _ _ ⟨#[_,.slice (some ⟨b0, o0, none⟩) k c,_,_,_,_,_,_,_,_,_,_,_,_,_,.slice (some ⟨bC, 0, none⟩) q2 c6,_,.int .i64 (j : Int),.int .i64 (a : Int),_,_,_,_,_,_,_,_,_,_,_,_,_,_,_,_,_,_,_,_,_,_,_,_,_,_,_,_,_,_,_,_,_,_,_,_,_,_,_,_,_,_,_,_,_,_,_,_,_,_,_,_,_,_,_,_,_,_,_,_,_,_,_,_,_,_,_,_,_,_,_,_,_,_,_,_,_,_,_,_,_,_,_,_,_,_,_,_,_,_,_,_,_,_,_,_,_,_,_,_,_,_,_,_,_,_,_,_,_,_,_,_,_,_,.slice (some ⟨bC, 0, none⟩) q2 c6,.int .i64 (j : Int),.pointer (some ⟨bC, j * 12, none⟩),.pointer (some ⟨bC, j * 12, none⟩),.int .i64 ((a : Int) + 1),.int .i64 (a : Int),.int .i64 ((a : Int) + 1),.bool false,.bool false,.slice (some ⟨bC, 0, none⟩) q2 c6,.int .i64 (j : Int),.pointer (some ⟨bC, j * 12, none⟩),.pointer (some ⟨bC, j * 12 + 1, none⟩),.agg (EC p.x),.slice (some ⟨b0, o0, none⟩) k c,.int .i64 (a : Int),.pointer (some ⟨b0, o0 + a * 11, none⟩),.pointer (some ⟨b0, o0 + a * 11, none⟩),.agg (EC p.x),.bool false,.bool false,.bool false,.slice (some ⟨bC, 0, none⟩) q2 c6,.int .i64 (j : Int),.pointer (some ⟨bC, j * 12, none⟩),.pointer (some ⟨bC, j * 12 + 11, none⟩),.bool p.g,.slice (some ⟨b0, o0, none⟩) k c,.int .i64 (a : Int),.pointer (some ⟨b0, o0 + a * 11, none⟩),_,_,_,_,_,_,_,_,_,_,_,_], []⟩ _
            refine wpAnyH_take (i := 30) (v := .pointer (some ⟨b0, o0 + a * 11 + 10, none⟩)) rfl (by kernel_rfl) (by kernel_rfl) (by kernel_rfl) (fun _ _ _ h => h) (Or.inl ⟨by rfl, ?_⟩) hHeld ?_
            · intro W hW; (try dsimp only at hW); go_simp
            change wpAnyH _ _ _ _ _ _ _ ⟨#[_,.slice (some ⟨b0, o0, none⟩) k c,_,_,_,_,_,_,_,_,_,_,_,_,_,.slice (some ⟨bC, 0, none⟩) q2 c6,_,.int .i64 (j : Int),.int .i64 (a : Int),_,_,_,_,_,_,_,_,_,_,_,_,_,_,_,_,_,_,_,_,_,_,_,_,_,_,_,_,_,_,_,_,_,_,_,_,_,_,_,_,_,_,_,_,_,_,_,_,_,_,_,_,_,_,_,_,_,_,_,_,_,_,_,_,_,_,_,_,_,_,_,_,_,_,_,_,_,_,_,_,_,_,_,_,_,_,_,_,_,_,_,_,_,_,_,_,_,_,_,_,_,_,_,_,_,_,_,_,_,_,_,_,_,_,.slice (some ⟨bC, 0, none⟩) q2 c6,.int .i64 (j : Int),.pointer (some ⟨bC, j * 12, none⟩),.pointer (some ⟨bC, j * 12, none⟩),.int .i64 ((a : Int) + 1),.int .i64 (a : Int),.int .i64 ((a : Int) + 1),.bool false,.bool false,.slice (some ⟨bC, 0, none⟩) q2 c6,.int .i64 (j : Int),.pointer (some ⟨bC, j * 12, none⟩),.pointer (some ⟨bC, j * 12 + 1, none⟩),.agg (EC p.x),.slice (some ⟨b0, o0, none⟩) k c,.int .i64 (a : Int),.pointer (some ⟨b0, o0 + a * 11, none⟩),.pointer (some ⟨b0, o0 + a * 11, none⟩),.agg (EC p.x),.bool false,.bool false,.bool false,.slice (some ⟨bC, 0, none⟩) q2 c6,.int .i64 (j : Int),.pointer (some ⟨bC, j * 12, none⟩),.pointer (some ⟨bC, j * 12 + 11, none⟩),.bool p.g,.slice (some ⟨b0, o0, none⟩) k c,.int .i64 (a : Int),.pointer (some ⟨b0, o0 + a * 11, none⟩),.pointer (some ⟨b0, o0 + a * 11 + 10, none⟩),_,_,_,_,_,_,_,_,_,_,_], []⟩ _
            refine wpAnyH_take (i := 31) (v := .bool p.g) rfl (by kernel_rfl) (by kernel_rfl) (by kernel_rfl) (fun _ _ _ h => h) (Or.inl ⟨by rfl, ?_⟩) hHeld ?_
            · intro W hW; (try dsimp only at hW); have hc := rng_cell hW.2 (show (pcl p)[10]? = some (.bool p.g) from rfl); clear hW; go_simp
            change wpAnyH _ _ _ _ _ _ _ ⟨#[_,.slice (some ⟨b0, o0, none⟩) k c,_,_,_,_,_,_,_,_,_,_,_,_,_,.slice (some ⟨bC, 0, none⟩) q2 c6,_,.int .i64 (j : Int),.int .i64 (a : Int),_,_,_,_,_,_,_,_,_,_,_,_,_,_,_,_,_,_,_,_,_,_,_,_,_,_,_,_,_,_,_,_,_,_,_,_,_,_,_,_,_,_,_,_,_,_,_,_,_,_,_,_,_,_,_,_,_,_,_,_,_,_,_,_,_,_,_,_,_,_,_,_,_,_,_,_,_,_,_,_,_,_,_,_,_,_,_,_,_,_,_,_,_,_,_,_,_,_,_,_,_,_,_,_,_,_,_,_,_,_,_,_,_,_,.slice (some ⟨bC, 0, none⟩) q2 c6,.int .i64 (j : Int),.pointer (some ⟨bC, j * 12, none⟩),.pointer (some ⟨bC, j * 12, none⟩),.int .i64 ((a : Int) + 1),.int .i64 (a : Int),.int .i64 ((a : Int) + 1),.bool false,.bool false,.slice (some ⟨bC, 0, none⟩) q2 c6,.int .i64 (j : Int),.pointer (some ⟨bC, j * 12, none⟩),.pointer (some ⟨bC, j * 12 + 1, none⟩),.agg (EC p.x),.slice (some ⟨b0, o0, none⟩) k c,.int .i64 (a : Int),.pointer (some ⟨b0, o0 + a * 11, none⟩),.pointer (some ⟨b0, o0 + a * 11, none⟩),.agg (EC p.x),.bool false,.bool false,.bool false,.slice (some ⟨bC, 0, none⟩) q2 c6,.int .i64 (j : Int),.pointer (some ⟨bC, j * 12, none⟩),.pointer (some ⟨bC, j * 12 + 11, none⟩),.bool p.g,.slice (some ⟨b0, o0, none⟩) k c,.int .i64 (a : Int),.pointer (some ⟨b0, o0 + a * 11, none⟩),.pointer (some ⟨b0, o0 + a * 11 + 10, none⟩),.bool p.g,_,_,_,_,_,_,_,_,_,_], []⟩ _
            refine wpAnyH_take (i := 32) (v := .bool false) rfl (by kernel_rfl) (by kernel_rfl) (by kernel_rfl) (fun _ _ _ h => h) (Or.inl ⟨by rfl, ?_⟩) hHeld ?_
            · intro W hW; (try dsimp only at hW); clear hW; have hg : (p.g != p.g) = false := (by simp); go_simp
            change wpAnyH _ _ _ _ _ _ _ ⟨#[_,.slice (some ⟨b0, o0, none⟩) k c,_,_,_,_,_,_,_,_,_,_,_,_,_,.slice (some ⟨bC, 0, none⟩) q2 c6,_,.int .i64 (j : Int),.int .i64 (a : Int),_,_,_,_,_,_,_,_,_,_,_,_,_,_,_,_,_,_,_,_,_,_,_,_,_,_,_,_,_,_,_,_,_,_,_,_,_,_,_,_,_,_,_,_,_,_,_,_,_,_,_,_,_,_,_,_,_,_,_,_,_,_,_,_,_,_,_,_,_,_,_,_,_,_,_,_,_,_,_,_,_,_,_,_,_,_,_,_,_,_,_,_,_,_,_,_,_,_,_,_,_,_,_,_,_,_,_,_,_,_,_,_,_,_,.slice (some ⟨bC, 0, none⟩) q2 c6,.int .i64 (j : Int),.pointer (some ⟨bC, j * 12, none⟩),.pointer (some ⟨bC, j * 12, none⟩),.int .i64 ((a : Int) + 1),.int .i64 (a : Int),.int .i64 ((a : Int) + 1),.bool false,.bool false,.slice (some ⟨bC, 0, none⟩) q2 c6,.int .i64 (j : Int),.pointer (some ⟨bC, j * 12, none⟩),.pointer (some ⟨bC, j * 12 + 1, none⟩),.agg (EC p.x),.slice (some ⟨b0, o0, none⟩) k c,.int .i64 (a : Int),.pointer (some ⟨b0, o0 + a * 11, none⟩),.pointer (some ⟨b0, o0 + a * 11, none⟩),.agg (EC p.x),.bool false,.bool false,.bool false,.slice (some ⟨bC, 0, none⟩) q2 c6,.int .i64 (j : Int),.pointer (some ⟨bC, j * 12, none⟩),.pointer (some ⟨bC, j * 12 + 11, none⟩),.bool p.g,.slice (some ⟨b0, o0, none⟩) k c,.int .i64 (a : Int),.pointer (some ⟨b0, o0 + a * 11, none⟩),.pointer (some ⟨b0, o0 + a * 11 + 10, none⟩),.bool p.g,.bool false,_,_,_,_,_,_,_,_,_], []⟩ _
            refine wpAnyH_take (i := 33) (v := .bool false) rfl (by kernel_rfl) (by kernel_rfl) (by kernel_rfl) (fun _ _ _ h => h) (Or.inl ⟨by rfl, ?_⟩) hHeld ?_
            · intro W hW; (try dsimp only at hW); go_simp
            change wpAnyH _ _ _ _ _ _ _ ⟨#[_,.slice (some ⟨b0, o0, none⟩) k c,_,_,_,_,_,_,_,_,_,_,_,_,_,.slice (some ⟨bC, 0, none⟩) q2 c6,_,.int .i64 (j : Int),.int .i64 (a : Int),_,_,_,_,_,_,_,_,_,_,_,_,_,_,_,_,_,_,_,_,_,_,_,_,_,_,_,_,_,_,_,_,_,_,_,_,_,_,_,_,_,_,_,_,_,_,_,_,_,_,_,_,_,_,_,_,_,_,_,_,_,_,_,_,_,_,_,_,_,_,_,_,_,_,_,_,_,_,_,_,_,_,_,_,_,_,_,_,_,_,_,_,_,_,_,_,_,_,_,_,_,_,_,_,_,_,_,_,_,_,_,_,_,_,.slice (some ⟨bC, 0, none⟩) q2 c6,.int .i64 (j : Int),.pointer (some ⟨bC, j * 12, none⟩),.pointer (some ⟨bC, j * 12, none⟩),.int .i64 ((a : Int) + 1),.int .i64 (a : Int),.int .i64 ((a : Int) + 1),.bool false,.bool false,.slice (some ⟨bC, 0, none⟩) q2 c6,.int .i64 (j : Int),.pointer (some ⟨bC, j * 12, none⟩),.pointer (some ⟨bC, j * 12 + 1, none⟩),.agg (EC p.x),.slice (some ⟨b0, o0, none⟩) k c,.int .i64 (a : Int),.pointer (some ⟨b0, o0 + a * 11, none⟩),.pointer (some ⟨b0, o0 + a * 11, none⟩),.agg (EC p.x),.bool false,.bool false,.bool false,.slice (some ⟨bC, 0, none⟩) q2 c6,.int .i64 (j : Int),.pointer (some ⟨bC, j * 12, none⟩),.pointer (some ⟨bC, j * 12 + 11, none⟩),.bool p.g,.slice (some ⟨b0, o0, none⟩) k c,.int .i64 (a : Int),.pointer (some ⟨b0, o0 + a * 11, none⟩),.pointer (some ⟨b0, o0 + a * 11 + 10, none⟩),.bool p.g,.bool false,.bool false,_,_,_,_,_,_,_,_], []⟩ _
            clear hHeld
            refine wpAnyH_done (by kernel_rfl) ?_ _
            go_wp2
            go_roundw
            case rel => exact ⟨j + 1, qq + 1, by omega, by go_num, rfl⟩
            case measure => simp [intOf]; omega
          · have hj2 : ¬ (j : Int) < (q2 : Int) := by omega
            have HB2 : Hid (Below G w (w6.drewN qq)) := hide (belowN HB.out qq)
            have hyq : ((q2 : Int) == y) = true := by rw [HQ2.out.2]; simp
            go_wp2
            go_ret
            exact ⟨ret_bool (by first | rfl | simp), HB2.out⟩
theorem lastWalk (x : Int) (ao : Option Addr) (n c : Nat) (ss : List Sp) (y : Int) (w : World) (_ : I64 x) (hs : Sl pcl 11 w w.heap.size ao n c ss) (_ : ∀ s ∈ ss, Eok s.x) (hy : I64 y) :
    Calls Try.prog 8 #[.int .i64 x, .slice ao n c, .int .i64 y] w fun e w' => e = .returned (.bool true) ∧ Below w.heap.size w w' := by
  by_cases h : 1 ≤ x ∧ x ≤ 1000
  · obtain ⟨m, rfl⟩ := Int.eq_ofNat_of_zero_le (show 0 ≤ x by omega)
    by_cases hn : (300 : Int) < (n : Int)
    · exact lastLong m ao n c y w (by omega) (by omega) hn
    · exact lastYes m ao n c ss y w (by omega) (by omega) (by omega) hs hy
  · exact lastNo x ao n c y w h
set_option maxRecDepth 100000 in
set_option maxHeartbeats 2000000 in
theorem journalLastlifted (os : Os) (started : os.Started) (H : Type) (enc : TypeId × Value → H) :
    ReturnsInHanded {} Try.checked os 8 .any (Rows.journalLastSpec.pre6 enc Try.prog Try.f8 Rows.journalLastRow.domain false) (Rows.journalLastSpec.post enc Try.prog Try.f8 false true false false) := by
  refine returnsInHanded_of_change (C := Try.checked) own started (by kernel_rfl) Try.func8
    (ChangeSpec.witness6 (enc := enc) (C := Try.checked) false ⟨#[], #[.int .i64 0, .slice none 0 0, .int .i64 0], []⟩ 8 (by kernel_rfl) (by kernel_rfl) (by kernel_rfl) (by kernel_rfl)) ?_
  intro W base args ds gs before hval0 hW _ _
  have hval : ∀ (j : Nat) t v, Try.f8.params[j]? = some t → args[j]? = some v → Value.okWide Try.prog W .any base t v := hval0
  have hW' := hW
  obtain ⟨p, q, hA0, hV, rfl, _, _⟩ := hW
  have hA : DataW.TrodAll enc Try.prog W 0 (fun _ => true) true Try.f8.params.toList args.toList ds p := hA0
  rw [Try.params8] at hA hval
  obtain ⟨v0, vs0, d0, ds0, p0, q0, hargs, rfl, rfl, h0, r0⟩ := trodAll_cons hA
  obtain ⟨v1, vs1, d1, ds1, p1, q1, rfl, rfl, rfl, h1, r1⟩ := trodAll_cons r0
  obtain ⟨v2, vs2, d2, ds2, p2, q2, rfl, rfl, rfl, h2, r2⟩ := trodAll_cons r1
  obtain ⟨rfl, rfl, rfl⟩ := trodAll_nil r2
  obtain rfl : args = #[v0, v1, v2] := by cases args; simp_all
  obtain ⟨rfl, rfl⟩ := trodVars_none hV
  have h0k := h0
  obtain ⟨x0, rfl, hx0⟩ := open_num (hval 0 3 v0 rfl rfl) h0
  have h1k := h1
  obtain ⟨ao1, n1, c1, ss1, rfl, hs1, ho1⟩ := open_sps (hval 1 22 v1 rfl rfl) h1
  have h2k := h2
  obtain ⟨x2, rfl, hx2⟩ := open_num (hval 2 3 v2 rfl rfl) h2
  clear hA0 hval0
  simp only [List.append_nil] at hW'
  have hlt : ∀ x ∈ p0 ++ p1 ++ p2, x.block < W.heap.size := fun x hx => by simpa using hW'.lt x (by simpa using hx)
  refine (lastWalk x0 ao1 n1 c1 ss1 x2 W hx0 hs1 ho1 hx2).mono fun e W' ⟨he, hbl⟩ => ?_
  subst he
  exact ⟨_, rfl, _, _, _, [], _, [], hW', (trodAll_cons_mk (shut_bool Try.underlying4 _) trodAll_mk0), (trodAll_cons_mk (Below.trod Try.laidOut (by kernel_rfl) (of_decide_eq_true (by kernel_rfl)) h0k hbl (fun x hx => hlt x (by simp [hx]))) (trodAll_cons_mk (Below.trod Try.laidOut (by kernel_rfl) (of_decide_eq_true (by kernel_rfl)) h1k hbl (fun x hx => hlt x (by simp [hx]))) (trodAll_cons_mk (Below.trod Try.laidOut (by kernel_rfl) (of_decide_eq_true (by kernel_rfl)) h2k hbl (fun x hx => hlt x (by simp [hx]))) trodAll_mk0))), rfl, hbl.frame _, fun h => by cases h⟩

theorem journalLast_holds : Rows.JournalLastSaid :=
  OpenClaim.holds_of_wide 8 Try.f8 rfl rfl rfl rfl rfl rfl rfl ⟨rfl, rfl, rfl, rfl, rfl⟩ rfl rfl rfl rfl rfl (by kernel_rfl) Try.func8 (by kernel_rfl)
    (of_decide_eq_true (by kernel_rfl)) (by unfold Func.isWrapper; first | (rw [if_pos (by decide +kernel)]; kernel_rfl) | (rw [if_neg (by decide +kernel)]; exact ⟨rfl, rfl⟩))
    (fun os started H enc _ => journalLastlifted os started H enc)

#print axioms journalLast_holds
end Go.Proofs.Ytjlmheecefobaaa
