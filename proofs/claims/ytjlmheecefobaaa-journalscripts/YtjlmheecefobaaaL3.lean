/- JournalScripts: for every room, all steps and every number the law answers true, and all three read behind the call as they read before. No condition. -/
import Derived.Test.YtjlmheecefobaaaOp
import Derived.Test.YtjlmheecefobaaaR3
import Derived.Test.YtjlmheecefobaaaL6
import Derived.Test.YtjlmheecefobaaaAw
namespace Go.Proofs.Ytjlmheecefobaaa
open Go.ChangeShapes Go.WideShapes Go.ChangeAt Go.RowKit Go.PlainAid

set_option maxRecDepth 100000 in
set_option maxHeartbeats 4000000 in
theorem scriptsNo (x : Int) (ao : Option Addr) (n c : Nat) (z : Int) (w : World) (h : ¬ (1 ≤ x ∧ x ≤ 1000)) :
    Calls Try.prog 3 #[.int .i64 x, .slice ao n c, .int .i64 z] w fun e w' => e = .returned (.bool true) ∧ Below w.heap.size w w' := by
  have HH := hide h
  clear h
  by_cases hn : (0 : Int) < (n : Int)
  all_goals
    go_enter Try.func3, Try.ntmps3
    go_wp2_with fail
    refine (awake10 _).mono ?_
    rintro e w1 ⟨rfl, B1⟩
    have HB := hide B1
    clear B1
    go_wp2_with fail
    refine (new11_no x _ HH.out).mono ?_
    rintro e w2 ⟨rfl, rfl⟩
    go_wp2_with fail
    refine (newr12_no x _ HH.out).mono ?_
    rintro e w3 ⟨rfl, rfl⟩
    go_wp2
    go_loopw [12, 13, 14, 15, 16] (fun i _ _ _ _ wr => i = .int .i64 0 ∧ wr = w3) (fun _ _ _ _ _ _ => 0)
    case atStart => exact ⟨rfl, rfl⟩
    case round =>
      obtain ⟨rfl, rfl⟩ := hrel
      go_wp2
      go_ret
      exact ⟨rfl, HB.out⟩
set_option maxRecDepth 100000 in
set_option maxHeartbeats 8000000 in
theorem scriptsYes (x : Nat) (ao : Option Addr) (n c : Nat) (ss : List Sp) (z : Int) (w : World) (h1 : 1 ≤ x) (h2 : x ≤ 1000) (hs : Sl pcl 11 w w.heap.size ao n c ss) (hz : I64 z) :
    Calls Try.prog 3 #[.int .i64 x, .slice ao n c, .int .i64 z] w fun e w' => e = .returned (.bool true) ∧ Below w.heap.size w w' := by
  have HS0 := hide hs
  have HSL : Hid (ss.length = n) := hide hs.len
  have hsc := hs.le
  have hsm := hs.mx
  unfold maxLen at hsm
  have HZ := hide hz
  clear hs hz
  obtain ⟨G, hG⟩ : ∃ G, G = w.heap.size := ⟨_, rfl⟩
  have HGG := hide hG
  rw [← hG] at HS0 ⊢
  clear hG
  go_enter Try.func3, Try.ntmps3
  go_wp2_with fail
  refine (awake10 _).mono ?_
  rintro e w1 ⟨rfl, B1⟩
  rw [← HGG.out] at B1
  have HB := hide B1
  have HS := hide (HS0.out.below B1)
  clear B1 HS0
  go_wp2_with fail
  refine (new11 x _ h1 h2).mono ?_
  rintro e w2 ⟨rfl, P2, B2⟩
  obtain ⟨h, hh⟩ : ∃ h, h = w1.heap.size := ⟨_, rfl⟩
  have HGH : Hid (G ≤ h) := hide (by rw [hh]; have := HB.out.size; rw [← HGG.out] at this; exact this)
  rw [← hh] at P2 B2 ⊢
  replace HS := hide (HS.out.below (B2.mono HGH.out))
  replace HB := hide (HB.out.trans (B2.mono HGH.out))
  have HP := hide P2
  clear B2 P2 hh
  go_wp2_with fail
  refine (newr12 x _ h1 h2).mono ?_
  rintro e w3 ⟨rfl, R3, B3⟩
  obtain ⟨g, hg⟩ : ∃ g, g = w2.heap.size := ⟨_, rfl⟩
  have HHG : Hid (h + 2 ≤ g) := hide (by rw [hg]; exact HP.out.lt)
  rw [← hg] at R3 B3 ⊢
  replace HP := hide (HP.out.below B3 HHG.out)
  replace HS := hide (HS.out.below (B3.mono (by have := HGH.out; have := HHG.out; omega)))
  replace HB := hide (HB.out.trans (B3.mono (by have := HGH.out; have := HHG.out; omega)))
  have HR := hide R3
  clear B3 R3 hg
  go_wp2
  go_loopw [12, 13, 14, 15, 16] (fun i _ _ _ _ wr => ∃ (k : Nat) (pl cs : List Ch) (aoR : Option Addr) (mR cR : Nat), k ≤ n ∧ k ≤ 300 ∧ i = .int .i64 k ∧ PJ wr h x pl cs ∧ RJ wr g x aoR mR cR cs ∧ cs.length = k ∧ Below G w wr ∧ Sl pcl 11 wr G ao n c ss) (fun i _ _ _ _ _ => 300 - (intOf i).toNat)
  case atStart => exact ⟨0, _, [], none, 0, 0, Nat.zero_le _, Nat.zero_le _, rfl, HP.out, HR.out, rfl, HB.out, HS.out⟩
  case round =>
    obtain ⟨k, pl, cs, aoR, mR, cR, hk, hk3, rfl, hP, hR, hcl, hB, hS⟩ := hrel
    clear HP HB HS HR
    have HP := hide hP
    have HR := hide hR
    have HCL := hide hcl
    have HB := hide hB
    have HS := hide hS
    have HGS : Hid (h ≤ wr.heap.size ∧ g ≤ wr.heap.size) := hide ⟨by have := hP.lt; omega, by have := hR.lt; omega⟩
    clear hP hR hcl hB hS
    have fin9 : Hid (∀ wr' : World, wr' = wr → True) := hide (fun _ _ => trivial)
    by_cases hcont : k < n ∧ k < 300
    · obtain ⟨hkn, hk300⟩ := hcont
      obtain ⟨p, hp⟩ : ∃ p, ss[k]? = some p := ⟨_, List.getElem?_eq_getElem (by rw [HSL.out]; exact hkn)⟩
      obtain ⟨b0, o0, rfl, hbG, hA⟩ := HS.out.cell k p hp
      have HBG := hide hbG
      have hk2 : (k : Int) < (n : Int) := by omega
      have hk4 : (k : Int) < 300 := by omega
      have e1 : IntKind.i64.wrap ((k : Int) + 1) = (k : Int) + 1 := IntWalk.i64_in _ (by omega)
      have hne : (((k : Int) + 1) != ((k : Int) + 1)) = false := by simp
      clear hp hbG fin9
      go_wp2_with fail
      refine wp_region_held_drew (S := fun w' => w'.rangeAt b0 (o0 + k * 11) (pcl p)) (by kernel_rfl) hA (fun hHeld => ?_)
      clear hA
      have bd : Below wr.heap.size wr wr.drew := belowOn' (Below.refl _ _)
      replace HP := hide (HP.out.on bd)
      replace HR := hide (HR.out.on bd)
      replace HB := hide (belowOn' HB.out)
      replace HS := hide HS.out.drew
      replace HGS : Hid (h ≤ wr.drew.heap.size ∧ g ≤ wr.drew.heap.size) := hide HGS.out
      clear bd
      generalize wr.drew = u0 at *
      refine wpAnyH_take (i := 0) (v := .pointer (some ⟨h + 1, 0, none⟩)) rfl (by kernel_rfl) (by kernel_rfl) (by kernel_rfl) (fun _ _ _ h => h) (Or.inl ⟨by rfl, ?_⟩) hHeld ?_
      · intro W hW; (try dsimp only at hW); go_simp
      change wpAnyH _ _ _ _ _ _ _ ⟨#[_,.slice (some ⟨b0, o0, none⟩) n c,_,_,_,_,_,_,.pointer (some ⟨h + 1, 0, none⟩),_,_,_,.int .i64 (k : Int),_,_,_,_,_,_,_,_,_,_,_,_,_,_,_,_,_,_,_,_,_,_,_,_,_,_,_,_,_,_,_,_,_,_,_,_,_,_,_,_,_,_,_,_,_,_,_,_,_,.pointer (some ⟨h + 1, 0, none⟩),_,_,_,_,_,_,_,_,_,_,_,_,_,_,_,_,_,_,_,_,_,_,_,_,_,_,_,_,_,_,_,_,_,_,_,_,_,_,_,_,_,_,_,_,_,_,_,_,_,_,_,_,_,_,_,_,_,_,_,_,_,_,_,_,_,_,_,_], []⟩ _
      refine wpAnyH_take (i := 1) (v := .slice (some ⟨b0, o0, none⟩) n c) rfl (by kernel_rfl) (by kernel_rfl) (by kernel_rfl) (fun _ _ _ h => h) (Or.inl ⟨by rfl, ?_⟩) hHeld ?_
      · intro W hW; (try dsimp only at hW); go_simp
      change wpAnyH _ _ _ _ _ _ _ ⟨#[_,.slice (some ⟨b0, o0, none⟩) n c,_,_,_,_,_,_,.pointer (some ⟨h + 1, 0, none⟩),_,_,_,.int .i64 (k : Int),_,_,_,_,_,_,_,_,_,_,_,_,_,_,_,_,_,_,_,_,_,_,_,_,_,_,_,_,_,_,_,_,_,_,_,_,_,_,_,_,_,_,_,_,_,_,_,_,_,.pointer (some ⟨h + 1, 0, none⟩),.slice (some ⟨b0, o0, none⟩) n c,_,_,_,_,_,_,_,_,_,_,_,_,_,_,_,_,_,_,_,_,_,_,_,_,_,_,_,_,_,_,_,_,_,_,_,_,_,_,_,_,_,_,_,_,_,_,_,_,_,_,_,_,_,_,_,_,_,_,_,_,_,_,_,_,_,_,_], []⟩ _
      refine wpAnyH_take (i := 2) (v := .int .i64 (k : Int)) rfl (by kernel_rfl) (by kernel_rfl) (by kernel_rfl) (fun _ _ _ h => h) (Or.inl ⟨by rfl, ?_⟩) hHeld ?_
      · intro W hW; (try dsimp only at hW); go_simp
      change wpAnyH _ _ _ _ _ _ _ ⟨#[_,.slice (some ⟨b0, o0, none⟩) n c,_,_,_,_,_,_,.pointer (some ⟨h + 1, 0, none⟩),_,_,_,.int .i64 (k : Int),_,_,_,_,_,_,_,_,_,_,_,_,_,_,_,_,_,_,_,_,_,_,_,_,_,_,_,_,_,_,_,_,_,_,_,_,_,_,_,_,_,_,_,_,_,_,_,_,_,.pointer (some ⟨h + 1, 0, none⟩),.slice (some ⟨b0, o0, none⟩) n c,.int .i64 (k : Int),_,_,_,_,_,_,_,_,_,_,_,_,_,_,_,_,_,_,_,_,_,_,_,_,_,_,_,_,_,_,_,_,_,_,_,_,_,_,_,_,_,_,_,_,_,_,_,_,_,_,_,_,_,_,_,_,_,_,_,_,_,_,_,_,_,_], []⟩ _
      refine wpAnyH_take (i := 3) (v := .pointer (some ⟨b0, o0 + k * 11, none⟩)) rfl (by kernel_rfl) (by kernel_rfl) (by kernel_rfl) (fun _ _ _ h => h) (Or.inl ⟨by rfl, ?_⟩) hHeld ?_
      · intro W hW; (try dsimp only at hW); go_simp
      change wpAnyH _ _ _ _ _ _ _ ⟨#[_,.slice (some ⟨b0, o0, none⟩) n c,_,_,_,_,_,_,.pointer (some ⟨h + 1, 0, none⟩),_,_,_,.int .i64 (k : Int),_,_,_,_,_,_,_,_,_,_,_,_,_,_,_,_,_,_,_,_,_,_,_,_,_,_,_,_,_,_,_,_,_,_,_,_,_,_,_,_,_,_,_,_,_,_,_,_,_,.pointer (some ⟨h + 1, 0, none⟩),.slice (some ⟨b0, o0, none⟩) n c,.int .i64 (k : Int),.pointer (some ⟨b0, o0 + k * 11, none⟩),_,_,_,_,_,_,_,_,_,_,_,_,_,_,_,_,_,_,_,_,_,_,_,_,_,_,_,_,_,_,_,_,_,_,_,_,_,_,_,_,_,_,_,_,_,_,_,_,_,_,_,_,_,_,_,_,_,_,_,_,_,_,_,_,_], []⟩ _
      refine wpAnyH_take (i := 4) (v := .pointer (some ⟨b0, o0 + k * 11, none⟩)) rfl (by kernel_rfl) (by kernel_rfl) (by kernel_rfl) (fun _ _ _ h => h) (Or.inl ⟨by rfl, ?_⟩) hHeld ?_
      · intro W hW; (try dsimp only at hW); go_simp
      change wpAnyH _ _ _ _ _ _ _ ⟨#[_,.slice (some ⟨b0, o0, none⟩) n c,_,_,_,_,_,_,.pointer (some ⟨h + 1, 0, none⟩),_,_,_,.int .i64 (k : Int),_,_,_,_,_,_,_,_,_,_,_,_,_,_,_,_,_,_,_,_,_,_,_,_,_,_,_,_,_,_,_,_,_,_,_,_,_,_,_,_,_,_,_,_,_,_,_,_,_,.pointer (some ⟨h + 1, 0, none⟩),.slice (some ⟨b0, o0, none⟩) n c,.int .i64 (k : Int),.pointer (some ⟨b0, o0 + k * 11, none⟩),.pointer (some ⟨b0, o0 + k * 11, none⟩),_,_,_,_,_,_,_,_,_,_,_,_,_,_,_,_,_,_,_,_,_,_,_,_,_,_,_,_,_,_,_,_,_,_,_,_,_,_,_,_,_,_,_,_,_,_,_,_,_,_,_,_,_,_,_,_,_,_,_,_,_,_,_,_], []⟩ _
      refine wpAnyH_take (i := 5) (v := .agg (EC p.x)) rfl (by kernel_rfl) (by kernel_rfl) (by kernel_rfl) (fun _ _ _ h => h) (yieldsIf_load_mid (by rfl) 36 (.tmp 66) rfl b0 (o0 + k * 11) rfl (ecl p.x) _ (fun W hW => stp_ent hW) Try.underlying36 rfl Try.size36) hHeld ?_
      change wpAnyH _ _ _ _ _ _ _ ⟨#[_,.slice (some ⟨b0, o0, none⟩) n c,_,_,_,_,_,_,.pointer (some ⟨h + 1, 0, none⟩),_,_,_,.int .i64 (k : Int),_,_,_,_,_,_,_,_,_,_,_,_,_,_,_,_,_,_,_,_,_,_,_,_,_,_,_,_,_,_,_,_,_,_,_,_,_,_,_,_,_,_,_,_,_,_,_,_,_,.pointer (some ⟨h + 1, 0, none⟩),.slice (some ⟨b0, o0, none⟩) n c,.int .i64 (k : Int),.pointer (some ⟨b0, o0 + k * 11, none⟩),.pointer (some ⟨b0, o0 + k * 11, none⟩),.agg (EC p.x),_,_,_,_,_,_,_,_,_,_,_,_,_,_,_,_,_,_,_,_,_,_,_,_,_,_,_,_,_,_,_,_,_,_,_,_,_,_,_,_,_,_,_,_,_,_,_,_,_,_,_,_,_,_,_,_,_,_,_,_,_,_,_], []⟩ _
      refine wpAnyH_take (i := 6) (v := .slice (some ⟨b0, o0, none⟩) n c) rfl (by kernel_rfl) (by kernel_rfl) (by kernel_rfl) (fun _ _ _ h => h) (Or.inl ⟨by rfl, ?_⟩) hHeld ?_
      · intro W hW; (try dsimp only at hW); go_simp
      change wpAnyH _ _ _ _ _ _ _ ⟨#[_,.slice (some ⟨b0, o0, none⟩) n c,_,_,_,_,_,_,.pointer (some ⟨h + 1, 0, none⟩),_,_,_,.int .i64 (k : Int),_,_,_,_,_,_,_,_,_,_,_,_,_,_,_,_,_,_,_,_,_,_,_,_,_,_,_,_,_,_,_,_,_,_,_,_,_,_,_,_,_,_,_,_,_,_,_,_,_,.pointer (some ⟨h + 1, 0, none⟩),.slice (some ⟨b0, o0, none⟩) n c,.int .i64 (k : Int),.pointer (some ⟨b0, o0 + k * 11, none⟩),.pointer (some ⟨b0, o0 + k * 11, none⟩),.agg (EC p.x),.slice (some ⟨b0, o0, none⟩) n c,_,_,_,_,_,_,_,_,_,_,_,_,_,_,_,_,_,_,_,_,_,_,_,_,_,_,_,_,_,_,_,_,_,_,_,_,_,_,_,_,_,_,_,_,_,_,_,_,_,_,_,_,_,_,_,_,_,_,_,_,_,_], []⟩ _
      refine wpAnyH_take (i := 7) (v := .int .i64 (k : Int)) rfl (by kernel_rfl) (by kernel_rfl) (by kernel_rfl) (fun _ _ _ h => h) (Or.inl ⟨by rfl, ?_⟩) hHeld ?_
      · intro W hW; (try dsimp only at hW); go_simp
      change wpAnyH _ _ _ _ _ _ _ ⟨#[_,.slice (some ⟨b0, o0, none⟩) n c,_,_,_,_,_,_,.pointer (some ⟨h + 1, 0, none⟩),_,_,_,.int .i64 (k : Int),_,_,_,_,_,_,_,_,_,_,_,_,_,_,_,_,_,_,_,_,_,_,_,_,_,_,_,_,_,_,_,_,_,_,_,_,_,_,_,_,_,_,_,_,_,_,_,_,_,.pointer (some ⟨h + 1, 0, none⟩),.slice (some ⟨b0, o0, none⟩) n c,.int .i64 (k : Int),.pointer (some ⟨b0, o0 + k * 11, none⟩),.pointer (some ⟨b0, o0 + k * 11, none⟩),.agg (EC p.x),.slice (some ⟨b0, o0, none⟩) n c,.int .i64 (k : Int),_,_,_,_,_,_,_,_,_,_,_,_,_,_,_,_,_,_,_,_,_,_,_,_,_,_,_,_,_,_,_,_,_,_,_,_,_,_,_,_,_,_,_,_,_,_,_,_,_,_,_,_,_,_,_,_,_,_,_,_,_], []⟩ _
      refine wpAnyH_take (i := 8) (v := .pointer (some ⟨b0, o0 + k * 11, none⟩)) rfl (by kernel_rfl) (by kernel_rfl) (by kernel_rfl) (fun _ _ _ h => h) (Or.inl ⟨by rfl, ?_⟩) hHeld ?_
      · intro W hW; (try dsimp only at hW); go_simp
      change wpAnyH _ _ _ _ _ _ _ ⟨#[_,.slice (some ⟨b0, o0, none⟩) n c,_,_,_,_,_,_,.pointer (some ⟨h + 1, 0, none⟩),_,_,_,.int .i64 (k : Int),_,_,_,_,_,_,_,_,_,_,_,_,_,_,_,_,_,_,_,_,_,_,_,_,_,_,_,_,_,_,_,_,_,_,_,_,_,_,_,_,_,_,_,_,_,_,_,_,_,.pointer (some ⟨h + 1, 0, none⟩),.slice (some ⟨b0, o0, none⟩) n c,.int .i64 (k : Int),.pointer (some ⟨b0, o0 + k * 11, none⟩),.pointer (some ⟨b0, o0 + k * 11, none⟩),.agg (EC p.x),.slice (some ⟨b0, o0, none⟩) n c,.int .i64 (k : Int),.pointer (some ⟨b0, o0 + k * 11, none⟩),_,_,_,_,_,_,_,_,_,_,_,_,_,_,_,_,_,_,_,_,_,_,_,_,_,_,_,_,_,_,_,_,_,_,_,_,_,_,_,_,_,_,_,_,_,_,_,_,_,_,_,_,_,_,_,_,_,_,_,_], []⟩ _
      refine wpAnyH_take (i := 9) (v := .pointer (some ⟨b0, o0 + k * 11 + 10, none⟩)) rfl (by kernel_rfl) (by kernel_rfl) (by kernel_rfl) (fun _ _ _ h => h) (Or.inl ⟨by rfl, ?_⟩) hHeld ?_
      · intro W hW; (try dsimp only at hW); go_simp
      change wpAnyH _ _ _ _ _ _ _ ⟨#[_,.slice (some ⟨b0, o0, none⟩) n c,_,_,_,_,_,_,.pointer (some ⟨h + 1, 0, none⟩),_,_,_,.int .i64 (k : Int),_,_,_,_,_,_,_,_,_,_,_,_,_,_,_,_,_,_,_,_,_,_,_,_,_,_,_,_,_,_,_,_,_,_,_,_,_,_,_,_,_,_,_,_,_,_,_,_,_,.pointer (some ⟨h + 1, 0, none⟩),.slice (some ⟨b0, o0, none⟩) n c,.int .i64 (k : Int),.pointer (some ⟨b0, o0 + k * 11, none⟩),.pointer (some ⟨b0, o0 + k * 11, none⟩),.agg (EC p.x),.slice (some ⟨b0, o0, none⟩) n c,.int .i64 (k : Int),.pointer (some ⟨b0, o0 + k * 11, none⟩),.pointer (some ⟨b0, o0 + k * 11 + 10, none⟩),_,_,_,_,_,_,_,_,_,_,_,_,_,_,_,_,_,_,_,_,_,_,_,_,_,_,_,_,_,_,_,_,_,_,_,_,_,_,_,_,_,_,_,_,_,_,_,_,_,_,_,_,_,_,_,_,_,_,_], []⟩ _
      refine wpAnyH_take (i := 10) (v := .bool p.g) rfl (by kernel_rfl) (by kernel_rfl) (by kernel_rfl) (fun _ _ _ h => h) (Or.inl ⟨by rfl, ?_⟩) hHeld ?_
      · intro W hW; (try dsimp only at hW); have hc := rng_cell hW (show (pcl p)[10]? = some (.bool p.g) from rfl); clear hW; go_simp
      change wpAnyH _ _ _ _ _ _ _ ⟨#[_,.slice (some ⟨b0, o0, none⟩) n c,_,_,_,_,_,_,.pointer (some ⟨h + 1, 0, none⟩),_,_,_,.int .i64 (k : Int),_,_,_,_,_,_,_,_,_,_,_,_,_,_,_,_,_,_,_,_,_,_,_,_,_,_,_,_,_,_,_,_,_,_,_,_,_,_,_,_,_,_,_,_,_,_,_,_,_,.pointer (some ⟨h + 1, 0, none⟩),.slice (some ⟨b0, o0, none⟩) n c,.int .i64 (k : Int),.pointer (some ⟨b0, o0 + k * 11, none⟩),.pointer (some ⟨b0, o0 + k * 11, none⟩),.agg (EC p.x),.slice (some ⟨b0, o0, none⟩) n c,.int .i64 (k : Int),.pointer (some ⟨b0, o0 + k * 11, none⟩),.pointer (some ⟨b0, o0 + k * 11 + 10, none⟩),.bool p.g,_,_,_,_,_,_,_,_,_,_,_,_,_,_,_,_,_,_,_,_,_,_,_,_,_,_,_,_,_,_,_,_,_,_,_,_,_,_,_,_,_,_,_,_,_,_,_,_,_,_,_,_,_,_,_,_,_,_], []⟩ _
      refine wpAnyH_ready (rs := [11]) (by kernel_rfl) (by simp) ?_
      refine AllReadyH.cons rfl (fun K hK => ?_) AllReadyH.nil
      go_simp
      refine (put13q h x pl cs p.x p.g ((k : Int) + 1) _ HP.out (by rw [HCL.out]; omega) (by rw [HCL.out])).mono ?_
      rintro e u1 ⟨rfl, ⟨pl', cs', ecs, lcs, P1⟩, M1⟩
      have hb1 := M1.under HGH.out (by have := HGS.out.1; have := HGH.out; omega)
      refine hK.out _ _ (fun i v hi => (hb1.cell (p := ⟨b0, o0 + k * 11 + i, none⟩) HBG.out).trans (hHeld i v hi)) (fun hHeld => ?_)
      clear hK K
      replace HB := hide (HB.out.trans hb1)
      replace HS := hide (HS.out.below hb1)
      replace HR := hide (HR.out.mid M1 HHG.out)
      replace HGS : Hid (h ≤ u1.heap.size ∧ g ≤ u1.heap.size) := hide ⟨by have := HGS.out.1; have := hb1.size; omega, by have := HGS.out.2; have := hb1.size; omega⟩
      have HP1 := hide P1
      have HC1 : Hid (cs' = cs ++ [⟨(k : Int) + 1, p.x, p.g⟩]) := hide ecs
      clear P1 M1 hb1 lcs ecs HP
      change wpAnyH _ _ _ _ _ _ _ ⟨#[_,.slice (some ⟨b0, o0, none⟩) n c,_,_,_,_,_,_,.pointer (some ⟨h + 1, 0, none⟩),_,_,_,.int .i64 (k : Int),_,_,_,_,_,_,_,_,_,_,_,_,_,_,_,_,_,_,_,_,_,_,_,_,_,_,_,_,_,_,_,_,_,_,_,_,_,_,_,_,_,_,_,_,_,_,_,_,_,.pointer (some ⟨h + 1, 0, none⟩),.slice (some ⟨b0, o0, none⟩) n c,.int .i64 (k : Int),.pointer (some ⟨b0, o0 + k * 11, none⟩),.pointer (some ⟨b0, o0 + k * 11, none⟩),.agg (EC p.x),.slice (some ⟨b0, o0, none⟩) n c,.int .i64 (k : Int),.pointer (some ⟨b0, o0 + k * 11, none⟩),.pointer (some ⟨b0, o0 + k * 11 + 10, none⟩),.bool p.g,.tuple #[.int .i64 ((k : Int) + 1), .int .i64 0],_,_,_,_,_,_,_,_,_,_,_,_,_,_,_,_,_,_,_,_,_,_,_,_,_,_,_,_,_,_,_,_,_,_,_,_,_,_,_,_,_,_,_,_,_,_,_,_,_,_,_,_,_,_,_,_,_], []⟩ _
      refine wpAnyH_take (i := 12) (v := .tuple #[.int .i64 ((k : Int) + 1), .int .i64 0]) rfl (by kernel_rfl) (by kernel_rfl) (by kernel_rfl) (fun _ _ _ h => h) (Or.inl ⟨by rfl, ?_⟩) hHeld ?_
      · intro W hW; (try dsimp only at hW); go_simp
      change wpAnyH _ _ _ _ _ _ _ ⟨#[_,.slice (some ⟨b0, o0, none⟩) n c,_,_,_,_,_,_,.pointer (some ⟨h + 1, 0, none⟩),_,_,_,.int .i64 (k : Int),_,_,_,_,_,_,_,_,_,_,_,_,_,_,_,_,_,_,_,_,_,_,_,_,_,_,_,_,_,_,_,_,_,_,_,_,_,_,_,_,_,_,_,_,_,_,_,_,.tuple #[.int .i64 ((k : Int) + 1), .int .i64 0],.pointer (some ⟨h + 1, 0, none⟩),.slice (some ⟨b0, o0, none⟩) n c,.int .i64 (k : Int),.pointer (some ⟨b0, o0 + k * 11, none⟩),.pointer (some ⟨b0, o0 + k * 11, none⟩),.agg (EC p.x),.slice (some ⟨b0, o0, none⟩) n c,.int .i64 (k : Int),.pointer (some ⟨b0, o0 + k * 11, none⟩),.pointer (some ⟨b0, o0 + k * 11 + 10, none⟩),.bool p.g,.tuple #[.int .i64 ((k : Int) + 1), .int .i64 0],_,_,_,_,_,_,_,_,_,_,_,_,_,_,_,_,_,_,_,_,_,_,_,_,_,_,_,_,_,_,_,_,_,_,_,_,_,_,_,_,_,_,_,_,_,_,_,_,_,_,_,_,_,_,_,_,_], []⟩ _
      refine wpAnyH_take (i := 13) (v := .int .i64 ((k : Int) + 1)) rfl (by kernel_rfl) (by kernel_rfl) (by kernel_rfl) (fun _ _ _ h => h) (Or.inl ⟨by rfl, ?_⟩) hHeld ?_
      · intro W hW; (try dsimp only at hW); go_simp
      change wpAnyH _ _ _ _ _ _ _ ⟨#[_,.slice (some ⟨b0, o0, none⟩) n c,_,_,_,_,_,_,.pointer (some ⟨h + 1, 0, none⟩),_,_,_,.int .i64 (k : Int),_,_,_,_,_,_,_,_,_,_,_,_,_,_,_,_,_,_,_,_,_,_,_,_,_,_,_,_,_,_,_,_,_,_,_,_,_,_,_,_,_,_,_,_,_,_,_,_,.tuple #[.int .i64 ((k : Int) + 1), .int .i64 0],.pointer (some ⟨h + 1, 0, none⟩),.slice (some ⟨b0, o0, none⟩) n c,.int .i64 (k : Int),.pointer (some ⟨b0, o0 + k * 11, none⟩),.pointer (some ⟨b0, o0 + k * 11, none⟩),.agg (EC p.x),.slice (some ⟨b0, o0, none⟩) n c,.int .i64 (k : Int),.pointer (some ⟨b0, o0 + k * 11, none⟩),.pointer (some ⟨b0, o0 + k * 11 + 10, none⟩),.bool p.g,.tuple #[.int .i64 ((k : Int) + 1), .int .i64 0],.int .i64 ((k : Int) + 1),_,_,_,_,_,_,_,_,_,_,_,_,_,_,_,_,_,_,_,_,_,_,_,_,_,_,_,_,_,_,_,_,_,_,_,_,_,_,_,_,_,_,_,_,_,_,_,_,_,_,_,_,_,_,_,_], []⟩ _
      refine wpAnyH_take (i := 14) (v := .int .i64 0) rfl (by kernel_rfl) (by kernel_rfl) (by kernel_rfl) (fun _ _ _ h => h) (Or.inl ⟨by rfl, ?_⟩) hHeld ?_
      · intro W hW; (try dsimp only at hW); go_simp
      change wpAnyH _ _ _ _ _ _ _ ⟨#[_,.slice (some ⟨b0, o0, none⟩) n c,_,_,_,_,_,_,.pointer (some ⟨h + 1, 0, none⟩),_,_,_,.int .i64 (k : Int),_,_,_,_,_,_,_,_,_,_,_,_,_,_,_,_,_,_,_,_,_,_,_,_,_,_,_,_,_,_,_,_,_,_,_,_,_,_,_,_,_,_,_,_,_,_,_,_,.tuple #[.int .i64 ((k : Int) + 1), .int .i64 0],.pointer (some ⟨h + 1, 0, none⟩),.slice (some ⟨b0, o0, none⟩) n c,.int .i64 (k : Int),.pointer (some ⟨b0, o0 + k * 11, none⟩),.pointer (some ⟨b0, o0 + k * 11, none⟩),.agg (EC p.x),.slice (some ⟨b0, o0, none⟩) n c,.int .i64 (k : Int),.pointer (some ⟨b0, o0 + k * 11, none⟩),.pointer (some ⟨b0, o0 + k * 11 + 10, none⟩),.bool p.g,.tuple #[.int .i64 ((k : Int) + 1), .int .i64 0],.int .i64 ((k : Int) + 1),.int .i64 0,_,_,_,_,_,_,_,_,_,_,_,_,_,_,_,_,_,_,_,_,_,_,_,_,_,_,_,_,_,_,_,_,_,_,_,_,_,_,_,_,_,_,_,_,_,_,_,_,_,_,_,_,_,_,_], []⟩ _
      refine wpAnyH_take (i := 15) (v := .int .i64 ((k : Int) + 1)) rfl (by kernel_rfl) (by kernel_rfl) (by kernel_rfl) (fun _ _ _ h => h) (Or.inl ⟨by rfl, ?_⟩) hHeld ?_
      · intro W hW; (try dsimp only at hW); go_simp
      change wpAnyH _ _ _ _ _ _ _ ⟨#[_,.slice (some ⟨b0, o0, none⟩) n c,_,_,_,_,_,_,.pointer (some ⟨h + 1, 0, none⟩),_,_,_,.int .i64 (k : Int),.int .i64 ((k : Int) + 1),_,_,_,_,_,_,_,_,_,_,_,_,_,_,_,_,_,_,_,_,_,_,_,_,_,_,_,_,_,_,_,_,_,_,_,_,_,_,_,_,_,_,_,_,_,_,_,.tuple #[.int .i64 ((k : Int) + 1), .int .i64 0],.pointer (some ⟨h + 1, 0, none⟩),.slice (some ⟨b0, o0, none⟩) n c,.int .i64 (k : Int),.pointer (some ⟨b0, o0 + k * 11, none⟩),.pointer (some ⟨b0, o0 + k * 11, none⟩),.agg (EC p.x),.slice (some ⟨b0, o0, none⟩) n c,.int .i64 (k : Int),.pointer (some ⟨b0, o0 + k * 11, none⟩),.pointer (some ⟨b0, o0 + k * 11 + 10, none⟩),.bool p.g,.tuple #[.int .i64 ((k : Int) + 1), .int .i64 0],.int .i64 ((k : Int) + 1),.int .i64 0,_,_,_,_,_,_,_,_,_,_,_,_,_,_,_,_,_,_,_,_,_,_,_,_,_,_,_,_,_,_,_,_,_,_,_,_,_,_,_,_,_,_,_,_,_,_,_,_,_,_,_,_,_,_,_], []⟩ _
      refine wpAnyH_take (i := 16) (v := .int .i64 0) rfl (by kernel_rfl) (by kernel_rfl) (by kernel_rfl) (fun _ _ _ h => h) (Or.inl ⟨by rfl, ?_⟩) hHeld ?_
      · intro W hW; (try dsimp only at hW); go_simp
      change wpAnyH _ _ _ _ _ _ _ ⟨#[_,.slice (some ⟨b0, o0, none⟩) n c,_,_,_,_,_,_,.pointer (some ⟨h + 1, 0, none⟩),_,_,_,.int .i64 (k : Int),.int .i64 ((k : Int) + 1),.int .i64 0,_,_,_,_,_,_,_,_,_,_,_,_,_,_,_,_,_,_,_,_,_,_,_,_,_,_,_,_,_,_,_,_,_,_,_,_,_,_,_,_,_,_,_,_,_,_,.tuple #[.int .i64 ((k : Int) + 1), .int .i64 0],.pointer (some ⟨h + 1, 0, none⟩),.slice (some ⟨b0, o0, none⟩) n c,.int .i64 (k : Int),.pointer (some ⟨b0, o0 + k * 11, none⟩),.pointer (some ⟨b0, o0 + k * 11, none⟩),.agg (EC p.x),.slice (some ⟨b0, o0, none⟩) n c,.int .i64 (k : Int),.pointer (some ⟨b0, o0 + k * 11, none⟩),.pointer (some ⟨b0, o0 + k * 11 + 10, none⟩),.bool p.g,.tuple #[.int .i64 ((k : Int) + 1), .int .i64 0],.int .i64 ((k : Int) + 1),.int .i64 0,_,_,_,_,_,_,_,_,_,_,_,_,_,_,_,_,_,_,_,_,_,_,_,_,_,_,_,_,_,_,_,_,_,_,_,_,_,_,_,_,_,_,_,_,_,_,_,_,_,_,_,_,_,_,_], []⟩ _
      have HRA := hide hHeld
      clear hHeld
      refine wpAnyH_done (by kernel_rfl) ?_ _
      go_wp2_with fail
      refine wp_region_held_drew (S := fun w' => w'.rangeAt b0 (o0 + k * 11) (pcl p)) (by kernel_rfl) HRA.out (fun hHeld => ?_)
      clear HRA
      have bd : Below u1.heap.size u1 u1.drew := belowOn' (Below.refl _ _)
      replace HP1 := hide (HP1.out.on bd)
      replace HR := hide (HR.out.on bd)
      replace HB := hide (belowOn' HB.out)
      replace HS := hide HS.out.drew
      replace HGS : Hid (h ≤ u1.drew.heap.size ∧ g ≤ u1.drew.heap.size) := hide HGS.out
      clear bd
      generalize u1.drew = u2 at *
      refine wpAnyH_take (i := 0) (v := .pointer (some ⟨g, 0, none⟩)) rfl (by kernel_rfl) (by kernel_rfl) (by kernel_rfl) (fun _ _ _ h => h) (Or.inl ⟨by rfl, ?_⟩) hHeld ?_
      · intro W hW; (try dsimp only at hW); go_simp
      change wpAnyH _ _ _ _ _ _ _ ⟨#[_,.slice (some ⟨b0, o0, none⟩) n c,_,_,_,_,_,_,.pointer (some ⟨h + 1, 0, none⟩),_,.pointer (some ⟨g, 0, none⟩),_,.int .i64 (k : Int),.int .i64 ((k : Int) + 1),.int .i64 0,_,_,_,_,_,_,_,_,_,_,_,_,_,_,_,_,_,_,_,_,_,_,_,_,_,_,_,_,_,_,_,_,_,_,_,_,_,_,_,_,_,_,_,_,_,_,_,_,_,_,_,_,_,_,_,_,_,_,_,_,_,_,.pointer (some ⟨g, 0, none⟩),_,_,_,_,_,_,_,_,_,_,_,_,_,_,_,_,_,_,_,_,_,_,_,_,_,_,_,_,_,_,_,_,_,_,_,_,_,_,_,_,_,_,_,_,_,_,_,_,_,_,_,_,_], []⟩ _
      refine wpAnyH_take (i := 1) (v := .slice (some ⟨b0, o0, none⟩) n c) rfl (by kernel_rfl) (by kernel_rfl) (by kernel_rfl) (fun _ _ _ h => h) (Or.inl ⟨by rfl, ?_⟩) hHeld ?_
      · intro W hW; (try dsimp only at hW); go_simp
      change wpAnyH _ _ _ _ _ _ _ ⟨#[_,.slice (some ⟨b0, o0, none⟩) n c,_,_,_,_,_,_,.pointer (some ⟨h + 1, 0, none⟩),_,.pointer (some ⟨g, 0, none⟩),_,.int .i64 (k : Int),.int .i64 ((k : Int) + 1),.int .i64 0,_,_,_,_,_,_,_,_,_,_,_,_,_,_,_,_,_,_,_,_,_,_,_,_,_,_,_,_,_,_,_,_,_,_,_,_,_,_,_,_,_,_,_,_,_,_,_,_,_,_,_,_,_,_,_,_,_,_,_,_,_,_,.pointer (some ⟨g, 0, none⟩),.slice (some ⟨b0, o0, none⟩) n c,_,_,_,_,_,_,_,_,_,_,_,_,_,_,_,_,_,_,_,_,_,_,_,_,_,_,_,_,_,_,_,_,_,_,_,_,_,_,_,_,_,_,_,_,_,_,_,_,_,_,_,_], []⟩ _
      refine wpAnyH_take (i := 2) (v := .int .i64 (k : Int)) rfl (by kernel_rfl) (by kernel_rfl) (by kernel_rfl) (fun _ _ _ h => h) (Or.inl ⟨by rfl, ?_⟩) hHeld ?_
      · intro W hW; (try dsimp only at hW); go_simp
      change wpAnyH _ _ _ _ _ _ _ ⟨#[_,.slice (some ⟨b0, o0, none⟩) n c,_,_,_,_,_,_,.pointer (some ⟨h + 1, 0, none⟩),_,.pointer (some ⟨g, 0, none⟩),_,.int .i64 (k : Int),.int .i64 ((k : Int) + 1),.int .i64 0,_,_,_,_,_,_,_,_,_,_,_,_,_,_,_,_,_,_,_,_,_,_,_,_,_,_,_,_,_,_,_,_,_,_,_,_,_,_,_,_,_,_,_,_,_,_,_,_,_,_,_,_,_,_,_,_,_,_,_,_,_,_,.pointer (some ⟨g, 0, none⟩),.slice (some ⟨b0, o0, none⟩) n c,.int .i64 (k : Int),_,_,_,_,_,_,_,_,_,_,_,_,_,_,_,_,_,_,_,_,_,_,_,_,_,_,_,_,_,_,_,_,_,_,_,_,_,_,_,_,_,_,_,_,_,_,_,_,_,_,_], []⟩ _
      refine wpAnyH_take (i := 3) (v := .pointer (some ⟨b0, o0 + k * 11, none⟩)) rfl (by kernel_rfl) (by kernel_rfl) (by kernel_rfl) (fun _ _ _ h => h) (Or.inl ⟨by rfl, ?_⟩) hHeld ?_
      · intro W hW; (try dsimp only at hW); go_simp
      change wpAnyH _ _ _ _ _ _ _ ⟨#[_,.slice (some ⟨b0, o0, none⟩) n c,_,_,_,_,_,_,.pointer (some ⟨h + 1, 0, none⟩),_,.pointer (some ⟨g, 0, none⟩),_,.int .i64 (k : Int),.int .i64 ((k : Int) + 1),.int .i64 0,_,_,_,_,_,_,_,_,_,_,_,_,_,_,_,_,_,_,_,_,_,_,_,_,_,_,_,_,_,_,_,_,_,_,_,_,_,_,_,_,_,_,_,_,_,_,_,_,_,_,_,_,_,_,_,_,_,_,_,_,_,_,.pointer (some ⟨g, 0, none⟩),.slice (some ⟨b0, o0, none⟩) n c,.int .i64 (k : Int),.pointer (some ⟨b0, o0 + k * 11, none⟩),_,_,_,_,_,_,_,_,_,_,_,_,_,_,_,_,_,_,_,_,_,_,_,_,_,_,_,_,_,_,_,_,_,_,_,_,_,_,_,_,_,_,_,_,_,_,_,_,_,_], []⟩ _
      refine wpAnyH_take (i := 4) (v := .pointer (some ⟨b0, o0 + k * 11, none⟩)) rfl (by kernel_rfl) (by kernel_rfl) (by kernel_rfl) (fun _ _ _ h => h) (Or.inl ⟨by rfl, ?_⟩) hHeld ?_
      · intro W hW; (try dsimp only at hW); go_simp
      change wpAnyH _ _ _ _ _ _ _ ⟨#[_,.slice (some ⟨b0, o0, none⟩) n c,_,_,_,_,_,_,.pointer (some ⟨h + 1, 0, none⟩),_,.pointer (some ⟨g, 0, none⟩),_,.int .i64 (k : Int),.int .i64 ((k : Int) + 1),.int .i64 0,_,_,_,_,_,_,_,_,_,_,_,_,_,_,_,_,_,_,_,_,_,_,_,_,_,_,_,_,_,_,_,_,_,_,_,_,_,_,_,_,_,_,_,_,_,_,_,_,_,_,_,_,_,_,_,_,_,_,_,_,_,_,.pointer (some ⟨g, 0, none⟩),.slice (some ⟨b0, o0, none⟩) n c,.int .i64 (k : Int),.pointer (some ⟨b0, o0 + k * 11, none⟩),.pointer (some ⟨b0, o0 + k * 11, none⟩),_,_,_,_,_,_,_,_,_,_,_,_,_,_,_,_,_,_,_,_,_,_,_,_,_,_,_,_,_,_,_,_,_,_,_,_,_,_,_,_,_,_,_,_,_,_,_,_,_], []⟩ _
      refine wpAnyH_take (i := 5) (v := .agg (EC p.x)) rfl (by kernel_rfl) (by kernel_rfl) (by kernel_rfl) (fun _ _ _ h => h) (yieldsIf_load_mid (by rfl) 36 (.tmp 81) rfl b0 (o0 + k * 11) rfl (ecl p.x) _ (fun W hW => stp_ent hW) Try.underlying36 rfl Try.size36) hHeld ?_
      change wpAnyH _ _ _ _ _ _ _ ⟨#[_,.slice (some ⟨b0, o0, none⟩) n c,_,_,_,_,_,_,.pointer (some ⟨h + 1, 0, none⟩),_,.pointer (some ⟨g, 0, none⟩),_,.int .i64 (k : Int),.int .i64 ((k : Int) + 1),.int .i64 0,_,_,_,_,_,_,_,_,_,_,_,_,_,_,_,_,_,_,_,_,_,_,_,_,_,_,_,_,_,_,_,_,_,_,_,_,_,_,_,_,_,_,_,_,_,_,_,_,_,_,_,_,_,_,_,_,_,_,_,_,_,_,.pointer (some ⟨g, 0, none⟩),.slice (some ⟨b0, o0, none⟩) n c,.int .i64 (k : Int),.pointer (some ⟨b0, o0 + k * 11, none⟩),.pointer (some ⟨b0, o0 + k * 11, none⟩),.agg (EC p.x),_,_,_,_,_,_,_,_,_,_,_,_,_,_,_,_,_,_,_,_,_,_,_,_,_,_,_,_,_,_,_,_,_,_,_,_,_,_,_,_,_,_,_,_,_,_,_,_], []⟩ _
      refine wpAnyH_take (i := 6) (v := .slice (some ⟨b0, o0, none⟩) n c) rfl (by kernel_rfl) (by kernel_rfl) (by kernel_rfl) (fun _ _ _ h => h) (Or.inl ⟨by rfl, ?_⟩) hHeld ?_
      · intro W hW; (try dsimp only at hW); go_simp
      change wpAnyH _ _ _ _ _ _ _ ⟨#[_,.slice (some ⟨b0, o0, none⟩) n c,_,_,_,_,_,_,.pointer (some ⟨h + 1, 0, none⟩),_,.pointer (some ⟨g, 0, none⟩),_,.int .i64 (k : Int),.int .i64 ((k : Int) + 1),.int .i64 0,_,_,_,_,_,_,_,_,_,_,_,_,_,_,_,_,_,_,_,_,_,_,_,_,_,_,_,_,_,_,_,_,_,_,_,_,_,_,_,_,_,_,_,_,_,_,_,_,_,_,_,_,_,_,_,_,_,_,_,_,_,_,.pointer (some ⟨g, 0, none⟩),.slice (some ⟨b0, o0, none⟩) n c,.int .i64 (k : Int),.pointer (some ⟨b0, o0 + k * 11, none⟩),.pointer (some ⟨b0, o0 + k * 11, none⟩),.agg (EC p.x),.slice (some ⟨b0, o0, none⟩) n c,_,_,_,_,_,_,_,_,_,_,_,_,_,_,_,_,_,_,_,_,_,_,_,_,_,_,_,_,_,_,_,_,_,_,_,_,_,_,_,_,_,_,_,_,_,_,_], []⟩ _
      refine wpAnyH_take (i := 7) (v := .int .i64 (k : Int)) rfl (by kernel_rfl) (by kernel_rfl) (by kernel_rfl) (fun _ _ _ h => h) (Or.inl ⟨by rfl, ?_⟩) hHeld ?_
      · intro W hW; (try dsimp only at hW); go_simp
      change wpAnyH _ _ _ _ _ _ _ ⟨#[_,.slice (some ⟨b0, o0, none⟩) n c,_,_,_,_,_,_,.pointer (some ⟨h + 1, 0, none⟩),_,.pointer (some ⟨g, 0, none⟩),_,.int .i64 (k : Int),.int .i64 ((k : Int) + 1),.int .i64 0,_,_,_,_,_,_,_,_,_,_,_,_,_,_,_,_,_,_,_,_,_,_,_,_,_,_,_,_,_,_,_,_,_,_,_,_,_,_,_,_,_,_,_,_,_,_,_,_,_,_,_,_,_,_,_,_,_,_,_,_,_,_,.pointer (some ⟨g, 0, none⟩),.slice (some ⟨b0, o0, none⟩) n c,.int .i64 (k : Int),.pointer (some ⟨b0, o0 + k * 11, none⟩),.pointer (some ⟨b0, o0 + k * 11, none⟩),.agg (EC p.x),.slice (some ⟨b0, o0, none⟩) n c,.int .i64 (k : Int),_,_,_,_,_,_,_,_,_,_,_,_,_,_,_,_,_,_,_,_,_,_,_,_,_,_,_,_,_,_,_,_,_,_,_,_,_,_,_,_,_,_,_,_,_,_], []⟩ _
      refine wpAnyH_take (i := 8) (v := .pointer (some ⟨b0, o0 + k * 11, none⟩)) rfl (by kernel_rfl) (by kernel_rfl) (by kernel_rfl) (fun _ _ _ h => h) (Or.inl ⟨by rfl, ?_⟩) hHeld ?_
      · intro W hW; (try dsimp only at hW); go_simp
      change wpAnyH _ _ _ _ _ _ _ ⟨#[_,.slice (some ⟨b0, o0, none⟩) n c,_,_,_,_,_,_,.pointer (some ⟨h + 1, 0, none⟩),_,.pointer (some ⟨g, 0, none⟩),_,.int .i64 (k : Int),.int .i64 ((k : Int) + 1),.int .i64 0,_,_,_,_,_,_,_,_,_,_,_,_,_,_,_,_,_,_,_,_,_,_,_,_,_,_,_,_,_,_,_,_,_,_,_,_,_,_,_,_,_,_,_,_,_,_,_,_,_,_,_,_,_,_,_,_,_,_,_,_,_,_,.pointer (some ⟨g, 0, none⟩),.slice (some ⟨b0, o0, none⟩) n c,.int .i64 (k : Int),.pointer (some ⟨b0, o0 + k * 11, none⟩),.pointer (some ⟨b0, o0 + k * 11, none⟩),.agg (EC p.x),.slice (some ⟨b0, o0, none⟩) n c,.int .i64 (k : Int),.pointer (some ⟨b0, o0 + k * 11, none⟩),_,_,_,_,_,_,_,_,_,_,_,_,_,_,_,_,_,_,_,_,_,_,_,_,_,_,_,_,_,_,_,_,_,_,_,_,_,_,_,_,_,_,_,_,_], []⟩ _
      refine wpAnyH_take (i := 9) (v := .pointer (some ⟨b0, o0 + k * 11 + 10, none⟩)) rfl (by kernel_rfl) (by kernel_rfl) (by kernel_rfl) (fun _ _ _ h => h) (Or.inl ⟨by rfl, ?_⟩) hHeld ?_
      · intro W hW; (try dsimp only at hW); go_simp
      change wpAnyH _ _ _ _ _ _ _ ⟨#[_,.slice (some ⟨b0, o0, none⟩) n c,_,_,_,_,_,_,.pointer (some ⟨h + 1, 0, none⟩),_,.pointer (some ⟨g, 0, none⟩),_,.int .i64 (k : Int),.int .i64 ((k : Int) + 1),.int .i64 0,_,_,_,_,_,_,_,_,_,_,_,_,_,_,_,_,_,_,_,_,_,_,_,_,_,_,_,_,_,_,_,_,_,_,_,_,_,_,_,_,_,_,_,_,_,_,_,_,_,_,_,_,_,_,_,_,_,_,_,_,_,_,.pointer (some ⟨g, 0, none⟩),.slice (some ⟨b0, o0, none⟩) n c,.int .i64 (k : Int),.pointer (some ⟨b0, o0 + k * 11, none⟩),.pointer (some ⟨b0, o0 + k * 11, none⟩),.agg (EC p.x),.slice (some ⟨b0, o0, none⟩) n c,.int .i64 (k : Int),.pointer (some ⟨b0, o0 + k * 11, none⟩),.pointer (some ⟨b0, o0 + k * 11 + 10, none⟩),_,_,_,_,_,_,_,_,_,_,_,_,_,_,_,_,_,_,_,_,_,_,_,_,_,_,_,_,_,_,_,_,_,_,_,_,_,_,_,_,_,_,_,_], []⟩ _
      refine wpAnyH_take (i := 10) (v := .bool p.g) rfl (by kernel_rfl) (by kernel_rfl) (by kernel_rfl) (fun _ _ _ h => h) (Or.inl ⟨by rfl, ?_⟩) hHeld ?_
      · intro W hW; (try dsimp only at hW); have hc := rng_cell hW (show (pcl p)[10]? = some (.bool p.g) from rfl); clear hW; go_simp
      change wpAnyH _ _ _ _ _ _ _ ⟨#[_,.slice (some ⟨b0, o0, none⟩) n c,_,_,_,_,_,_,.pointer (some ⟨h + 1, 0, none⟩),_,.pointer (some ⟨g, 0, none⟩),_,.int .i64 (k : Int),.int .i64 ((k : Int) + 1),.int .i64 0,_,_,_,_,_,_,_,_,_,_,_,_,_,_,_,_,_,_,_,_,_,_,_,_,_,_,_,_,_,_,_,_,_,_,_,_,_,_,_,_,_,_,_,_,_,_,_,_,_,_,_,_,_,_,_,_,_,_,_,_,_,_,.pointer (some ⟨g, 0, none⟩),.slice (some ⟨b0, o0, none⟩) n c,.int .i64 (k : Int),.pointer (some ⟨b0, o0 + k * 11, none⟩),.pointer (some ⟨b0, o0 + k * 11, none⟩),.agg (EC p.x),.slice (some ⟨b0, o0, none⟩) n c,.int .i64 (k : Int),.pointer (some ⟨b0, o0 + k * 11, none⟩),.pointer (some ⟨b0, o0 + k * 11 + 10, none⟩),.bool p.g,_,_,_,_,_,_,_,_,_,_,_,_,_,_,_,_,_,_,_,_,_,_,_,_,_,_,_,_,_,_,_,_,_,_,_,_,_,_,_,_,_,_,_], []⟩ _
      refine wpAnyH_ready (rs := [11]) (by kernel_rfl) (by simp) ?_
      refine AllReadyH.cons rfl (fun K hK => ?_) AllReadyH.nil
      go_simp
      refine (putr14 g x mR cR aoR cs p.x p.g ((k : Int) + 1) _ HR.out (by rw [HCL.out]; omega) (by rw [HCL.out])).mono ?_
      rintro e u3 ⟨rfl, ⟨aoS, mS, cS, cs2, ecs, lcs, Q1⟩, M1⟩
      have hb1 := M1.under (G := G) (by have := HGH.out; have := HHG.out; omega) (by have := HGS.out.1; have := HGH.out; omega)
      refine hK.out _ _ (fun i v hi => (hb1.cell (p := ⟨b0, o0 + k * 11 + i, none⟩) HBG.out).trans (hHeld i v hi)) (fun hHeld => ?_)
      clear hK K
      replace HB := hide (HB.out.trans hb1)
      replace HS := hide (HS.out.below hb1)
      replace HP1 := hide (HP1.out.mid M1 (Or.inl HHG.out))
      obtain rfl : cs2 = cs' := by rw [ecs, HC1.out]
      have HR1 := hide Q1
      obtain ⟨k1, hk1⟩ : ∃ k1, k1 = k + 1 := ⟨_, rfl⟩
      have HL1 : Hid (cs2.length = k1) := hide (by rw [lcs, HCL.out, hk1])
      have HK1 := hide hk1
      clear Q1 M1 hb1 lcs ecs HR HC1 HCL hk1
      change wpAnyH _ _ _ _ _ _ _ ⟨#[_,.slice (some ⟨b0, o0, none⟩) n c,_,_,_,_,_,_,.pointer (some ⟨h + 1, 0, none⟩),_,.pointer (some ⟨g, 0, none⟩),_,.int .i64 (k : Int),.int .i64 ((k : Int) + 1),.int .i64 0,_,_,_,_,_,_,_,_,_,_,_,_,_,_,_,_,_,_,_,_,_,_,_,_,_,_,_,_,_,_,_,_,_,_,_,_,_,_,_,_,_,_,_,_,_,_,_,_,_,_,_,_,_,_,_,_,_,_,_,_,_,_,.pointer (some ⟨g, 0, none⟩),.slice (some ⟨b0, o0, none⟩) n c,.int .i64 (k : Int),.pointer (some ⟨b0, o0 + k * 11, none⟩),.pointer (some ⟨b0, o0 + k * 11, none⟩),.agg (EC p.x),.slice (some ⟨b0, o0, none⟩) n c,.int .i64 (k : Int),.pointer (some ⟨b0, o0 + k * 11, none⟩),.pointer (some ⟨b0, o0 + k * 11 + 10, none⟩),.bool p.g,.tuple #[.int .i64 ((k : Int) + 1), .int .i64 0],_,_,_,_,_,_,_,_,_,_,_,_,_,_,_,_,_,_,_,_,_,_,_,_,_,_,_,_,_,_,_,_,_,_,_,_,_,_,_,_,_,_], []⟩ _
      refine wpAnyH_take (i := 12) (v := .tuple #[.int .i64 ((k : Int) + 1), .int .i64 0]) rfl (by kernel_rfl) (by kernel_rfl) (by kernel_rfl) (fun _ _ _ h => h) (Or.inl ⟨by rfl, ?_⟩) hHeld ?_
      · intro W hW; (try dsimp only at hW); go_simp
      change wpAnyH _ _ _ _ _ _ _ ⟨#[_,.slice (some ⟨b0, o0, none⟩) n c,_,_,_,_,_,_,.pointer (some ⟨h + 1, 0, none⟩),_,.pointer (some ⟨g, 0, none⟩),_,.int .i64 (k : Int),.int .i64 ((k : Int) + 1),.int .i64 0,_,_,_,_,_,_,_,_,_,_,_,_,_,_,_,_,_,_,_,_,_,_,_,_,_,_,_,_,_,_,_,_,_,_,_,_,_,_,_,_,_,_,_,_,_,_,_,_,_,_,_,_,_,_,_,_,_,_,_,_,_,.tuple #[.int .i64 ((k : Int) + 1), .int .i64 0],.pointer (some ⟨g, 0, none⟩),.slice (some ⟨b0, o0, none⟩) n c,.int .i64 (k : Int),.pointer (some ⟨b0, o0 + k * 11, none⟩),.pointer (some ⟨b0, o0 + k * 11, none⟩),.agg (EC p.x),.slice (some ⟨b0, o0, none⟩) n c,.int .i64 (k : Int),.pointer (some ⟨b0, o0 + k * 11, none⟩),.pointer (some ⟨b0, o0 + k * 11 + 10, none⟩),.bool p.g,.tuple #[.int .i64 ((k : Int) + 1), .int .i64 0],_,_,_,_,_,_,_,_,_,_,_,_,_,_,_,_,_,_,_,_,_,_,_,_,_,_,_,_,_,_,_,_,_,_,_,_,_,_,_,_,_,_], []⟩ _
      refine wpAnyH_take (i := 13) (v := .int .i64 ((k : Int) + 1)) rfl (by kernel_rfl) (by kernel_rfl) (by kernel_rfl) (fun _ _ _ h => h) (Or.inl ⟨by rfl, ?_⟩) hHeld ?_
      · intro W hW; (try dsimp only at hW); go_simp
      change wpAnyH _ _ _ _ _ _ _ ⟨#[_,.slice (some ⟨b0, o0, none⟩) n c,_,_,_,_,_,_,.pointer (some ⟨h + 1, 0, none⟩),_,.pointer (some ⟨g, 0, none⟩),_,.int .i64 (k : Int),.int .i64 ((k : Int) + 1),.int .i64 0,_,_,_,_,_,_,_,_,_,_,_,_,_,_,_,_,_,_,_,_,_,_,_,_,_,_,_,_,_,_,_,_,_,_,_,_,_,_,_,_,_,_,_,_,_,_,_,_,_,_,_,_,_,_,_,_,_,_,_,_,_,.tuple #[.int .i64 ((k : Int) + 1), .int .i64 0],.pointer (some ⟨g, 0, none⟩),.slice (some ⟨b0, o0, none⟩) n c,.int .i64 (k : Int),.pointer (some ⟨b0, o0 + k * 11, none⟩),.pointer (some ⟨b0, o0 + k * 11, none⟩),.agg (EC p.x),.slice (some ⟨b0, o0, none⟩) n c,.int .i64 (k : Int),.pointer (some ⟨b0, o0 + k * 11, none⟩),.pointer (some ⟨b0, o0 + k * 11 + 10, none⟩),.bool p.g,.tuple #[.int .i64 ((k : Int) + 1), .int .i64 0],.int .i64 ((k : Int) + 1),_,_,_,_,_,_,_,_,_,_,_,_,_,_,_,_,_,_,_,_,_,_,_,_,_,_,_,_,_,_,_,_,_,_,_,_,_,_,_,_,_], []⟩ _
      refine wpAnyH_take (i := 14) (v := .int .i64 0) rfl (by kernel_rfl) (by kernel_rfl) (by kernel_rfl) (fun _ _ _ h => h) (Or.inl ⟨by rfl, ?_⟩) hHeld ?_
      · intro W hW; (try dsimp only at hW); go_simp
      change wpAnyH _ _ _ _ _ _ _ ⟨#[_,.slice (some ⟨b0, o0, none⟩) n c,_,_,_,_,_,_,.pointer (some ⟨h + 1, 0, none⟩),_,.pointer (some ⟨g, 0, none⟩),_,.int .i64 (k : Int),.int .i64 ((k : Int) + 1),.int .i64 0,_,_,_,_,_,_,_,_,_,_,_,_,_,_,_,_,_,_,_,_,_,_,_,_,_,_,_,_,_,_,_,_,_,_,_,_,_,_,_,_,_,_,_,_,_,_,_,_,_,_,_,_,_,_,_,_,_,_,_,_,_,.tuple #[.int .i64 ((k : Int) + 1), .int .i64 0],.pointer (some ⟨g, 0, none⟩),.slice (some ⟨b0, o0, none⟩) n c,.int .i64 (k : Int),.pointer (some ⟨b0, o0 + k * 11, none⟩),.pointer (some ⟨b0, o0 + k * 11, none⟩),.agg (EC p.x),.slice (some ⟨b0, o0, none⟩) n c,.int .i64 (k : Int),.pointer (some ⟨b0, o0 + k * 11, none⟩),.pointer (some ⟨b0, o0 + k * 11 + 10, none⟩),.bool p.g,.tuple #[.int .i64 ((k : Int) + 1), .int .i64 0],.int .i64 ((k : Int) + 1),.int .i64 0,_,_,_,_,_,_,_,_,_,_,_,_,_,_,_,_,_,_,_,_,_,_,_,_,_,_,_,_,_,_,_,_,_,_,_,_,_,_,_,_], []⟩ _
      refine wpAnyH_take (i := 15) (v := .int .i64 ((k : Int) + 1)) rfl (by kernel_rfl) (by kernel_rfl) (by kernel_rfl) (fun _ _ _ h => h) (Or.inl ⟨by rfl, ?_⟩) hHeld ?_
      · intro W hW; (try dsimp only at hW); go_simp
      change wpAnyH _ _ _ _ _ _ _ ⟨#[_,.slice (some ⟨b0, o0, none⟩) n c,_,_,_,_,_,_,.pointer (some ⟨h + 1, 0, none⟩),_,.pointer (some ⟨g, 0, none⟩),_,.int .i64 (k : Int),.int .i64 ((k : Int) + 1),.int .i64 0,.int .i64 ((k : Int) + 1),_,_,_,_,_,_,_,_,_,_,_,_,_,_,_,_,_,_,_,_,_,_,_,_,_,_,_,_,_,_,_,_,_,_,_,_,_,_,_,_,_,_,_,_,_,_,_,_,_,_,_,_,_,_,_,_,_,_,_,_,.tuple #[.int .i64 ((k : Int) + 1), .int .i64 0],.pointer (some ⟨g, 0, none⟩),.slice (some ⟨b0, o0, none⟩) n c,.int .i64 (k : Int),.pointer (some ⟨b0, o0 + k * 11, none⟩),.pointer (some ⟨b0, o0 + k * 11, none⟩),.agg (EC p.x),.slice (some ⟨b0, o0, none⟩) n c,.int .i64 (k : Int),.pointer (some ⟨b0, o0 + k * 11, none⟩),.pointer (some ⟨b0, o0 + k * 11 + 10, none⟩),.bool p.g,.tuple #[.int .i64 ((k : Int) + 1), .int .i64 0],.int .i64 ((k : Int) + 1),.int .i64 0,_,_,_,_,_,_,_,_,_,_,_,_,_,_,_,_,_,_,_,_,_,_,_,_,_,_,_,_,_,_,_,_,_,_,_,_,_,_,_,_], []⟩ _
      refine wpAnyH_take (i := 16) (v := .int .i64 0) rfl (by kernel_rfl) (by kernel_rfl) (by kernel_rfl) (fun _ _ _ h => h) (Or.inl ⟨by rfl, ?_⟩) hHeld ?_
      · intro W hW; (try dsimp only at hW); go_simp
      change wpAnyH _ _ _ _ _ _ _ ⟨#[_,.slice (some ⟨b0, o0, none⟩) n c,_,_,_,_,_,_,.pointer (some ⟨h + 1, 0, none⟩),_,.pointer (some ⟨g, 0, none⟩),_,.int .i64 (k : Int),.int .i64 ((k : Int) + 1),.int .i64 0,.int .i64 ((k : Int) + 1),.int .i64 0,_,_,_,_,_,_,_,_,_,_,_,_,_,_,_,_,_,_,_,_,_,_,_,_,_,_,_,_,_,_,_,_,_,_,_,_,_,_,_,_,_,_,_,_,_,_,_,_,_,_,_,_,_,_,_,_,_,_,_,.tuple #[.int .i64 ((k : Int) + 1), .int .i64 0],.pointer (some ⟨g, 0, none⟩),.slice (some ⟨b0, o0, none⟩) n c,.int .i64 (k : Int),.pointer (some ⟨b0, o0 + k * 11, none⟩),.pointer (some ⟨b0, o0 + k * 11, none⟩),.agg (EC p.x),.slice (some ⟨b0, o0, none⟩) n c,.int .i64 (k : Int),.pointer (some ⟨b0, o0 + k * 11, none⟩),.pointer (some ⟨b0, o0 + k * 11 + 10, none⟩),.bool p.g,.tuple #[.int .i64 ((k : Int) + 1), .int .i64 0],.int .i64 ((k : Int) + 1),.int .i64 0,_,_,_,_,_,_,_,_,_,_,_,_,_,_,_,_,_,_,_,_,_,_,_,_,_,_,_,_,_,_,_,_,_,_,_,_,_,_,_,_], []⟩ _
      have HRA := hide hHeld
      clear hHeld
      refine wpAnyH_done (by kernel_rfl) ?_ _
      clear HRA
      have hbx : Box u3 (h + 1) (jcl h x k1) := by have := HP1.out.bx; rw [HL1.out] at this; exact this
      have hbr : Box u3 g (rcl x k1 (.slice aoS mS cS)) := by have := HR1.out.bx; rw [HL1.out] at this; exact this
      have c1 := hbr.cell 1 _ rfl
      have HBX := hide hbx
      have hnn : ((k1 : Int) != (k1 : Int)) = false := by simp
      clear hbx hbr
      go_wp2_with fail
      go_quiet ((go_at_call 15; exact Calls.quiet_of_same (last15 h x k1 _ (boxN HBX.out _))))
      have bd : Below u3.heap.size u3 (u3.drewN nq) := belowN (Below.refl _ _) nq
      have HP9 := hide (HP1.out.on bd)
      have HR9 := hide (HR1.out.on bd)
      have HB9 := hide (belowN HB.out nq)
      have HS9 : Hid (Sl pcl 11 (u3.drewN nq) G (some ⟨b0, o0, none⟩) n c ss) := hide (HS.out.below (belowN (Below.refl _ _) nq))
      clear bd
      go_wp2
      go_roundw
      case rel => exact ⟨k + 1, _, cs2, aoS, mS, cS, by omega, by omega, by go_num, HP9.out, HR9.out, by rw [HL1.out, HK1.out], HB9.out, HS9.out⟩
      case measure => simp [intOf]; omega
    · have q5 : Hid ((z < 0 ∨ (cs.length : Int) < z ∨ (x : Int) < cs.length - z) ∨ ∃ q : Nat, z = (q : Int) ∧ q ≤ cs.length ∧ cs.length ≤ q + x) := hide (by
        by_cases a : z < 0 ∨ (cs.length : Int) < z ∨ (x : Int) < cs.length - z
        · exact Or.inl a
        · refine Or.inr ⟨z.toNat, by omega, by omega, by omega⟩)
      have hL : cs.length ≤ 50000 := by rw [HCL.out]; omega
      have HLL := hide hL
      have hGs : Hid (G ≤ wr.heap.size) := hide (by have := HGS.out.1; have := HGH.out; omega)
      clear fin9 hL
      rcases (show ¬ (k : Int) < (n : Int) ∨ ((k : Int) < (n : Int) ∧ ¬ (k : Int) < 300) by omega) with hstop | ⟨hs1, hs2⟩
      all_goals
        clear hcont
        rcases q5.out with hno | ⟨q, rfl, hq1, hq2⟩
        · have HNO := hide hno
          clear hno
          go_wp2_with fail
          refine (since16_no h x pl cs z _ HP.out (by have := HLL.out; omega) HNO.out).mono ?_
          rintro e w6 ⟨rfl, B6⟩
          have HR6 := hide (HR.out.on B6)
          have HB6 := hide (HB.out.trans (B6.mono hGs.out))
          have hG6 : Hid (G ≤ w6.heap.size) := hide (Nat.le_trans hGs.out B6.size)
          clear B6
          go_wp2_with fail
          refine (sincer17_no g x mR cR aoR cs z _ HR6.out (by have := HLL.out; omega) HNO.out).mono ?_
          rintro e w7 ⟨rfl, B7⟩
          have HB7 := hide (HB6.out.trans (B7.mono hG6.out))
          have hG7 : Hid (G ≤ w7.heap.size) := hide (Nat.le_trans hG6.out B7.size)
          clear B7
          go_wp2_with fail
          refine (same18 [] 0 0 none none 0 0 _ (sl_nil _ _ _ _) (sl_nil _ _ _ _)).mono ?_
          rintro e w8 ⟨rfl, B8⟩
          have HB8 := hide (HB7.out.trans (B8.mono hG7.out))
          clear B8
          go_wp2
          go_ret
          exact ⟨rfl, HB8.out⟩
        · have HQ := hide (And.intro hq1 hq2)
          clear hq1 hq2
          go_wp2_with fail
          refine (since16 h x pl cs q _ HP.out HLL.out HQ.out.1 HQ.out.2).mono ?_
          rintro e w6 ⟨ao6, c6, rfl, C6, B6⟩
          have HR6 := hide (HR.out.on B6)
          have HB6 := hide (HB.out.trans (B6.mono hGs.out))
          have hG6 : Hid (G ≤ w6.heap.size) := hide (Nat.le_trans hGs.out B6.size)
          have HC6 := hide C6
          clear B6 C6
          go_wp2_with fail
          refine (sincer17 g x mR cR aoR cs q _ HR6.out HLL.out HQ.out.1 HQ.out.2).mono ?_
          rintro e w7 ⟨ao7, c7, rfl, C7, B7⟩
          have HB7 := hide (HB6.out.trans (B7.mono hG6.out))
          have hG7 : Hid (G ≤ w7.heap.size) := hide (Nat.le_trans hG6.out B7.size)
          have HD6 := hide (HC6.out.on B7).sl
          have HD7 := hide C7.sl
          clear B7 C7
          go_wp2_with fail
          refine (same18 (cs.drop q) _ _ ao6 ao7 c6 c7 _ HD6.out HD7.out).mono ?_
          rintro e w8 ⟨rfl, B8⟩
          have HB8 := hide (HB7.out.trans (B8.mono hG7.out))
          clear B8
          go_wp2
          go_ret
          exact ⟨rfl, HB8.out⟩
theorem scriptsWalk (x : Int) (ao : Option Addr) (n c : Nat) (ss : List Sp) (z : Int) (w : World) (_ : I64 x) (hs : Sl pcl 11 w w.heap.size ao n c ss) (_ : ∀ s ∈ ss, Eok s.x) (hz : I64 z) :
    Calls Try.prog 3 #[.int .i64 x, .slice ao n c, .int .i64 z] w fun e w' => e = .returned (.bool true) ∧ Below w.heap.size w w' := by
  by_cases h : 1 ≤ x ∧ x ≤ 1000
  · obtain ⟨m, rfl⟩ := Int.eq_ofNat_of_zero_le (show 0 ≤ x by omega)
    exact scriptsYes m ao n c ss z w (by omega) (by omega) hs hz
  · exact scriptsNo x ao n c z w h
set_option maxRecDepth 100000 in
set_option maxHeartbeats 2000000 in
theorem journalScriptslifted (os : Os) (started : os.Started) (H : Type) (enc : TypeId × Value → H) :
    ReturnsInHanded {} Try.checked os 3 .any (Rows.journalScriptsSpec.pre6 enc Try.prog Try.f3 Rows.journalScriptsRow.domain false) (Rows.journalScriptsSpec.post enc Try.prog Try.f3 false true false false) := by
  refine returnsInHanded_of_change (C := Try.checked) own started (by kernel_rfl) Try.func3
    (ChangeSpec.witness6 (enc := enc) (C := Try.checked) false ⟨#[], #[.int .i64 0, .slice none 0 0, .int .i64 0], []⟩ 8 (by kernel_rfl) (by kernel_rfl) (by kernel_rfl) (by kernel_rfl)) ?_
  intro W base args ds gs before hval0 hW _ _
  have hval : ∀ (j : Nat) t v, Try.f3.params[j]? = some t → args[j]? = some v → Value.okWide Try.prog W .any base t v := hval0
  have hW' := hW
  obtain ⟨p, q, hA0, hV, rfl, _, _⟩ := hW
  have hA : DataW.TrodAll enc Try.prog W 0 (fun _ => true) true Try.f3.params.toList args.toList ds p := hA0
  rw [Try.params3] at hA hval
  obtain ⟨v0, vs0, d0, ds0, p0, q0, hargs, rfl, rfl, h0, r0⟩ := trodAll_cons hA
  obtain ⟨v1, vs1, d1, ds1, p1, q1, rfl, rfl, rfl, h1, r1⟩ := trodAll_cons r0
  obtain ⟨v2, vs2, d2, ds2, p2, q2, rfl, rfl, rfl, h2, r2⟩ := trodAll_cons r1
  obtain ⟨rfl, rfl, rfl⟩ := trodAll_nil r2
  obtain rfl : args = #[v0, v1, v2] := by cases args; simp_all
  obtain ⟨rfl, rfl⟩ := trodVars_none hV
  have h0k := h0
  obtain ⟨x0, rfl, hx0⟩ := open_num (hval 0 3 v0 rfl rfl) h0
  have h1k := h1
  obtain ⟨ao1, n1, c1, ss1, rfl, hs1, ho1⟩ := open_sps (hval 1 22 v1 rfl rfl) h1
  have h2k := h2
  obtain ⟨x2, rfl, hx2⟩ := open_num (hval 2 3 v2 rfl rfl) h2
  clear hA0 hval0
  simp only [List.append_nil] at hW'
  have hlt : ∀ x ∈ p0 ++ p1 ++ p2, x.block < W.heap.size := fun x hx => by simpa using hW'.lt x (by simpa using hx)
  refine (scriptsWalk x0 ao1 n1 c1 ss1 x2 W hx0 hs1 ho1 hx2).mono fun e W' ⟨he, hbl⟩ => ?_
  subst he
  exact ⟨_, rfl, _, _, _, [], _, [], hW', (trodAll_cons_mk (shut_bool Try.underlying4 _) trodAll_mk0), (trodAll_cons_mk (Below.trod Try.laidOut (by kernel_rfl) (of_decide_eq_true (by kernel_rfl)) h0k hbl (fun x hx => hlt x (by simp [hx]))) (trodAll_cons_mk (Below.trod Try.laidOut (by kernel_rfl) (of_decide_eq_true (by kernel_rfl)) h1k hbl (fun x hx => hlt x (by simp [hx]))) (trodAll_cons_mk (Below.trod Try.laidOut (by kernel_rfl) (of_decide_eq_true (by kernel_rfl)) h2k hbl (fun x hx => hlt x (by simp [hx]))) trodAll_mk0))), rfl, hbl.frame _, fun h => by cases h⟩

theorem journalScripts_holds : Rows.JournalScriptsSaid :=
  OpenClaim.holds_of_wide 3 Try.f3 rfl rfl rfl rfl rfl rfl rfl ⟨rfl, rfl, rfl, rfl, rfl⟩ rfl rfl rfl rfl rfl (by kernel_rfl) Try.func3 (by kernel_rfl)
    (of_decide_eq_true (by kernel_rfl)) (by unfold Func.isWrapper; first | (rw [if_pos (by decide +kernel)]; kernel_rfl) | (rw [if_neg (by decide +kernel)]; exact ⟨rfl, rfl⟩))
    (fun os started H enc _ => journalScriptslifted os started H enc)

#print axioms journalScripts_holds
end Go.Proofs.Ytjlmheecefobaaa
