/- Contracts of the document's Age, FlushPort, FlushVlan, Same. -/
import Derived.Test.YtbpkdkniiggcpaaE6
namespace Go.Proofs.Ytbpkdkniiggcpaa
open Go.RowKit Go.PlainAid

set_option maxRecDepth 100000 in
set_option maxHeartbeats 1000000 in
theorem age43_no (g : Nat) (a b : Int) (w : World) (hr : aOk a b = false) :
    Calls Try.prog 43 #[.pointer (some ⟨g, 0, none⟩), .int .i64 a, .int .i64 b] w fun e w' => e = .returned (.slice none 0 0) ∧ w' = w := by
  have hc : a < 0 ∨ 1099511627776 < a ∨ b < 0 ∨ 1099511627776 < b := by
    have h : ¬ (isT a = true ∧ isT b = true) := fun h => by rw [aOk, h.1, h.2] at hr; cases hr
    rw [isT_iff, isT_iff] at h
    omega
  clear hr
  by_cases h1 : a < 0
  · clear hc
    go_enter Try.func43, Try.ntmps43
    go_wp2
    go_ret
    exact ⟨rfl, rfl⟩
  · by_cases h2 : 1099511627776 < a
    · clear hc
      go_enter Try.func43, Try.ntmps43
      go_wp2
      go_ret
      exact ⟨rfl, rfl⟩
    · by_cases h3 : b < 0
      · clear hc
        go_enter Try.func43, Try.ntmps43
        go_wp2
        go_ret
        exact ⟨rfl, rfl⟩
      · have h4 : 1099511627776 < b := by omega
        clear hc
        go_enter Try.func43, Try.ntmps43
        go_wp2
        go_ret
        exact ⟨rfl, rfl⟩
set_option maxRecDepth 100000 in
set_option maxHeartbeats 1000000 in
theorem age43 (g : Nat) (lv : Value) (T : Tb) (a b : Int) (w : World) (H : RT w g lv T) :
    Calls Try.prog 43 #[.pointer (some ⟨g, 0, none⟩), .int .i64 a, .int .i64 b] w fun e w' => ∃ ao c, e = .returned (.slice ao (aG T a b).length c) ∧ Ets w' w.heap.size ao (aG T a b).length c (aG T a b) ∧ (∃ lv', RT w' g lv' (aT T a b)) ∧ Mid g (g + 1) w w' := by
  rcases Bool.eq_false_or_eq_true (aOk a b) with hr | hr
  · rw [aG, aT, hr]
    have HQ := hide (forget58_0 g lv T a b w H hr)
    rw [aOk, Bool.and_eq_true, isT_iff, isT_iff] at hr
    have h1 : ¬ a < 0 := by omega
    have h2 : ¬ 1099511627776 < a := by omega
    have h3 : ¬ b < 0 := by omega
    have h4 : ¬ 1099511627776 < b := by omega
    simp only [if_true]
    clear hr H
    go_enter Try.func43, Try.ntmps43
    go_wp2_with fail
    refine HQ.out.mono ?_
    rintro e w1 ⟨ao, c, rfl, E⟩
    have HE := hide E
    clear E HQ
    go_wp2
    go_ret
    exact ⟨ao, c, rfl, HE.out⟩
  · rw [aG, aT, hr]
    refine (age43_no g a b w hr).mono ?_
    rintro e w' ⟨rfl, rfl⟩
    exact ⟨none, 0, rfl, Ets.nothing _ _, ⟨lv, H⟩, Mid.refl _ _ _⟩
set_option maxRecDepth 100000 in
set_option maxHeartbeats 1000000 in
theorem flush44 (g : Nat) (lv : Value) (T : Tb) (a : Int) (w : World) (H : RT w g lv T) :
    Calls Try.prog 44 #[.pointer (some ⟨g, 0, none⟩), .int .i64 a] w fun e w' => ∃ ao c, e = .returned (.slice ao (gG T (gP a)).length c) ∧ Ets w' w.heap.size ao (gG T (gP a)).length c (gG T (gP a)) ∧ (∃ lv', RT w' g lv' (gT T (gP a))) ∧ Mid g (g + 1) w w' := by
  have HQ := hide (forget58_1 g lv T a 0 w H)
  clear H
  go_enter Try.func44, Try.ntmps44
  go_wp2_with fail
  refine HQ.out.mono ?_
  rintro e w1 ⟨ao, c, rfl, E⟩
  have HE := hide E
  clear E HQ
  go_wp2
  go_ret
  exact ⟨ao, c, rfl, HE.out⟩
set_option maxRecDepth 100000 in
set_option maxHeartbeats 1000000 in
theorem flush45 (g : Nat) (lv : Value) (T : Tb) (a : Int) (w : World) (H : RT w g lv T) :
    Calls Try.prog 45 #[.pointer (some ⟨g, 0, none⟩), .int .i64 a] w fun e w' => ∃ ao c, e = .returned (.slice ao (gG T (gV a)).length c) ∧ Ets w' w.heap.size ao (gG T (gV a)).length c (gG T (gV a)) ∧ (∃ lv', RT w' g lv' (gT T (gV a))) ∧ Mid g (g + 1) w w' := by
  have HQ := hide (forget58_2 g lv T a 0 w H)
  clear H
  go_enter Try.func45, Try.ntmps45
  go_wp2_with fail
  refine HQ.out.mono ?_
  rintro e w1 ⟨ao, c, rfl, E⟩
  have HE := hide E
  clear E HQ
  go_wp2
  go_ret
  exact ⟨ao, c, rfl, HE.out⟩
set_option maxRecDepth 100000 in
set_option maxHeartbeats 2000000 in
theorem same13 (B B' : Nat) (l : List En) (ao ao' : Option Addr) (c d : Nat) (w : World) (E : Ets w B ao l.length c l) (F : Ets w B' ao' l.length d l) :
    Calls Try.prog 13 #[.slice ao l.length c, .slice ao' l.length d] w fun e w' => e = .returned (.bool true) ∧ Below w.heap.size w w' := by
  have HE := hide E
  have HF := hide F
  have h1 := E.le
  have h2 := E.mx
  unfold maxLen at h2
  clear E F
  have hne : ((l.length : Int) != (l.length : Int)) = false := by simp
  go_enter Try.func13, Try.ntmps13
  go_wp2
  go_loopw [5] (fun i wr => ∃ k q : Nat, k ≤ l.length ∧ i = .int .i64 k ∧ wr = w.drewN q) (fun i _ => l.length - (intOf i).toNat)
  case atStart => exact ⟨0, 0, Nat.zero_le _, rfl, rfl⟩
  case round =>
    obtain ⟨k, q, hk, rfl, rfl⟩ := hrel
    by_cases hkl : k < l.length
    · obtain ⟨x, hx⟩ : ∃ x, l[k]? = some x := ⟨_, List.getElem?_eq_getElem hkl⟩
      obtain ⟨b1, rfl, -, -, A1⟩ := HE.out.at hx
      obtain ⟨b2, rfl, -, -, A2⟩ := HF.out.at hx
      have hk2 : (k : Int) < l.length := by omega
      have e1 : IntKind.i64.wrap ((k : Int) + 1) = (k : Int) + 1 := IntWalk.i64_in _ (by omega)
      clear hx
      go_wp2_with fail
      refine wp_region_held_drew (S := fun w' => w'.rangeAt b1 (k * 10) (ecl x) ∧ w'.rangeAt b2 (k * 10) (ecl x)) (by kernel_rfl) ⟨A1, A2⟩ (fun hHeld => ?_)
      refine wpAnyH_take (i := 0) (v := .slice (some ⟨b1, 0, none⟩) l.length c) rfl (by kernel_rfl) (by kernel_rfl) (by kernel_rfl) (fun _ _ _ h => h) (Or.inl ⟨by rfl, ?_⟩) hHeld ?_
      · intro W hW; (try dsimp only at hW); go_simp
      change wpAnyH _ _ _ _ _ _ _ ⟨#[.slice (some ⟨b1, 0, none⟩) l.length c, .slice (some ⟨b2, 0, none⟩) l.length d, _, _, _, .int .i64 (k : Int), _, _, _, _, _, _, _, _, _, _, _, .slice (some ⟨b1, 0, none⟩) l.length c, _, _, _, _, _, _, _, _], []⟩ _
      refine wpAnyH_take (i := 1) (v := .int .i64 (k : Int)) rfl (by kernel_rfl) (by kernel_rfl) (by kernel_rfl) (fun _ _ _ h => h) (Or.inl ⟨by rfl, ?_⟩) hHeld ?_
      · intro W hW; (try dsimp only at hW); go_simp
      change wpAnyH _ _ _ _ _ _ _ ⟨#[.slice (some ⟨b1, 0, none⟩) l.length c, .slice (some ⟨b2, 0, none⟩) l.length d, _, _, _, .int .i64 (k : Int), _, _, _, _, _, _, _, _, _, _, _, .slice (some ⟨b1, 0, none⟩) l.length c, .int .i64 (k : Int), _, _, _, _, _, _, _], []⟩ _
      refine wpAnyH_take (i := 2) (v := .pointer (some ⟨b1, k * 10, none⟩)) rfl (by kernel_rfl) (by kernel_rfl) (by kernel_rfl) (fun _ _ _ h => h) (Or.inl ⟨by rfl, ?_⟩) hHeld ?_
      · intro W hW; (try dsimp only at hW); go_simp
      change wpAnyH _ _ _ _ _ _ _ ⟨#[.slice (some ⟨b1, 0, none⟩) l.length c, .slice (some ⟨b2, 0, none⟩) l.length d, _, _, _, .int .i64 (k : Int), _, _, _, _, _, _, _, _, _, _, _, .slice (some ⟨b1, 0, none⟩) l.length c, .int .i64 (k : Int), .pointer (some ⟨b1, k * 10, none⟩), _, _, _, _, _, _], []⟩ _
      refine wpAnyH_take (i := 3) (v := .agg (EC x)) rfl (by kernel_rfl) (by kernel_rfl) (by kernel_rfl) (fun _ _ _ h => h) (yieldsIf_load_mid (by rfl) 33 (.tmp 19) rfl b1 (k * 10) rfl (ecl x) _ (fun W hW => hW.1) Try.underlying33 rfl Try.size33) hHeld ?_
      change wpAnyH _ _ _ _ _ _ _ ⟨#[.slice (some ⟨b1, 0, none⟩) l.length c, .slice (some ⟨b2, 0, none⟩) l.length d, _, _, _, .int .i64 (k : Int), _, _, _, _, _, _, _, _, _, _, _, .slice (some ⟨b1, 0, none⟩) l.length c, .int .i64 (k : Int), .pointer (some ⟨b1, k * 10, none⟩), .agg (EC x), _, _, _, _, _], []⟩ _
      refine wpAnyH_take (i := 4) (v := .slice (some ⟨b2, 0, none⟩) l.length d) rfl (by kernel_rfl) (by kernel_rfl) (by kernel_rfl) (fun _ _ _ h => h) (Or.inl ⟨by rfl, ?_⟩) hHeld ?_
      · intro W hW; (try dsimp only at hW); go_simp
      change wpAnyH _ _ _ _ _ _ _ ⟨#[.slice (some ⟨b1, 0, none⟩) l.length c, .slice (some ⟨b2, 0, none⟩) l.length d, _, _, _, .int .i64 (k : Int), _, _, _, _, _, _, _, _, _, _, _, .slice (some ⟨b1, 0, none⟩) l.length c, .int .i64 (k : Int), .pointer (some ⟨b1, k * 10, none⟩), .agg (EC x), .slice (some ⟨b2, 0, none⟩) l.length d, _, _, _, _], []⟩ _
      refine wpAnyH_take (i := 5) (v := .int .i64 (k : Int)) rfl (by kernel_rfl) (by kernel_rfl) (by kernel_rfl) (fun _ _ _ h => h) (Or.inl ⟨by rfl, ?_⟩) hHeld ?_
      · intro W hW; (try dsimp only at hW); go_simp
      change wpAnyH _ _ _ _ _ _ _ ⟨#[.slice (some ⟨b1, 0, none⟩) l.length c, .slice (some ⟨b2, 0, none⟩) l.length d, _, _, _, .int .i64 (k : Int), _, _, _, _, _, _, _, _, _, _, _, .slice (some ⟨b1, 0, none⟩) l.length c, .int .i64 (k : Int), .pointer (some ⟨b1, k * 10, none⟩), .agg (EC x), .slice (some ⟨b2, 0, none⟩) l.length d, .int .i64 (k : Int), _, _, _], []⟩ _
      refine wpAnyH_take (i := 6) (v := .pointer (some ⟨b2, k * 10, none⟩)) rfl (by kernel_rfl) (by kernel_rfl) (by kernel_rfl) (fun _ _ _ h => h) (Or.inl ⟨by rfl, ?_⟩) hHeld ?_
      · intro W hW; (try dsimp only at hW); go_simp
      change wpAnyH _ _ _ _ _ _ _ ⟨#[.slice (some ⟨b1, 0, none⟩) l.length c, .slice (some ⟨b2, 0, none⟩) l.length d, _, _, _, .int .i64 (k : Int), _, _, _, _, _, _, _, _, _, _, _, .slice (some ⟨b1, 0, none⟩) l.length c, .int .i64 (k : Int), .pointer (some ⟨b1, k * 10, none⟩), .agg (EC x), .slice (some ⟨b2, 0, none⟩) l.length d, .int .i64 (k : Int), .pointer (some ⟨b2, k * 10, none⟩), _, _], []⟩ _
      refine wpAnyH_take (i := 7) (v := .agg (EC x)) rfl (by kernel_rfl) (by kernel_rfl) (by kernel_rfl) (fun _ _ _ h => h) (yieldsIf_load_mid (by rfl) 33 (.tmp 23) rfl b2 (k * 10) rfl (ecl x) _ (fun W hW => hW.2) Try.underlying33 rfl Try.size33) hHeld ?_
      change wpAnyH _ _ _ _ _ _ _ ⟨#[.slice (some ⟨b1, 0, none⟩) l.length c, .slice (some ⟨b2, 0, none⟩) l.length d, _, _, _, .int .i64 (k : Int), _, _, _, _, _, _, _, _, _, _, _, .slice (some ⟨b1, 0, none⟩) l.length c, .int .i64 (k : Int), .pointer (some ⟨b1, k * 10, none⟩), .agg (EC x), .slice (some ⟨b2, 0, none⟩) l.length d, .int .i64 (k : Int), .pointer (some ⟨b2, k * 10, none⟩), .agg (EC x), _], []⟩ _
      refine wpAnyH_take (i := 8) (v := .bool false) rfl (by kernel_rfl) (by kernel_rfl) (by kernel_rfl) (fun _ _ _ h => h) (Or.inl ⟨by rfl, ?_⟩) hHeld ?_
      · intro W hW; (try dsimp only at hW); clear hW; have he := eqEnt x x; rw [(eqE_iff x x).2 rfl] at he; go_simp
      change wpAnyH _ _ _ _ _ _ _ ⟨#[.slice (some ⟨b1, 0, none⟩) l.length c, .slice (some ⟨b2, 0, none⟩) l.length d, _, _, _, .int .i64 (k : Int), _, _, _, _, _, _, _, _, _, _, _, .slice (some ⟨b1, 0, none⟩) l.length c, .int .i64 (k : Int), .pointer (some ⟨b1, k * 10, none⟩), .agg (EC x), .slice (some ⟨b2, 0, none⟩) l.length d, .int .i64 (k : Int), .pointer (some ⟨b2, k * 10, none⟩), .agg (EC x), .bool false], []⟩ _
      refine wpAnyH_done (by kernel_rfl) ?_ _
      go_wp2
      go_roundw
      case rel => exact ⟨k + 1, q + 1, by omega, by go_num, rfl⟩
      case measure => simp [intOf]; omega
    · have hk2 : ¬ (k : Int) < l.length := by omega
      go_wp2
      go_ret
      exact ⟨rfl, ⟨rfl, rfl, rfl, Nat.le_refl _, fun _ _ => rfl⟩⟩
end Go.Proofs.Ytbpkdkniiggcpaa
