/- Contract of appendNumber: a number's bytes, put to a slice that has room. -/
import Derived.Test.YtijfcfpoimknmaaDoorA3
namespace Go.Proofs.YtijfcfpoimknmaaDoor
open Go.RowKit

set_option maxRecDepth 100000 in
set_option maxHeartbeats 4000000 in
theorem put23_1 (n : Int) (f : fit 1 n = true) (G C K : Nat) (ns : List Int) (w : World) (hO : Own w G C K ns) (hC : K + 1 ≤ C) :
    Calls Tryd.prog 23 #[.slice (some ⟨G, 0, none⟩) K C, .int .i64 n, .int .i64 1] w fun e w' => e = .returned (.slice (some ⟨G, 0, none⟩) (K + 1) C) ∧ Own w' G C (K + 1) (ns ++ be 1 n) ∧ w.grownBy w' (some G) := by
  obtain ⟨h0, h1⟩ := fit_and f
  have h2 : n < 256 := by simpa using h1
  clear f h1
  have hw : IntKind.i64.wrap n = n := IntWalk.i64_in _ (by omega)
  go_enter Tryd.func23, Tryd.ntmps23
  go_wp2
  go_loopw [0, 9] (fun v i wr => ∃ k : Nat, k ≤ 1 ∧ i = .int .i64 k ∧ v = .slice (some ⟨G, 0, none⟩) (K + k) C ∧ Own wr G C (K + k) (ns ++ (be 1 n).take k) ∧ w.grownBy wr (some G)) (fun _ i _ => 1 - (intOf i).toNat)
  case atStart => exact ⟨0, by omega, rfl, rfl, by rw [List.take_zero, List.append_nil]; exact hO, World.grownBy.refl _ _⟩
  case round =>
    clear hO
    obtain ⟨k, hk, rfl, rfl, hR, hG⟩ := hrel
    rcases (show k = 0 ∨ k = 1 by omega) with e | e <;> subst e
    · have hN : Hid (ns ++ (be 1 n).take 1 = (ns ++ (be 1 n).take 0) ++ [n % 256]) := by
        have ey : n % 256 = n % 256 := by omega
        rw [List.append_assoc, ← ey]
        exact hide rfl
      generalize ns ++ (be 1 n).take 0 = L at hR hN
      have BB := hide (byt1 wr (n % 256) (by omega))
      have hR2 := hide (hR.alloc (.cells #[.int .u8 (n % 256)] 5))
      have hG2 := grown_alloc hG (.cells #[.int .u8 (n % 256)] 5)
      clear hR hG h0 h2 hw
      go_wp2_with (at_builtin; refine wpl_fit rfl (.tmp 12) (.tmp 21) rfl G C (K + 0) (K + 1) L rfl hR2.out _ 1 1 _ rfl BB.out (by omega) (by omega) ?_)
      intro w2 hO2 hg2
      rw [← hN.out] at hO2
      have hG3 := grown_trans hG2 hg2
      clear hR2 hG2 hg2 BB
      go_wp2
      go_roundw
      case rel => exact ⟨1, by omega, rfl, rfl, hO2, hG3⟩
      case measure => simp [intOf]
    · have HR : Hid (Own wr G C (K + 1) (ns ++ be 1 n)) := by
        have e : (be 1 n).take 1 = be 1 n := rfl
        rw [e] at hR
        exact hide hR
      clear hR
      go_wp2
      go_ret
      exact ⟨rfl, HR.out, hG⟩
set_option maxRecDepth 100000 in
set_option maxHeartbeats 4000000 in
theorem put23_2 (n : Int) (f : fit 2 n = true) (G C K : Nat) (ns : List Int) (w : World) (hO : Own w G C K ns) (hC : K + 2 ≤ C) :
    Calls Tryd.prog 23 #[.slice (some ⟨G, 0, none⟩) K C, .int .i64 n, .int .i64 2] w fun e w' => e = .returned (.slice (some ⟨G, 0, none⟩) (K + 2) C) ∧ Own w' G C (K + 2) (ns ++ be 2 n) ∧ w.grownBy w' (some G) := by
  obtain ⟨h0, h1⟩ := fit_and f
  have h2 : n < 65536 := by simpa using h1
  clear f h1
  have hw : IntKind.i64.wrap n = n := IntWalk.i64_in _ (by omega)
  go_enter Tryd.func23, Tryd.ntmps23
  go_wp2
  go_loopw [0, 9] (fun v i wr => ∃ k : Nat, k ≤ 2 ∧ i = .int .i64 k ∧ v = .slice (some ⟨G, 0, none⟩) (K + k) C ∧ Own wr G C (K + k) (ns ++ (be 2 n).take k) ∧ w.grownBy wr (some G)) (fun _ i _ => 2 - (intOf i).toNat)
  case atStart => exact ⟨0, by omega, rfl, rfl, by rw [List.take_zero, List.append_nil]; exact hO, World.grownBy.refl _ _⟩
  case round =>
    clear hO
    obtain ⟨k, hk, rfl, rfl, hR, hG⟩ := hrel
    rcases (show k = 0 ∨ k = 1 ∨ k = 2 by omega) with e | e | e <;> subst e
    · have hN : Hid (ns ++ (be 2 n).take 1 = (ns ++ (be 2 n).take 0) ++ [n / 256 % 256]) := by
        have ey : n / 256 % 256 = n / 256 % 256 := by omega
        rw [List.append_assoc, ← ey]
        exact hide rfl
      generalize ns ++ (be 2 n).take 0 = L at hR hN
      have BB := hide (byt1 wr (n / 256 % 256) (by omega))
      have hR2 := hide (hR.alloc (.cells #[.int .u8 (n / 256 % 256)] 5))
      have hG2 := grown_alloc hG (.cells #[.int .u8 (n / 256 % 256)] 5)
      clear hR hG h0 h2 hw
      go_wp2_with (at_builtin; refine wpl_fit rfl (.tmp 12) (.tmp 21) rfl G C (K + 0) (K + 1) L rfl hR2.out _ 1 1 _ rfl BB.out (by omega) (by omega) ?_)
      intro w2 hO2 hg2
      rw [← hN.out] at hO2
      have hG3 := grown_trans hG2 hg2
      clear hR2 hG2 hg2 BB
      go_wp2
      go_roundw
      case rel => exact ⟨1, by omega, rfl, rfl, hO2, hG3⟩
      case measure => simp [intOf]
    · have hN : Hid (ns ++ (be 2 n).take 2 = (ns ++ (be 2 n).take 1) ++ [n % 256]) := by
        have ey : n % 256 = n % 256 := by omega
        rw [List.append_assoc, ← ey]
        exact hide rfl
      generalize ns ++ (be 2 n).take 1 = L at hR hN
      have BB := hide (byt1 wr (n % 256) (by omega))
      have hR2 := hide (hR.alloc (.cells #[.int .u8 (n % 256)] 5))
      have hG2 := grown_alloc hG (.cells #[.int .u8 (n % 256)] 5)
      clear hR hG h0 h2 hw
      go_wp2_with (at_builtin; refine wpl_fit rfl (.tmp 12) (.tmp 21) rfl G C (K + 1) (K + 2) L rfl hR2.out _ 1 1 _ rfl BB.out (by omega) (by omega) ?_)
      intro w2 hO2 hg2
      rw [← hN.out] at hO2
      have hG3 := grown_trans hG2 hg2
      clear hR2 hG2 hg2 BB
      go_wp2
      go_roundw
      case rel => exact ⟨2, by omega, rfl, rfl, hO2, hG3⟩
      case measure => simp [intOf]
    · have HR : Hid (Own wr G C (K + 2) (ns ++ be 2 n)) := by
        have e : (be 2 n).take 2 = be 2 n := rfl
        rw [e] at hR
        exact hide hR
      clear hR
      go_wp2
      go_ret
      exact ⟨rfl, HR.out, hG⟩
set_option maxRecDepth 100000 in
set_option maxHeartbeats 4000000 in
theorem put23_4 (n : Int) (f : fit 4 n = true) (G C K : Nat) (ns : List Int) (w : World) (hO : Own w G C K ns) (hC : K + 4 ≤ C) :
    Calls Tryd.prog 23 #[.slice (some ⟨G, 0, none⟩) K C, .int .i64 n, .int .i64 4] w fun e w' => e = .returned (.slice (some ⟨G, 0, none⟩) (K + 4) C) ∧ Own w' G C (K + 4) (ns ++ be 4 n) ∧ w.grownBy w' (some G) := by
  obtain ⟨h0, h1⟩ := fit_and f
  have h2 : n < 4294967296 := by simpa using h1
  clear f h1
  have hw : IntKind.i64.wrap n = n := IntWalk.i64_in _ (by omega)
  go_enter Tryd.func23, Tryd.ntmps23
  go_wp2
  go_loopw [0, 9] (fun v i wr => ∃ k : Nat, k ≤ 4 ∧ i = .int .i64 k ∧ v = .slice (some ⟨G, 0, none⟩) (K + k) C ∧ Own wr G C (K + k) (ns ++ (be 4 n).take k) ∧ w.grownBy wr (some G)) (fun _ i _ => 4 - (intOf i).toNat)
  case atStart => exact ⟨0, by omega, rfl, rfl, by rw [List.take_zero, List.append_nil]; exact hO, World.grownBy.refl _ _⟩
  case round =>
    clear hO
    obtain ⟨k, hk, rfl, rfl, hR, hG⟩ := hrel
    rcases (show k = 0 ∨ k = 1 ∨ k = 2 ∨ k = 3 ∨ k = 4 by omega) with e | e | e | e | e <;> subst e
    · have hN : Hid (ns ++ (be 4 n).take 1 = (ns ++ (be 4 n).take 0) ++ [n / 16777216 % 256]) := by
        have ey : n / 256 / 256 / 256 % 256 = n / 16777216 % 256 := by omega
        rw [List.append_assoc, ← ey]
        exact hide rfl
      generalize ns ++ (be 4 n).take 0 = L at hR hN
      have BB := hide (byt1 wr (n / 16777216 % 256) (by omega))
      have hR2 := hide (hR.alloc (.cells #[.int .u8 (n / 16777216 % 256)] 5))
      have hG2 := grown_alloc hG (.cells #[.int .u8 (n / 16777216 % 256)] 5)
      clear hR hG h0 h2 hw
      go_wp2_with (at_builtin; refine wpl_fit rfl (.tmp 12) (.tmp 21) rfl G C (K + 0) (K + 1) L rfl hR2.out _ 1 1 _ rfl BB.out (by omega) (by omega) ?_)
      intro w2 hO2 hg2
      rw [← hN.out] at hO2
      have hG3 := grown_trans hG2 hg2
      clear hR2 hG2 hg2 BB
      go_wp2
      go_roundw
      case rel => exact ⟨1, by omega, rfl, rfl, hO2, hG3⟩
      case measure => simp [intOf]
    · have hN : Hid (ns ++ (be 4 n).take 2 = (ns ++ (be 4 n).take 1) ++ [n / 65536 % 256]) := by
        have ey : n / 256 / 256 % 256 = n / 65536 % 256 := by omega
        rw [List.append_assoc, ← ey]
        exact hide rfl
      generalize ns ++ (be 4 n).take 1 = L at hR hN
      have BB := hide (byt1 wr (n / 65536 % 256) (by omega))
      have hR2 := hide (hR.alloc (.cells #[.int .u8 (n / 65536 % 256)] 5))
      have hG2 := grown_alloc hG (.cells #[.int .u8 (n / 65536 % 256)] 5)
      clear hR hG h0 h2 hw
      go_wp2_with (at_builtin; refine wpl_fit rfl (.tmp 12) (.tmp 21) rfl G C (K + 1) (K + 2) L rfl hR2.out _ 1 1 _ rfl BB.out (by omega) (by omega) ?_)
      intro w2 hO2 hg2
      rw [← hN.out] at hO2
      have hG3 := grown_trans hG2 hg2
      clear hR2 hG2 hg2 BB
      go_wp2
      go_roundw
      case rel => exact ⟨2, by omega, rfl, rfl, hO2, hG3⟩
      case measure => simp [intOf]
    · have hN : Hid (ns ++ (be 4 n).take 3 = (ns ++ (be 4 n).take 2) ++ [n / 256 % 256]) := by
        have ey : n / 256 % 256 = n / 256 % 256 := by omega
        rw [List.append_assoc, ← ey]
        exact hide rfl
      generalize ns ++ (be 4 n).take 2 = L at hR hN
      have BB := hide (byt1 wr (n / 256 % 256) (by omega))
      have hR2 := hide (hR.alloc (.cells #[.int .u8 (n / 256 % 256)] 5))
      have hG2 := grown_alloc hG (.cells #[.int .u8 (n / 256 % 256)] 5)
      clear hR hG h0 h2 hw
      go_wp2_with (at_builtin; refine wpl_fit rfl (.tmp 12) (.tmp 21) rfl G C (K + 2) (K + 3) L rfl hR2.out _ 1 1 _ rfl BB.out (by omega) (by omega) ?_)
      intro w2 hO2 hg2
      rw [← hN.out] at hO2
      have hG3 := grown_trans hG2 hg2
      clear hR2 hG2 hg2 BB
      go_wp2
      go_roundw
      case rel => exact ⟨3, by omega, rfl, rfl, hO2, hG3⟩
      case measure => simp [intOf]
    · have hN : Hid (ns ++ (be 4 n).take 4 = (ns ++ (be 4 n).take 3) ++ [n % 256]) := by
        have ey : n % 256 = n % 256 := by omega
        rw [List.append_assoc, ← ey]
        exact hide rfl
      generalize ns ++ (be 4 n).take 3 = L at hR hN
      have BB := hide (byt1 wr (n % 256) (by omega))
      have hR2 := hide (hR.alloc (.cells #[.int .u8 (n % 256)] 5))
      have hG2 := grown_alloc hG (.cells #[.int .u8 (n % 256)] 5)
      clear hR hG h0 h2 hw
      go_wp2_with (at_builtin; refine wpl_fit rfl (.tmp 12) (.tmp 21) rfl G C (K + 3) (K + 4) L rfl hR2.out _ 1 1 _ rfl BB.out (by omega) (by omega) ?_)
      intro w2 hO2 hg2
      rw [← hN.out] at hO2
      have hG3 := grown_trans hG2 hg2
      clear hR2 hG2 hg2 BB
      go_wp2
      go_roundw
      case rel => exact ⟨4, by omega, rfl, rfl, hO2, hG3⟩
      case measure => simp [intOf]
    · have HR : Hid (Own wr G C (K + 4) (ns ++ be 4 n)) := by
        have e : (be 4 n).take 4 = be 4 n := rfl
        rw [e] at hR
        exact hide hR
      clear hR
      go_wp2
      go_ret
      exact ⟨rfl, HR.out, hG⟩
end Go.Proofs.YtijfcfpoimknmaaDoor
