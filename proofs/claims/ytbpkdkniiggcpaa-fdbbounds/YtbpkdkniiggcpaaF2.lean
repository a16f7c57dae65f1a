/- Contract of made: both tables, behind any steps. -/
import Derived.Test.YtbpkdkniiggcpaaF1
import Derived.Test.YtbpkdkniiggcpaaE4
import Derived.Test.YtbpkdkniiggcpaaFt
namespace Go.Proofs.Ytbpkdkniiggcpaa
open Go.RowKit Go.PlainAid

theorem sT_n (T : Tb) (x : En) : (sT T x).n = T.n := by
  unfold sT
  split <;> rfl
theorem lT_n (T : Tb) (v : Int) (m : Mc) (p t : Int) : (lT T v m p t).n = T.n := by
  unfold lT
  split
  · split
    · rfl
    · exact sT_n _ _
  · rfl
theorem pT_n (T : Tb) (v : Int) (m : Mc) (p : Int) : (pT T v m p).n = T.n := by
  unfold pT
  split
  · exact sT_n _ _
  · rfl
theorem aT_n (T : Tb) (a b : Int) : (aT T a b).n = T.n := by
  unfold aT
  split <;> rfl
theorem n_nx (T : Tb) (s : St) : (nx T s).n = T.n := by
  unfold nx
  split
  · exact lT_n _ _ _ _ _
  · split
    · exact pT_n _ _ _ _
    · split
      · rfl
      · split
        · exact aT_n _ _ _
        · split <;> rfl
/-- What made leaves. -/
structure Md (w w' : World) (h g n : Nat) (ps : List En) (lv : Value) (T : Tb) : Prop where
  P : PT w' h ps T
  R : RT w' g lv T
  hg : h + 2 ≤ g
  tn : T.n = n
  hw : w.heap.size ≤ h
  B : Below w.heap.size w w'
set_option maxRecDepth 100000 in
set_option maxHeartbeats 4000000 in
theorem made10_no (n : Int) (ao : Option Addr) (m c : Nat) (w : World) (h : ¬ (1 ≤ n ∧ n ≤ 1024)) :
    Calls Try.prog 10 #[.int .i64 n, .slice ao m c] w fun e w' => e = .returned (.tuple #[.pointer none, .pointer none, .bool true]) ∧ w' = w := by
  have q1 := fun w => new17_no n w h
  have q2 := fun w => new24_no n w h
  clear h
  go_enter Try.func10, Try.ntmps10
  go_wp2_with (first | (go_at_call 17; refine (q1 _).mono ?_; rintro e w' ⟨rfl, rfl⟩) | (go_at_call 24; refine (q2 _).mono ?_; rintro e w' ⟨rfl, rfl⟩))
  go_loopw [11, 12] (fun i _ wr => i = .int .i64 0 ∧ wr = w') (fun _ _ _ => 0)
  case atStart => exact ⟨rfl, rfl⟩
  case round =>
    obtain ⟨rfl, rfl⟩ := hrel
    go_wp2
    all_goals
      go_ret3
      exact ⟨rfl, rfl⟩
set_option maxRecDepth 100000 in
set_option maxHeartbeats 4000000 in
theorem made10 (n : Nat) (ao : Option Addr) (m c : Nat) (ss : List St) (w : World) (h1 : 1 ≤ n) (h2 : n ≤ 1024) (hS : Sts w w.heap.size ao m c ss) :
    Calls Try.prog 10 #[.int .i64 n, .slice ao m c] w fun e w' => ∃ h g ps lv T, e = .returned (.tuple #[.pointer (some ⟨h + 1, 0, none⟩), .pointer (some ⟨g, 0, none⟩), .bool true]) ∧ Md w w' h g n ps lv T := by
  have hlen := hS.len
  have hle := hS.le
  have hmx := hS.mx
  unfold maxLen at hmx
  have HS := hide hS
  clear hS
  go_enter Try.func10, Try.ntmps10
  go_wp2_with fail
  refine (new17 n _ h1 h2).mono ?_
  rintro e w1 ⟨h, ps0, rfl, P1, hz, B1⟩
  have hl1 := P1.lt
  have PP := hide P1
  have BB := hide B1
  have HZ := hide hz
  clear P1 B1 hz
  go_wp2_with fail
  refine (new24 n _ h1 h2).mono ?_
  rintro e w2 ⟨rfl, R2, B2⟩
  have P2 := PP.out.on B2
  have B3 := belowOn BB.out B2
  generalize hgg : w1.heap.size = g at *
  have HM : Hid (Md w w2 h g n ps0 (.slice none 0 0) (tNew n)) := hide ⟨P2, R2, hl1, rfl, HZ.out, B3⟩
  clear P2 R2 B2 B3 PP BB hgg
  go_wp2
  go_loopw [11, 12] (fun i _ wr => ∃ (k : Nat) (ps : List En) (lv : Value) (T : Tb), k ≤ m ∧ k ≤ 150 ∧ i = .int .i64 k ∧ Md w wr h g n ps lv T) (fun i _ _ => m - (intOf i).toNat)
  case atStart => exact ⟨0, _, _, _, Nat.zero_le _, Nat.zero_le _, rfl, HM.out⟩
  case round =>
    obtain ⟨k, ps, lv, T, hk, hk1, rfl, M⟩ := hrel
    by_cases hc : k < m ∧ k < 150
    · obtain ⟨c1, c2⟩ := hc
      have d1 : (k : Int) < m := by omega
      have d2 : (k : Int) < 150 := by omega
      obtain ⟨s, hs⟩ : ∃ s, ss[k]? = some s := ⟨_, List.getElem?_eq_getElem (by omega)⟩
      have S := HS.out.below M.B
      obtain ⟨hm, b, o, rfl, hb, hr⟩ := S.cell k s hs
      have HR := hide hr
      have MM := hide M
      have HMK := hide hm
      have tk1 : True := trivial
      clear S hr M HM hm
      go_wp2_with (first | (have _t := tk1; refine wpl_stp (.tmp 51) rfl HR.out ?_ ?_ ?_; rfl; rfl; clear tk1))
      refine (step25 h g ps lv T s _ HMK.out MM.out.P MM.out.R MM.out.hg).mono ?_
      rintro e w3 ⟨rfl, ⟨ps', P3⟩, ⟨lv', R3⟩, B3⟩
      have M3 : Hid (Md w w3 h g n ps' lv' (nx T s)) := hide ⟨P3, R3, MM.out.hg, by rw [n_nx]; exact MM.out.tn, MM.out.hw, MM.out.B.trans (B3.mono MM.out.hw)⟩
      clear P3 R3 B3 MM HR
      go_wp2
      go_roundw
      case rel => exact ⟨k + 1, ps', lv', nx T s, by omega, by omega, by go_num, M3.out⟩
      case measure => simp [intOf]; omega
    · have MM := hide M
      clear M HM
      by_cases c1 : (k : Int) < m
      · have c2 : ¬ ((k : Int) < 150) := by omega
        clear hc
        go_wp2
        go_ret3
        first | exact ⟨h, g, rfl, ps, lv, T, MM.out⟩ | exact ⟨h, g, ps, lv, T, rfl, MM.out⟩
      · clear hc
        go_wp2
        go_ret3
        first | exact ⟨h, g, rfl, ps, lv, T, MM.out⟩ | exact ⟨h, g, ps, lv, T, rfl, MM.out⟩
end Go.Proofs.Ytbpkdkniiggcpaa
