/- Contract of made: both tables, behind any steps. -/
import Derived.Test.YtelinahpneikiaaC1
namespace Go.Proofs.Ytelinahpneikiaa
open Go.RowKit Go.PlainAid

theorem n_nx (T : Tb) (s : St) : (nx T s).n = T.n := by
  unfold nx
  split
  · unfold tAdd; split <;> rfl
  · split
    · unfold tRm; split <;> rfl
    · unfold tNat; split <;> rfl
/-- A slice of steps, in blocks below G. -/
structure Sts (w : World) (G : Nat) (ao : Option Addr) (n c : Nat) (ss : List St) : Prop where
  len : ss.length = n
  nil : ao = none → n = 0
  cell : ∀ j s, ss[j]? = some s → ∃ b o, ao = some ⟨b, o, none⟩ ∧ b < G ∧ w.rangeAt b (o + j * 4) (scs s)
  le : n ≤ c
  mx : c ≤ maxLen
theorem Sts.below {w w1 : World} {G : Nat} {ao : Option Addr} {n c : Nat} {ss : List St} (h : Sts w G ao n c ss) (hb : Below G w w1) : Sts w1 G ao n c ss :=
  ⟨h.len, h.nil, fun j s hj => by
    obtain ⟨b, o, e, hG, hc⟩ := h.cell j s hj
    exact ⟨b, o, e, hG, fun i v hi => (hb.cell (p := ⟨b, o + j * 4 + i, none⟩) hG).trans (hc i v hi)⟩, h.le, h.mx⟩
theorem Sts.up {w : World} {G G' : Nat} {ao : Option Addr} {n c : Nat} {ss : List St} (h : Sts w G ao n c ss) (hG : G ≤ G') : Sts w G' ao n c ss :=
  ⟨h.len, h.nil, fun j s hj => by
    obtain ⟨b, o, e, hb, hc⟩ := h.cell j s hj
    exact ⟨b, o, e, by omega, hc⟩, h.le, h.mx⟩
theorem wpl_st {ops : Array Oper} {rest : List Oper} {op : Oper} {a : Act} {w : World} {Q : Exit → Act → World → Prop} {k o : Nat} {s : St} (x : Operand) (ho : op.op = .load 48 x) (hA : w.rangeAt k o (scs s)) (hw : Region.wanted op (yielded ops a.tmps) = true) (hx : a.eval x = .pointer (some ⟨k, o, none⟩))
    (h : wpList Try.prog ops Q rest (a.put op.dst (.agg (SC s))) w) : wpList Try.prog ops Q (op :: rest) a w :=
  wpl_load 48 x ho k o _ _ hA Try.underlying48 rfl Try.size48 hw hx h
/-- What made leaves. -/
structure Md (w w' : World) (h g n : Nat) (lv : Value) (T : Tb) : Prop where
  P : PT w' h T
  R : RT w' g lv T
  hg : h + 3 ≤ g
  tn : T.n = n
  le : T.l.length ≤ 100
  hw : w.heap.size ≤ h
  B : Below w.heap.size w w'
set_option maxRecDepth 100000 in
set_option maxHeartbeats 4000000 in
theorem made11_no (n : Int) (ao : Option Addr) (m c : Nat) (w : World) (h : ¬ (1 ≤ n ∧ n ≤ 64)) :
    Calls Try.prog 11 #[.int .i64 n, .slice ao m c] w fun e w' => e = .returned (.tuple #[.pointer none, .pointer none, .bool true]) ∧ w' = w := by
  have q1 := fun w => new25_no n w h
  have q2 := fun w => new26_no n w h
  clear h
  go_enter Try.func11, Try.ntmps11
  go_wp2_with (first | (go_at_call 25; refine (q1 _).mono ?_; rintro e w' ⟨rfl, rfl⟩) | (go_at_call 26; refine (q2 _).mono ?_; rintro e w' ⟨rfl, rfl⟩))
  go_loopw [11, 12] (fun i _ wr => i = .int .i64 0 ∧ wr = w') (fun _ _ _ => 0)
  case atStart => exact ⟨rfl, rfl⟩
  case round =>
    obtain ⟨rfl, rfl⟩ := hrel
    go_wp2
    all_goals
      go_ret3
      exact ⟨rfl, rfl⟩
set_option maxRecDepth 100000 in
set_option maxHeartbeats 4000000 in
theorem made11 (n : Nat) (ao : Option Addr) (m c : Nat) (ss : List St) (w : World) (h1 : 1 ≤ n) (h2 : n ≤ 64) (hS : Sts w w.heap.size ao m c ss) :
    Calls Try.prog 11 #[.int .i64 n, .slice ao m c] w fun e w' => ∃ h g lv T, e = .returned (.tuple #[.pointer (some ⟨h + 2, 0, none⟩), .pointer (some ⟨g + 1, 0, none⟩), .bool true]) ∧ Md w w' h g n lv T := by
  have hlen := hS.len
  have hle := hS.le
  have hmx := hS.mx
  unfold maxLen at hmx
  have HS := hide hS
  clear hS
  go_enter Try.func11, Try.ntmps11
  go_wp2_with fail
  refine (new25 n _ h1 h2).mono ?_
  rintro e w1 ⟨rfl, P1, B1⟩
  have hl1 := P1.lt
  have PP := hide P1
  have BB := hide B1
  clear P1 B1
  go_wp2_with fail
  refine (new26 n _ h1 h2).mono ?_
  rintro e w2 ⟨rfl, R2, B2⟩
  have P2 := PP.out.on B2
  have B3 := belowOn BB.out B2
  generalize hh : w.heap.size = h at *
  generalize hgg : w1.heap.size = g at *
  have HM : Hid (Md w w2 h g n (.slice none 0 0) (tNew n)) := hide ⟨P2, R2, hl1, rfl, by simp [tNew], by omega, by rw [hh]; exact B3⟩
  clear P2 R2 B2 B3 PP BB hgg
  go_wp2
  go_loopw [11, 12] (fun i _ wr => ∃ (k : Nat) (lv : Value) (T : Tb), k ≤ m ∧ k ≤ 100 ∧ i = .int .i64 k ∧ T.l.length ≤ k ∧ Md w wr h g n lv T) (fun i _ _ => m - (intOf i).toNat)
  case atStart => exact ⟨0, _, _, Nat.zero_le _, Nat.zero_le _, rfl, by simp [tNew], HM.out⟩
  case round =>
    obtain ⟨k, lv, T, hk, hk1, rfl, hT, M⟩ := hrel
    by_cases hc : k < m ∧ k < 100
    · obtain ⟨c1, c2⟩ := hc
      have d1 : (k : Int) < m := by omega
      have d2 : (k : Int) < 100 := by omega
      obtain ⟨s, hs⟩ : ∃ s, ss[k]? = some s := ⟨_, List.getElem?_eq_getElem (by omega)⟩
      have S := HS.out.below (by have := M.B; rw [hh] at this; exact this)
      obtain ⟨b, o, rfl, hb, hr⟩ := S.cell k s hs
      have HR := hide hr
      have MM := hide M
      have tk1 : True := trivial
      clear S hr M HM
      go_wp2_with (first | (have _t := tk1; refine wpl_st (.tmp 51) rfl HR.out ?_ ?_ ?_; rfl; rfl; clear tk1))
      refine (step27 h g lv T s _ MM.out.P MM.out.R MM.out.hg (by have := MM.out.le; omega)).mono ?_
      rintro e w3 ⟨rfl, P3, ⟨lv', R3⟩, B3⟩
      have hl := len_nx T s
      have M3 : Hid (Md w w3 h g n lv' (nx T s)) := hide ⟨P3, R3, MM.out.hg, by rw [n_nx]; exact MM.out.tn, by omega, MM.out.hw, MM.out.B.trans (B3.mono MM.out.hw)⟩
      clear P3 R3 B3 MM HR
      go_wp2
      go_roundw
      case rel => exact ⟨k + 1, lv', nx T s, by omega, by omega, by go_num, by omega, M3.out⟩
      case measure => simp [intOf]; omega
    · have MM := hide M
      clear M HM
      by_cases c1 : (k : Int) < m
      · have c2 : ¬ ((k : Int) < 100) := by omega
        clear hc
        go_wp2
        go_ret3
        first | exact ⟨h, g, rfl, lv, T, MM.out⟩ | exact ⟨h, g, lv, T, rfl, MM.out⟩
      · clear hc
        go_wp2
        go_ret3
        first | exact ⟨h, g, rfl, lv, T, MM.out⟩ | exact ⟨h, g, lv, T, rfl, MM.out⟩
end Go.Proofs.Ytelinahpneikiaa
