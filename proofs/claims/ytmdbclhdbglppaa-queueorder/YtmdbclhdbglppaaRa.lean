/- Contracts of New, Len, Lost, Clear of the document's queue. -/
import Derived.Test.YtmdbclhdbglppaaQm
namespace Go.Proofs.Ytmdbclhdbglppaa
open Go.RowKit Go.PlainAid

set_option maxRecDepth 100000 in
set_option maxHeartbeats 1000000 in
theorem newR_no (n : Int) (w : World) (h : ¬ (1 ≤ n ∧ n ≤ 1000)) : Calls Try.prog 10 #[.int .i64 n] w fun e w' => e = .returned (.tuple #[.pointer none, .int .i64 1]) ∧ w' = w := by
  by_cases h1 : n < 1
  · clear h
    go_enter Try.func10, Try.ntmps10
    go_wp2
    go_ret2
    exact ⟨rfl, rfl⟩
  · have h2 : 1000 < n := by omega
    clear h
    go_enter Try.func10, Try.ntmps10
    go_wp2
    go_ret2
    exact ⟨rfl, rfl⟩
def z8 : List Nat := [0, 0, 0, 0, 0, 0, 0, 0]
set_option maxRecDepth 100000 in
set_option maxHeartbeats 1000000 in
theorem newR (n : Nat) (w : World) (h1 : 1 ≤ n) (h2 : n ≤ 1000) : Calls Try.prog 10 #[.int .i64 n] w fun e w' => e = .returned (.tuple #[.pointer (some ⟨w.heap.size, 0, none⟩), .int .i64 0]) ∧ RQ w' w.heap.size (fun _ => False) n none 0 0 [] [] z8 ∧ Below w.heap.size w w' := by
  have R : Hid (RQ (w.alloc (.cells #[.int .i64 n, .slice none 0 0, .int .i64 0, .int .i64 0, .int .i64 0, .int .i64 0, .int .i64 0, .int .i64 0, .int .i64 0, .int .i64 0] 53)) w.heap.size (fun _ => False) n none 0 0 [] [] z8) :=
    hide ⟨Box.new w (qcl n (.slice none 0 0) z8) 53, rfl, ⟨rfl, fun _ => ⟨rfl, rfl⟩, fun a e => (by cases e), Nat.le_refl _, Nat.zero_le _⟩, mt_nil _ _, fun i h => (by cases h), h1, h2⟩
  have B := hide (below_alloc w (.cells #[.int .i64 n, .slice none 0 0, .int .i64 0, .int .i64 0, .int .i64 0, .int .i64 0, .int .i64 0, .int .i64 0, .int .i64 0, .int .i64 0] 53))
  have a1 : ¬ (n : Int) < 1 := by omega
  have a2 : ¬ (1000 : Int) < n := by omega
  go_enter Try.func10, Try.ntmps10
  go_wp2
  go_ret2
  exact ⟨rfl, R.out, B.out⟩
set_option maxRecDepth 100000 in
set_option maxHeartbeats 1000000 in
theorem clearR (g : Nat) (F : Nat → Prop) (n : Nat) (ao : Option Addr) (m c : Nat) (V : List Wv) (L : List Wt) (ls : List Nat) (w : World) (H : RQ w g F n ao m c V L ls) :
    Calls Try.prog 21 #[.pointer (some ⟨g, 0, none⟩)] w fun e w' => e = .returned (.int .i64 L.length) ∧ RQ w' g F n none 0 0 [] [] ls ∧ Mid g (g + 1) w w' := by
  have c1 := H.bx.cell 1 _ rfl
  have f1 := H.bx.free 1 (by simp [qcl])
  have hm : m = L.length := by have := H.sl.len; have := H.mt.len; omega
  have g1 := setCell_grown w g 1 (.slice none 0 0)
  have hl := H.bx.lt
  have R : Hid (RQ (w.setCell ⟨g, 1, none⟩ (.slice none 0 0)) g F n none 0 0 [] [] ls) := hide
    ⟨Box.set (A := [.int .i64 n]) H.bx rfl, H.ll, ⟨rfl, fun _ => ⟨rfl, rfl⟩, fun a e => (by cases e), Nat.le_refl _, Nat.zero_le _⟩, mt_nil _ _, fun i hi => ⟨(H.ng i hi).1, Nat.lt_of_lt_of_le (H.ng i hi).2 g1.size⟩, H.n1, H.n2⟩
  have M : Hid (Mid g (g + 1) w (w.setCell ⟨g, 1, none⟩ (.slice none 0 0))) := hide ((Mid.refl g (g + 1) w).grown g1 (Or.inr ⟨Nat.le_refl _, by omega⟩))
  rw [← hm]
  clear H g1 hl hm
  go_enter Try.func21, Try.ntmps21
  go_wp2
  go_ret
  exact ⟨rfl, R.out, M.out⟩
theorem qcl_ls {n : Nat} {lv : Value} {ls : List Nat} {k : Nat} (h : k < ls.length) : (qcl n lv ls)[2 + k]? = some (.int .i64 (ls[k]?.getD 0 : Nat)) := by
  show ([Value.int .i64 n, lv] ++ ls.map (fun x : Nat => Value.int .i64 x))[2 + k]? = _
  rw [List.getElem?_append_right (by simp)]
  simp [List.getElem?_eq_getElem h]
set_option maxRecDepth 100000 in
set_option maxHeartbeats 1000000 in
theorem lostR (g : Nat) (F : Nat → Prop) (n : Nat) (ao : Option Addr) (m c : Nat) (V : List Wv) (L : List Wt) (ls : List Nat) (k : Int) (w : World) (H : RQ w g F n ao m c V L ls) :
    Calls Try.prog 15 #[.pointer (some ⟨g, 0, none⟩), .int .i64 k] w fun e w' => e = .returned (.int .i64 (lost ls k)) ∧ w' = w := by
  by_cases hk : 0 ≤ k ∧ k < 8
  · obtain ⟨q, rfl⟩ := Int.eq_ofNat_of_zero_le hk.1
    have hq : q < 8 := by omega
    have hc : isC (q : Int) = true := isC_iff.2 (by omega)
    have e1 : lost ls q = ls[q]?.getD 0 := by unfold lost; rw [hc]; rfl
    have c2 := H.bx.cell (2 + q) _ (qcl_ls (by rw [H.ll]; exact hq))
    rw [e1]
    obtain ⟨x, hx⟩ : ∃ x, x = ls[q]?.getD 0 := ⟨_, rfl⟩
    rw [← hx] at c2 ⊢
    have h1 : ¬ (q : Int) < 0 := by omega
    have h2 : ¬ (8 : Int) ≤ (q : Int) := by omega
    have h3 : (q : Int) < 8 := by omega
    clear H hk hc e1 hx
    go_enter Try.func15, Try.ntmps15
    go_wp2
    go_ret
    exact ⟨rfl, rfl⟩
  · have hc : isC k = false := by
      rw [Bool.eq_false_iff]; exact fun h => hk (isC_iff.1 h)
    have e1 : lost ls k = 0 := by unfold lost; rw [hc]; rfl
    rw [e1]
    clear H hc e1
    rcases (show k < 0 ∨ (¬ k < 0 ∧ 8 ≤ k) by omega) with h1 | ⟨h1, h2⟩
    · clear hk
      go_enter Try.func15, Try.ntmps15
      go_wp2
      go_ret
      exact ⟨rfl, rfl⟩
    · clear hk
      go_enter Try.func15, Try.ntmps15
      go_wp2
      go_ret
      exact ⟨rfl, rfl⟩
set_option maxRecDepth 100000 in
set_option maxHeartbeats 2000000 in
theorem lenR (g : Nat) (F : Nat → Prop) (n : Nat) (ao : Option Addr) (m c : Nat) (V : List Wv) (L : List Wt) (ls : List Nat) (k : Int) (w : World) (H : RQ w g F n ao m c V L ls) (hL : L.length ≤ 100000) :
    Calls Try.prog 13 #[.pointer (some ⟨g, 0, none⟩), .int .i64 k] w fun e w' => e = .returned (.int .i64 (cnt L k)) ∧ w' = w := by
  have HR := hide H
  have c1 := H.bx.cell 1 _ rfl
  have hm : m = L.length := by have := H.sl.len; have := H.mt.len; omega
  have HMC : Hid (m ≤ c ∧ c ≤ maxLen) := hide ⟨H.sl.le, H.sl.mx⟩
  have HM := hide hm
  have HL := hide hL
  clear H hm hL
  go_enter Try.func13, Try.ntmps13
  go_wp2
  go_loopw [5, 6] (fun x i wr => ∃ q : Nat, q ≤ m ∧ i = .int .i64 q ∧ x = .int .i64 (cnt (L.take q) k) ∧ wr = w) (fun _ i _ => m - (intOf i).toNat)
  case atStart => exact ⟨0, Nat.zero_le _, rfl, rfl, rfl⟩
  case round =>
    obtain ⟨q, hq, rfl, rfl, rfl⟩ := hrel
    by_cases hc : q < m
    · obtain ⟨x, hx⟩ : ∃ x, L[q]? = some x := ⟨_, List.getElem?_eq_getElem (by rw [← HM.out]; exact hc)⟩
      obtain ⟨v, hv, hvc, _⟩ := HR.out.mt.at hx
      obtain ⟨b, o, rfl, -, -, d0, -⟩ := HR.out.sl.cell hv
      have hq2 : (q : Int) < (m : Int) := by omega
      have e1 : IntKind.i64.wrap ((q : Int) + 1) = (q : Int) + 1 := IntWalk.i64_in _ (by have := HM.out; have := HL.out; omega)
      have hT := cnt_take_succ hx k
      have hle := cnt_le (L.take q) k
      rw [List.length_take] at hle
      rw [hvc] at d0
      obtain ⟨y, hy⟩ : ∃ y, y = cnt (L.take q) k := ⟨_, rfl⟩
      obtain ⟨xc, hxc⟩ : ∃ xc, xc = x.c := ⟨_, rfl⟩
      rw [← hy] at hT hle ⊢
      rw [← hxc] at hT d0
      have e2 : IntKind.i64.wrap ((y : Int) + 1) = (y : Int) + 1 := IntWalk.i64_in _ (by have := HM.out; have := HL.out; omega)
      have HT := hide hT
      clear hx hv hvc hT hle hy hxc
      rcases Bool.eq_false_or_eq_true (xc == k) with hb | hb
      · have HE : Hid (xc = k) := hide (by simpa using hb)
        go_wp2
        go_roundw
        case rel => exact ⟨q + 1, by omega, by go_num, by rw [HT.out, if_pos HE.out]; go_num, (by first | rfl | trivial)⟩
        case measure => simp [intOf]; omega
      · have HE : Hid (¬ xc = k) := hide (by simpa using hb)
        go_wp2
        go_roundw
        case rel => exact ⟨q + 1, by omega, by go_num, by rw [HT.out, if_neg HE.out]; simp, (by first | rfl | trivial)⟩
        case measure => simp [intOf]; omega
    · have HQ : Hid (cnt (L.take q) k = cnt L k) := hide (by rw [List.take_of_length_le (by have := HM.out; omega)])
      have hq2 : ¬ (q : Int) < (m : Int) := by omega
      go_wp2
      go_ret
      exact ⟨by rw [HQ.out]; rfl, rfl⟩
end Go.Proofs.Ytmdbclhdbglppaa
