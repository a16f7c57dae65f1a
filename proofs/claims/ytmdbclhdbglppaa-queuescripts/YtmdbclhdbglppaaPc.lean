/- Contracts of the program's New, Len, Lost, isClass, Clear, of bytes.Clone. -/
import Derived.Test.YtmdbclhdbglppaaPb
namespace Go.Proofs.Ytmdbclhdbglppaa
open Go.RowKit Go.PlainAid

set_option maxRecDepth 100000 in
set_option maxHeartbeats 1000000 in
theorem isClassQ (k : Int) (w : World) : Calls Try.prog 22 #[.int .i64 k] w fun e w' => e = .returned (.bool (isC k)) ∧ w' = w := by
  by_cases h0 : 0 ≤ k
  · by_cases h1 : k < 8
    · rw [isC_iff.2 ⟨h0, h1⟩]
      go_enter Try.func22, Try.ntmps22
      go_wp2
      go_ret
      exact ⟨rfl, rfl⟩
    · rw [show isC k = false by rw [Bool.eq_false_iff]; exact fun e => h1 (isC_iff.1 e).2]
      go_enter Try.func22, Try.ntmps22
      go_wp2
      go_ret
      exact ⟨rfl, rfl⟩
  · rw [show isC k = false by rw [Bool.eq_false_iff]; exact fun e => h0 (isC_iff.1 e).1]
    go_enter Try.func22, Try.ntmps22
    go_wp2
    go_ret
    exact ⟨rfl, rfl⟩
set_option maxRecDepth 100000 in
set_option maxHeartbeats 1000000 in
theorem newQ_no (n : Int) (w : World) (h : ¬ (1 ≤ n ∧ n ≤ 1000)) : Calls Try.prog 9 #[.int .i64 n] w fun e w' => e = .returned (.tuple #[.pointer none, .int .i64 1]) ∧ w' = w := by
  by_cases h1 : n < 1
  · clear h
    go_enter Try.func9, Try.ntmps9
    go_wp2
    go_ret2
    exact ⟨rfl, rfl⟩
  · have h2 : 1000 < n := by omega
    clear h
    go_enter Try.func9, Try.ntmps9
    go_wp2
    go_ret2
    exact ⟨rfl, rfl⟩
def zSV : List Sv := [zS, zS, zS, zS, zS, zS, zS, zS]
theorem zSV_all {k : Nat} {x : Sv} (h : zSV[k]? = some x) : x = zS := by
  have hm := List.mem_of_getElem? h
  simp [zSV] at hm
  exact hm
theorem zSV_no {k i : Nat} {x : Sv} (h : zSV[k]? = some x) (hi : bk x i) : False := by
  rw [zSV_all h] at hi
  obtain ⟨a, ha, _⟩ := hi
  cases ha
theorem px_new {w : World} {h n : Nat} (hb : Box w h (pcl n zSV z8)) (h1 : 1 ≤ n) (h2 : n ≤ 1000) : PX w h (fun _ => False) (fun i => i = h) n zSV [] z8 :=
  ⟨hb, rfl, rfl, fun k x hx => by rw [zSV_all hx]; exact ck_nil _ _, fun k k' x x' i _ hx _ hi _ => zSV_no hx hi, fun k x i hx hi => False.elim (zSV_no hx hi), rfl, fun i hi => hi.elim, fun i hi => by rw [hi]; exact hb.lt, fun x hx => by simp at hx, fun k => by rw [show cnt [] k = 0 from rfl]; omega, h1, h2⟩
set_option maxRecDepth 100000 in
set_option maxHeartbeats 1000000 in
theorem newQ (n : Nat) (w : World) (h1 : 1 ≤ n) (h2 : n ≤ 1000) : Calls Try.prog 9 #[.int .i64 n] w fun e w' => ∃ p S, e = .returned (.tuple #[.pointer (some p), .int .i64 0]) ∧ PQ w' p S n [] z8 ∧ (∀ i, S i → w.heap.size ≤ i) ∧ Below w.heap.size w w' := by
  have R := hide (px_new (Box.new w (pcl n zSV z8) 50) h1 h2)
  have B := hide (below_alloc w (.cells (pcl n zSV z8).toArray 50))
  have a1 : ¬ (n : Int) < 1 := by omega
  have a2 : ¬ (1000 : Int) < n := by omega
  go_enter Try.func9, Try.ntmps9
  go_wp2
  go_ret2
  refine ⟨⟨w.heap.size, 0, none⟩, rfl, fun i => i = w.heap.size, ⟨_, _, _, rfl, R.out⟩, fun i hi => by rw [hi]; exact Nat.le_refl _, B.out⟩
theorem isC_nat {k : Int} (h : isC k = true) : ∃ q : Nat, k = q ∧ q < 8 := by
  obtain ⟨h1, h2⟩ := isC_iff.1 h
  obtain ⟨q, rfl⟩ := Int.eq_ofNat_of_zero_le h1
  exact ⟨q, rfl, by omega⟩
set_option maxRecDepth 100000 in
set_option maxHeartbeats 1000000 in
theorem lenQ (p : Addr) (S : Nat → Prop) (n : Nat) (L : List Wt) (ls : List Nat) (k : Int) (w : World) (H : PQ w p S n L ls) :
    Calls Try.prog 12 #[.pointer (some p), .int .i64 k] w fun e w' => e = .returned (.int .i64 (cnt L k)) ∧ w' = w := by
  obtain ⟨h, T, SV, rfl, H⟩ := H
  have q1 := hide (isClassQ k w)
  rcases Bool.eq_false_or_eq_true (isC k) with hb | hb
  · obtain ⟨q, rfl, hq⟩ := isC_nat hb
    obtain ⟨⟨xa, xn, xp⟩, -, hc, -, hn⟩ := H.at_ hq
    rw [← hn]
    clear hn H
    unfold sv at hc
    rw [hb] at q1
    have h1 : (q : Int) < 8 := by omega
    go_enter Try.func12, Try.ntmps12
    go_wp2_with (go_at_call 22; refine q1.out.mono ?_; rintro e w' ⟨rfl, rfl⟩)
    go_ret
    exact ⟨rfl, rfl⟩
  · rw [cnt_out H.cls hb]
    clear H
    rw [hb] at q1
    go_enter Try.func12, Try.ntmps12
    go_wp2_with (go_at_call 22; refine q1.out.mono ?_; rintro e w' ⟨rfl, rfl⟩)
    go_ret
    exact ⟨rfl, rfl⟩
set_option maxRecDepth 100000 in
set_option maxHeartbeats 1000000 in
theorem lostQ (p : Addr) (S : Nat → Prop) (n : Nat) (L : List Wt) (ls : List Nat) (k : Int) (w : World) (H : PQ w p S n L ls) :
    Calls Try.prog 14 #[.pointer (some p), .int .i64 k] w fun e w' => e = .returned (.int .i64 (lost ls k)) ∧ w' = w := by
  obtain ⟨h, T, SV, rfl, H⟩ := H
  have q1 := hide (isClassQ k w)
  rcases Bool.eq_false_or_eq_true (isC k) with hb | hb
  · obtain ⟨q, rfl, hq⟩ := isC_nat hb
    obtain ⟨hc, -⟩ := H.lost_at hq
    rw [show lost ls (q : Int) = ls[q]?.getD 0 by unfold lost; rw [hb]; rfl]
    generalize ls[q]?.getD 0 = y at *
    clear H
    rw [hb] at q1
    have h1 : (q : Int) < 8 := by omega
    go_enter Try.func14, Try.ntmps14
    go_wp2_with (go_at_call 22; refine q1.out.mono ?_; rintro e w' ⟨rfl, rfl⟩)
    go_ret
    exact ⟨rfl, rfl⟩
  · rw [show lost ls k = 0 by unfold lost; rw [hb]; rfl]
    clear H
    rw [hb] at q1
    go_enter Try.func14, Try.ntmps14
    go_wp2_with (go_at_call 22; refine q1.out.mono ?_; rintro e w' ⟨rfl, rfl⟩)
    go_ret
    exact ⟨rfl, rfl⟩
set_option maxRecDepth 100000 in
set_option maxHeartbeats 1000000 in
theorem cloneQ (K : Nat → Prop) (ab : Option Addr) (nb cb : Nat) (b : List Int) (w : World) (hb : By w K ab nb cb b) (hnb : nb ≤ 140737488355328) :
    Calls Try.prog 23 #[.slice ab nb cb] w fun e w' => (∃ a2 c2, e = .returned (.slice a2 nb c2) ∧ By w' (fun i => w.heap.size ≤ i ∧ i < w'.heap.size) a2 nb c2 b) ∧ Below w.heap.size w w' := by
  have q35 : ∀ (w : World) (a : Option Addr) (n c n' c' : Nat), (binOp .eql 32 (.slice a n c) (.slice none n' c')).run Try.prog w = .ok (.bool a.isNone) w := fun w a n c n' c' => Lib.run_eql_slice_nil w _ _ a n c n' c' Try.underlying32
  cases ab with
  | none =>
    obtain ⟨rfl, rfl⟩ := hb.b.nil rfl
    obtain rfl : b = [] := List.eq_nil_of_length_eq_zero hb.b.len
    clear hb hnb
    go_enter Try.func23, Try.ntmps23
    go_wp2
    go_ret
    exact ⟨⟨none, 0, rfl, ⟨Byt.nothing _, fun b o e => (by cases e)⟩⟩, Below.refl _ _⟩
  | some a =>
    have HNB := hide hnb
    obtain ⟨N, hN⟩ : ∃ N, N = w.heap.size := ⟨_, rfl⟩
    have HN := hide hN
    have B0 := hide (below_alloc w (.cells #[] 5))
    have R0 := row0 w N (by omega)
    have hs1 : Hid (N ≤ (w.alloc (.cells #[] 5)).heap.size) := hide (by simp; omega)
    have HY := hide (hb.b.on B0.out)
    have HR := hide hb.b.rng
    clear hb hnb hN
    have tk2 : True := trivial
    go_enter Try.func23, Try.ntmps23
    go_wp2_with (first | (have _t := tk2; at_builtin; refine wpl_app rfl (.tmp 5) (.tmp 6) rfl N _ 0 [] rfl R0 _ nb cb b rfl HY.out (by have := HNB.out; omega) hs1.out ?_; clear tk2))
    intro v2 u2 R2 B3
    obtain ⟨a2, c2, rfl, Y2⟩ := R2.by HR.out
    have Y3 := hide Y2
    have B4 := hide ((B0.out.mono (by have := HN.out; omega)).trans B3)
    clear R2 Y2 B3 R0
    go_wp2
    go_ret
    have e := HN.out
    subst e
    exact ⟨⟨_, _, rfl, Y3.out⟩, B4.out⟩
end Go.Proofs.Ytmdbclhdbglppaa
