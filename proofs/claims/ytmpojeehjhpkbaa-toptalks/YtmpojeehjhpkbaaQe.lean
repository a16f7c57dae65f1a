/- Contracts of the library's MaxFunc with what Choose compares by, and of the program's Choose. -/
import Derived.Test.YtmpojeehjhpkbaaQd
namespace Go.Proofs.Ytmpojeehjhpkbaa
open Go.RowKit Go.PlainAid

set_option maxRecDepth 100000 in
set_option maxHeartbeats 4000000 in
theorem maxF (ao : Option Addr) (n c : Nat) (l : List Int) (h k : Nat) (w : World) (hl : Its w 0 ao n c l) (hh : h < 4294967296) (hn : 0 < n) (hk : Cap w k h) :
    Calls Try.prog 22 #[.slice ao n c, .func (.func 23) #[] #[.pointer (some ⟨k, 0, none⟩)]] w fun e w' => e = .returned (.int .i64 (chs h l)) ∧ Below w.heap.size w w' := by
  obtain ⟨b, o, rfl, hc, hlt⟩ := hl.at hn
  have HL : Hid (l.length = n) := hide hl.len
  have hnc := hl.le
  have hcm := hl.mx
  unfold maxLen at hcm
  have at_ : Hid (∀ (j : Nat) (m : Int), l[j]? = some m → w.cell? ⟨b, o + j, none⟩ = some (.int .i64 m)) := hide (fun j m hj => by
    have hlt := (List.getElem?_eq_some_iff.1 hj).1
    have := hc j (by rw [← HL.out]; exact hlt)
    rw [List.getD_eq_getElem?_getD, hj] at this
    exact this)
  have HLT := hide hlt
  have HK := hide hk
  have HH := hide hh
  obtain ⟨m0, hm0⟩ : ∃ m0, l[0]? = some m0 := ⟨_, List.getElem?_eq_getElem (by rw [HL.out]; exact hn)⟩
  have c0 := at_.out 0 m0 hm0
  rw [Nat.add_zero] at c0
  have H0 : Hid (chs h (l.take 1) = m0) := hide (by
    cases l with
    | nil => simp at hm0
    | cons x r =>
      obtain rfl : x = m0 := by simpa using hm0
      exact Eq.refl _)
  have hn1 : ¬ (n : Int) < 1 := by omega
  have HN := hide hn
  have HNC := hide (And.intro hnc hcm)
  clear hl hc hh hm0 hn hlt hk hnc hcm
  have n00 : (0 : Int) < (n : Int) := by have := HN.out; omega
  go_enter Try.func22, Try.ntmps22
  go_wp2
  clear c0 n00
  go_loopg [5, 6] (n - 1) (fun r bst i wr => ∃ q : Nat, 1 ≤ q ∧ q ≤ n ∧ r = n - q ∧ i = .int .i64 q ∧ bst = .int .i64 (chs h (l.take q)) ∧ Below w.heap.size w wr)
  case atStart => exact ⟨1, by omega, by have := HN.out; omega, rfl, rfl, by rw [H0.out], Below.refl _ _⟩
  case round =>
    obtain ⟨q, hq1, hq, hr, rfl, rfl, hB⟩ := hrel
    have HR := hide hr
    have HB := hide hB
    clear hr hB
    by_cases hc : q < n
    · obtain ⟨m, hm⟩ : ∃ m, l[q]? = some m := ⟨_, List.getElem?_eq_getElem (by rw [HL.out]; exact hc)⟩
      have cq : wr.cell? ⟨b, o + q, none⟩ = some (.int .i64 m) := (HB.out.cell (p := ⟨b, o + q, none⟩) HLT.out).trans (at_.out q m hm)
      have HT := hide (chs_take (h := h) (by omega) hm)
      have hq2 : (q : Int) < (n : Int) := by omega
      have n0 : (0 : Int) ≤ (q : Int) := by omega
      have hnc := HNC.out
      have e2 : IntKind.i64.wrap ((q : Int) + 1) = (q : Int) + 1 := IntWalk.i64_in _ (by omega)
      obtain ⟨z, hz⟩ : ∃ z, z = chs h (l.take q) := ⟨_, rfl⟩
      rw [← hz] at HT
      rw [← hz]
      have HM := hide hm
      clear hz hm hnc
      go_wp2_with fail
      refine (order h k m z _ HH.out (HK.out.on HB.out)).mono ?_
      rintro e w' ⟨rfl, hg⟩
      have HB2 := hide (HB.out.trans (hg.mono HB.out.size))
      have cq2 : w'.cell? ⟨b, o + q, none⟩ = some (.int .i64 m) := (HB2.out.cell (p := ⟨b, o + q, none⟩) HLT.out).trans (at_.out q m HM.out)
      clear hg cq
      by_cases hp : btr h m z = true
      · have f1 : 0 < cfM h m z := (cfM_btr h m z).2 hp
        have HE : Hid (nxt h z m = m) := hide (by rw [nxt_def, if_pos hp])
        obtain ⟨v, hv⟩ : ∃ v, v = cfM h m z := ⟨_, rfl⟩
        rw [← hv] at f1
        rw [← hv]
        clear hv hp
        go_wp2
        go_roundg (n - (q + 1))
        case measure => rw [HR.out]; omega
        case rel => exact ⟨q + 1, by omega, by omega, rfl, by go_num, by rw [HT.out, HE.out], HB2.out⟩
      · have f1 : ¬ 0 < cfM h m z := fun e => hp ((cfM_btr h m z).1 e)
        have HE : Hid (nxt h z m = z) := hide (by rw [nxt_def, if_neg hp])
        obtain ⟨v, hv⟩ : ∃ v, v = cfM h m z := ⟨_, rfl⟩
        rw [← hv] at f1
        rw [← hv]
        clear hv hp
        go_wp2
        go_roundg (n - (q + 1))
        case measure => rw [HR.out]; omega
        case rel => exact ⟨q + 1, by omega, by omega, rfl, by go_num, by rw [HT.out, HE.out], HB2.out⟩
    · obtain rfl : q = n := by omega
      have hq2 : ¬ (q : Int) < (q : Int) := by omega
      have HF : Hid (chs h (l.take q) = chs h l) := hide (by rw [List.take_of_length_le (by rw [HL.out]; exact Nat.le_refl _)])
      clear hc
      go_wp2
      go_ret
      exact ⟨by rw [HF.out]; rfl, HB.out⟩
theorem cap_new (w : World) (h : Nat) : Cap (w.alloc (.cells #[.int .u32 (h : Int)] 27)) w.heap.size h := ⟨by simp, by simp⟩
set_option maxRecDepth 100000 in
set_option maxHeartbeats 1000000 in
theorem chooseQ_none (ao : Option Addr) (c : Nat) (h : Nat) (w : World) :
    Calls Try.prog 15 #[.slice ao 0 c, .int .u32 h] w fun e w' => e = .returned (.tuple #[.int .i64 0, .bool false]) ∧ Below w.heap.size w w' := by
  have HB := hide (below_alloc w (.cells #[.int .u32 (h : Int)] 27))
  go_enter Try.func15, Try.ntmps15
  go_wp2
  go_ret2
  exact ⟨rfl, HB.out⟩
set_option maxRecDepth 100000 in
set_option maxHeartbeats 1000000 in
theorem chooseQ (ao : Option Addr) (n c : Nat) (l : List Int) (h : Nat) (w : World) (hl : Its w 0 ao n c l) (hh : h < 4294967296) (hn : 0 < n) :
    Calls Try.prog 15 #[.slice ao n c, .int .u32 h] w fun e w' => e = .returned (.tuple #[.int .i64 (chs h l), .bool true]) ∧ Below w.heap.size w w' := by
  have HB := hide (below_alloc w (.cells #[.int .u32 (h : Int)] 27))
  have HC := hide (cap_new w h)
  have HL := hide (hl.on HB.out)
  have HH := hide hh
  have HN := hide hn
  have hmf : ∀ (fn : Fn) (first cap : Array Value) (w : World), (Instr.makeFunc fn first cap).run Try.prog w = .ok (.func fn first cap) w := fun _ _ _ _ => rfl
  have hn2 : ¬ (n : Int) = 0 := by omega
  have hn3 : ((n : Int) == 0) = false := by simp; omega
  clear hl hh hn
  go_enter Try.func15, Try.ntmps15
  go_wp2_with fail
  generalize w.alloc (.cells #[.int .u32 (h : Int)] 27) = w1 at *
  refine (maxF ao n c l h _ w1 HL.out HH.out HN.out HC.out).mono ?_
  rintro e w' ⟨rfl, hg⟩
  obtain ⟨x, hx⟩ : ∃ x, x = chs h l := ⟨_, rfl⟩
  rw [← hx]
  have HX := hide hx
  clear hx
  go_wp2
  go_ret2
  exact ⟨by rw [← HX.out]; rfl, HB.out.trans (hg.mono HB.out.size)⟩
end Go.Proofs.Ytmpojeehjhpkbaa
