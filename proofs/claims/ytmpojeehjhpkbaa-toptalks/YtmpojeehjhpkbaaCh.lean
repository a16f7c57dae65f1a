/- Contract of Choose of the document's. -/
import Derived.Test.YtmpojeehjhpkbaaIm
import Derived.Deep.LoopGhost
namespace Go.Proofs.Ytmpojeehjhpkbaa
open Go.RowKit Go.PlainAid

theorem chs_take {h : Nat} {l : List Int} {q : Nat} {m : Int} (h1 : 0 < q) (hm : l[q]? = some m) : chs h (l.take (q + 1)) = nxt h (chs h (l.take q)) m := by
  have hl := (List.getElem?_eq_some_iff.1 hm).1
  rw [List.take_add_one, hm]
  refine chs_snoc (fun e => ?_) m
  have h2 : (l.take q).length = 0 := by rw [e]; rfl
  rw [List.length_take] at h2
  omega
theorem nxt_def (h : Nat) (b m : Int) : nxt h b m = if btr h m b then m else b := by unfold nxt; exact Eq.refl _
set_option maxRecDepth 100000 in
set_option maxHeartbeats 1000000 in
theorem chooseR_none (ao : Option Addr) (c : Nat) (h : Nat) (w : World) :
    Calls Try.prog 16 #[.slice ao 0 c, .int .u32 h] w fun e w' => e = .returned (.tuple #[.int .i64 0, .bool false]) ∧ w' = w := by
  go_enter Try.func16, Try.ntmps16
  go_wp2
  go_ret2
  exact ⟨rfl, rfl⟩
set_option maxRecDepth 100000 in
set_option maxHeartbeats 4000000 in
theorem chooseR (ao : Option Addr) (n c : Nat) (l : List Int) (h : Nat) (w : World) (hl : Its w 0 ao n c l) (hh : h < 4294967296) (hn : 0 < n) :
    Calls Try.prog 16 #[.slice ao n c, .int .u32 h] w fun e w' => e = .returned (.tuple #[.int .i64 (chs h l), .bool true]) ∧ w' = w := by
  obtain ⟨b, o, rfl, hc, -⟩ := hl.at hn
  have HL : Hid (l.length = n) := hide hl.len
  have hnc := hl.le
  have hcm := hl.mx
  unfold maxLen at hcm
  have HC := hide hc
  have HH := hide hh
  have at_ : Hid (∀ (j : Nat) (m : Int), l[j]? = some m → w.cell? ⟨b, o + j, none⟩ = some (.int .i64 m)) := hide (fun j m hj => by
    have hlt := (List.getElem?_eq_some_iff.1 hj).1
    have := HC.out j (by rw [← HL.out]; exact hlt)
    rw [List.getD_eq_getElem?_getD, hj] at this
    exact this)
  obtain ⟨m0, hm0⟩ : ∃ m0, l[0]? = some m0 := ⟨_, List.getElem?_eq_getElem (by rw [HL.out]; exact hn)⟩
  have c0 := at_.out 0 m0 hm0
  rw [Nat.add_zero] at c0
  have H0 : Hid (chs h (l.take 1) = m0) := hide (by
    cases l with
    | nil => simp at hm0
    | cons x r =>
      obtain rfl : x = m0 := by simpa using hm0
      exact Eq.refl _)
  have hn1 : (0 : Int) < (n : Int) := by omega
  have hn2 : ¬ (n : Int) = 0 := by omega
  have hn3 : ((n : Int) == 0) = false := by simp; omega
  have HN := hide hn
  clear hl hc hh hm0 hn
  go_enter Try.func16, Try.ntmps16
  go_wp2
  clear c0
  go_loopg [6, 7, 8, 9] (n - 1) (fun r b i _ _ wr => ∃ q : Nat, 1 ≤ q ∧ q ≤ n ∧ r = n - q ∧ i = .int .i64 q ∧ b = .int .i64 (chs h (l.take q)) ∧ wr = w)
  case atStart => exact ⟨1, by omega, by omega, rfl, rfl, by rw [H0.out], rfl⟩
  case round =>
    obtain ⟨q, hq1, hq, hr, rfl, rfl, rfl⟩ := hrel
    have HR := hide hr
    clear hr
    by_cases hc : q < n
    · obtain ⟨m, hm⟩ : ∃ m, l[q]? = some m := ⟨_, List.getElem?_eq_getElem (by rw [HL.out]; exact hc)⟩
      have cq := at_.out q m hm
      have HT := hide (chs_take (h := h) (by omega) hm)
      have hq2 : (q : Int) < (n : Int) := by omega
      have e2 : IntKind.i64.wrap ((q : Int) + 1) = (q : Int) + 1 := IntWalk.i64_in _ (by omega)
      obtain ⟨z, hz⟩ : ∃ z, z = chs h (l.take q) := ⟨_, rfl⟩
      rw [← hz] at HT
      rw [← hz]
      clear hz hm
      go_wp2_with fail
      refine (weighR h m _ HH.out).mono ?_
      rintro e w' ⟨rfl, rfl⟩
      go_wp2_with fail
      refine (weighR h z _ HH.out).mono ?_
      rintro e w' ⟨rfl, rfl⟩
      have HB : Hid (nxt h z m = if wgh h z < wgh h m ∨ (wgh h m = wgh h z ∧ m < z) then m else z) := hide (by
        rw [nxt_def]
        by_cases hb : wgh h z < wgh h m ∨ (wgh h m = wgh h z ∧ m < z)
        · rw [if_pos hb, if_pos (btr_iff.2 hb)]
        · rw [if_neg hb, if_neg (by rw [btr_iff]; exact hb)])
      obtain ⟨x, hx⟩ : ∃ x, x = wgh h m := ⟨_, rfl⟩
      obtain ⟨y, hy⟩ : ∃ y, y = wgh h z := ⟨_, rfl⟩
      rw [← hx, ← hy] at HB
      rw [← hx, ← hy]
      clear hx hy
      rcases (show y < x ∨ (¬ y < x ∧ x = y ∧ m < z) ∨ (¬ y < x ∧ x = y ∧ ¬ m < z) ∨ (¬ y < x ∧ ¬ x = y) by omega) with h1 | ⟨h1, h2, h3⟩ | ⟨h1, h2, h3⟩ | ⟨h1, h2⟩
      · have f1 : (y : Int) < (x : Int) := by omega
        have HE : Hid (nxt h z m = m) := hide (by rw [HB.out, if_pos (Or.inl h1)])
        clear h1
        go_wp2
        go_roundg (n - (q + 1))
        case measure => rw [HR.out]; omega
        case rel => exact ⟨q + 1, by omega, by omega, rfl, by go_num, by rw [HT.out, HE.out], rfl⟩
      · subst h2
        have HE : Hid (nxt h z m = m) := hide (by rw [HB.out, if_pos (Or.inr ⟨rfl, h3⟩)])
        have f1 : ¬ (x : Int) < (x : Int) := by omega
        clear h1
        go_wp2
        go_roundg (n - (q + 1))
        case measure => rw [HR.out]; omega
        case rel => exact ⟨q + 1, by omega, by omega, rfl, by go_num, by rw [HT.out, HE.out], rfl⟩
      · subst h2
        have HE : Hid (nxt h z m = z) := hide (by rw [HB.out, if_neg (by omega)])
        have f1 : ¬ (x : Int) < (x : Int) := by omega
        clear h1
        go_wp2
        go_roundg (n - (q + 1))
        case measure => rw [HR.out]; omega
        case rel => exact ⟨q + 1, by omega, by omega, rfl, by go_num, by rw [HT.out, HE.out], rfl⟩
      · have HE : Hid (nxt h z m = z) := hide (by rw [HB.out, if_neg (by omega)])
        have f1 : ¬ (y : Int) < (x : Int) := by omega
        have f2 : ¬ (x : Int) = (y : Int) := by omega
        have f3 : ((x : Int) == (y : Int)) = false := by simp; omega
        clear h1 h2
        go_wp2
        go_roundg (n - (q + 1))
        case measure => rw [HR.out]; omega
        case rel => exact ⟨q + 1, by omega, by omega, rfl, by go_num, by rw [HT.out, HE.out], rfl⟩
    · obtain rfl : q = n := by omega
      have hq2 : ¬ (q : Int) < (q : Int) := by omega
      have HF : Hid (chs h (l.take q) = chs h l) := hide (by rw [List.take_of_length_le (by rw [HL.out]; exact Nat.le_refl _)])
      clear hc
      go_wp2
      go_ret2
      exact ⟨by rw [HF.out]; rfl, rfl⟩
end Go.Proofs.Ytmpojeehjhpkbaa
