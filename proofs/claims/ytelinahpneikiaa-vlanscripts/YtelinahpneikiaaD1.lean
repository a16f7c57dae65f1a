/- Contracts: Members, of both; SameInts. -/
import Derived.Test.YtelinahpneikiaaC2
namespace Go.Proofs.Ytelinahpneikiaa
open Go.RowKit Go.PlainAid

theorem mbs_yes {l : List Mm} {v : Int} {k : Nat} (h : hs l v k = true) : mbs l v (k + 1) = mbs l v k ++ [(k : Int)] := by
  rw [mbs, h]; rfl
theorem mbs_no {l : List Mm} {v : Int} {k : Nat} (h : hs l v k = false) : mbs l v (k + 1) = mbs l v k := by
  rw [mbs, h]; rfl
/-- Members so far. -/
structure Ms (w wr : World) (v : Value) (xs : List Int) : Prop where
  row : IRow wr w.heap.size v xs.length xs
  B : Below w.heap.size w wr
set_option maxRecDepth 100000 in
set_option maxHeartbeats 4000000 in
theorem members13 (h : Nat) (T : Tb) (v : Int) (w : World) (hv : I64 v) (P : PT w h T) :
    Calls Try.prog 13 #[.pointer (some ⟨h + 2, 0, none⟩), .int .i64 v] w fun e w' => ∃ ao c, e = .returned (.slice ao (mbs T.l v T.n).length c) ∧ Its w' w.heap.size ao (mbs T.l v T.n).length c (mbs T.l v T.n) ∧ Below w.heap.size w w' := by
  have c1 := P.bx.cell 1 _ rfl
  have hn := P.wf.n64
  have HP := hide P
  have HV := hide hv
  clear P hv
  go_enter Try.func13, Try.ntmps13
  go_wp2
  go_loopw [5, 6, 12] (fun s _ i wr => ∃ k : Nat, k ≤ T.n ∧ i = .int .i64 k ∧ Ms w wr s (mbs T.l v k)) (fun _ _ i _ => T.n - (intOf i).toNat)
  case atStart => exact ⟨0, Nat.zero_le _, rfl, ⟨IRow.nil _ _, Below.refl _ _⟩⟩
  case round =>
    obtain ⟨k, hk, rfl, M⟩ := hrel
    by_cases hlt : k < T.n
    · have hlt' : (k : Int) < T.n := by omega
      have HM := hide M
      have PW := hide (HP.out.on M.B)
      clear M c1
      go_wp2_with fail
      refine (isMember28 h T v k _ HV.out ⟨by omega, by omega⟩ PW.out).mono ?_
      rintro e w1 ⟨rfl, B1⟩
      have R1 := HM.out.row.on B1
      have BB := belowOn HM.out.B B1
      have hle := mbs_len T.l v k
      clear HM B1 PW
      rcases Bool.eq_false_or_eq_true (hs T.l v k) with hm | hm
      · rw [hm]
        have e1 := hide (mbs_yes hm)
        clear hm
        generalize mbs T.l v k = xs at *
        have R2 := hide (R1.alloc (.cells #[.int .i64 k] 3))
        have B2 := hide (belowOn BB (below_alloc w1 (.cells #[.int .i64 k] 3)))
        have hs2 : Hid (w.heap.size ≤ (w1.alloc (.cells #[.int .i64 k] 3)).heap.size) := hide B2.out.size
        have C2 : Hid ((w1.alloc (.cells #[.int .i64 k] 3)).cell? ⟨w1.heap.size, 0, none⟩ = some (.int .i64 k)) := hide (by rw [World.cell?_alloc_at _ _ _ _ rfl]; rfl)
        have hl1 : Hid (xs.length + 1 ≤ 100000) := hide (by omega)
        clear R1 BB
        have tk1 : True := trivial
        go_wp2_with (first | (have _t := tk1; at_builtin; refine wpl_iapp rfl (.tmp 19) (.tmp 21) rfl w.heap.size _ _ _ rfl R2.out _ k rfl C2.out hl1.out hs2.out ?_; clear tk1))
        intro v3 w3 R3 B3 _
        obtain ⟨ao3, c3, rfl, -⟩ := R3.its
        have M3 : Hid (Ms w w3 (.slice ao3 (xs.length + 1) c3) (xs ++ [(k : Int)])) := hide ⟨by simpa using R3, B2.out.trans B3⟩
        clear R3 B3 R2 B2 C2 hs2
        go_wp2
        go_roundw
        case rel => exact ⟨k + 1, by omega, by go_num, by rw [e1.out]; exact M3.out⟩
        case measure => simp [intOf]; omega
      · rw [hm]
        have e1 := hide (mbs_no hm)
        have M3 : Hid (Ms w w1 u5 (mbs T.l v k)) := hide ⟨R1, BB⟩
        clear hm R1 BB
        go_wp2
        go_roundw
        case rel => exact ⟨k + 1, by omega, by go_num, by rw [e1.out]; exact M3.out⟩
        case measure => simp [intOf]; omega
    · obtain rfl : k = T.n := by omega
      obtain ⟨ao, c, rfl, hI⟩ := M.row.its
      have HI := hide hI
      have HB := hide M.B
      clear M hI
      go_wp2
      go_ret
      exact ⟨ao, c, rfl, HI.out, HB.out⟩
end Go.Proofs.Ytelinahpneikiaa
