/- Contracts: the document's Find; New, of both. -/
import Derived.Test.YtelinahpneikiaaB1
import Derived.Deep.OwnRows
namespace Go.Proofs.Ytelinahpneikiaa
open Go.RowKit Go.PlainAid

theorem RT.at {w : World} {g : Nat} {lv : Value} {T : Tb} (H : RT w g lv T) : (lv = .slice none 0 0 ∧ T.l = []) ∨ ∃ b cap, lv = .slice (some ⟨b, 0, none⟩) T.l.length cap ∧ g + 2 ≤ b ∧ T.l.length ≤ cap ∧ cap ≤ maxLen ∧
    ∀ j m, T.l[j]? = some m → w.cell? ⟨b, j * 3, none⟩ = some (.int .i64 m.v) ∧ w.cell? ⟨b, j * 3 + 1, none⟩ = some (.int .i64 m.p) ∧ w.cell? ⟨b, j * 3 + 2, none⟩ = some (.bool m.t) ∧ w.frozen? ⟨b, j * 3 + 2, none⟩ = false := by
  have hr := H.row
  rcases hr.2 with ⟨h1, h2⟩ | ⟨b, cap, cur, rfl, hb, hc, hn, hm, r⟩
  · exact Or.inl ⟨h1, List.eq_nil_of_length_eq_zero h2⟩
  · refine Or.inr ⟨b, cap, rfl, hb, hn, hm, fun j m hj => ?_⟩
    have hl : j < T.l.length := (List.getElem?_eq_some_iff.1 hj).1
    obtain ⟨e1, e2, e3⟩ := mml_get T.l j m hj
    rw [Nat.mul_comm 3 j] at e1 e2 e3
    refine ⟨?_, ?_, ?_, hr.frozenAt _⟩
    · rw [hr.cellAt _ (by omega), e1]
    · rw [hr.cellAt _ (by omega), e2]
    · rw [hr.cellAt _ (by omega), e3]
set_option maxRecDepth 100000 in
set_option maxHeartbeats 2000000 in
theorem find29 (g : Nat) (lv : Value) (T : Tb) (v p : Int) (w : World) (H : RT w g lv T) : Calls Try.prog 29 #[.pointer (some ⟨g + 1, 0, none⟩), .int .i64 v, .int .i64 p] w fun e w' => e = .returned (.int .i64 (fx T.l v p)) ∧ w' = w := by
  have c1 := H.bx.cell 1 _ rfl
  rcases H.at with ⟨rfl, hl⟩ | ⟨b, cap, rfl, hb, hn, hm, hc⟩
  · rw [hl]
    clear H
    have e : fx [] v p = -1 := rfl
    rw [e]
    go_enter Try.func29, Try.ntmps29
    go_wp2
    go_loopw [7] (fun i wr => i = .int .i64 0 ∧ wr = w) (fun i _ => 1 - (intOf i).toNat)
    case atStart => exact ⟨rfl, rfl⟩
    case round =>
      obtain ⟨rfl, rfl⟩ := hrel
      go_wp2
      go_ret
      exact ⟨rfl, rfl⟩
  · clear H
    unfold maxLen at hm
    go_enter Try.func29, Try.ntmps29
    go_wp2
    go_loopw [7] (fun i wr => ∃ k : Nat, k ≤ T.l.length ∧ i = .int .i64 k ∧ ix T.l v p = k + ix (T.l.drop k) v p ∧ wr = w) (fun i _ => T.l.length - (intOf i).toNat)
    case atStart => exact ⟨0, Nat.zero_le _, rfl, by simp, rfl⟩
    case round =>
      obtain ⟨k, hk, rfl, hi, rfl⟩ := hrel
      by_cases hlt : k < T.l.length
      · obtain ⟨m, hmk⟩ : ∃ m, T.l[k]? = some m := ⟨_, List.getElem?_eq_getElem hlt⟩
        obtain ⟨d0, d1, d2, d3⟩ := hc k m hmk
        obtain ⟨s1, s2⟩ := ix_drop T.l v p hmk hi
        clear hc
        have HE := hide (show mt m v p = (m.v == v && m.p == p) from rfl)
        rcases Bool.eq_false_or_eq_true (m.v == v) with h1 | h1
        · rcases Bool.eq_false_or_eq_true (m.p == p) with h2 | h2
          · rw [HE.out, h1, h2] at s1
            have S := hide (s1 rfl)
            clear s1 s2 hi
            go_wp2
            go_ret
            refine ⟨ret_int ?_, rfl⟩
            rw [fx, if_pos ((hs_ix _ _ _).2 (by have := S.out; omega)), S.out.1]
          · rw [HE.out, h1, h2] at s2
            have S := hide (s2 rfl)
            clear s1 s2 hi
            go_wp2
            go_roundw
            case rel => exact ⟨k + 1, by omega, by go_num, S.out, by first | rfl | trivial⟩
            case measure => simp [intOf]; omega
        · rw [HE.out, h1] at s2
          have S := hide (s2 rfl)
          clear s1 s2 hi
          go_wp2
          go_roundw
          case rel => exact ⟨k + 1, by omega, by go_num, S.out, by first | rfl | trivial⟩
          case measure => simp [intOf]; omega
      · have he := hide (ix_end T.l v p (by omega) hi)
        clear hi hc
        go_wp2
        go_ret
        refine ⟨ret_int ?_, rfl⟩
        rw [fx, he.out]
        rfl
theorem made_nsl (n : Nat) : (madeCells #[Value.int .i64 0] n).toList = nsl (List.replicate n 0) := by
  rw [toList_madeCells_one]
  simp [nsl]
theorem box_made (w : World) (n : Nat) : Box (w.alloc (.cells (madeCells #[.int .i64 0] n) 3)) w.heap.size (nsl (List.replicate n 0)) := by
  rw [← made_nsl]
  exact Box.new w _ 3
set_option maxRecDepth 100000 in
set_option maxHeartbeats 2000000 in
theorem new25 (n : Nat) (w : World) (h1 : 1 ≤ n) (h2 : n ≤ 64) : Calls Try.prog 25 #[.int .i64 n] w fun e w' => e = .returned (.tuple #[.pointer (some ⟨w.heap.size + 2, 0, none⟩), .int .i64 0]) ∧ PT w' w.heap.size (tNew n) ∧ Below w.heap.size w w' := by
  obtain ⟨i0, hi, hz0, hz1, hz2⟩ := info_parts Try.info3
  have hmm := @run_makeMap Try.prog
  have h1' : ¬ ((n : Int) < 1) := by omega
  have h2' : ¬ ((64 : Int) < n) := by omega
  go_enter Try.func25, Try.ntmps25
  go_wp2_with (at_make; refine wpList_make_row _ rfl _ _ 29 rfl 3 i0 (.int .i64 0) Try.underlying29 hi hz0 hz1 rfl .i64 .i64 n rfl rfl (by rw [hz2]; omega) (by omega) ?_)
  go_ret2
  refine ⟨rfl, ⟨?_, ?_, ?_, wf_new h1 h2⟩, by go_grown⟩
  · have b := Box.new ((w.alloc (.map #[] 0)).alloc (.cells (madeCells #[.int .i64 0] n) 3)) [.map (some w.heap.size), .slice (some ⟨w.heap.size + 1, 0, none⟩) n n] 61
    rw [World.size_alloc, World.size_alloc] at b
    exact b
  · have b := (box_made (w.alloc (.map #[] 0)) n).alloc (.cells #[.map (some w.heap.size), .slice (some ⟨w.heap.size + 1, 0, none⟩) n n] 61)
    rw [World.size_alloc] at b
    exact b
  · have b : Below (w.alloc (.map #[] 0)).heap.size (w.alloc (.map #[] 0)) (((w.alloc (.map #[] 0)).alloc (.cells (madeCells #[.int .i64 0] n) 3)).alloc (.cells #[.map (some w.heap.size), .slice (some ⟨w.heap.size + 1, 0, none⟩) n n] 61)) := by go_grown
    exact (mp_new w).block (b.block _ (by simp))
set_option maxRecDepth 100000 in
set_option maxHeartbeats 2000000 in
theorem new26 (n : Nat) (w : World) (h1 : 1 ≤ n) (h2 : n ≤ 64) : Calls Try.prog 26 #[.int .i64 n] w fun e w' => e = .returned (.tuple #[.pointer (some ⟨w.heap.size + 1, 0, none⟩), .int .i64 0]) ∧ RT w' w.heap.size (.slice none 0 0) (tNew n) ∧ Below w.heap.size w w' := by
  obtain ⟨i0, hi, hz0, hz1, hz2⟩ := info_parts Try.info3
  have h1' : ¬ ((n : Int) < 1) := by omega
  have h2' : ¬ ((64 : Int) < n) := by omega
  go_enter Try.func26, Try.ntmps26
  go_wp2_with (at_make; refine wpList_make_row _ rfl _ _ 29 rfl 3 i0 (.int .i64 0) Try.underlying29 hi hz0 hz1 rfl .i64 .i64 n rfl rfl (by rw [hz2]; omega) (by omega) ?_)
  go_ret2
  refine ⟨rfl, ⟨?_, ?_, ?_, wf_new h1 h2⟩, by go_grown⟩
  · have b := Box.new (w.alloc (.cells (madeCells #[.int .i64 0] n) 3)) [.int .i64 n, .slice none 0 0, .slice (some ⟨w.heap.size, 0, none⟩) n n] 65
    rw [World.size_alloc] at b
    exact b
  · exact (box_made w n).alloc _
  · exact World.ownsRow_nil _ _ _ _
set_option maxRecDepth 100000 in
set_option maxHeartbeats 2000000 in
theorem new25_no (n : Int) (w : World) (h : ¬ (1 ≤ n ∧ n ≤ 64)) : Calls Try.prog 25 #[.int .i64 n] w fun e w' => e = .returned (.tuple #[.pointer none, .int .i64 1]) ∧ w' = w := by
  by_cases h1 : n < 1
  · clear h
    go_enter Try.func25, Try.ntmps25
    go_wp2
    go_ret2
    exact ⟨rfl, rfl⟩
  · have h2 : 64 < n := by omega
    clear h
    go_enter Try.func25, Try.ntmps25
    go_wp2
    go_ret2
    exact ⟨rfl, rfl⟩
set_option maxRecDepth 100000 in
set_option maxHeartbeats 2000000 in
theorem new26_no (n : Int) (w : World) (h : ¬ (1 ≤ n ∧ n ≤ 64)) : Calls Try.prog 26 #[.int .i64 n] w fun e w' => e = .returned (.tuple #[.pointer none, .int .i64 1]) ∧ w' = w := by
  by_cases h1 : n < 1
  · clear h
    go_enter Try.func26, Try.ntmps26
    go_wp2
    go_ret2
    exact ⟨rfl, rfl⟩
  · have h2 : 64 < n := by omega
    clear h
    go_enter Try.func26, Try.ntmps26
    go_wp2
    go_ret2
    exact ⟨rfl, rfl⟩
end Go.Proofs.Ytelinahpneikiaa
