/- Contracts of New, of the program and of the document. -/
import Derived.Test.YtgpdjfaklcmoiaaGreatM03
import Derived.Test.YtgpdjfaklcmoiaaGreatM05
import Derived.Laws.MakeOwn
namespace Go.Proofs.YtgpdjfaklcmoiaaGreat
open Go.RowKit Go.PlainAid

theorem es_at4 {l : List En} {i c : Nat} {x : En} (h : l[i]? = some x) (hc : c < 10) : (es l)[i * 10 + c]? = (ecl x)[c]? := by
  rw [es_parts h, List.getElem?_append_right (by rw [es_take_len h]; omega), es_take_len h, show i * 10 + c - i * 10 = c by omega, List.getElem?_append_left (by rw [ecl_length]; exact hc)]
theorem get_some4 {cs : List Value} {c : Nat} (h : c < cs.length) : cs[c]? = some cs[c]! := by
  rw [List.getElem?_eq_getElem h, List.getElem!_eq_getElem?_getD, List.getElem?_eq_getElem h]; rfl
def fNew (n : Nat) : FT := ⟨n, []⟩
theorem fwf_new (n : Nat) (h1 : 1 ≤ n) (h2 : n ≤ 1024) : FW (fNew n) := ⟨h1, h2, Nat.zero_le _, List.Pairwise.nil, fun x hx => by simp [fNew] at hx⟩
theorem made_es (c : Nat) : (madeCells (EC zE) (c * 10)).toList = es (List.replicate c zE) := by
  apply List.ext_getElem?
  intro j
  by_cases hj : j < c * 10
  · have hi : (List.replicate c zE)[j / 10]? = some zE := by rw [List.getElem?_replicate, if_pos (by omega)]
    have e := es_at4 hi (show j % 10 < 10 by omega)
    rw [show j / 10 * 10 + j % 10 = j by omega] at e
    rw [e, get_some4 (cs := ecl zE) (by rw [ecl_length]; omega)]
    simp only [madeCells, Array.getElem?_toList]
    rw [Array.getElem?_map, Array.getElem?_range, if_pos hj]
    show some ((ecl zE).toArray[j % 10]!) = some (ecl zE)[j % 10]!
    rw [List.getElem!_toArray]
  · rw [List.getElem?_eq_none (by simp [madeCells]; omega), List.getElem?_eq_none (by rw [es_length]; simp; omega)]
theorem made_box (w : World) (c : Nat) : Box (w.alloc (.cells (madeCells (EC zE) (c * 10)) 61)) w.heap.size (es (List.replicate c zE)) := by
  have := Box.new w (es (List.replicate c zE)) 61
  rw [← made_es] at this
  rw [Array.toArray_toList, made_es] at this
  exact this
set_option maxRecDepth 100000 in
set_option maxHeartbeats 1000000 in
theorem new17_no (n : Int) (w : World) (h : ¬ (1 ≤ n ∧ n ≤ 1024)) : Calls Tryz.prog 35 #[.int .i64 n] w fun e w' => e = .returned (.tuple #[.pointer none, .int .i64 1]) ∧ w' = w := by
  by_cases h1 : n < 1
  · clear h
    go_enter Tryz.func35, Tryz.ntmps35
    go_wp2
    go_ret2
    exact ⟨rfl, rfl⟩
  · have h2 : 1024 < n := by omega
    clear h
    go_enter Tryz.func35, Tryz.ntmps35
    go_wp2
    go_ret2
    exact ⟨rfl, rfl⟩
set_option maxRecDepth 100000 in
set_option maxHeartbeats 1000000 in
theorem new24_no (n : Int) (w : World) (h : ¬ (1 ≤ n ∧ n ≤ 1024)) : Calls Tryz.prog 36 #[.int .i64 n] w fun e w' => e = .returned (.tuple #[.pointer none, .int .i64 1]) ∧ w' = w := by
  by_cases h1 : n < 1
  · clear h
    go_enter Tryz.func36, Tryz.ntmps36
    go_wp2
    go_ret2
    exact ⟨rfl, rfl⟩
  · have h2 : 1024 < n := by omega
    clear h
    go_enter Tryz.func36, Tryz.ntmps36
    go_wp2
    go_ret2
    exact ⟨rfl, rfl⟩
set_option maxRecDepth 100000 in
set_option maxHeartbeats 1000000 in
theorem new24 (n : Nat) (w : World) (h1 : 1 ≤ n) (h2 : n ≤ 1024) : Calls Tryz.prog 36 #[.int .i64 n] w fun e w' => e = .returned (.tuple #[.pointer (some ⟨w.heap.size, 0, none⟩), .int .i64 0]) ∧ RF w' w.heap.size (.slice none 0 0) (fNew n) ∧ Below w.heap.size w w' := by
  have R : Hid (RF (w.alloc (.cells #[.int .i64 n, .slice none 0 0] 96)) w.heap.size (.slice none 0 0) (fNew n)) := hide ⟨Box.new w [.int .i64 n, .slice none 0 0] 96, World.ownsRow_nil _ _ _ _, fwf_new n h1 h2⟩
  have B := hide (below_alloc w (.cells #[.int .i64 n, .slice none 0 0] 96))
  have a1 : ¬ (n : Int) < 1 := by omega
  have a2 : ¬ (1024 : Int) < n := by omega
  go_enter Tryz.func36, Tryz.ntmps36
  go_wp2
  go_ret2
  exact ⟨rfl, R.out, B.out⟩
set_option maxRecDepth 100000 in
set_option maxHeartbeats 1000000 in
theorem new17 (n : Nat) (w : World) (h1 : 1 ≤ n) (h2 : n ≤ 1024) : Calls Tryz.prog 35 #[.int .i64 n] w fun e w' => ∃ h ps, e = .returned (.tuple #[.pointer (some ⟨h + 1, 0, none⟩), .int .i64 0]) ∧ PF w' h ps (fNew n) ∧ w.heap.size ≤ h ∧ Below w.heap.size w w' := by
  obtain ⟨i0, hi, hz0, hz1, hz2⟩ := info_parts Tryz.info61
  have hmk := run_make (P := Tryz.prog) w 69 61 i0 (.agg (EC zE)) Tryz.underlying69 hi hz0 .i64 .i64 (2 * (n : Int)) (2 * (n : Int)) (by omega) (by omega) (by rw [hz2]; omega) (by omega)
  rw [hz1, show (2 * (n : Int)).toNat = 2 * n by omega, show (Value.agg (EC zE)).cells = EC zE from rfl] at hmk
  have L0 := made_box w (2 * n)
  have B0 := below_alloc w (.cells (madeCells (EC zE) (2 * n * 10)) 61)
  have hs0 : (w.alloc (.cells (madeCells (EC zE) (2 * n * 10)) 61)).heap.size = w.heap.size + 1 := by simp
  generalize w.alloc (.cells (madeCells (EC zE) (2 * n * 10)) 61) = w1 at *
  have R : Hid (PF (w1.alloc (.cells #[.slice (some ⟨w.heap.size, 0, none⟩) (2 * n) (2 * n), .int .i64 n, .int .i64 0] 104)) w.heap.size (List.replicate (2 * n) zE) (fNew n)) := by
    refine hide ⟨?_, L0.alloc _, rp_new _ _ (fun x => fs_lt n _ _ h1 h2), fwf_new n h1 h2⟩
    have := Box.new w1 (tcl w.heap.size n 0) 104
    rw [hs0] at this
    exact this
  have B := hide (belowOn B0 (below_alloc w1 (.cells #[.slice (some ⟨w.heap.size, 0, none⟩) (2 * n) (2 * n), .int .i64 n, .int .i64 0] 104)))
  have a1 : ¬ (n : Int) < 1 := by omega
  have a2 : ¬ (1024 : Int) < n := by omega
  have e1 : IntKind.i64.wrap (2 * (n : Int)) = 2 * (n : Int) := IntWalk.i64_in _ (by omega)
  have HS := hide hs0
  clear L0 B0 hz0 hz1 hz2 hi
  go_enter Tryz.func35, Tryz.ntmps35
  go_wp2
  go_ret2
  first | exact ⟨w.heap.size, rfl, ⟨_, R.out⟩, Nat.le_refl _, B.out⟩ | exact ⟨w.heap.size, rfl, _, R.out, Nat.le_refl _, B.out⟩
end Go.Proofs.YtgpdjfaklcmoiaaGreat
