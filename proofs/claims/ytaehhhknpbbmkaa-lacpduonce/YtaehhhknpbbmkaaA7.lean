/- Contracts of Number and Compare, of the program and of the document's own answers; equality of addresses. -/
import Derived.Test.YtaehhhknpbbmkaaA1
import Derived.Test.YtaehhhknpbbmkaaNum
namespace Go.Proofs.Ytaehhhknpbbmkaa
open Go.RowKit

theorem Try.info5s : (Try.prog.info? 5).isSome = true := by kernel_rfl
theorem Try.info5e : ∃ i, Try.prog.info? 5 = some i := Option.isSome_iff_exists.1 Try.info5s

set_option maxRecDepth 100000 in
theorem eqMac (a0 a1 a2 a3 a4 a5 b0 b1 b2 b3 b4 b5 : Int) (w : World) :
    (Op.equalIn 10000 23 (.agg #[.int .u8 a0, .int .u8 a1, .int .u8 a2, .int .u8 a3, .int .u8 a4, .int .u8 a5]) (.agg #[.int .u8 b0, .int .u8 b1, .int .u8 b2, .int .u8 b3, .int .u8 b4, .int .u8 b5])).run Try.prog w = .ok (eq6 a0 a1 a2 a3 a4 a5 b0 b1 b2 b3 b4 b5) w := by
  obtain ⟨i, hi⟩ := Try.info5e
  rw [show (10000 : Nat) = 9999 + 1 from rfl, run_equalIn_array w 9999 _ _ Try.underlying23 hi, Try.cells5]
  have p0 : ∀ (c0 c1 c2 c3 c4 c5 : Int) (w : World), (part 5 #[.int .u8 c0, .int .u8 c1, .int .u8 c2, .int .u8 c3, .int .u8 c4, .int .u8 c5] 0).run Try.prog w = .ok (.int .u8 c0) w := fun _ _ _ _ _ _ _ => by kernel_rfl
  have p1 : ∀ (c0 c1 c2 c3 c4 c5 : Int) (w : World), (part 5 #[.int .u8 c0, .int .u8 c1, .int .u8 c2, .int .u8 c3, .int .u8 c4, .int .u8 c5] 1).run Try.prog w = .ok (.int .u8 c1) w := fun _ _ _ _ _ _ _ => by kernel_rfl
  have p2 : ∀ (c0 c1 c2 c3 c4 c5 : Int) (w : World), (part 5 #[.int .u8 c0, .int .u8 c1, .int .u8 c2, .int .u8 c3, .int .u8 c4, .int .u8 c5] 2).run Try.prog w = .ok (.int .u8 c2) w := fun _ _ _ _ _ _ _ => by kernel_rfl
  have p3 : ∀ (c0 c1 c2 c3 c4 c5 : Int) (w : World), (part 5 #[.int .u8 c0, .int .u8 c1, .int .u8 c2, .int .u8 c3, .int .u8 c4, .int .u8 c5] 3).run Try.prog w = .ok (.int .u8 c3) w := fun _ _ _ _ _ _ _ => by kernel_rfl
  have p4 : ∀ (c0 c1 c2 c3 c4 c5 : Int) (w : World), (part 5 #[.int .u8 c0, .int .u8 c1, .int .u8 c2, .int .u8 c3, .int .u8 c4, .int .u8 c5] 4).run Try.prog w = .ok (.int .u8 c4) w := fun _ _ _ _ _ _ _ => by kernel_rfl
  have p5 : ∀ (c0 c1 c2 c3 c4 c5 : Int) (w : World), (part 5 #[.int .u8 c0, .int .u8 c1, .int .u8 c2, .int .u8 c3, .int .u8 c4, .int .u8 c5] 5).run Try.prog w = .ok (.int .u8 c5) w := fun _ _ _ _ _ _ _ => by kernel_rfl
  have pe : ∀ (x y : Int) (w : World), (Op.equalIn 9999 5 (.int .u8 x) (.int .u8 y)).run Try.prog w = .ok (x == y) w := fun x y w => run_equalIn_int w 9998 5 _ _ x y Try.underlying5
  simp [Op.eqItems, show List.range 6 = [0, 1, 2, 3, 4, 5] from rfl, p0, p1, p2, p3, p4, p5, pe, eq6]
  by_cases e0 : a0 = b0
  · by_cases e1 : a1 = b1
    · by_cases e2 : a2 = b2
      · by_cases e3 : a3 = b3
        · by_cases e4 : a4 = b4
          · by_cases e5 : a5 = b5 <;> simp [e0, e1, e2, e3, e4, e5]
          · simp [e0, e1, e2, e3, e4]
        · simp [e0, e1, e2, e3]
      · simp [e0, e1, e2]
    · simp [e0, e1]
  · simp [e0]

set_option maxRecDepth 100000 in
set_option maxHeartbeats 400000 in
theorem num40 (a0 a1 a2 a3 a4 a5 : Int) (w : World) (h : B6 a0 a1 a2 a3 a4 a5)  :
    Calls Try.prog 40 #[.agg #[.int .u8 a0, .int .u8 a1, .int .u8 a2, .int .u8 a3, .int .u8 a4, .int .u8 a5]] w fun e w' => e = .returned (.int .u64 (num a0 a1 a2 a3 a4 a5)) ∧ Below w.heap.size w w' := by
  go_enter Try.func40, Try.ntmps40
  go_wp2
  go_rounds 7
  go_ret
  exact ⟨ret_int (or_num h), by go_grown⟩
set_option maxRecDepth 100000 in
set_option maxHeartbeats 400000 in
theorem num41 (a0 a1 a2 a3 a4 a5 : Int) (w : World) (h : B6 a0 a1 a2 a3 a4 a5)  :
    Calls Try.prog 41 #[.agg #[.int .u8 a0, .int .u8 a1, .int .u8 a2, .int .u8 a3, .int .u8 a4, .int .u8 a5]] w fun e w' => e = .returned (.int .u64 (num a0 a1 a2 a3 a4 a5)) ∧ Below w.heap.size w w' := by
  obtain ⟨l0, u0, l1, u1, l2, u2, l3, u3, l4, u4, l5, u5⟩ := h
  go_enter Try.func41, Try.ntmps41
  go_wp2
  go_rounds 7
  go_ret
  exact ⟨rfl, by go_grown⟩

set_option maxRecDepth 100000 in
set_option maxHeartbeats 1000000 in
theorem cmp34 (a0 a1 a2 a3 a4 a5 b0 b1 b2 b3 b4 b5 : Int) (w : World) (h : B6 a0 a1 a2 a3 a4 a5) (k : B6 b0 b1 b2 b3 b4 b5) :
    Calls Try.prog 34 #[.agg #[.int .u8 a0, .int .u8 a1, .int .u8 a2, .int .u8 a3, .int .u8 a4, .int .u8 a5], .agg #[.int .u8 b0, .int .u8 b1, .int .u8 b2, .int .u8 b3, .int .u8 b4, .int .u8 b5]] w fun e w' => e = .returned (.int .i64 (cmp3 (num a0 a1 a2 a3 a4 a5) (num b0 b1 b2 b3 b4 b5))) ∧ Below w.heap.size w w' := by
  go_enter Try.func34, Try.ntmps34
  go_wp2_with fail
  refine (num41 _ _ _ _ _ _ _ h).mono ?_
  rintro e w1 ⟨rfl, hb⟩
  obtain ⟨hc, hf⟩ := bcell hb
  go_wp2_with fail
  refine (num41 _ _ _ _ _ _ _ k).mono ?_
  rintro e w2 ⟨rfl, hd⟩
  have hB : Below w.heap.size w w2 := ((((Below.refl _ _).alloc (Nat.le_refl _) _).alloc (by simp) _).trans (hb.mono (by simp; omega))).trans (hd.mono (by have := hb.size; simp at this; omega))
  clear hc hf hb hd
  go_wp2
  · go_ret
    exact ⟨ret_int (cmp3_lt (by assumption)).symm, hB⟩
  · go_ret
    exact ⟨ret_int (cmp3_gt (by assumption)).symm, hB⟩
  · go_ret
    exact ⟨ret_int (cmp3_eq (by omega) (by omega)).symm, hB⟩

set_option maxRecDepth 100000 in
set_option maxHeartbeats 1000000 in
theorem cmp33 (a0 a1 a2 a3 a4 a5 b0 b1 b2 b3 b4 b5 : Int) (w : World) (h : B6 a0 a1 a2 a3 a4 a5) (k : B6 b0 b1 b2 b3 b4 b5) :
    Calls Try.prog 33 #[.agg #[.int .u8 a0, .int .u8 a1, .int .u8 a2, .int .u8 a3, .int .u8 a4, .int .u8 a5], .agg #[.int .u8 b0, .int .u8 b1, .int .u8 b2, .int .u8 b3, .int .u8 b4, .int .u8 b5]] w fun e w' => e = .returned (.int .i64 (cmp3 (num a0 a1 a2 a3 a4 a5) (num b0 b1 b2 b3 b4 b5))) ∧ Below w.heap.size w w' := by
  have he := eqMac a0 a1 a2 a3 a4 a5 b0 b1 b2 b3 b4 b5
  have h6 := eq6_num h k
  by_cases hx : num a0 a1 a2 a3 a4 a5 = num b0 b1 b2 b3 b4 b5
  · have ht : eq6 a0 a1 a2 a3 a4 a5 b0 b1 b2 b3 b4 b5 = true := by rw [h6]; simp [hx]
    have hr : cmp3 (num a0 a1 a2 a3 a4 a5) (num b0 b1 b2 b3 b4 b5) = 0 := by simp [cmp3, hx]
    rw [hr]
    clear h6 hx hr
    go_enter Try.func33, Try.ntmps33
    go_wp2
    go_ret
    exact ⟨rfl, by go_grown⟩
  · have ht : eq6 a0 a1 a2 a3 a4 a5 b0 b1 b2 b3 b4 b5 = false := by rw [h6]; simp [hx]
    clear h6
    have HX : Hid (¬ num a0 a1 a2 a3 a4 a5 = num b0 b1 b2 b3 b4 b5) := hide hx
    clear hx
    have hz : w.heap.size < w.heap.size + 1 + 1 := by omega
    go_enter Try.func33, Try.ntmps33
    go_wp2_with fail
    go_region_held3 (fun w' => w'.cell? ⟨w.heap.size, 0, none⟩ = some (.int .u8 a0) ∧ w'.cell? ⟨w.heap.size, 1, none⟩ = some (.int .u8 a1) ∧ w'.cell? ⟨w.heap.size, 2, none⟩ = some (.int .u8 a2) ∧ w'.cell? ⟨w.heap.size, 3, none⟩ = some (.int .u8 a3) ∧ w'.cell? ⟨w.heap.size, 4, none⟩ = some (.int .u8 a4) ∧ w'.cell? ⟨w.heap.size, 5, none⟩ = some (.int .u8 a5) ∧ w'.cell? ⟨w.heap.size + 1, 0, none⟩ = some (.int .u8 b0) ∧ w'.cell? ⟨w.heap.size + 1, 1, none⟩ = some (.int .u8 b1) ∧ w'.cell? ⟨w.heap.size + 1, 2, none⟩ = some (.int .u8 b2) ∧ w'.cell? ⟨w.heap.size + 1, 3, none⟩ = some (.int .u8 b3) ∧ w'.cell? ⟨w.heap.size + 1, 4, none⟩ = some (.int .u8 b4) ∧ w'.cell? ⟨w.heap.size + 1, 5, none⟩ = some (.int .u8 b5)) (go_keep)
      (first | (go_at_call_of 40 a0; refine (num40 _ _ _ _ _ _ _ h).mono ?_; rintro e w1 ⟨rfl, hb⟩; obtain ⟨hc, hf⟩ := bcell hb; have hz1 : w.heap.size + 1 < w1.heap.size := (by have := hb.size; simp at this; omega); have hz0 : w.heap.size < w1.heap.size := (by omega)) | (go_at_call_of 40 b0; refine (num40 _ _ _ _ _ _ _ k).mono ?_; rintro e w2 ⟨rfl, hd⟩; obtain ⟨hc2, hf2⟩ := bcell hd))
    have hB : Below w.heap.size w w2 := ((((Below.refl _ _).alloc (Nat.le_refl _) _).alloc (by simp) _).drew.trans (hb.mono (by simp; omega))).trans (hd.mono (by omega))
    clear hc hf hb hd hc2 hf2
    go_wp2
    · go_ret
      exact ⟨ret_int (cmp3_lt (by assumption)).symm, hB⟩
    · go_ret
      have hx := HX.out
      exact ⟨ret_int (cmp3_gt (by omega)).symm, hB⟩
end Go.Proofs.Ytaehhhknpbbmkaa
