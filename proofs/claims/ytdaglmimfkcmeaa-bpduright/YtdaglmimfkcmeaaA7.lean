/- Contracts of Number, Of and Compare, of the program and of the document's own answers; of the small functions known, versionOf, must, within; equality of addresses. -/
import Derived.Test.YtdaglmimfkcmeaaA1
namespace Go.Proofs.Ytdaglmimfkcmeaa
open Go.RowKit

/-- Six bytes. -/
structure B6 (a0 a1 a2 a3 a4 a5 : Int) : Prop where
  l0 : 0 ≤ a0
  u0 : a0 ≤ 255
  l1 : 0 ≤ a1
  u1 : a1 ≤ 255
  l2 : 0 ≤ a2
  u2 : a2 ≤ 255
  l3 : 0 ≤ a3
  u3 : a3 ≤ 255
  l4 : 0 ≤ a4
  u4 : a4 ≤ 255
  l5 : 0 ≤ a5
  u5 : a5 ≤ 255

theorem num_lo {a0 a1 a2 a3 a4 a5 : Int} (h : B6 a0 a1 a2 a3 a4 a5) : 0 ≤ num a0 a1 a2 a3 a4 a5 := by
  obtain ⟨l0, u0, l1, u1, l2, u2, l3, u3, l4, u4, l5, u5⟩ := h
  unfold num; omega
theorem num_hi {a0 a1 a2 a3 a4 a5 : Int} (h : B6 a0 a1 a2 a3 a4 a5) : num a0 a1 a2 a3 a4 a5 < 281474976710656 := by
  obtain ⟨l0, u0, l1, u1, l2, u2, l3, u3, l4, u4, l5, u5⟩ := h
  unfold num; omega

theorem eq6_num {a0 a1 a2 a3 a4 a5 b0 b1 b2 b3 b4 b5 : Int} (h : B6 a0 a1 a2 a3 a4 a5) (k : B6 b0 b1 b2 b3 b4 b5) :
    eq6 a0 a1 a2 a3 a4 a5 b0 b1 b2 b3 b4 b5 = (num a0 a1 a2 a3 a4 a5 == num b0 b1 b2 b3 b4 b5) := by
  obtain ⟨l0, u0, l1, u1, l2, u2, l3, u3, l4, u4, l5, u5⟩ := h
  obtain ⟨m0, v0, m1, v1, m2, v2, m3, v3, m4, v4, m5, v5⟩ := k
  rw [Bool.eq_iff_iff]
  simp only [eq6, num, Bool.and_eq_true, beq_iff_eq]
  omega
theorem eq6_self (a0 a1 a2 a3 a4 a5 : Int) : eq6 a0 a1 a2 a3 a4 a5 a0 a1 a2 a3 a4 a5 = true := by simp [eq6]

/-- 'x << 8 | b' of a uint64 that has room. -/
theorem or8 (x b : Int) (h0 : 0 ≤ x) (h1 : x < 1099511627776) (g0 : 0 ≤ b) (g1 : b ≤ 255) :
    bits .or .u64 (IntKind.u64.wrap (x * 256)) (IntKind.u64.wrap b) = x * 256 + b := by
  have e1 : IntKind.u64.wrap (x * 256) = x * 256 := IntWalk.u64_in _ (by omega)
  have e2 : IntKind.u64.wrap b = b := IntWalk.u64_in _ (by omega)
  rw [e1, e2, u64_or _ _ (by omega) (by omega) (by omega) (by omega), nat_join 8 _ _ (by omega) (by omega)]
  omega
theorem or0 (b : Int) (g0 : 0 ≤ b) (g1 : b ≤ 255) : bits .or .u64 0 (IntKind.u64.wrap b) = b := by
  have e2 : IntKind.u64.wrap b = b := IntWalk.u64_in _ (by omega)
  rw [e2, u64_or _ _ (by omega) (by omega) (by omega) (by omega), nat_join 8 _ _ (by omega) (by omega)]
  omega
theorem or_num {a0 a1 a2 a3 a4 a5 : Int} (h : B6 a0 a1 a2 a3 a4 a5) :
    bits .or .u64 (IntKind.u64.wrap (bits .or .u64 (IntKind.u64.wrap (bits .or .u64 (IntKind.u64.wrap (bits .or .u64 (IntKind.u64.wrap (bits .or .u64 (IntKind.u64.wrap (bits .or .u64 0 (IntKind.u64.wrap a0) * 256)) (IntKind.u64.wrap a1) * 256)) (IntKind.u64.wrap a2) * 256)) (IntKind.u64.wrap a3) * 256)) (IntKind.u64.wrap a4) * 256)) (IntKind.u64.wrap a5) = num a0 a1 a2 a3 a4 a5 := by
  obtain ⟨l0, u0, l1, u1, l2, u2, l3, u3, l4, u4, l5, u5⟩ := h
  rw [or0 a0 l0 u0, or8 a0 a1 (by omega) (by omega) l1 u1, or8 _ a2 (by omega) (by omega) l2 u2, or8 _ a3 (by omega) (by omega) l3 u3, or8 _ a4 (by omega) (by omega) l4 u4, or8 _ a5 (by omega) (by omega) l5 u5]
  rfl

theorem b6 {x : Idn} (h : Rng (ml x)) : B6 x.m0 x.m1 x.m2 x.m3 x.m4 x.m5 := by
  have g : ∀ n, n ∈ ml x → 0 ≤ n ∧ n ≤ 255 := h
  have g0 := g x.m0 (by simp [ml]); have g1 := g x.m1 (by simp [ml]); have g2 := g x.m2 (by simp [ml]); have g3 := g x.m3 (by simp [ml]); have g4 := g x.m4 (by simp [ml]); have g5 := g x.m5 (by simp [ml])
  exact ⟨g0.1, g0.2, g1.1, g1.2, g2.1, g2.2, g3.1, g3.2, g4.1, g4.2, g5.1, g5.2⟩
theorem Try.info5s : (Try.prog.info? 5).isSome = true := by kernel_rfl
theorem Try.info5e : ∃ i, Try.prog.info? 5 = some i := Option.isSome_iff_exists.1 Try.info5s

set_option maxRecDepth 100000 in
theorem eqMac (a0 a1 a2 a3 a4 a5 b0 b1 b2 b3 b4 b5 : Int) (w : World) :
    (Op.equalIn 10000 23 (.agg #[.int .u8 a0, .int .u8 a1, .int .u8 a2, .int .u8 a3, .int .u8 a4, .int .u8 a5]) (.agg #[.int .u8 b0, .int .u8 b1, .int .u8 b2, .int .u8 b3, .int .u8 b4, .int .u8 b5])).run Try.prog w = .ok (eq6 a0 a1 a2 a3 a4 a5 b0 b1 b2 b3 b4 b5) w := by
  obtain ⟨i, hi⟩ := Try.info5e
  rw [show (10000 : Nat) = 9999 + 1 from rfl, run_equalIn_array w 9999 _ _ Try.underlying23 hi, Try.cells5]
  have p0 : ∀ (c0 c1 c2 c3 c4 c5 : Int) (w : World), (part 5 #[.int .u8 c0, .int .u8 c1, .int .u8 c2, .int .u8 c3, .int .u8 c4, .int .u8 c5] 0).run Try.prog w = .ok (.int .u8 c0) w := fun _ _ _ _ _ _ _ => by kernel_rfl
  have p1 : ∀ (c0 c1 c2 c3 c4 c5 : Int) (w : World), (part 5 #[.int .u8 c0, .int .u8 c1, .int .u8 c2, .int .u8 c3, .int .u8 c4, .int .u8 c5] 1).run Try.prog w = .ok (.int .u8 c1) w := fun _ _ _ _ _ _ _ => by kernel_rfl
  have p2 : ∀ (c0 c1 c2 c3 c4 c5 : Int) (w : World), (part 5 #[.int .u8 c0, .int .u8 c1, .int .u8 c2, .int .u8 c3, .int .u8 c4, .int .u8 c5] 2).run Try.prog w = .ok (.int .u8 c2) w := fun _ _ _ _ _ _ _ => by kernel_rfl
  have p3 : ∀ (c0 c1 c2 c3 c4 c5 : Int) (w : World), (part 5 #[.int .u8 c0, .int .u8 c1, .int .u8 c2, .int .u8 c3, .int .u8 c4, .int .u8 c5] 3).run Try.prog w = .ok (.int .u8 c3) w := fun _ _ _ _ _ _ _ => by kernel_rfl
  have p4 : ∀ (c0 c1 c2 c3 c4 c5 : Int) (w : World), (part 5 #[.int .u8 c0, .int .u8 c1, .int .u8 c2, .int .u8 c3, .int .u8 c4, .int .u8 c5] 4).run Try.prog w = .ok (.int .u8 c4) w := fun _ _ _ _ _ _ _ => by kernel_rfl
  have p5 : ∀ (c0 c1 c2 c3 c4 c5 : Int) (w : World), (part 5 #[.int .u8 c0, .int .u8 c1, .int .u8 c2, .int .u8 c3, .int .u8 c4, .int .u8 c5] 5).run Try.prog w = .ok (.int .u8 c5) w := fun _ _ _ _ _ _ _ => by kernel_rfl
  have pe : ∀ (x y : Int) (w : World), (Op.equalIn 9999 5 (.int .u8 x) (.int .u8 y)).run Try.prog w = .ok (x == y) w := fun x y w => run_equalIn_int w 9998 5 _ _ x y Try.underlying5
  simp [Op.eqItems, show List.range 6 = [0, 1, 2, 3, 4, 5] from rfl, p0, p1, p2, p3, p4, p5, pe, eq6]
  by_cases e0 : a0 = b0
  · by_cases e1 : a1 = b1
    · by_cases e2 : a2 = b2
      · by_cases e3 : a3 = b3
        · by_cases e4 : a4 = b4
          · by_cases e5 : a5 = b5 <;> simp [e0, e1, e2, e3, e4, e5]
          · simp [e0, e1, e2, e3, e4]
        · simp [e0, e1, e2, e3]
      · simp [e0, e1, e2]
    · simp [e0, e1]
  · simp [e0]

set_option maxRecDepth 100000 in
set_option maxHeartbeats 400000 in
theorem num39 (a0 a1 a2 a3 a4 a5 : Int) (w : World) (h : B6 a0 a1 a2 a3 a4 a5)  :
    Calls Try.prog 39 #[.agg #[.int .u8 a0, .int .u8 a1, .int .u8 a2, .int .u8 a3, .int .u8 a4, .int .u8 a5]] w fun e w' => e = .returned (.int .u64 (num a0 a1 a2 a3 a4 a5)) ∧ Below w.heap.size w w' := by
  go_enter Try.func39, Try.ntmps39
  go_wp2
  go_rounds 7
  go_ret
  exact ⟨ret_int (or_num h), by go_grown⟩
set_option maxRecDepth 100000 in
set_option maxHeartbeats 400000 in
theorem num40 (a0 a1 a2 a3 a4 a5 : Int) (w : World) (h : B6 a0 a1 a2 a3 a4 a5)  :
    Calls Try.prog 40 #[.agg #[.int .u8 a0, .int .u8 a1, .int .u8 a2, .int .u8 a3, .int .u8 a4, .int .u8 a5]] w fun e w' => e = .returned (.int .u64 (num a0 a1 a2 a3 a4 a5)) ∧ Below w.heap.size w w' := by
  obtain ⟨l0, u0, l1, u1, l2, u2, l3, u3, l4, u4, l5, u5⟩ := h
  go_enter Try.func40, Try.ntmps40
  go_wp2
  go_rounds 7
  go_ret
  exact ⟨rfl, by go_grown⟩

set_option maxRecDepth 100000 in
set_option maxHeartbeats 1000000 in
theorem cmp33 (a0 a1 a2 a3 a4 a5 b0 b1 b2 b3 b4 b5 : Int) (w : World) (h : B6 a0 a1 a2 a3 a4 a5) (k : B6 b0 b1 b2 b3 b4 b5) :
    Calls Try.prog 33 #[.agg #[.int .u8 a0, .int .u8 a1, .int .u8 a2, .int .u8 a3, .int .u8 a4, .int .u8 a5], .agg #[.int .u8 b0, .int .u8 b1, .int .u8 b2, .int .u8 b3, .int .u8 b4, .int .u8 b5]] w fun e w' => e = .returned (.int .i64 (cmp3 (num a0 a1 a2 a3 a4 a5) (num b0 b1 b2 b3 b4 b5))) ∧ Below w.heap.size w w' := by
  go_enter Try.func33, Try.ntmps33
  go_wp2_with fail
  refine (num40 _ _ _ _ _ _ _ h).mono ?_
  rintro e w1 ⟨rfl, hb⟩
  obtain ⟨hc, hf⟩ := bcell hb
  go_wp2_with fail
  refine (num40 _ _ _ _ _ _ _ k).mono ?_
  rintro e w2 ⟨rfl, hd⟩
  have hB : Below w.heap.size w w2 := ((((Below.refl _ _).alloc (Nat.le_refl _) _).alloc (by simp) _).trans (hb.mono (by simp; omega))).trans (hd.mono (by have := hb.size; simp at this; omega))
  clear hc hf hb hd
  go_wp2
  · go_ret
    exact ⟨ret_int (cmp3_lt (by assumption)).symm, hB⟩
  · go_ret
    exact ⟨ret_int (cmp3_gt (by assumption)).symm, hB⟩
  · go_ret
    exact ⟨ret_int (cmp3_eq (by omega) (by omega)).symm, hB⟩

set_option maxRecDepth 100000 in
set_option maxHeartbeats 1000000 in
theorem cmp32 (a0 a1 a2 a3 a4 a5 b0 b1 b2 b3 b4 b5 : Int) (w : World) (h : B6 a0 a1 a2 a3 a4 a5) (k : B6 b0 b1 b2 b3 b4 b5) :
    Calls Try.prog 32 #[.agg #[.int .u8 a0, .int .u8 a1, .int .u8 a2, .int .u8 a3, .int .u8 a4, .int .u8 a5], .agg #[.int .u8 b0, .int .u8 b1, .int .u8 b2, .int .u8 b3, .int .u8 b4, .int .u8 b5]] w fun e w' => e = .returned (.int .i64 (cmp3 (num a0 a1 a2 a3 a4 a5) (num b0 b1 b2 b3 b4 b5))) ∧ Below w.heap.size w w' := by
  have he := eqMac a0 a1 a2 a3 a4 a5 b0 b1 b2 b3 b4 b5
  have h6 := eq6_num h k
  by_cases hx : num a0 a1 a2 a3 a4 a5 = num b0 b1 b2 b3 b4 b5
  · have ht : eq6 a0 a1 a2 a3 a4 a5 b0 b1 b2 b3 b4 b5 = true := by rw [h6]; simp [hx]
    have hr : cmp3 (num a0 a1 a2 a3 a4 a5) (num b0 b1 b2 b3 b4 b5) = 0 := by simp [cmp3, hx]
    rw [hr]
    clear h6 hx hr
    go_enter Try.func32, Try.ntmps32
    go_wp2
    go_ret
    exact ⟨rfl, by go_grown⟩
  · have ht : eq6 a0 a1 a2 a3 a4 a5 b0 b1 b2 b3 b4 b5 = false := by rw [h6]; simp [hx]
    clear h6
    have HX : Hid (¬ num a0 a1 a2 a3 a4 a5 = num b0 b1 b2 b3 b4 b5) := hide hx
    clear hx
    have hz : w.heap.size < w.heap.size + 1 + 1 := by omega
    go_enter Try.func32, Try.ntmps32
    go_wp2_with fail
    go_region_held3 (fun w' => w'.cell? ⟨w.heap.size, 0, none⟩ = some (.int .u8 a0) ∧ w'.cell? ⟨w.heap.size, 1, none⟩ = some (.int .u8 a1) ∧ w'.cell? ⟨w.heap.size, 2, none⟩ = some (.int .u8 a2) ∧ w'.cell? ⟨w.heap.size, 3, none⟩ = some (.int .u8 a3) ∧ w'.cell? ⟨w.heap.size, 4, none⟩ = some (.int .u8 a4) ∧ w'.cell? ⟨w.heap.size, 5, none⟩ = some (.int .u8 a5) ∧ w'.cell? ⟨w.heap.size + 1, 0, none⟩ = some (.int .u8 b0) ∧ w'.cell? ⟨w.heap.size + 1, 1, none⟩ = some (.int .u8 b1) ∧ w'.cell? ⟨w.heap.size + 1, 2, none⟩ = some (.int .u8 b2) ∧ w'.cell? ⟨w.heap.size + 1, 3, none⟩ = some (.int .u8 b3) ∧ w'.cell? ⟨w.heap.size + 1, 4, none⟩ = some (.int .u8 b4) ∧ w'.cell? ⟨w.heap.size + 1, 5, none⟩ = some (.int .u8 b5)) (go_keep)
      (first | (go_at_call_of 39 a0; refine (num39 _ _ _ _ _ _ _ h).mono ?_; rintro e w1 ⟨rfl, hb⟩; obtain ⟨hc, hf⟩ := bcell hb; have hz1 : w.heap.size + 1 < w1.heap.size := (by have := hb.size; simp at this; omega); have hz0 : w.heap.size < w1.heap.size := (by omega)) | (go_at_call_of 39 b0; refine (num39 _ _ _ _ _ _ _ k).mono ?_; rintro e w2 ⟨rfl, hd⟩; obtain ⟨hc2, hf2⟩ := bcell hd))
    have hB : Below w.heap.size w w2 := ((((Below.refl _ _).alloc (Nat.le_refl _) _).alloc (by simp) _).drew.trans (hb.mono (by simp; omega))).trans (hd.mono (by omega))
    clear hc hf hb hd hc2 hf2
    go_wp2
    · go_ret
      exact ⟨ret_int (cmp3_lt (by assumption)).symm, hB⟩
    · go_ret
      have hx := HX.out
      exact ⟨ret_int (cmp3_gt (by omega)).symm, hB⟩

set_option maxRecDepth 100000 in
set_option maxHeartbeats 400000 in
theorem within24 (n m : Int) (w : World) :
    Calls Try.prog 24 #[.int .i64 n, .int .i64 m] w fun e w' => e = .returned (.bool (decide (0 ≤ n ∧ n ≤ m))) ∧ w' = w := by
  by_cases h1 : 0 ≤ n
  · by_cases h2 : n ≤ m
    all_goals
      go_enter Try.func24, Try.ntmps24
      go_wp2
      go_ret
      exact ⟨ret_bool (by simp [h1, h2]), rfl⟩
  · go_enter Try.func24, Try.ntmps24
    go_wp2
    go_ret
    exact ⟨ret_bool (by simp; omega), rfl⟩
set_option maxRecDepth 100000 in
set_option maxHeartbeats 400000 in
theorem known22 (k : Int) (w : World) :
    Calls Try.prog 22 #[.int .i64 k] w fun e w' => e = .returned (.bool (knw k)) ∧ w' = w := by
  by_cases h1 : k = 0
  · subst h1
    go_enter Try.func22, Try.ntmps22
    go_wp2
    go_ret
    exact ⟨rfl, rfl⟩
  · by_cases h2 : k = 2
    · subst h2
      go_enter Try.func22, Try.ntmps22
      go_wp2
      go_ret
      exact ⟨rfl, rfl⟩
    · by_cases h3 : k = 128
      · subst h3
        go_enter Try.func22, Try.ntmps22
        go_wp2
        go_ret
        exact ⟨rfl, rfl⟩
      · have e1 : (k == 0) = false := by simp [h1]
        have e2 : (k == 2) = false := by simp [h2]
        have e3 : (k == 128) = false := by simp [h3]
        have e : knw k = false := by simp [knw, e1, e2, e3]
        rw [e]
        clear e h1 h2 h3
        go_enter Try.func22, Try.ntmps22
        go_wp2
        go_ret
        exact ⟨rfl, rfl⟩
set_option maxRecDepth 100000 in
set_option maxHeartbeats 400000 in
theorem version41 (k : Int) (w : World) :
    Calls Try.prog 41 #[.int .i64 k] w fun e w' => e = .returned (.int .i64 (ver k)) ∧ w' = w := by
  by_cases h2 : k = 2
  · subst h2
    go_enter Try.func41, Try.ntmps41
    go_wp2
    go_ret
    exact ⟨rfl, rfl⟩
  · have e2 : (k == 2) = false := by simp [h2]
    have e : ver k = 0 := by simp [ver, h2]
    rw [e]
    clear e h2
    go_enter Try.func41, Try.ntmps41
    go_wp2
    go_ret
    exact ⟨rfl, rfl⟩
/-- What the program panics with. -/
def pan : List PanicEntry := [{ v := .iface 30 (.int .i64 2), recovered := false }]
set_option maxRecDepth 100000 in
set_option maxHeartbeats 400000 in
theorem must36_yes (w : World) : Calls Try.prog 36 #[.bool true] w fun e w' => e = .returned (.tuple #[]) ∧ w' = w := by
  go_enter Try.func36, Try.ntmps36
  go_wp2
  go_end0
  exact ⟨rfl, rfl⟩
set_option maxRecDepth 100000 in
set_option maxHeartbeats 400000 in
theorem must36_no (w : World) : Calls Try.prog 36 #[.bool false] w fun e w' => e = .panicked pan ∧ w' = w := by
  go_enter Try.func36, Try.ntmps36
  go_wp2
  exact ⟨rfl, rfl, rfl⟩
/-- .. either. -/
theorem must36 (b : Bool) (w : World) : Calls Try.prog 36 #[.bool b] w fun e w' => (b = true ∧ e = .returned (.tuple #[]) ∨ b = false ∧ e = .panicked pan) ∧ w' = w := by
  cases b
  · exact (must36_no w).mono fun e w' ⟨h, k⟩ => ⟨Or.inr ⟨rfl, h⟩, k⟩
  · exact (must36_yes w).mono fun e w' ⟨h, k⟩ => ⟨Or.inl ⟨rfl, h⟩, k⟩
theorem b42_of (p n : Int) : Rng (ml (ofN p n)) := by rw [ml_ofN]; exact be_rng 6 n
set_option maxRecDepth 100000 in
set_option maxHeartbeats 1000000 in
theorem of42' (n : Int) (w : World) (h0 : 0 ≤ n) (h1 : n < 281474976710656) :
    Calls Try.prog 42 #[.int .u64 n] w fun e w' => e = .returned (.tuple #[.agg #[.int .u8 (n / 256 / 256 / 256 / 256 / 256 % 256), .int .u8 (n / 256 / 256 / 256 / 256 % 256), .int .u8 (n / 256 / 256 / 256 % 256), .int .u8 (n / 256 / 256 % 256), .int .u8 (n / 256 % 256), .int .u8 (n % 256)], .int .i64 0]) ∧ Below w.heap.size w w' := by
  go_enter Try.func42, Try.ntmps42
  go_wp2
  go_rounds 7
  exact bodyPost_ret (v := .tuple #[.agg #[.int .u8 (n / 256 / 256 / 256 / 256 / 256 % 256), .int .u8 (n / 256 / 256 / 256 / 256 % 256), .int .u8 (n / 256 / 256 / 256 % 256), .int .u8 (n / 256 / 256 % 256), .int .u8 (n / 256 % 256), .int .u8 (n % 256)], .int .i64 0]) (by simp [results, Try.results42, go_sem]; omega) rfl ⟨rfl, by go_grown⟩
theorem of42 (p n : Int) (w : World) (h0 : 0 ≤ n) (h1 : n < 281474976710656) :
    Calls Try.prog 42 #[.int .u64 n] w fun e w' => e = .returned (.tuple #[.agg (MC (ofN p n)), .int .i64 0]) ∧ Below w.heap.size w w' := of42' n w h0 h1
theorem number39 (x : Idn) (w : World) (h : Rng (ml x)) :
    Calls Try.prog 39 #[.agg (MC x)] w fun e w' => e = .returned (.int .u64 (nm x)) ∧ Below w.heap.size w w' := num39 _ _ _ _ _ _ w (b6 h)
theorem mac32 (x y : Idn) (w : World) (h : Rng (ml x)) (k : Rng (ml y)) :
    Calls Try.prog 32 #[.agg (MC x), .agg (MC y)] w fun e w' => e = .returned (.int .i64 (cmp3 (nm x) (nm y))) ∧ Below w.heap.size w w' := cmp32 _ _ _ _ _ _ _ _ _ _ _ _ w (b6 h) (b6 k)
theorem mac33 (x y : Idn) (w : World) (h : Rng (ml x)) (k : Rng (ml y)) :
    Calls Try.prog 33 #[.agg (MC x), .agg (MC y)] w fun e w' => e = .returned (.int .i64 (cmp3 (nm x) (nm y))) ∧ Below w.heap.size w w' := cmp33 _ _ _ _ _ _ _ _ _ _ _ _ w (b6 h) (b6 k)
set_option maxRecDepth 100000 in
set_option maxHeartbeats 400000 in
theorem nan38 (x : Int) (w : World) : Calls Try.prog 38 #[.int .i64 x] w fun e w' => e = .returned (.bool false) ∧ w' = w := by
  have h : (x != x) = false := by simp
  go_enter Try.func38, Try.ntmps38
  go_wp2
  go_ret
  exact ⟨rfl, rfl⟩
set_option maxRecDepth 100000 in
set_option maxHeartbeats 400000 in
theorem cmp31 (x y : Int) (w : World) : Calls Try.prog 31 #[.int .i64 x, .int .i64 y] w fun e w' => e = .returned (.int .i64 (cmp3 x y)) ∧ w' = w := by
  go_enter Try.func31, Try.ntmps31
  go_wp2_with (go_at_call 38; refine (nan38 _ _).mono ?_; rintro e w' ⟨rfl, rfl⟩)
  · go_ret
    exact ⟨ret_int (cmp3_lt (by assumption)).symm, rfl⟩
  · go_ret
    exact ⟨ret_int (cmp3_gt (by assumption)).symm, rfl⟩
  · go_ret
    exact ⟨ret_int (cmp3_eq (by omega) (by omega)).symm, rfl⟩
end Go.Proofs.Ytdaglmimfkcmeaa
