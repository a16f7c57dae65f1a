/- The contracts of figure, of both value functions, and of the document's own Text. -/
import Derived.Test.YtokmkgjjiloacaaA2
namespace Go.Proofs.Ytokmkgjjiloacaa
open Go.RowKit

theorem hexIndex64 (n : Int) (h0 : 0 ≤ n) (h1 : n < 16) : ∀ (w : World),
    (Instr.index 9 (.string ⟨#[48, 49, 50, 51, 52, 53, 54, 55, 56, 57, 97, 98, 99, 100, 101, 102]⟩) (.int .i64 n)).run Try.prog w = .ok (.int .u8 (hex n)) w := by
  have hk : n = 0 ∨ n = 1 ∨ n = 2 ∨ n = 3 ∨ n = 4 ∨ n = 5 ∨ n = 6 ∨ n = 7 ∨ n = 8 ∨ n = 9 ∨ n = 10 ∨ n = 11 ∨ n = 12 ∨ n = 13 ∨ n = 14 ∨ n = 15 := by omega
  intro w
  rcases hk with e | e | e | e | e | e | e | e | e | e | e | e | e | e | e | e <;> (subst e; clear h0 h1; show _ = _; kernel_rfl)

/-- A new []byte of one byte, as a string. -/
theorem oneByte (c : Int) (w : World) : (convert 39 9 (.slice (some ⟨w.heap.size, 0, none⟩) 1 1)).run Try.prog (w.alloc (.cells #[.int .u8 c] 5)) = .ok (.string (bs [c])) (w.alloc (.cells #[.int .u8 c] 5)) :=
  bytesString (w.alloc (.cells #[.int .u8 c] 5)) w.heap.size 1 [c] (by
    intro j hj
    have : j = 0 := by simpa using hj
    subst this
    simp)

set_option maxRecDepth 100000 in
set_option maxHeartbeats 1000000 in
theorem figure25 (n : Int) (w : World) (h0 : 0 ≤ n) (h1 : n < 16) :
    Calls Try.prog 25 #[.int .i64 n] w fun e w' => e = .returned (.string (bs [hex n])) ∧ Below w.heap.size w w' := by
  have hi := hexIndex64 n h0 h1
  have hcv := oneByte (hex n) w
  go_enter Try.func25, Try.ntmps25
  go_wp2
  go_ret
  exact ⟨rfl, by go_grown⟩

/-- A figure's value; -1: it is none. -/
def val (c : Int) : Int := if 48 ≤ c ∧ c ≤ 57 then c - 48 else if 97 ≤ c ∧ c ≤ 102 then c - 87 else -1
theorem val_a {c : Int} (h0 : 48 ≤ c) (h1 : c ≤ 57) : val c = c - 48 := by simp [val, h0, h1]
theorem val_b {c : Int} (h0 : 97 ≤ c) (h1 : c ≤ 102) : val c = c - 87 := by
  have e : ¬ c ≤ 57 := by omega
  simp [val, h0, h1, e]
theorem val_lt (c : Int) : val c < 16 := by unfold val; split; omega; split <;> omega
theorem val_ge (c : Int) : -1 ≤ val c := by unfold val; split; omega; split <;> omega

theorem ret_pair {x y : Int} {b : Bool} (h : x = y) : Ending.returned (.tuple #[.int .u8 x, .bool b]) = .returned (.tuple #[.int .u8 y, .bool b]) := by rw [h]

set_option maxRecDepth 100000 in
set_option maxHeartbeats 1000000 in
theorem value26_yes (c : Int) (w : World) (h0 : 0 ≤ c) (h1 : c ≤ 255) (hv : 0 ≤ val c) :
    Calls Try.prog 26 #[.int .u8 c] w fun e w' => e = .returned (.tuple #[.int .u8 (val c), .bool true]) ∧ w' = w := by
  have hc : (48 ≤ c ∧ c ≤ 57) ∨ (97 ≤ c ∧ c ≤ 102) := by
    unfold val at hv; split at hv; exact Or.inl ‹_›; split at hv; exact Or.inr ‹_›; omega
  clear hv
  rcases hc with ⟨k0, k1⟩ | ⟨k0, k1⟩
  · go_enter Try.func26, Try.ntmps26
    go_wp2
    go_ret2
    exact ⟨ret_pair (val_a k0 k1).symm, rfl⟩
  · have k2 : 57 < c := by omega
    go_enter Try.func26, Try.ntmps26
    go_wp2
    go_ret2
    exact ⟨ret_pair (by rw [val_b k0 k1]; omega), rfl⟩

set_option maxRecDepth 100000 in
set_option maxHeartbeats 1000000 in
theorem value26_no (c : Int) (w : World) (h0 : 0 ≤ c) (h1 : c ≤ 255) (hv : val c < 0) :
    Calls Try.prog 26 #[.int .u8 c] w fun e w' => e = .returned (.tuple #[.int .u8 0, .bool false]) ∧ w' = w := by
  have hc : ¬ (48 ≤ c ∧ c ≤ 57) ∧ ¬ (97 ≤ c ∧ c ≤ 102) := by
    unfold val at hv; split at hv; omega; split at hv; omega; exact ⟨‹_›, ‹_›⟩
  clear hv
  obtain ⟨k0, k1⟩ := hc
  go_enter Try.func26, Try.ntmps26
  go_wp2
  all_goals
    go_ret2
    exact ⟨rfl, rfl⟩

theorem oneByteAt (c : Int) (W : World) (b : Nat) (h : W.cell? ⟨b, 0, none⟩ = some (.int .u8 c)) : (convert 39 9 (.slice (some ⟨b, 0, none⟩) 1 1)).run Try.prog W = .ok (.string (bs [c])) W :=
  bytesString W b 1 [c] (by
    intro j hj
    have : j = 0 := by simpa using hj
    subst this
    simpa using h)

theorem bs_toList (ns : List Int) : (bs ns).toList = ns.map fun n => UInt8.ofNat n.toNat := by rw [ByteArray.toList_eq]; simp [bs]
theorem one_beq (x y : Int) (hx : 0 ≤ x) (hx' : x ≤ 255) (hy : 0 ≤ y) (hy' : y ≤ 255) : ((bs [x]).toList == (bs [y]).toList) = (x == y) := by
  rw [bs_toList, bs_toList, Bool.eq_iff_iff]
  simp only [List.map_cons, List.map_nil, beq_iff_eq, List.cons.injEq, and_true]
  constructor
  · intro h
    have h1 := congrArg UInt8.toNat h
    simp at h1
    omega
  · rintro rfl; rfl
theorem hex_lo {n : Int} (h0 : 0 ≤ n) : 0 ≤ hex n := by unfold hex; split <;> omega
theorem hex_hi {n : Int} (h1 : n < 16) : hex n ≤ 255 := by unfold hex; split <;> omega
theorem val_hex {n : Int} (h0 : 0 ≤ n) (h1 : n < 16) : val (hex n) = n := by
  unfold hex; split
  · rw [val_a (by omega) (by omega)]; omega
  · rw [val_b (by omega) (by omega)]; omega
theorem hex_val {c : Int} (h : 0 ≤ val c) : hex (val c) = c := by
  unfold val at *
  split at h
  · rw [if_pos ‹_›]; unfold hex; rw [if_pos (by omega)]; omega
  · rw [if_neg ‹_›]
    split at h
    · rw [if_pos ‹_›]; unfold hex; rw [if_neg (by omega)]; omega
    · omega
theorem val_none {c : Int} (h : ∀ m : Nat, m < 16 → ¬ hex m = c) : val c = -1 := by
  by_cases hv : 0 ≤ val c
  · have h1 := val_lt c
    have h2 := hex_val hv
    exact absurd (by rw [Int.toNat_of_nonneg hv]; exact h2) (h (val c).toNat (by omega))
  · have := val_ge c; omega

theorem belowOn {w wr w1 : World} (hB : Below w.heap.size w wr) (hb : Below wr.heap.size wr w1) : Below w.heap.size w w1 := hB.trans (hb.mono hB.size)

set_option maxRecDepth 100000 in
set_option maxHeartbeats 1000000 in
theorem value27 (c : Int) (w : World) (h0 : 0 ≤ c) (h1 : c ≤ 255) :
    Calls Try.prog 27 #[.int .u8 c] w fun e w' => e = .returned (.int .i64 (val c)) ∧ Below w.heap.size w w' := by
  go_enter Try.func27, Try.ntmps27
  go_wp2
  go_loopw [3] (fun i wr => ∃ k : Nat, k ≤ 16 ∧ i = .int .i64 k ∧ Below w.heap.size w wr ∧ (∀ m : Nat, m < k → ¬ hex m = c)) (fun i _ => 16 - (intOf i).toNat)
  case atStart => exact ⟨0, by omega, rfl, Below.refl _ _, fun m hm => by omega⟩
  case round =>
    obtain ⟨k, hk, rfl, hB, hN⟩ := hrel
    have HN := hide hN
    clear hN
    by_cases hlt : k < 16
    · have hcv := oneByteAt c
      have hq0 := one_beq (hex k) c (hex_lo (by omega)) (hex_hi (by omega)) h0 h1
      by_cases hx : hex k = c
      · have hq : ((bs [hex k]).toList == (bs [c]).toList) = true := by rw [hq0]; simp [hx]
        have HX := hide hx
        clear hq0 hx
        go_wp2_with fail
        go_region_with (first | (go_at_call 25; refine (figure25 _ _ (by omega) (by omega)).mono ?_; rintro e w1 ⟨rfl, hb⟩; obtain ⟨hc, hf⟩ := bcell hb))
        all_goals
          clear hc hf hcv
          go_wp2
          go_ret
          refine ⟨ret_int (by rw [← HX.out, val_hex (by omega) (by omega)]), ?_⟩
        · exact (belowOn hB.drew hb).alloc (belowOn hB.drew hb).size _
        · exact belowOn ((hB.alloc hB.size _).drew) hb
        · exact belowOn ((hB.alloc hB.size _).drew) hb
      · have hq : ((bs [hex k]).toList == (bs [c]).toList) = false := by rw [hq0]; simp [hx]
        have HX := hide hx
        clear hq0 hx
        go_wp2_with fail
        go_region_with (first | (go_at_call 25; refine (figure25 _ _ (by omega) (by omega)).mono ?_; rintro e w1 ⟨rfl, hb⟩; obtain ⟨hc, hf⟩ := bcell hb))
        all_goals
          clear hc hf hcv
          go_wp2
          go_roundw
          case rel =>
            refine ⟨k + 1, by omega, by go_num, ?_, fun m hm => ?_⟩
            · first | exact (belowOn hB.drew hb).alloc (belowOn hB.drew hb).size _ | exact belowOn ((hB.alloc hB.size _).drew) hb
            · by_cases e : m = k
              · subst e; exact HX.out
              · exact HN.out m (by omega)
          case measure => simp [intOf]; omega
    · have hk' : k = 16 := by omega
      subst hk'
      go_wp2
      go_ret
      exact ⟨ret_int (val_none HN.out).symm, hB⟩
end Go.Proofs.Ytokmkgjjiloacaa
