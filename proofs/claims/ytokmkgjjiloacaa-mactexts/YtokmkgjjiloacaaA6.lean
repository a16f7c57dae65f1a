/- The contract of the document's own Text. -/
import Derived.Test.YtokmkgjjiloacaaA4
namespace Go.Proofs.Ytokmkgjjiloacaa
open Go.RowKit

/-- What holds at the loop's head. -/
structure RI (w wr : World) (a0 a1 a2 a3 a4 a5 : Int) : Prop where
  below : Below w.heap.size w wr
  size : w.heap.size < wr.heap.size
  c0 : wr.cell? ⟨w.heap.size, 0, none⟩ = some (.int .u8 a0)
  c1 : wr.cell? ⟨w.heap.size, 1, none⟩ = some (.int .u8 a1)
  c2 : wr.cell? ⟨w.heap.size, 2, none⟩ = some (.int .u8 a2)
  c3 : wr.cell? ⟨w.heap.size, 3, none⟩ = some (.int .u8 a3)
  c4 : wr.cell? ⟨w.heap.size, 4, none⟩ = some (.int .u8 a4)
  c5 : wr.cell? ⟨w.heap.size, 5, none⟩ = some (.int .u8 a5)
theorem RI.on {w wr w1 : World} {a0 a1 a2 a3 a4 a5 : Int} (h : RI w wr a0 a1 a2 a3 a4 a5) (hb : Below wr.heap.size wr w1) : RI w w1 a0 a1 a2 a3 a4 a5 := by
  have e : ∀ i, w1.cell? ⟨w.heap.size, i, none⟩ = wr.cell? ⟨w.heap.size, i, none⟩ := fun i => hb.cell (p := ⟨w.heap.size, i, none⟩) h.size
  exact ⟨belowOn h.below hb, Nat.lt_of_lt_of_le h.size hb.size, by rw [e]; exact h.c0, by rw [e]; exact h.c1, by rw [e]; exact h.c2, by rw [e]; exact h.c3, by rw [e]; exact h.c4, by rw [e]; exact h.c5⟩
theorem RI.drew {w wr : World} {a0 a1 a2 a3 a4 a5 : Int} (h : RI w wr a0 a1 a2 a3 a4 a5) : RI w wr.drew a0 a1 a2 a3 a4 a5 := ⟨h.below.drew, h.size, h.c0, h.c1, h.c2, h.c3, h.c4, h.c5⟩

theorem i64_byte (a : Int) (h0 : 0 ≤ a) (h1 : a ≤ 255) : IntKind.i64.wrap a = a := IntWalk.i64_in _ (by omega)
theorem i64_quo (a : Int) (h0 : 0 ≤ a) (h1 : a ≤ 255) : IntKind.i64.wrap (a.tdiv 16) = a / 16 := by
  rw [Int.tdiv_eq_ediv_of_nonneg h0]; exact IntWalk.i64_in _ (by omega)
theorem bs_step0 (a0 a1 a2 a3 a4 a5 : Int) : bs [] ++ bs [hex (a0 / 16)] ++ bs [hex (a0 % 16)] = bs ((textL a0 a1 a2 a3 a4 a5).take (3 * 1 - 1)) := rfl
theorem bs_step1 (a0 a1 a2 a3 a4 a5 : Int) : bs ((textL a0 a1 a2 a3 a4 a5).take 2) ++ ⟨#[58]⟩ ++ bs [hex (a1 / 16)] ++ bs [hex (a1 % 16)] = bs ((textL a0 a1 a2 a3 a4 a5).take (3 * 2 - 1)) := rfl
theorem bs_step2 (a0 a1 a2 a3 a4 a5 : Int) : bs ((textL a0 a1 a2 a3 a4 a5).take 5) ++ ⟨#[58]⟩ ++ bs [hex (a2 / 16)] ++ bs [hex (a2 % 16)] = bs ((textL a0 a1 a2 a3 a4 a5).take (3 * 3 - 1)) := rfl
theorem bs_step3 (a0 a1 a2 a3 a4 a5 : Int) : bs ((textL a0 a1 a2 a3 a4 a5).take 8) ++ ⟨#[58]⟩ ++ bs [hex (a3 / 16)] ++ bs [hex (a3 % 16)] = bs ((textL a0 a1 a2 a3 a4 a5).take (3 * 4 - 1)) := rfl
theorem bs_step4 (a0 a1 a2 a3 a4 a5 : Int) : bs ((textL a0 a1 a2 a3 a4 a5).take 11) ++ ⟨#[58]⟩ ++ bs [hex (a4 / 16)] ++ bs [hex (a4 % 16)] = bs ((textL a0 a1 a2 a3 a4 a5).take (3 * 5 - 1)) := rfl
theorem bs_step5 (a0 a1 a2 a3 a4 a5 : Int) : bs ((textL a0 a1 a2 a3 a4 a5).take 14) ++ ⟨#[58]⟩ ++ bs [hex (a5 / 16)] ++ bs [hex (a5 % 16)] = bs ((textL a0 a1 a2 a3 a4 a5).take (3 * 6 - 1)) := rfl
theorem bs_whole (a0 a1 a2 a3 a4 a5 : Int) : bs ((textL a0 a1 a2 a3 a4 a5).take (3 * 6 - 1)) = bs (textL a0 a1 a2 a3 a4 a5) := rfl

set_option maxRecDepth 100000 in
set_option maxHeartbeats 1000000 in
theorem text12 (a0 a1 a2 a3 a4 a5 : Int) (w : World) (h : B6 a0 a1 a2 a3 a4 a5) :
    Calls Try.prog 12 #[.agg #[.int .u8 a0, .int .u8 a1, .int .u8 a2, .int .u8 a3, .int .u8 a4, .int .u8 a5]] w fun e w' => e = .returned (.string (bs (textL a0 a1 a2 a3 a4 a5))) ∧ Below w.heap.size w w' := by
  go_enter Try.func12, Try.ntmps12
  go_wp2
  go_loopw [3, 4] (fun t i wr => ∃ k : Nat, k ≤ 6 ∧ i = .int .i64 k ∧ t = .string (bs ((textL a0 a1 a2 a3 a4 a5).take (3 * k - 1))) ∧ RI w wr a0 a1 a2 a3 a4 a5) (fun _ i _ => 6 - (intOf i).toNat)
  case atStart => exact ⟨0, by omega, rfl, rfl, by go_grown, by simp, by simp, by simp, by simp, by simp, by simp, by simp⟩
  case round =>
    obtain ⟨k, hk, rfl, rfl, hI⟩ := hrel
    have hS := hI.size
    have hk7 : k = 0 ∨ k = 1 ∨ k = 2 ∨ k = 3 ∨ k = 4 ∨ k = 5 ∨ k = 6 := by omega
    rcases hk7 with e | e | e | e | e | e | e <;> subst e
    · have l0 := h.l0
      have u0 := h.u0
      have c := hI.c0
      have hw := i64_byte a0 l0 u0
      have ht := i64_quo a0 l0 u0
      have hm := Int.tmod_eq_emod_of_nonneg (b := 16) l0
      have z1 : (bs [hex (a0 / 16)]).size = 1 := rfl
      have z2 : (bs [hex (a0 % 16)]).size = 1 := rfl
      have z0 : (bs []).size = 0 := rfl
      go_wp2_with fail
      go_region_held3 (fun w' => w'.cell? ⟨w.heap.size, 0, none⟩ = some (.int .u8 a0)) (go_keep) (first | (go_at_call_of 25 (a0 / (16 : Int)); refine (figure25 _ _ (by omega) (by omega)).mono ?_; rintro e w1 ⟨rfl, hb⟩; have hk1 : w1.cell? ⟨w.heap.size, 0, none⟩ = some (.int .u8 a0) := (hb.cell (p := ⟨w.heap.size, 0, none⟩) hS).trans c; have hS1 : w.heap.size < w1.heap.size := Nat.lt_of_lt_of_le hS hb.size) | (go_at_call 25; refine (figure25 _ _ (by omega) (by omega)).mono ?_; rintro e w2 ⟨rfl, hb2⟩; have hk2 : w2.cell? ⟨w.heap.size, 0, none⟩ = some (.int .u8 a0) := (hb2.cell (p := ⟨w.heap.size, 0, none⟩) hS1).trans hk1))
      have hI2 := (hI.drew.on hb).on hb2
      clear hI hb hb2 hk1 hk2 hS hS1 c hw ht hm z0 z1 z2
      go_wp2
      go_roundw
      case rel => exact ⟨1, by omega, rfl, congrArg Value.string (bs_step0 a0 a1 a2 a3 a4 a5), hI2⟩
      case measure => simp [intOf]
    · have l0 := h.l1
      have u0 := h.u1
      have c := hI.c1
      have hw := i64_byte a1 l0 u0
      have ht := i64_quo a1 l0 u0
      have hm := Int.tmod_eq_emod_of_nonneg (b := 16) l0
      have z1 : (bs [hex (a1 / 16)]).size = 1 := rfl
      have z2 : (bs [hex (a1 % 16)]).size = 1 := rfl
      have z0 : (bs ((textL a0 a1 a2 a3 a4 a5).take 2)).size = 2 := rfl
      go_wp2_with fail
      go_region_held3 (fun w' => w'.cell? ⟨w.heap.size, 1, none⟩ = some (.int .u8 a1)) (go_keep) (first | (go_at_call_of 25 (a1 / (16 : Int)); refine (figure25 _ _ (by omega) (by omega)).mono ?_; rintro e w1 ⟨rfl, hb⟩; have hk1 : w1.cell? ⟨w.heap.size, 1, none⟩ = some (.int .u8 a1) := (hb.cell (p := ⟨w.heap.size, 1, none⟩) hS).trans c; have hS1 : w.heap.size < w1.heap.size := Nat.lt_of_lt_of_le hS hb.size) | (go_at_call 25; refine (figure25 _ _ (by omega) (by omega)).mono ?_; rintro e w2 ⟨rfl, hb2⟩; have hk2 : w2.cell? ⟨w.heap.size, 1, none⟩ = some (.int .u8 a1) := (hb2.cell (p := ⟨w.heap.size, 1, none⟩) hS1).trans hk1))
      have hI2 := (hI.drew.on hb).on hb2
      clear hI hb hb2 hk1 hk2 hS hS1 c hw ht hm z0 z1 z2
      go_wp2
      go_roundw
      case rel => exact ⟨2, by omega, rfl, congrArg Value.string (bs_step1 a0 a1 a2 a3 a4 a5), hI2⟩
      case measure => simp [intOf]
    · have l0 := h.l2
      have u0 := h.u2
      have c := hI.c2
      have hw := i64_byte a2 l0 u0
      have ht := i64_quo a2 l0 u0
      have hm := Int.tmod_eq_emod_of_nonneg (b := 16) l0
      have z1 : (bs [hex (a2 / 16)]).size = 1 := rfl
      have z2 : (bs [hex (a2 % 16)]).size = 1 := rfl
      have z0 : (bs ((textL a0 a1 a2 a3 a4 a5).take 5)).size = 5 := rfl
      go_wp2_with fail
      go_region_held3 (fun w' => w'.cell? ⟨w.heap.size, 2, none⟩ = some (.int .u8 a2)) (go_keep) (first | (go_at_call_of 25 (a2 / (16 : Int)); refine (figure25 _ _ (by omega) (by omega)).mono ?_; rintro e w1 ⟨rfl, hb⟩; have hk1 : w1.cell? ⟨w.heap.size, 2, none⟩ = some (.int .u8 a2) := (hb.cell (p := ⟨w.heap.size, 2, none⟩) hS).trans c; have hS1 : w.heap.size < w1.heap.size := Nat.lt_of_lt_of_le hS hb.size) | (go_at_call 25; refine (figure25 _ _ (by omega) (by omega)).mono ?_; rintro e w2 ⟨rfl, hb2⟩; have hk2 : w2.cell? ⟨w.heap.size, 2, none⟩ = some (.int .u8 a2) := (hb2.cell (p := ⟨w.heap.size, 2, none⟩) hS1).trans hk1))
      have hI2 := (hI.drew.on hb).on hb2
      clear hI hb hb2 hk1 hk2 hS hS1 c hw ht hm z0 z1 z2
      go_wp2
      go_roundw
      case rel => exact ⟨3, by omega, rfl, congrArg Value.string (bs_step2 a0 a1 a2 a3 a4 a5), hI2⟩
      case measure => simp [intOf]
    · have l0 := h.l3
      have u0 := h.u3
      have c := hI.c3
      have hw := i64_byte a3 l0 u0
      have ht := i64_quo a3 l0 u0
      have hm := Int.tmod_eq_emod_of_nonneg (b := 16) l0
      have z1 : (bs [hex (a3 / 16)]).size = 1 := rfl
      have z2 : (bs [hex (a3 % 16)]).size = 1 := rfl
      have z0 : (bs ((textL a0 a1 a2 a3 a4 a5).take 8)).size = 8 := rfl
      go_wp2_with fail
      go_region_held3 (fun w' => w'.cell? ⟨w.heap.size, 3, none⟩ = some (.int .u8 a3)) (go_keep) (first | (go_at_call_of 25 (a3 / (16 : Int)); refine (figure25 _ _ (by omega) (by omega)).mono ?_; rintro e w1 ⟨rfl, hb⟩; have hk1 : w1.cell? ⟨w.heap.size, 3, none⟩ = some (.int .u8 a3) := (hb.cell (p := ⟨w.heap.size, 3, none⟩) hS).trans c; have hS1 : w.heap.size < w1.heap.size := Nat.lt_of_lt_of_le hS hb.size) | (go_at_call 25; refine (figure25 _ _ (by omega) (by omega)).mono ?_; rintro e w2 ⟨rfl, hb2⟩; have hk2 : w2.cell? ⟨w.heap.size, 3, none⟩ = some (.int .u8 a3) := (hb2.cell (p := ⟨w.heap.size, 3, none⟩) hS1).trans hk1))
      have hI2 := (hI.drew.on hb).on hb2
      clear hI hb hb2 hk1 hk2 hS hS1 c hw ht hm z0 z1 z2
      go_wp2
      go_roundw
      case rel => exact ⟨4, by omega, rfl, congrArg Value.string (bs_step3 a0 a1 a2 a3 a4 a5), hI2⟩
      case measure => simp [intOf]
    · have l0 := h.l4
      have u0 := h.u4
      have c := hI.c4
      have hw := i64_byte a4 l0 u0
      have ht := i64_quo a4 l0 u0
      have hm := Int.tmod_eq_emod_of_nonneg (b := 16) l0
      have z1 : (bs [hex (a4 / 16)]).size = 1 := rfl
      have z2 : (bs [hex (a4 % 16)]).size = 1 := rfl
      have z0 : (bs ((textL a0 a1 a2 a3 a4 a5).take 11)).size = 11 := rfl
      go_wp2_with fail
      go_region_held3 (fun w' => w'.cell? ⟨w.heap.size, 4, none⟩ = some (.int .u8 a4)) (go_keep) (first | (go_at_call_of 25 (a4 / (16 : Int)); refine (figure25 _ _ (by omega) (by omega)).mono ?_; rintro e w1 ⟨rfl, hb⟩; have hk1 : w1.cell? ⟨w.heap.size, 4, none⟩ = some (.int .u8 a4) := (hb.cell (p := ⟨w.heap.size, 4, none⟩) hS).trans c; have hS1 : w.heap.size < w1.heap.size := Nat.lt_of_lt_of_le hS hb.size) | (go_at_call 25; refine (figure25 _ _ (by omega) (by omega)).mono ?_; rintro e w2 ⟨rfl, hb2⟩; have hk2 : w2.cell? ⟨w.heap.size, 4, none⟩ = some (.int .u8 a4) := (hb2.cell (p := ⟨w.heap.size, 4, none⟩) hS1).trans hk1))
      have hI2 := (hI.drew.on hb).on hb2
      clear hI hb hb2 hk1 hk2 hS hS1 c hw ht hm z0 z1 z2
      go_wp2
      go_roundw
      case rel => exact ⟨5, by omega, rfl, congrArg Value.string (bs_step4 a0 a1 a2 a3 a4 a5), hI2⟩
      case measure => simp [intOf]
    · have l0 := h.l5
      have u0 := h.u5
      have c := hI.c5
      have hw := i64_byte a5 l0 u0
      have ht := i64_quo a5 l0 u0
      have hm := Int.tmod_eq_emod_of_nonneg (b := 16) l0
      have z1 : (bs [hex (a5 / 16)]).size = 1 := rfl
      have z2 : (bs [hex (a5 % 16)]).size = 1 := rfl
      have z0 : (bs ((textL a0 a1 a2 a3 a4 a5).take 14)).size = 14 := rfl
      go_wp2_with fail
      go_region_held3 (fun w' => w'.cell? ⟨w.heap.size, 5, none⟩ = some (.int .u8 a5)) (go_keep) (first | (go_at_call_of 25 (a5 / (16 : Int)); refine (figure25 _ _ (by omega) (by omega)).mono ?_; rintro e w1 ⟨rfl, hb⟩; have hk1 : w1.cell? ⟨w.heap.size, 5, none⟩ = some (.int .u8 a5) := (hb.cell (p := ⟨w.heap.size, 5, none⟩) hS).trans c; have hS1 : w.heap.size < w1.heap.size := Nat.lt_of_lt_of_le hS hb.size) | (go_at_call 25; refine (figure25 _ _ (by omega) (by omega)).mono ?_; rintro e w2 ⟨rfl, hb2⟩; have hk2 : w2.cell? ⟨w.heap.size, 5, none⟩ = some (.int .u8 a5) := (hb2.cell (p := ⟨w.heap.size, 5, none⟩) hS1).trans hk1))
      have hI2 := (hI.drew.on hb).on hb2
      clear hI hb hb2 hk1 hk2 hS hS1 c hw ht hm z0 z1 z2
      go_wp2
      go_roundw
      case rel => exact ⟨6, by omega, rfl, congrArg Value.string (bs_step5 a0 a1 a2 a3 a4 a5), hI2⟩
      case measure => simp [intOf]
    · go_wp2
      go_ret
      exact ⟨congrArg (fun b => Ending.returned (Value.string b)) (bs_whole a0 a1 a2 a3 a4 a5), hI.below⟩
end Go.Proofs.Ytokmkgjjiloacaa
