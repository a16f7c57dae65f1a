/- Contracts of the document's own number, of and Right. -/
import Derived.Test.YtijfcfpoimknmaaDoorB1
import Derived.Test.YtijfcfpoimknmaaDoorC2
import Derived.Laws.MakeOwn
namespace Go.Proofs.YtijfcfpoimknmaaDoor
open Go.RowKit

theorem made_u8 (n : Nat) : madeCells #[.int .u8 0] n = (List.replicate n (Value.int .u8 0)).toArray := by
  apply Array.ext'
  simp [madeCells]
  apply List.ext_getElem
  · simp
  · intro i h1 h2
    simp [Nat.mod_one]
theorem make2 (w : World) : (Instr.makeSlice 24 (.int .i64 2) (.int .i64 2)).run Tryd.prog w = .ok (.slice (some ⟨w.heap.size, 0, none⟩) 2 2) (w.alloc (.cells #[.int .u8 0, .int .u8 0] 5)) := by
  obtain ⟨i0, hi, hz0, hz1, hz2⟩ := info_parts Tryd.info5
  rw [run_makeSlice w 24 5 i0 (.int .u8 0) Tryd.underlying24 hi hz0 .i64 .i64 2 2 (by omega) (by omega) (by rw [hz1]; decide) (by rw [hz2]; decide) (by omega), hz1, show (Value.int .u8 0).cells = #[.int .u8 0] from rfl, made_u8]
  rfl
theorem make4 (w : World) : (Instr.makeSlice 24 (.int .i64 4) (.int .i64 4)).run Tryd.prog w = .ok (.slice (some ⟨w.heap.size, 0, none⟩) 4 4) (w.alloc (.cells #[.int .u8 0, .int .u8 0, .int .u8 0, .int .u8 0] 5)) := by
  obtain ⟨i0, hi, hz0, hz1, hz2⟩ := info_parts Tryd.info5
  rw [run_makeSlice w 24 5 i0 (.int .u8 0) Tryd.underlying24 hi hz0 .i64 .i64 4 4 (by omega) (by omega) (by rw [hz1]; decide) (by rw [hz2]; decide) (by omega), hz1, show (Value.int .u8 0).cells = #[.int .u8 0] from rfl, made_u8]
  rfl
set_option maxRecDepth 100000 in
set_option maxHeartbeats 2000000 in
theorem number29_2 (n : Int) (w : World) (f : fit 2 n = true) :
    Calls Tryd.prog 29 #[.int .i64 n, .int .i64 2] w fun e w' => e = .returned (.slice (some ⟨w.heap.size, 0, none⟩) 2 2) ∧ w' = w.alloc (.cells #[.int .u8 (n / 256 % 256), .int .u8 (n % 256)] 5) := by
  obtain ⟨h0, h1⟩ := fit_and f
  have h2 : n < 65536 := by simpa using h1
  have hm := make2
  clear f h1
  go_enter Tryd.func29, Tryd.ntmps29
  go_wp2
  go_rounds 3
  go_ret
  exact ⟨rfl, rfl⟩
set_option maxRecDepth 100000 in
set_option maxHeartbeats 2000000 in
theorem number29_4 (n : Int) (w : World) (f : fit 4 n = true) :
    Calls Tryd.prog 29 #[.int .i64 n, .int .i64 4] w fun e w' => e = .returned (.slice (some ⟨w.heap.size, 0, none⟩) 4 4) ∧ w' = w.alloc (.cells #[.int .u8 (n / 256 / 256 / 256 % 256), .int .u8 (n / 256 / 256 % 256), .int .u8 (n / 256 % 256), .int .u8 (n % 256)] 5) := by
  obtain ⟨h0, h1⟩ := fit_and f
  have h2 : n < 4294967296 := by simpa using h1
  have hm := make4
  clear f h1
  go_enter Tryd.func29, Tryd.ntmps29
  go_wp2
  go_rounds 5
  go_ret
  exact ⟨rfl, rfl⟩
/-- A number's bytes lie in a new block: an own slice. -/
theorem num4 (n : Int) (w : World) (f : fit 4 n = true) :
    Calls Tryd.prog 29 #[.int .i64 n, .int .i64 4] w fun e w' => e = .returned (.slice (some ⟨w.heap.size, 0, none⟩) 4 4) ∧ Byt w' (some ⟨w.heap.size, 0, none⟩) 4 4 (be 4 n) ∧ (∀ base, base ≤ w.heap.size → Row w' base (.slice (some ⟨w.heap.size, 0, none⟩) 4 4) 4 (be 4 n)) ∧ Below w.heap.size w w' :=
  (number29_4 n w f).mono fun e w' ⟨he, hw⟩ => ⟨he, by rw [hw]; exact byt_of_new w _ (be 4 n) 4 rfl (be_length _ _) (by omega) (be_rng _ _), fun base hb => by rw [hw]; exact Row.lit _ _ 4 rfl rfl (by omega) hb, by rw [hw]; exact below_alloc _ _⟩
theorem num2 (n : Int) (w : World) (f : fit 2 n = true) :
    Calls Tryd.prog 29 #[.int .i64 n, .int .i64 2] w fun e w' => ∃ ao, e = .returned (.slice ao 2 2) ∧ Byt w' ao 2 2 (be 2 n) ∧ Below w.heap.size w w' :=
  (number29_2 n w f).mono fun e w' ⟨he, hw⟩ => ⟨_, he, by rw [hw]; exact byt_of_new w _ (be 2 n) 2 rfl (be_length _ _) (by omega) (be_rng _ _), by rw [hw]; exact below_alloc _ _⟩
theorem nbl_le {l : List Int} (h : l.length ≤ 5) (hr : Rng l) : 0 ≤ nb l ∧ nb l < 1099511627776 := by
  have := nb_fit l.length l rfl hr
  refine ⟨this.1, ?_⟩
  have h2 := this.2
  rcases (show l.length = 0 ∨ l.length = 1 ∨ l.length = 2 ∨ l.length = 3 ∨ l.length = 4 ∨ l.length = 5 by omega) with e | e | e | e | e | e <;> rw [e] at h2 <;> omega
theorem takes_snoc (ns : List Int) (m : Nat) (h : m < ns.length) : ns.take (m + 1) = ns.take m ++ [ns.getD m 0] := by
  rw [List.take_add_one, List.getD_eq_getElem?_getD, List.getElem?_eq_getElem h]
  rfl
set_option maxRecDepth 100000 in
set_option maxHeartbeats 4000000 in
theorem of41 (ao : Option Addr) (m c : Nat) (ns : List Int) (w : World) (h : Byt w ao m c ns) (hm0 : 0 < m) (hm : m ≤ 6) :
    Calls Tryd.prog 41 #[.slice ao m c] w fun e w' => e = .returned (.int .i64 (nb ns)) ∧ w' = w := by
  obtain ⟨b, o, rfl, hc, -⟩ := h.at hm0
  have hL := hide h.len
  have HR := hide h.rng
  have HC := hide hc
  have hle := h.le
  have hle1 : (m : Int) ≤ c := by omega
  clear h hc
  go_enter Tryd.func41, Tryd.ntmps41
  go_wp2
  go_loop [3, 4] (fun x i => ∃ q : Nat, q ≤ m ∧ i = .int .i64 q ∧ x = .int .i64 (nb (ns.take q))) (fun _ i => m - (intOf i).toNat)
  case atStart => exact ⟨0, by omega, rfl, rfl⟩
  case round =>
    obtain ⟨q, hq, rfl, rfl⟩ := hrel
    by_cases hlt : q < m
    · have hc := HC.out q hlt
      have hx := rng_getD HR.out q
      have hs := hide (takes_snoc ns q (by have := hL.out; omega))
      have hn := nbl_le (l := ns.take q) (by rw [List.length_take]; omega) (rng_take HR.out q)
      have hs2 := hide (nb_snoc (ns.take q) (ns.getD q 0))
      generalize nb (ns.take q) = x at *
      generalize ns.getD q 0 = y at *
      have b1 : IntKind.i64.wrap y = y := IntWalk.i64_in _ (by omega)
      have b2 : IntKind.i64.wrap (x * 256) = x * 256 := IntWalk.i64_in _ (by omega)
      have b3 : IntKind.i64.wrap (x * 256 + y) = x * 256 + y := IntWalk.i64_in _ (by omega)
      have l1 : (q : Int) < m := by omega
      go_wp2
      go_round
      case rel => exact ⟨q + 1, by omega, by go_num, by rw [hs.out, hs2.out]⟩
      case measure => simp [intOf]; omega
    · obtain rfl : q = m := by omega
      go_wp2
      go_ret
      refine ⟨ret_int ?_, rfl⟩
      rw [← hL.out, List.take_length]
end Go.Proofs.YtijfcfpoimknmaaDoor
