/- The program's table in memory; next, way, first. -/
import Derived.Test.YtjlmheecefobaaaA3
namespace Go.Proofs.Ytjlmheecefobaaa
open Go.RowKit Go.PlainAid

/-- The first place of a VLAN and an address. -/
def fsI (n : Nat) (v : Int) (m : Mc) : Int := wrap64 ((IntKind.u64.wrap (bits .xor .u64 (IntKind.u64.wrap (num m * 4096)) (IntKind.u64.wrap v) * 11400714819323198485) / 4294967296).tmod (2 * (n : Int)))
def fs (n : Nat) (v : Int) (m : Mc) : Nat := (fsI n v m).toNat
theorem fsI_in (n : Nat) (v : Int) (m : Mc) (h1 : 1 ≤ n) (h2 : n ≤ 1024) : 0 ≤ fsI n v m ∧ fsI n v m < 2 * n := by
  unfold fsI
  rw [IntKind.wrap_u64]
  generalize bits .xor .u64 (IntKind.u64.wrap (num m * 4096)) (IntKind.u64.wrap v) * 11400714819323198485 = x
  have h3 : 0 ≤ x % 18446744073709551616 / 4294967296 := by omega
  rw [Int.tmod_eq_emod_of_nonneg h3]
  have h4 := Int.emod_nonneg (x % 18446744073709551616 / 4294967296) (show (2 * (n : Int)) ≠ 0 by omega)
  have h5 := Int.emod_lt_of_pos (x % 18446744073709551616 / 4294967296) (show 0 < 2 * (n : Int) by omega)
  rw [IntWalk.wrap64_in _ (by omega)]
  exact ⟨h4, h5⟩
theorem fsI_eq (n : Nat) (v : Int) (m : Mc) (h1 : 1 ≤ n) (h2 : n ≤ 1024) : fsI n v m = fs n v m := by
  have := fsI_in n v m h1 h2
  unfold fs; omega
theorem fs_lt (n : Nat) (v : Int) (m : Mc) (h1 : 1 ≤ n) (h2 : n ≤ 1024) : fs n v m < 2 * n := by
  have := fsI_in n v m h1 h2
  unfold fs; omega
def hf (n : Nat) (x : En) : Nat := fs n x.v x.m
theorem nt_mod {n a : Nat} (h : a < n) : ((a : Int) + 1) % n = nt n a := by
  unfold nt
  split
  · have : ((a : Int) + 1) = n := by omega
    rw [this, Int.emod_self]; rfl
  · rw [Int.emod_eq_of_lt (by omega) (by omega)]; rfl
theorem wy_mod {n a b : Nat} (ha : a < n) (hb : b < n) : ((b : Int) - a + n) % n = wy n a b := by
  unfold wy
  rw [Int.add_emod_right]
  split
  · rw [Int.emod_eq_of_lt (by omega) (by omega)]; omega
  · rw [← Int.add_emod_right, Int.emod_eq_of_lt (by omega) (by omega)]; omega
/-- The cells of the program's table. -/
def tcl (h n u : Nat) : List Value := [.slice (some ⟨h, 0, none⟩) (2 * n) (2 * n), .int .i64 n, .int .i64 u]
theorem wrap_nat (k : Nat) (h : k < 100000) : IntKind.i64.wrap (k : Int) = k := IntWalk.i64_in _ (by omega)
set_option maxRecDepth 100000 in
set_option maxHeartbeats 1000000 in
theorem next58 (h n u a : Nat) (w : World) (hn : 1 ≤ n) (hn2 : n ≤ 1024) (H : Box w (h + 1) (tcl h n u)) (ha : a < 2 * n) :
    Calls Try.prog 58 #[.pointer (some ⟨h + 1, 0, none⟩), .int .i64 a] w fun e w' => e = .returned (.int .i64 (nt (2 * n) a)) ∧ w' = w := by
  have c0 := H.cell 0 _ rfl
  have e1 : IntKind.i64.wrap ((a : Int) + 1) = (a : Int) + 1 := IntWalk.i64_in _ (by omega)
  have h0 : ¬ ((2 * n : Nat) : Int) = 0 := by omega
  clear H
  go_enter Try.func58, Try.ntmps58
  go_wp2
  go_ret
  have e2 := nt_mod ha
  rw [Int.natCast_mul] at e2
  exact ⟨ret_int e2, rfl⟩
set_option maxRecDepth 100000 in
set_option maxHeartbeats 1000000 in
theorem way59 (h n u a b : Nat) (w : World) (hn : 1 ≤ n) (hn2 : n ≤ 1024) (H : Box w (h + 1) (tcl h n u)) (ha : a < 2 * n) (hb : b < 2 * n) :
    Calls Try.prog 59 #[.pointer (some ⟨h + 1, 0, none⟩), .int .i64 a, .int .i64 b] w fun e w' => e = .returned (.int .i64 (wy (2 * n) a b)) ∧ Below w.heap.size w w' := by
  have c0 := H.cell 0 _ rfl
  have e1 : IntKind.i64.wrap ((b : Int) - a) = (b : Int) - a := IntWalk.i64_in _ (by omega)
  have e2 : IntKind.i64.wrap ((b : Int) - a + (2 * n : Nat)) = (b : Int) - a + (2 * n : Nat) := IntWalk.i64_in _ (by omega)
  have h0 : ¬ ((2 * n : Nat) : Int) = 0 := by omega
  clear H
  go_enter Try.func59, Try.ntmps59
  go_wp2_with fail
  go_quiet (fail)
  go_wp2
  go_ret
  have e3 := wy_mod ha hb
  rw [Int.natCast_mul] at e3
  exact ⟨ret_int e3, ⟨rfl, rfl, rfl, Nat.le_refl _, fun _ _ => rfl⟩⟩
set_option maxRecDepth 100000 in
set_option maxHeartbeats 1000000 in
theorem first57 (h n u : Nat) (v : Int) (m : Mc) (w : World) (hm : Mok m) (hn : 1 ≤ n) (hn2 : n ≤ 1024) (H : Box w (h + 1) (tcl h n u)) :
    Calls Try.prog 57 #[.pointer (some ⟨h + 1, 0, none⟩), .int .i64 v, .agg (MC m)] w fun e w' => e = .returned (.int .i64 (fs n v m)) ∧ Below w.heap.size w w' := by
  have A0 := (box_m w m).at_
  have W0 : Hid (Below w.heap.size w (w.alloc (.cells (MC m) 34))) := hide (below_alloc w _)
  have HH := hide H
  have h0 : ¬ ((2 * n : Nat) : Int) = 0 := by omega
  have tk1 : True := trivial
  clear H
  go_enter Try.func57, Try.ntmps57
  go_wp2_with (first | (have _t := tk1; refine wpl_mac (.tmp 5) rfl A0 ?_ ?_ ?_; rfl; rfl; clear tk1) | (go_at_call 64; refine (num64 m _ hm).mono ?_; rintro e w1 ⟨rfl, hb⟩; have c0 := ((HH.out.on W0.out).on hb).cell 0 _ rfl))
  go_ret
  exact ⟨ret_int (fsI_eq n v m hn hn2), belowOn W0.out hb⟩
end Go.Proofs.Ytjlmheecefobaaa
