/- Contract of the deferred function, and of Decode, as the program has it. -/
import Derived.Test.YtaehhhknpbbmkaaAf
import Derived.Recover
namespace Go.Proofs.Ytaehhhknpbbmkaa
open Go.RowKit

theorem res_lacp_cell {fn : Func} {p u : Tmp} (h : fn.results = #[.cell p 27, .cell u 30]) {tmps : Array Value} {w : World} {k j : Nat} {l : Lac} {x : Int} (hp : tmps.getD p undef = .pointer (some ⟨k, 0, none⟩)) (hu : tmps.getD u undef = .pointer (some ⟨j, 0, none⟩)) (hA : Box w k (lcl l)) (he : w.cell? ⟨j, 0, none⟩ = some (.int .i64 x)) :
    (results fn tmps).run Try.prog w = .ok (.tuple #[.agg (LC l), .int .i64 x]) w := by
  have hl := run_loadVar_mid (P := Try.prog) w k 0 27 _ _ hA.at_ Try.underlying27 rfl Try.size27
  have hp' : tmps[p]?.getD undef = .pointer (some ⟨k, 0, none⟩) := by simpa using hp
  have hu' : tmps[u]?.getD undef = .pointer (some ⟨j, 0, none⟩) := by simpa using hu
  have h2 : (loadVar 30 ⟨j, 0, none⟩).run Try.prog w = .ok (.int .i64 x) w := by simp [go_sem, he]
  simp only [results, h]
  simp [hp', hu', asAddr, hl, h2, LC]
section
attribute [local go_sem] ZL
set_option maxRecDepth 100000 in
set_option maxHeartbeats 1000000 in
theorem catch_panicking (B : Nat) (e0 : Int) (l : Lac) (w : World) (T : Box w B (lcl l)) (ce : w.cell? ⟨B + 1, 0, none⟩ = some (.int .i64 e0)) (fe : w.frozen? ⟨B + 1, 0, none⟩ = false) :
    CallsD Try.prog 29 #[.pointer (some ⟨B, 0, none⟩), .pointer (some ⟨B + 1, 0, none⟩)] (.panicking pan) w fun e u' w' =>
      e = .returned (.tuple #[]) ∧ u' = .panicking [{ v := .iface 30 (.int .i64 2), recovered := true }] ∧ Box w' B (lcl zeroL) ∧ w'.cell? ⟨B + 1, 0, none⟩ = some (.int .i64 2) ∧ Below B w w' := by
  refine callsD_of_wpS Try.func29 rfl fun c₀ cs hu => ?_
  unfold pan at hu
  apply wpS_seq
  apply wpS_region
  simp [wpOpsS, go_sem, recoverD, hu, Try.ntmps29, Exit.thenS]
  refine wpS_cond (t := true) (by simp [Act.eval, Array.replicate]) ?_
  simp only [if_true]
  refine wpS_of_wp ?_
  have tk1 : True := trivial
  show Code.wp Try.prog _ _ { tmps := #[.pointer (some ⟨B, 0, none⟩), .pointer (some ⟨B + 1, 0, none⟩), .iface 30 (.int .i64 2), .bool true, undef], defers := [] } w
  go_wp2_with (have _t := tk1; refine wpl_putL zeroL l (.tmp 0) (.tmp 4) rfl T ?_ ?_ ?_ ?_; rfl; rfl; rfl; clear tk1; intro w2 A2 G2; have ce2 := G2.cell ce (by simp); have fe2 : w2.frozen? ⟨B + 1, 0, none⟩ = false := (World.frozen?_of_block (a := ⟨B + 1, 0, none⟩) (G2.block (B + 1) (World.block_lt_of_cell? w _ ce) (by simp))).trans fe)
  have hBl : B < w.heap.size := T.lt
  have G3 := setCell_grown w2 (B + 1) 0 (.int .i64 2)
  have A3 := A2.kept (by omega) G3
  have c3 := World.cell?_setCell_same w2 ⟨B + 1, 0, none⟩ (.int .i64 2) ce2
  have B2 : Below B w w2 := below_grown (Below.refl _ _) G2 (Nat.le_refl _) (by omega)
  have B3 : Below B w _ := below_grown B2 G3 (by omega) (Nat.le_trans (Nat.le_of_lt hBl) G2.size)
  simp [bodyPostS, results, Try.results29]
  exact ⟨A3, c3, B3⟩
set_option maxRecDepth 100000 in
set_option maxHeartbeats 1000000 in
theorem catch_idle (B : Nat) (w : World) :
    CallsD Try.prog 29 #[.pointer (some ⟨B, 0, none⟩), .pointer (some ⟨B + 1, 0, none⟩)] .returning w fun e u' w' => e = .returned (.tuple #[]) ∧ u' = .returning ∧ w' = w := by
  refine callsD_of_wpS Try.func29 rfl fun c₀ cs hu => ?_
  apply wpS_seq
  apply wpS_region
  simp [wpOpsS, go_sem, recoverD, hu, Try.ntmps29, Exit.thenS]
  refine wpS_cond (t := false) (by simp [Act.eval, Array.replicate]) ?_
  simp only [Bool.false_eq_true, if_false]
  refine wpS_of_wp (wp_skip ?_)
  cases c₀
  simp_all [bodyPostS, results, Try.results29]
theorem new_cell (w : World) (v : Value) (e : TypeId) : (w.alloc (.cells #[v] e)).cell? ⟨w.heap.size, 0, none⟩ = some v := by simp
theorem new_free (w : World) (cs : Array Value) (e : TypeId) : (w.alloc (.cells cs e)).frozen? ⟨w.heap.size, 0, none⟩ = false := World.frozen?_alloc_at _ _ _ _ rfl
theorem W3_rd (ao : Option Addr) (n c : Nat) (ns : List Int) (w : World) (h : Byt w ao n c ns) : RdE (((w.alloc (.cells (LC zeroL) 27)).alloc (.cells #[.int .i64 0] 30)).alloc (.cells #[.slice ao n c] 51)) (w.heap.size + 2) (w.heap.size + 3) ns := by
  have e1 := new_cell ((w.alloc (.cells (LC zeroL) 27)).alloc (.cells #[.int .i64 0] 30)) (.slice ao n c) 51
  have e2 := new_free ((w.alloc (.cells (LC zeroL) 27)).alloc (.cells #[.int .i64 0] 30)) #[.slice ao n c] 51
  rw [World.size_alloc, World.size_alloc] at e1 e2
  exact ⟨ao, n, c, e1, e2, ((h.alloc _).alloc _).alloc _, fun b o e hp => by have := h.lt b o e hp; omega, by omega, by simp⟩
theorem W3_box (ao : Option Addr) (n c : Nat) (w : World) : Box (((w.alloc (.cells (LC zeroL) 27)).alloc (.cells #[.int .i64 0] 30)).alloc (.cells #[.slice ao n c] 51)) w.heap.size (lcl zeroL) := ((Box.new w (lcl zeroL) 27).alloc _).alloc _
theorem W3_cell (ao : Option Addr) (n c : Nat) (w : World) : World.cell? (((w.alloc (.cells (LC zeroL) 27)).alloc (.cells #[.int .i64 0] 30)).alloc (.cells #[.slice ao n c] 51)) ⟨w.heap.size + 1, 0, none⟩ = some (.int .i64 0) := by
  have h := new_cell (w.alloc (.cells (LC zeroL) 27)) (.int .i64 0) 30
  rw [World.size_alloc] at h
  rw [World.cell?_alloc_past _ _ _ (by simp)]
  exact h
theorem W3_free (ao : Option Addr) (n c : Nat) (w : World) : World.frozen? (((w.alloc (.cells (LC zeroL) 27)).alloc (.cells #[.int .i64 0] 30)).alloc (.cells #[.slice ao n c] 51)) ⟨w.heap.size + 1, 0, none⟩ = false := by
  have h := new_free (w.alloc (.cells (LC zeroL) 27)) #[.int .i64 0] 30
  rw [World.size_alloc] at h
  rw [World.frozen?_alloc_past _ _ _ (by simp)]
  exact h
set_option maxRecDepth 100000 in
set_option maxHeartbeats 2000000 in
theorem dec14_no (ao : Option Addr) (n c : Nat) (ns : List Int) (w : World) (hb : Byt w ao n c ns) (hk : ok ns = false) :
    Calls Try.prog 14 #[.slice ao n c] w fun e w' => e = .returned (.tuple #[.agg (LC zeroL), .int .i64 2]) ∧ Below w.heap.size w w' := by
  have R0 := W3_rd ao n c ns w hb
  have A0 := W3_box ao n c w
  have c0 := W3_cell ao n c w
  have e0 := W3_free ao n c w
  have L0 : w.heap.size + 2 < ((((w.alloc (.cells (LC zeroL) 27)).alloc (.cells #[.int .i64 0] 30)).alloc (.cells #[.slice ao n c] 51))).heap.size := by simp
  have W0 : Below w.heap.size w (((w.alloc (.cells (LC zeroL) 27)).alloc (.cells #[.int .i64 0] 30)).alloc (.cells #[.slice ao n c] 51)) := by go_grown
  have HC := hide c0
  have HE := hide e0
  clear hb c0 e0
  have hmf : ∀ (fn : Fn) (first cap : Array Value) (w : World), (Instr.makeFunc fn first cap).run Try.prog w = .ok (.func fn first cap) w := fun _ _ _ _ => rfl
  go_enter_defers Try.func14, Try.ntmps14
  go_wp2_with fail
  refine (lacp30 (w.heap.size + 2) (w.heap.size + 3) ns _ R0).mono ?_
  rintro e w1 ⟨⟨hk2, -⟩ | ⟨-, rfl⟩, G1⟩
  · rw [hk] at hk2; cases hk2
  have A1 := A0.kept (by omega) G1
  have c1 := G1.cell HC.out (by simp)
  have e1 : w1.frozen? ⟨w.heap.size + 1, 0, none⟩ = false := (World.frozen?_of_block (a := ⟨w.heap.size + 1, 0, none⟩) (G1.block (w.heap.size + 1) (by omega) (by simp))).trans HE.out
  have W1 := below_grown W0 G1 (by omega) (by omega)
  have L1 : w.heap.size + 2 < w1.heap.size := by have := G1.size; omega
  clear R0 A0 W0 G1 HC HE L0
  go_wp2
  refine leaves_cons (f := 29) (args := #[.pointer (some ⟨w.heap.size, 0, none⟩), .pointer (some ⟨w.heap.size + 1, 0, none⟩)]) (by simp) (by simp [go_sem]) ?_
  refine (catch_panicking w.heap.size 0 zeroL _ A1 c1 e1).mono ?_
  rintro e u' w2 ⟨rfl, rfl, A2, c2, B2⟩
  exact ⟨_, res_lacp_cell rfl rfl rfl A2 c2, rfl, W1.trans B2⟩
set_option maxRecDepth 100000 in
set_option maxHeartbeats 2000000 in
theorem dec14_yes (ao : Option Addr) (n c : Nat) (ns : List Int) (w : World) (hb : Byt w ao n c ns) (hk : ok ns = true) :
    Calls Try.prog 14 #[.slice ao n c] w fun e w' => e = .returned (.tuple #[.agg (LC (lac ns)), .int .i64 0]) ∧ Below w.heap.size w w' := by
  have R0 := W3_rd ao n c ns w hb
  have A0 := W3_box ao n c w
  have c0 := W3_cell ao n c w
  have e0 := W3_free ao n c w
  have L0 : w.heap.size + 2 < ((((w.alloc (.cells (LC zeroL) 27)).alloc (.cells #[.int .i64 0] 30)).alloc (.cells #[.slice ao n c] 51))).heap.size := by simp
  have W0 : Below w.heap.size w (((w.alloc (.cells (LC zeroL) 27)).alloc (.cells #[.int .i64 0] 30)).alloc (.cells #[.slice ao n c] 51)) := by go_grown
  have HC := hide c0
  have HE := hide e0
  clear hb c0 e0
  have hmf : ∀ (fn : Fn) (first cap : Array Value) (w : World), (Instr.makeFunc fn first cap).run Try.prog w = .ok (.func fn first cap) w := fun _ _ _ _ => rfl
  go_enter_defers Try.func14, Try.ntmps14
  go_wp2_with fail
  refine (lacp30 (w.heap.size + 2) (w.heap.size + 3) ns _ R0).mono ?_
  rintro e w1 ⟨⟨-, rfl⟩ | ⟨hk2, -⟩, G1⟩
  rotate_left
  · rw [hk] at hk2; cases hk2
  have A1 := A0.kept (by omega) G1
  have c1 := G1.cell HC.out (by simp)
  have e1 : w1.frozen? ⟨w.heap.size + 1, 0, none⟩ = false := (World.frozen?_of_block (a := ⟨w.heap.size + 1, 0, none⟩) (G1.block (w.heap.size + 1) (by omega) (by simp))).trans HE.out
  have W1 := below_grown W0 G1 (by omega) (by omega)
  have L1 : w.heap.size + 2 < w1.heap.size := by have := G1.size; omega
  clear R0 A0 W0 G1 HC HE L0
  have tk1 : True := trivial
  clear hk
  go_wp2_with (have _t := tk1; refine wpl_putL (lac ns) zeroL (.tmp 2) (.tmp 8) rfl A1 ?_ ?_ ?_ ?_; rfl; rfl; rfl; clear tk1; intro w2 A2 G2; have e2 := G2.cell c1 (by simp); have f2 : w2.frozen? ⟨w.heap.size + 1, 0, none⟩ = false := (World.frozen?_of_block (a := ⟨w.heap.size + 1, 0, none⟩) (G2.block (w.heap.size + 1) (by omega) (by simp))).trans e1)
  have W2 := below_grown W1 G2 (Nat.le_refl _) (by omega)
  have G3 := setCell_grown w2 (w.heap.size + 1) 0 (.int .i64 0)
  have A3 := A2.kept (by omega) G3
  have e3 := World.cell?_setCell_same w2 ⟨w.heap.size + 1, 0, none⟩ (.int .i64 0) e2
  have W3 := below_grown W2 G3 (by omega) (Nat.le_trans (by omega) G2.size)
  refine leaves_cons (f := 29) (args := #[.pointer (some ⟨w.heap.size, 0, none⟩), .pointer (some ⟨w.heap.size + 1, 0, none⟩)]) (by simp) (by simp [go_sem]) ?_
  refine (catch_idle w.heap.size _).mono ?_
  rintro e u' w6 ⟨rfl, rfl, rfl⟩
  exact ⟨_, res_lacp_cell rfl rfl rfl A3 e3, rfl, W3⟩
end
theorem decode14 (ao : Option Addr) (n c : Nat) (ns : List Int) (w : World) (hb : Byt w ao n c ns) :
    Calls Try.prog 14 #[.slice ao n c] w fun e w' => e = .returned (.tuple #[.agg (LC (dl ns)), .int .i64 (dc ns)]) ∧ Below w.heap.size w w' := by
  cases hk : ok ns
  · rw [dl_no hk, dc_no hk]
    exact dec14_no ao n c ns w hb hk
  · rw [dl_yes hk, dc_yes hk]
    exact dec14_yes ao n c ns w hb hk
end Go.Proofs.Ytaehhhknpbbmkaa
