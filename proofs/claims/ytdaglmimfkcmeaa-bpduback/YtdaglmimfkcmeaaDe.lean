/- Contract of the deferred function, and of Decode, as the program has it. -/
import Derived.Test.YtdaglmimfkcmeaaSd
import Derived.Recover
namespace Go.Proofs.Ytdaglmimfkcmeaa
open Go.RowKit

theorem sRd_tot (l : List Int) (z : Int) (k : Nat) : ∃ r, sRd l z k = some r := by
  unfold sRd
  split
  · exact ⟨_, rfl⟩
  · exact ⟨_, rfl⟩
theorem bnd_tot {σ α β : Type} {r : Rs σ α} {f : σ → α → Rs σ β} (h : ∃ q, r = some q) (k : ∀ s a, ∃ q, f s a = some q) : ∃ q, bnd r f = some q := by
  obtain ⟨q, rfl⟩ := h
  match q with
  | none => exact ⟨none, rfl⟩
  | some (s, a) => exact k s a
theorem mst_tot {σ α : Type} (b : Bool) {r : Rs σ α} (h : ∃ q, r = some q) : ∃ q, mst b r = some q := by
  cases b
  · exact ⟨none, rfl⟩
  · exact h
theorem wId_tot (l : List Int) (x : Idn) : ∃ r, wId sRd l x = some r :=
  bnd_tot (sRd_tot _ _ _) fun _ _ => bnd_tot (sRd_tot _ _ _) fun _ _ => ⟨_, rfl⟩
theorem wHead_tot (l : List Int) (k : Int) : ∃ r, wHead sRd l k = some r :=
  bnd_tot (sRd_tot _ _ _) fun _ _ => mst_tot _ (bnd_tot (sRd_tot _ _ _) fun _ _ => bnd_tot (sRd_tot _ _ _) fun _ _ => mst_tot _ ⟨_, rfl⟩)
theorem wRest_tot (l : List Int) (p : Bpd) : ∃ r, wRest sRd l p = some r :=
  bnd_tot (sRd_tot _ _ _) fun _ _ => bnd_tot (wId_tot _ _) fun _ _ => bnd_tot (sRd_tot _ _ _) fun _ _ => bnd_tot (wId_tot _ _) fun _ _ => bnd_tot (sRd_tot _ _ _) fun _ _ => bnd_tot (sRd_tot _ _ _) fun _ _ => bnd_tot (sRd_tot _ _ _) fun _ _ => bnd_tot (sRd_tot _ _ _) fun _ _ => bnd_tot (sRd_tot _ _ _) fun _ _ => by
    split
    · exact bnd_tot (sRd_tot _ _ _) fun _ _ => mst_tot _ ⟨_, rfl⟩
    · exact ⟨_, rfl⟩
theorem wRd_tot (l : List Int) : ∃ r, wAll sRd l zeroB = some r :=
  bnd_tot (wHead_tot _ _) fun _ _ => by
    split
    · exact ⟨_, rfl⟩
    · exact wRest_tot _ _
theorem res_bpdu_err {fn : Func} {p u : Tmp} (h : fn.results = #[.cell p 27, .cell u 30]) {tmps : Array Value} {w : World} {k j : Nat} {l : Bpd} {x : Int} (hp : tmps.getD p undef = .pointer (some ⟨k, 0, none⟩)) (hu : tmps.getD u undef = .pointer (some ⟨j, 0, none⟩)) (hA : Box w k (bcl l)) (he : w.cell? ⟨j, 0, none⟩ = some (.int .i64 x)) :
    (results fn tmps).run Try.prog w = .ok (.tuple #[.agg (BC l), .int .i64 x]) w := by
  have hl := run_loadVar_mid (P := Try.prog) w k 0 27 _ _ hA.at_ Try.underlying27 rfl Try.size27
  have hp' : tmps[p]?.getD undef = .pointer (some ⟨k, 0, none⟩) := by simpa using hp
  have hu' : tmps[u]?.getD undef = .pointer (some ⟨j, 0, none⟩) := by simpa using hu
  have h2 : (loadVar 30 ⟨j, 0, none⟩).run Try.prog w = .ok (.int .i64 x) w := by simp [go_sem, he]
  simp only [results, h]
  simp [hp', hu', asAddr, hl, h2, BC]
section
attribute [local go_sem] ZB
set_option maxRecDepth 100000 in
set_option maxHeartbeats 1000000 in
theorem catch_panicking (B : Nat) (e0 : Int) (l : Bpd) (w : World) (T : Box w B (bcl l)) (ce : w.cell? ⟨B + 1, 0, none⟩ = some (.int .i64 e0)) (fe : w.frozen? ⟨B + 1, 0, none⟩ = false) :
    CallsD Try.prog 25 #[.pointer (some ⟨B, 0, none⟩), .pointer (some ⟨B + 1, 0, none⟩)] (.panicking pan) w fun e u' w' =>
      e = .returned (.tuple #[]) ∧ u' = .panicking [{ v := .iface 30 (.int .i64 2), recovered := true }] ∧ Box w' B (bcl zeroB) ∧ w'.cell? ⟨B + 1, 0, none⟩ = some (.int .i64 2) ∧ Below B w w' := by
  refine callsD_of_wpS Try.func25 rfl fun c₀ cs hu => ?_
  unfold pan at hu
  apply wpS_seq
  apply wpS_region
  simp [wpOpsS, go_sem, recoverD, hu, Try.ntmps25, Exit.thenS]
  refine wpS_cond (t := true) (by simp [Act.eval, Array.replicate]) ?_
  simp only [if_true]
  refine wpS_of_wp ?_
  have tk1 : True := trivial
  show Code.wp Try.prog _ _ { tmps := #[.pointer (some ⟨B, 0, none⟩), .pointer (some ⟨B + 1, 0, none⟩), .iface 30 (.int .i64 2), .bool true, undef], defers := [] } w
  go_wp2_with (have _t := tk1; refine wpl_putB zeroB l (.tmp 0) (.tmp 4) rfl T ?_ ?_ ?_ ?_; rfl; rfl; rfl; clear tk1; intro w2 A2 G2; have ce2 := G2.cell ce (by simp); have fe2 : w2.frozen? ⟨B + 1, 0, none⟩ = false := (World.frozen?_of_block (a := ⟨B + 1, 0, none⟩) (G2.block (B + 1) (World.block_lt_of_cell? w _ ce) (by simp))).trans fe)
  have hBl : B < w.heap.size := T.lt
  have G3 := setCell_grown w2 (B + 1) 0 (.int .i64 2)
  have A3 := A2.kept (by omega) G3
  have c3 := World.cell?_setCell_same w2 ⟨B + 1, 0, none⟩ (.int .i64 2) ce2
  have B2 : Below B w w2 := below_grown (Below.refl _ _) G2 (Nat.le_refl _) (by omega)
  have B3 : Below B w _ := below_grown B2 G3 (by omega) (Nat.le_trans (Nat.le_of_lt hBl) G2.size)
  simp [bodyPostS, results, Try.results25]
  exact ⟨A3, c3, B3⟩
set_option maxRecDepth 100000 in
set_option maxHeartbeats 1000000 in
theorem catch_idle (B : Nat) (w : World) :
    CallsD Try.prog 25 #[.pointer (some ⟨B, 0, none⟩), .pointer (some ⟨B + 1, 0, none⟩)] .returning w fun e u' w' => e = .returned (.tuple #[]) ∧ u' = .returning ∧ w' = w := by
  refine callsD_of_wpS Try.func25 rfl fun c₀ cs hu => ?_
  apply wpS_seq
  apply wpS_region
  simp [wpOpsS, go_sem, recoverD, hu, Try.ntmps25, Exit.thenS]
  refine wpS_cond (t := false) (by simp [Act.eval, Array.replicate]) ?_
  simp only [Bool.false_eq_true, if_false]
  refine wpS_of_wp (wp_skip ?_)
  cases c₀
  simp_all [bodyPostS, results, Try.results25]
theorem new_cell (w : World) (v : Value) (e : TypeId) : (w.alloc (.cells #[v] e)).cell? ⟨w.heap.size, 0, none⟩ = some v := by simp
theorem new_free (w : World) (cs : Array Value) (e : TypeId) : (w.alloc (.cells cs e)).frozen? ⟨w.heap.size, 0, none⟩ = false := World.frozen?_alloc_at _ _ _ _ rfl
theorem W3_rd (ao : Option Addr) (n c : Nat) (ns : List Int) (w : World) (h : Byt w ao n c ns) : RdE (w.heap.size + 2) (w.heap.size + 3) ns (((w.alloc (.cells (BC zeroB) 27)).alloc (.cells #[.int .i64 0] 30)).alloc (.cells #[.slice ao n c] 48)) := by
  have e1 := new_cell ((w.alloc (.cells (BC zeroB) 27)).alloc (.cells #[.int .i64 0] 30)) (.slice ao n c) 48
  have e2 := new_free ((w.alloc (.cells (BC zeroB) 27)).alloc (.cells #[.int .i64 0] 30)) #[.slice ao n c] 48
  rw [World.size_alloc, World.size_alloc] at e1 e2
  exact ⟨ao, n, c, e1, e2, ((h.alloc _).alloc _).alloc _, fun b o e hp => by have := h.lt b o e hp; omega, by omega, by simp⟩
theorem W3_box (ao : Option Addr) (n c : Nat) (w : World) : Box (((w.alloc (.cells (BC zeroB) 27)).alloc (.cells #[.int .i64 0] 30)).alloc (.cells #[.slice ao n c] 48)) w.heap.size (bcl zeroB) := ((Box.new w (bcl zeroB) 27).alloc _).alloc _
theorem W3_cell (ao : Option Addr) (n c : Nat) (w : World) : World.cell? (((w.alloc (.cells (BC zeroB) 27)).alloc (.cells #[.int .i64 0] 30)).alloc (.cells #[.slice ao n c] 48)) ⟨w.heap.size + 1, 0, none⟩ = some (.int .i64 0) := by
  have h := new_cell (w.alloc (.cells (BC zeroB) 27)) (.int .i64 0) 30
  rw [World.size_alloc] at h
  rw [World.cell?_alloc_past _ _ _ (by simp)]
  exact h
theorem W3_free (ao : Option Addr) (n c : Nat) (w : World) : World.frozen? (((w.alloc (.cells (BC zeroB) 27)).alloc (.cells #[.int .i64 0] 30)).alloc (.cells #[.slice ao n c] 48)) ⟨w.heap.size + 1, 0, none⟩ = false := by
  have h := new_free (w.alloc (.cells (BC zeroB) 27)) #[.int .i64 0] 30
  rw [World.size_alloc] at h
  rw [World.frozen?_alloc_past _ _ _ (by simp)]
  exact h
set_option maxRecDepth 100000 in
set_option maxHeartbeats 2000000 in
theorem dec14_none (ao : Option Addr) (n c : Nat) (ns : List Int) (w : World) (hb : Byt w ao n c ns) (hk : wAll sRd ns zeroB = some none) :
    Calls Try.prog 14 #[.slice ao n c] w fun e w' => e = .returned (.tuple #[.agg (BC zeroB), .int .i64 2]) ∧ Below w.heap.size w w' := by
  have R0 := W3_rd ao n c ns w hb
  have A0 := W3_box ao n c w
  have c0 := W3_cell ao n c w
  have e0 := W3_free ao n c w
  have RN := hide hb.rng
  have L0 : w.heap.size + 2 < ((((w.alloc (.cells (BC zeroB) 27)).alloc (.cells #[.int .i64 0] 30)).alloc (.cells #[.slice ao n c] 48))).heap.size := by simp
  have W0 : Below w.heap.size w (((w.alloc (.cells (BC zeroB) 27)).alloc (.cells #[.int .i64 0] 30)).alloc (.cells #[.slice ao n c] 48)) := by go_grown
  have HC := hide c0
  have HE := hide e0
  have HK := hide hk
  clear hb c0 e0 hk
  have hmf : ∀ (fn : Fn) (first cap : Array Value) (w : World), (Instr.makeFunc fn first cap).run Try.prog w = .ok (.func fn first cap) w := fun _ _ _ _ => rfl
  go_enter_defers Try.func14, Try.ntmps14
  go_wp2_with fail
  refine (walk18 (stepRd (w.heap.size + 2)) ns zeroB ⟨zeroI_B, zeroI_B⟩ _ _ ⟨R0, RN.out⟩ HK.out).mono ?_
  rintro e w1 ⟨M1, ⟨-, rfl⟩ | ⟨s', m, h, -, -⟩⟩
  rotate_left
  · cases h
  have A1 : Box w1 w.heap.size (bcl zeroB) := by
    have hb : w1.heap[w.heap.size]? = _ := M1.block w.heap.size A0.lt (Or.inl (by omega))
    exact ⟨Nat.lt_of_lt_of_le A0.lt M1.size, fun j v hj => by rw [World.cell?_of_block (a := ⟨w.heap.size, 0 + j, none⟩) hb]; exact A0.at_ j v hj, fun j hj => ⟨by rw [World.cell?_of_block (a := ⟨w.heap.size, 0 + j, none⟩) hb]; exact (A0.th j hj).1, by rw [World.frozen?_of_block (a := ⟨w.heap.size, 0 + j, none⟩) hb]; exact (A0.th j hj).2⟩⟩
  have hb1 : w1.heap[w.heap.size + 1]? = _ := M1.block (w.heap.size + 1) (by omega) (Or.inl (by omega))
  have c1 : w1.cell? ⟨w.heap.size + 1, 0, none⟩ = some (.int .i64 0) := (World.cell?_of_block (a := ⟨w.heap.size + 1, 0, none⟩) hb1).trans HC.out
  have e1 : w1.frozen? ⟨w.heap.size + 1, 0, none⟩ = false := (World.frozen?_of_block (a := ⟨w.heap.size + 1, 0, none⟩) hb1).trans HE.out
  have W1 := W0.trans ((M1.below (Nat.le_of_lt L0)).mono (Nat.le_add_right _ _))
  have L1 : w.heap.size + 2 < w1.heap.size := Nat.lt_of_lt_of_le L0 M1.size
  clear R0 A0 W0 M1 HC HE L0 hb1
  go_wp2
  refine leaves_cons (f := 25) (args := #[.pointer (some ⟨w.heap.size, 0, none⟩), .pointer (some ⟨w.heap.size + 1, 0, none⟩)]) (by simp) (by simp [go_sem]) ?_
  refine (catch_panicking w.heap.size 0 zeroB _ A1 c1 e1).mono ?_
  rintro e u' w2 ⟨rfl, rfl, A2, c2, B2⟩
  exact ⟨_, res_bpdu_err rfl rfl rfl A2 c2, rfl, W1.trans B2⟩
set_option maxRecDepth 100000 in
set_option maxHeartbeats 2000000 in
theorem dec14_more (ao : Option Addr) (n c : Nat) (ns : List Int) (w : World) (rest : List Int) (p : Bpd) (hb : Byt w ao n c ns) (hk : wAll sRd ns zeroB = some (some (rest, p))) (hm : ¬ rest = []) :
    Calls Try.prog 14 #[.slice ao n c] w fun e w' => e = .returned (.tuple #[.agg (BC zeroB), .int .i64 2]) ∧ Below w.heap.size w w' := by
  have R0 := W3_rd ao n c ns w hb
  have A0 := W3_box ao n c w
  have c0 := W3_cell ao n c w
  have e0 := W3_free ao n c w
  have RN := hide hb.rng
  have L0 : w.heap.size + 2 < ((((w.alloc (.cells (BC zeroB) 27)).alloc (.cells #[.int .i64 0] 30)).alloc (.cells #[.slice ao n c] 48))).heap.size := by simp
  have W0 : Below w.heap.size w (((w.alloc (.cells (BC zeroB) 27)).alloc (.cells #[.int .i64 0] 30)).alloc (.cells #[.slice ao n c] 48)) := by go_grown
  have HC := hide c0
  have HE := hide e0
  have HK := hide hk
  clear hb c0 e0 hk
  have hmf : ∀ (fn : Fn) (first cap : Array Value) (w : World), (Instr.makeFunc fn first cap).run Try.prog w = .ok (.func fn first cap) w := fun _ _ _ _ => rfl
  go_enter_defers Try.func14, Try.ntmps14
  go_wp2_with fail
  refine (walk18 (stepRd (w.heap.size + 2)) ns zeroB ⟨zeroI_B, zeroI_B⟩ _ _ ⟨R0, RN.out⟩ HK.out).mono ?_
  rintro e w1 ⟨M1, ⟨h, -⟩ | ⟨s', m, h, rfl, I1⟩⟩
  · cases h
  injection h with h; injection h with h1 h2
  subst h1 h2
  have A1 : Box w1 w.heap.size (bcl zeroB) := by
    have hb : w1.heap[w.heap.size]? = _ := M1.block w.heap.size A0.lt (Or.inl (by omega))
    exact ⟨Nat.lt_of_lt_of_le A0.lt M1.size, fun j v hj => by rw [World.cell?_of_block (a := ⟨w.heap.size, 0 + j, none⟩) hb]; exact A0.at_ j v hj, fun j hj => ⟨by rw [World.cell?_of_block (a := ⟨w.heap.size, 0 + j, none⟩) hb]; exact (A0.th j hj).1, by rw [World.frozen?_of_block (a := ⟨w.heap.size, 0 + j, none⟩) hb]; exact (A0.th j hj).2⟩⟩
  have hb1 : w1.heap[w.heap.size + 1]? = _ := M1.block (w.heap.size + 1) (by omega) (Or.inl (by omega))
  have c1 : w1.cell? ⟨w.heap.size + 1, 0, none⟩ = some (.int .i64 0) := (World.cell?_of_block (a := ⟨w.heap.size + 1, 0, none⟩) hb1).trans HC.out
  have e1 : w1.frozen? ⟨w.heap.size + 1, 0, none⟩ = false := (World.frozen?_of_block (a := ⟨w.heap.size + 1, 0, none⟩) hb1).trans HE.out
  have W1 := W0.trans ((M1.below (Nat.le_of_lt L0)).mono (Nat.le_add_right _ _))
  have L1 : w.heap.size + 2 < w1.heap.size := Nat.lt_of_lt_of_le L0 M1.size
  clear R0 A0 W0 M1 HC HE L0 hb1
  obtain ⟨⟨ao', n', c', R⟩, -⟩ := I1
  have d1 := R.at_
  have HN := hide R.byt.len
  clear R
  have tk1 : True := trivial
  go_wp2_with (have _t := tk1; refine wpl_putB p zeroB (.tmp 2) (.tmp 10) rfl A1 ?_ ?_ ?_ ?_; rfl; rfl; rfl; clear tk1; intro w2 A2 G2)
  have d2 := G2.cell d1 (by simp)
  have c2 := G2.cell c1 (by simp)
  have e2 : w2.frozen? ⟨w.heap.size + 1, 0, none⟩ = false := (World.frozen?_of_block (a := ⟨w.heap.size + 1, 0, none⟩) (G2.block (w.heap.size + 1) (by omega) (by simp))).trans e1
  have W2 := below_grown W1 G2 (Nat.le_refl _) (by omega)
  have L2 : w.heap.size + 2 < w2.heap.size := Nat.lt_of_lt_of_le L1 G2.size
  clear A1 c1 e1 W1 L1 G2 d1
  refine (end28 (w.heap.size + 2) ao' n' c' rest w2 d2 HN.out).mono ?_
  rintro e u ⟨⟨h1, -⟩ | ⟨-, rfl⟩, rfl⟩
  · exact absurd h1 hm
  go_wp2
  refine leaves_cons (f := 25) (args := #[.pointer (some ⟨w.heap.size, 0, none⟩), .pointer (some ⟨w.heap.size + 1, 0, none⟩)]) (by simp) (by simp [go_sem]) ?_
  refine (catch_panicking w.heap.size 0 p _ A2 c2 e2).mono ?_
  rintro e u' w3 ⟨rfl, rfl, A3, c3, B3⟩
  exact ⟨_, res_bpdu_err rfl rfl rfl A3 c3, rfl, W2.trans B3⟩
set_option maxRecDepth 100000 in
set_option maxHeartbeats 2000000 in
theorem dec14_yes' (ao : Option Addr) (n c : Nat) (ns : List Int) (w : World) (rest : List Int) (p : Bpd) (hb : Byt w ao n c ns) (hk : wAll sRd ns zeroB = some (some (rest, p))) (hm : rest = []) :
    Calls Try.prog 14 #[.slice ao n c] w fun e w' => e = .returned (.tuple #[.agg (BC p), .int .i64 0]) ∧ Below w.heap.size w w' := by
  have R0 := W3_rd ao n c ns w hb
  have A0 := W3_box ao n c w
  have c0 := W3_cell ao n c w
  have e0 := W3_free ao n c w
  have RN := hide hb.rng
  have L0 : w.heap.size + 2 < ((((w.alloc (.cells (BC zeroB) 27)).alloc (.cells #[.int .i64 0] 30)).alloc (.cells #[.slice ao n c] 48))).heap.size := by simp
  have W0 : Below w.heap.size w (((w.alloc (.cells (BC zeroB) 27)).alloc (.cells #[.int .i64 0] 30)).alloc (.cells #[.slice ao n c] 48)) := by go_grown
  have HC := hide c0
  have HE := hide e0
  have HK := hide hk
  clear hb c0 e0 hk
  have hmf : ∀ (fn : Fn) (first cap : Array Value) (w : World), (Instr.makeFunc fn first cap).run Try.prog w = .ok (.func fn first cap) w := fun _ _ _ _ => rfl
  go_enter_defers Try.func14, Try.ntmps14
  go_wp2_with fail
  refine (walk18 (stepRd (w.heap.size + 2)) ns zeroB ⟨zeroI_B, zeroI_B⟩ _ _ ⟨R0, RN.out⟩ HK.out).mono ?_
  rintro e w1 ⟨M1, ⟨h, -⟩ | ⟨s', m, h, rfl, I1⟩⟩
  · cases h
  injection h with h; injection h with h1 h2
  subst h1 h2
  have A1 : Box w1 w.heap.size (bcl zeroB) := by
    have hb : w1.heap[w.heap.size]? = _ := M1.block w.heap.size A0.lt (Or.inl (by omega))
    exact ⟨Nat.lt_of_lt_of_le A0.lt M1.size, fun j v hj => by rw [World.cell?_of_block (a := ⟨w.heap.size, 0 + j, none⟩) hb]; exact A0.at_ j v hj, fun j hj => ⟨by rw [World.cell?_of_block (a := ⟨w.heap.size, 0 + j, none⟩) hb]; exact (A0.th j hj).1, by rw [World.frozen?_of_block (a := ⟨w.heap.size, 0 + j, none⟩) hb]; exact (A0.th j hj).2⟩⟩
  have hb1 : w1.heap[w.heap.size + 1]? = _ := M1.block (w.heap.size + 1) (by omega) (Or.inl (by omega))
  have c1 : w1.cell? ⟨w.heap.size + 1, 0, none⟩ = some (.int .i64 0) := (World.cell?_of_block (a := ⟨w.heap.size + 1, 0, none⟩) hb1).trans HC.out
  have e1 : w1.frozen? ⟨w.heap.size + 1, 0, none⟩ = false := (World.frozen?_of_block (a := ⟨w.heap.size + 1, 0, none⟩) hb1).trans HE.out
  have W1 := W0.trans ((M1.below (Nat.le_of_lt L0)).mono (Nat.le_add_right _ _))
  have L1 : w.heap.size + 2 < w1.heap.size := Nat.lt_of_lt_of_le L0 M1.size
  clear R0 A0 W0 M1 HC HE L0 hb1
  obtain ⟨⟨ao', n', c', R⟩, -⟩ := I1
  have d1 := R.at_
  have HN := hide R.byt.len
  clear R
  have tk1 : True := trivial
  go_wp2_with (have _t := tk1; refine wpl_putB p zeroB (.tmp 2) (.tmp 10) rfl A1 ?_ ?_ ?_ ?_; rfl; rfl; rfl; clear tk1; intro w2 A2 G2)
  have d2 := G2.cell d1 (by simp)
  have c2 := G2.cell c1 (by simp)
  have e2 : w2.frozen? ⟨w.heap.size + 1, 0, none⟩ = false := (World.frozen?_of_block (a := ⟨w.heap.size + 1, 0, none⟩) (G2.block (w.heap.size + 1) (by omega) (by simp))).trans e1
  have W2 := below_grown W1 G2 (Nat.le_refl _) (by omega)
  have L2 : w.heap.size + 2 < w2.heap.size := Nat.lt_of_lt_of_le L1 G2.size
  clear A1 c1 e1 W1 L1 G2 d1
  refine (end28 (w.heap.size + 2) ao' n' c' rest w2 d2 HN.out).mono ?_
  rintro e u ⟨⟨-, rfl⟩ | ⟨h1, -⟩, rfl⟩
  rotate_left
  · exact absurd hm h1
  clear hm
  have tk1 : True := trivial
  have tk2 : True := trivial
  go_wp2_with (first | (have _t := tk1; refine wpl_bpdu (.tmp 2) rfl A2 ?_ ?_ ?_; rfl; rfl; clear tk1) | (have _t := tk2; refine wpl_putB p p (.tmp 2) (.tmp 12) rfl A2 ?_ ?_ ?_ ?_; rfl; rfl; rfl; clear tk2; intro w3 A3 G3; have c3 := G3.cell c2 (by simp); have e3 : w3.frozen? ⟨w.heap.size + 1, 0, none⟩ = false := (World.frozen?_of_block (a := ⟨w.heap.size + 1, 0, none⟩) (G3.block (w.heap.size + 1) (by omega) (by simp))).trans e2))
  have W3 := below_grown W2 G3 (Nat.le_refl _) (by omega)
  have G4 := setCell_grown w3 (w.heap.size + 1) 0 (.int .i64 0)
  have A4 := A3.kept (by omega) G4
  have e4 := World.cell?_setCell_same w3 ⟨w.heap.size + 1, 0, none⟩ (.int .i64 0) c3
  have W4 := below_grown W3 G4 (by omega) (Nat.le_trans (by omega) G3.size)
  refine leaves_cons (f := 25) (args := #[.pointer (some ⟨w.heap.size, 0, none⟩), .pointer (some ⟨w.heap.size + 1, 0, none⟩)]) (by simp) (by simp [go_sem]) ?_
  refine (catch_idle w.heap.size _).mono ?_
  rintro e u' w6 ⟨rfl, rfl, rfl⟩
  exact ⟨_, res_bpdu_err rfl rfl rfl A4 e4, rfl, W4⟩
end
theorem dec14_no (ao : Option Addr) (n c : Nat) (ns : List Int) (w : World) (hb : Byt w ao n c ns) (hk : ok ns = false) :
    Calls Try.prog 14 #[.slice ao n c] w fun e w' => e = .returned (.tuple #[.agg (BC zeroB), .int .i64 2]) ∧ Below w.heap.size w w' := by
  obtain ⟨r, h⟩ := wRd_tot ns
  match r, h with
  | none, h => exact dec14_none ao n c ns w hb h
  | some (rest, p), h =>
    refine dec14_more ao n c ns w rest p hb h (fun e => ?_)
    rw [ok_of h] at hk
    simp [e] at hk
theorem dec14_yes (ao : Option Addr) (n c : Nat) (ns : List Int) (w : World) (hb : Byt w ao n c ns) (hk : ok ns = true) :
    Calls Try.prog 14 #[.slice ao n c] w fun e w' => e = .returned (.tuple #[.agg (BC (bpd ns)), .int .i64 0]) ∧ Below w.heap.size w w' := by
  obtain ⟨r, h⟩ := wRd_tot ns
  match r, h with
  | none, h => rw [ok_none h] at hk; cases hk
  | some (rest, p), h =>
    rw [bpd_of h]
    rw [ok_of h] at hk
    exact dec14_yes' ao n c ns w rest p hb h (of_decide_eq_true hk)
theorem decode14 (ao : Option Addr) (n c : Nat) (ns : List Int) (w : World) (hb : Byt w ao n c ns) :
    Calls Try.prog 14 #[.slice ao n c] w fun e w' => e = .returned (.tuple #[.agg (BC (dl ns)), .int .i64 (dc ns)]) ∧ Below w.heap.size w w' := by
  cases hk : ok ns
  · rw [dl_no hk, dc_no hk]
    exact dec14_no ao n c ns w hb hk
  · rw [dl_yes hk, dc_yes hk]
    exact dec14_yes ao n c ns w hb hk
end Go.Proofs.Ytdaglmimfkcmeaa
