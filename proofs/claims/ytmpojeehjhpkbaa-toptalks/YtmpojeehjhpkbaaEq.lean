/- Contract of Decode, as the program has it. -/
import Derived.Test.YtmpojeehjhpkbaaEp
import Derived.Test.YtmpojeehjhpkbaaEg
namespace Go.Proofs.Ytmpojeehjhpkbaa
open Go.RowKit

theorem new_cell (w : World) (v : Value) (e : TypeId) : (w.alloc (.cells #[v] e)).cell? ⟨w.heap.size, 0, none⟩ = some v := by simp
theorem new_free (w : World) (cs : Array Value) (e : TypeId) (h : 0 < cs.size) : (w.alloc (.cells cs e)).frozen? ⟨w.heap.size, 0, none⟩ = false := (there_new w cs e 0 h).2
theorem W3_rd (ao : Option Addr) (n c : Nat) (ns : List Int) (w : World) (h : Byt w ao n c ns) : Rd (((w.alloc (.cells #[.int .u8 0, .int .u8 0, .int .u8 0, .int .u8 0, .int .u8 0, .int .u8 0, .int .u8 0, .int .u8 0, .int .u8 0, .int .u8 0, .int .u8 0, .int .u8 0, .bool false, .int .i64 0, .int .i64 0, .int .i64 0, .slice none 0 0] 26)).alloc (.cells #[.int .i64 0] 40)).alloc (.cells #[.slice ao n c] 60)) (w.heap.size + 2) ao n c ns := by
  have e1 := new_cell ((w.alloc (.cells #[.int .u8 0, .int .u8 0, .int .u8 0, .int .u8 0, .int .u8 0, .int .u8 0, .int .u8 0, .int .u8 0, .int .u8 0, .int .u8 0, .int .u8 0, .int .u8 0, .bool false, .int .i64 0, .int .i64 0, .int .i64 0, .slice none 0 0] 26)).alloc (.cells #[.int .i64 0] 40)) (.slice ao n c) 60
  have e2 := new_free ((w.alloc (.cells #[.int .u8 0, .int .u8 0, .int .u8 0, .int .u8 0, .int .u8 0, .int .u8 0, .int .u8 0, .int .u8 0, .int .u8 0, .int .u8 0, .int .u8 0, .int .u8 0, .bool false, .int .i64 0, .int .i64 0, .int .i64 0, .slice none 0 0] 26)).alloc (.cells #[.int .i64 0] 40)) #[.slice ao n c] 60 (by simp)
  rw [World.size_alloc, World.size_alloc] at e1 e2
  exact ⟨e1, e2, ((h.alloc _).alloc _).alloc _, fun b o e hp => by have := h.lt b o e hp; omega⟩
theorem W3_there (ao : Option Addr) (n c : Nat) (w : World) : World.there (((w.alloc (.cells #[.int .u8 0, .int .u8 0, .int .u8 0, .int .u8 0, .int .u8 0, .int .u8 0, .int .u8 0, .int .u8 0, .int .u8 0, .int .u8 0, .int .u8 0, .int .u8 0, .bool false, .int .i64 0, .int .i64 0, .int .i64 0, .slice none 0 0] 26)).alloc (.cells #[.int .i64 0] 40)).alloc (.cells #[.slice ao n c] 60)) w.heap.size 0 17 :=
  World.there_alloc (World.there_alloc (there_new w #[.int .u8 0, .int .u8 0, .int .u8 0, .int .u8 0, .int .u8 0, .int .u8 0, .int .u8 0, .int .u8 0, .int .u8 0, .int .u8 0, .int .u8 0, .int .u8 0, .bool false, .int .i64 0, .int .i64 0, .int .i64 0, .slice none 0 0] 26) _) _
theorem W3_cell (ao : Option Addr) (n c : Nat) (w : World) : World.cell? (((w.alloc (.cells #[.int .u8 0, .int .u8 0, .int .u8 0, .int .u8 0, .int .u8 0, .int .u8 0, .int .u8 0, .int .u8 0, .int .u8 0, .int .u8 0, .int .u8 0, .int .u8 0, .bool false, .int .i64 0, .int .i64 0, .int .i64 0, .slice none 0 0] 26)).alloc (.cells #[.int .i64 0] 40)).alloc (.cells #[.slice ao n c] 60)) ⟨w.heap.size + 1, 0, none⟩ = some (.int .i64 0) := by
  have h := new_cell (w.alloc (.cells #[.int .u8 0, .int .u8 0, .int .u8 0, .int .u8 0, .int .u8 0, .int .u8 0, .int .u8 0, .int .u8 0, .int .u8 0, .int .u8 0, .int .u8 0, .int .u8 0, .bool false, .int .i64 0, .int .i64 0, .int .i64 0, .slice none 0 0] 26)) (.int .i64 0) 40
  rw [World.size_alloc] at h
  rw [World.cell?_alloc_past _ _ _ (by simp)]
  exact h
theorem W3_free (ao : Option Addr) (n c : Nat) (w : World) : World.frozen? (((w.alloc (.cells #[.int .u8 0, .int .u8 0, .int .u8 0, .int .u8 0, .int .u8 0, .int .u8 0, .int .u8 0, .int .u8 0, .int .u8 0, .int .u8 0, .int .u8 0, .int .u8 0, .bool false, .int .i64 0, .int .i64 0, .int .i64 0, .slice none 0 0] 26)).alloc (.cells #[.int .i64 0] 40)).alloc (.cells #[.slice ao n c] 60)) ⟨w.heap.size + 1, 0, none⟩ = false := by
  have h := new_free (w.alloc (.cells #[.int .u8 0, .int .u8 0, .int .u8 0, .int .u8 0, .int .u8 0, .int .u8 0, .int .u8 0, .int .u8 0, .int .u8 0, .int .u8 0, .int .u8 0, .int .u8 0, .bool false, .int .i64 0, .int .i64 0, .int .i64 0, .slice none 0 0] 26)) #[.int .i64 0] 40 (by simp)
  rw [World.size_alloc] at h
  rw [World.frozen?_alloc_past _ _ _ (by simp)]
  exact h
set_option maxRecDepth 100000 in
set_option maxHeartbeats 2000000 in
theorem dec14_none (ao : Option Addr) (n c : Nat) (ns : List Int) (w : World) (hb : Byt w ao n c ns) (hr : raw ns = none) :
    Calls Try.prog 18 #[.slice ao n c] w fun e w' => e = .returned (.tuple #[.agg #[.int .u8 zero.d0, .int .u8 zero.d1, .int .u8 zero.d2, .int .u8 zero.d3, .int .u8 zero.d4, .int .u8 zero.d5, .int .u8 zero.s0, .int .u8 zero.s1, .int .u8 zero.s2, .int .u8 zero.s3, .int .u8 zero.s4, .int .u8 zero.s5, .bool zero.tg, .int .i64 zero.vl, .int .i64 zero.pr, .int .i64 zero.ty, (.slice none 0 0)], .int .i64 2]) ∧ Below w.heap.size w w' := by
  have R0 := W3_rd ao n c ns w hb
  have T0 := W3_there ao n c w
  have c0 := W3_cell ao n c w
  have e0 := W3_free ao n c w
  have L0 : w.heap.size + 2 < ((((w.alloc (.cells #[.int .u8 0, .int .u8 0, .int .u8 0, .int .u8 0, .int .u8 0, .int .u8 0, .int .u8 0, .int .u8 0, .int .u8 0, .int .u8 0, .int .u8 0, .int .u8 0, .bool false, .int .i64 0, .int .i64 0, .int .i64 0, .slice none 0 0] 26)).alloc (.cells #[.int .i64 0] 40)).alloc (.cells #[.slice ao n c] 60))).heap.size := by simp
  have W0 : Below w.heap.size w (((w.alloc (.cells #[.int .u8 0, .int .u8 0, .int .u8 0, .int .u8 0, .int .u8 0, .int .u8 0, .int .u8 0, .int .u8 0, .int .u8 0, .int .u8 0, .int .u8 0, .int .u8 0, .bool false, .int .i64 0, .int .i64 0, .int .i64 0, .slice none 0 0] 26)).alloc (.cells #[.int .i64 0] 40)).alloc (.cells #[.slice ao n c] 60)) := by go_grown
  have HLT := hide hb.lt
  have HC := hide c0
  have HE := hide e0
  clear hb c0 e0
  have hmf : ∀ (fn : Fn) (first cap : Array Value) (w : World), (Instr.makeFunc fn first cap).run Try.prog w = .ok (.func fn first cap) w := fun _ _ _ _ => rfl
  go_enter_defers Try.func18, Try.ntmps18
  go_wp2_with fail
  refine (rf_none (w.heap.size + 2) ao n c ns _ R0 hr).mono ?_
  rintro e w1 ⟨rfl, G1⟩
  have T1 := there_kept T0 (by omega) (by omega) G1
  have c1 := G1.cell HC.out (by simp)
  have e1 : w1.frozen? ⟨w.heap.size + 1, 0, none⟩ = false := (World.frozen?_of_block (a := ⟨w.heap.size + 1, 0, none⟩) (G1.block (w.heap.size + 1) (by omega) (by simp))).trans HE.out
  have W1 := below_grown W0 G1 (by omega) (by omega)
  have L1 : w.heap.size ≤ w1.heap.size := by have := G1.size; omega
  clear R0 T0 W0 G1 HC HE L0
  go_wp2
  refine leaves_cons (f := 29) (args := #[.pointer (some ⟨w.heap.size, 0, none⟩), .pointer (some ⟨w.heap.size + 1, 0, none⟩)]) (by simp) (by simp [go_sem]) ?_
  refine (catch_panicking w.heap.size 0 _ T1 c1 e1).mono ?_
  rintro e u' w2 ⟨rfl, rfl, A2, c2, B2⟩
  exact ⟨_, res_frame_cell rfl rfl rfl A2 c2, rfl, W1.trans B2⟩

set_option maxRecDepth 100000 in
set_option maxHeartbeats 2000000 in
theorem dec14_bad (ao : Option Addr) (n c : Nat) (ns : List Int) (f : Fd) (w : World) (hb : Byt w ao n c ns) (hr : raw ns = some f) (hk : rt f = false) :
    Calls Try.prog 18 #[.slice ao n c] w fun e w' => e = .returned (.tuple #[.agg #[.int .u8 zero.d0, .int .u8 zero.d1, .int .u8 zero.d2, .int .u8 zero.d3, .int .u8 zero.d4, .int .u8 zero.d5, .int .u8 zero.s0, .int .u8 zero.s1, .int .u8 zero.s2, .int .u8 zero.s3, .int .u8 zero.s4, .int .u8 zero.s5, .bool zero.tg, .int .i64 zero.vl, .int .i64 zero.pr, .int .i64 zero.ty, (.slice none 0 0)], .int .i64 2]) ∧ Below w.heap.size w w' := by
  have hpos : 0 < n := by
    have h1 := hb.len
    rcases Nat.eq_zero_or_pos n with h0 | h0
    · have : ns = [] := List.eq_nil_of_length_eq_zero (by omega)
      rw [this] at hr; cases hr
    · exact h0
  have R0 := W3_rd ao n c ns w hb
  have T0 := W3_there ao n c w
  have c0 := W3_cell ao n c w
  have e0 := W3_free ao n c w
  have L0 : w.heap.size + 2 < ((((w.alloc (.cells #[.int .u8 0, .int .u8 0, .int .u8 0, .int .u8 0, .int .u8 0, .int .u8 0, .int .u8 0, .int .u8 0, .int .u8 0, .int .u8 0, .int .u8 0, .int .u8 0, .bool false, .int .i64 0, .int .i64 0, .int .i64 0, .slice none 0 0] 26)).alloc (.cells #[.int .i64 0] 40)).alloc (.cells #[.slice ao n c] 60))).heap.size := by simp
  have W0 : Below w.heap.size w (((w.alloc (.cells #[.int .u8 0, .int .u8 0, .int .u8 0, .int .u8 0, .int .u8 0, .int .u8 0, .int .u8 0, .int .u8 0, .int .u8 0, .int .u8 0, .int .u8 0, .int .u8 0, .bool false, .int .i64 0, .int .i64 0, .int .i64 0, .slice none 0 0] 26)).alloc (.cells #[.int .i64 0] 40)).alloc (.cells #[.slice ao n c] 60)) := by go_grown
  have HLT := hide hb.lt
  have HC := hide c0
  have HE := hide e0
  clear hb c0 e0
  have hmf : ∀ (fn : Fn) (first cap : Array Value) (w : World), (Instr.makeFunc fn first cap).run Try.prog w = .ok (.func fn first cap) w := fun _ _ _ _ => rfl
  go_enter_defers Try.func18, Try.ntmps18
  go_wp2_with fail
  refine (rf_some (w.heap.size + 2) ao n c ns f _ R0 hr).mono ?_
  rintro e w1 ⟨a1, n1, c1, rfl, Y1, k1, G1⟩
  have T1 := there_kept T0 (by omega) (by omega) G1
  have e1 := G1.cell HC.out (by simp)
  have f1 : w1.frozen? ⟨w.heap.size + 1, 0, none⟩ = false := (World.frozen?_of_block (a := ⟨w.heap.size + 1, 0, none⟩) (G1.block (w.heap.size + 1) (by omega) (by simp))).trans HE.out
  have W1 := below_grown W0 G1 (by omega) (by omega)
  have L1 : w.heap.size + 2 < w1.heap.size := by have := G1.size; omega
  have hl1 : ∀ b o, a1 = some ⟨b, o, none⟩ → b < w.heap.size := fun b o e => by
    obtain ⟨o2, e2⟩ := k1 b o e
    exact HLT.out b o2 e2 hpos
  have HL1 := hide hl1
  have tk1 : True := trivial
  have tk2 : True := trivial
  clear R0 T0 W0 G1 HC HE L0 k1 hl1
  go_wp2_with (first | (have _t := tk1; refine wpl_put f a1 n1 c1 (.tmp 2) (.tmp 8) rfl T1 ?_ ?_ ?_ ?_; rfl; rfl; rfl; clear tk1; intro w2 A2 T2 G2) | (have _t := tk2; refine wpl_frame (.tmp 2) rfl A2 ?_ ?_ ?_; rfl; rfl; clear tk2))
  have Y2 := Y1.kept (k := w.heap.size) (fun b o e => by have := HL1.out b o e; omega) G2
  have e2 := G2.cell e1 (by simp)
  have f2 : w2.frozen? ⟨w.heap.size + 1, 0, none⟩ = false := (World.frozen?_of_block (a := ⟨w.heap.size + 1, 0, none⟩) (G2.block (w.heap.size + 1) (by omega) (by simp))).trans f1
  have W2 := below_grown W1 G2 (Nat.le_refl _) (by omega)
  have L2 : w.heap.size + 2 < w2.heap.size := Nat.lt_of_lt_of_le L1 G2.size
  have HN := hide Y2.len
  clear T1 Y1 e1 f1 W1 L1 G2
  refine (right12 f a1 n1 c1 _ HN.out).mono ?_
  rintro e w3 ⟨rfl, hb3⟩
  replace A2 := A2.on hb3; replace T2 := there_on T2 (by omega) hb3; replace Y2 := Y2.on hb3
  replace e2 := (hb3.cell (p := ⟨w.heap.size + 1, 0, none⟩) (show w.heap.size + 1 < w2.heap.size by omega)).trans e2
  replace f2 := (hb3.frozen (p := ⟨w.heap.size + 1, 0, none⟩) (show w.heap.size + 1 < w2.heap.size by omega)).trans f2
  replace W2 := belowOn W2 hb3
  replace L2 : w.heap.size + 2 < w3.heap.size := Nat.lt_of_lt_of_le L2 hb3.size
  clear hb3
  have tk3 : True := trivial
  go_wp2_with (have _t := tk3; refine wpl_put zero none 0 0 (.tmp 2) (.tmp 12) rfl T2 ?_ ?_ ?_ ?_; rfl; rfl; rfl; clear tk3; intro w4 A4 T4 G4; have e4 := G4.cell e2 (by simp); have f4 : w4.frozen? ⟨w.heap.size + 1, 0, none⟩ = false := (World.frozen?_of_block (a := ⟨w.heap.size + 1, 0, none⟩) (G4.block (w.heap.size + 1) (by omega) (by simp))).trans f2)
  have W4 := below_grown W2 G4 (Nat.le_refl _) (by omega)
  have G5 := setCell_grown w4 (w.heap.size + 1) 0 (.int .i64 2)
  have A5 := A4.kept (by omega) G5
  have e5 := World.cell?_setCell_same w4 ⟨w.heap.size + 1, 0, none⟩ (.int .i64 2) e4
  have W5 := below_grown W4 G5 (by omega) (Nat.le_trans (by omega) G4.size)
  refine leaves_cons (f := 29) (args := #[.pointer (some ⟨w.heap.size, 0, none⟩), .pointer (some ⟨w.heap.size + 1, 0, none⟩)]) (by simp) (by simp [go_sem]) ?_
  refine (catch_idle w.heap.size _).mono ?_
  rintro e u' w6 ⟨rfl, rfl, rfl⟩
  exact ⟨_, res_frame_cell rfl rfl rfl A5 e5, rfl, W5⟩

set_option maxRecDepth 100000 in
set_option maxHeartbeats 4000000 in
theorem dec14_good (ao : Option Addr) (n c : Nat) (ns : List Int) (f : Fd) (w : World) (hb : Byt w ao n c ns) (hr : raw ns = some f) (hk : rt f = true) :
    Calls Try.prog 18 #[.slice ao n c] w fun e w' => ∃ ao' n' c', e = .returned (.tuple #[.agg #[.int .u8 f.d0, .int .u8 f.d1, .int .u8 f.d2, .int .u8 f.d3, .int .u8 f.d4, .int .u8 f.d5, .int .u8 f.s0, .int .u8 f.s1, .int .u8 f.s2, .int .u8 f.s3, .int .u8 f.s4, .int .u8 f.s5, .bool f.tg, .int .i64 f.vl, .int .i64 f.pr, .int .i64 f.ty, (.slice ao' n' c')], .int .i64 0]) ∧ Byt w' ao' n' c' f.bs ∧ Below w.heap.size w w' := by
  have hpos : 0 < n := by
    have h1 := hb.len
    rcases Nat.eq_zero_or_pos n with h0 | h0
    · have : ns = [] := List.eq_nil_of_length_eq_zero (by omega)
      rw [this] at hr; cases hr
    · exact h0
  have HK : Hid (f.bs.length ≤ 1500) := hide (rt_and hk).2.2.2.1
  have R0 := W3_rd ao n c ns w hb
  have T0 := W3_there ao n c w
  have c0 := W3_cell ao n c w
  have e0 := W3_free ao n c w
  have L0 : w.heap.size + 2 < ((((w.alloc (.cells #[.int .u8 0, .int .u8 0, .int .u8 0, .int .u8 0, .int .u8 0, .int .u8 0, .int .u8 0, .int .u8 0, .int .u8 0, .int .u8 0, .int .u8 0, .int .u8 0, .bool false, .int .i64 0, .int .i64 0, .int .i64 0, .slice none 0 0] 26)).alloc (.cells #[.int .i64 0] 40)).alloc (.cells #[.slice ao n c] 60))).heap.size := by simp
  have W0 : Below w.heap.size w (((w.alloc (.cells #[.int .u8 0, .int .u8 0, .int .u8 0, .int .u8 0, .int .u8 0, .int .u8 0, .int .u8 0, .int .u8 0, .int .u8 0, .int .u8 0, .int .u8 0, .int .u8 0, .bool false, .int .i64 0, .int .i64 0, .int .i64 0, .slice none 0 0] 26)).alloc (.cells #[.int .i64 0] 40)).alloc (.cells #[.slice ao n c] 60)) := by go_grown
  have HLT := hide hb.lt
  have HC := hide c0
  have HE := hide e0
  clear hb c0 e0
  have hmf : ∀ (fn : Fn) (first cap : Array Value) (w : World), (Instr.makeFunc fn first cap).run Try.prog w = .ok (.func fn first cap) w := fun _ _ _ _ => rfl
  go_enter_defers Try.func18, Try.ntmps18
  go_wp2_with fail
  refine (rf_some (w.heap.size + 2) ao n c ns f _ R0 hr).mono ?_
  rintro e w1 ⟨a1, n1, c1, rfl, Y1, k1, G1⟩
  have T1 := there_kept T0 (by omega) (by omega) G1
  have e1 := G1.cell HC.out (by simp)
  have f1 : w1.frozen? ⟨w.heap.size + 1, 0, none⟩ = false := (World.frozen?_of_block (a := ⟨w.heap.size + 1, 0, none⟩) (G1.block (w.heap.size + 1) (by omega) (by simp))).trans HE.out
  have W1 := below_grown W0 G1 (by omega) (by omega)
  have L1 : w.heap.size + 2 < w1.heap.size := by have := G1.size; omega
  have hl1 : ∀ b o, a1 = some ⟨b, o, none⟩ → b < w.heap.size := fun b o e => by
    obtain ⟨o2, e2⟩ := k1 b o e
    exact HLT.out b o2 e2 hpos
  have HL1 := hide hl1
  have tk1 : True := trivial
  have tk2 : True := trivial
  clear R0 T0 W0 G1 HC HE L0 k1 hl1
  go_wp2_with (first | (have _t := tk1; refine wpl_put f a1 n1 c1 (.tmp 2) (.tmp 8) rfl T1 ?_ ?_ ?_ ?_; rfl; rfl; rfl; clear tk1; intro w2 A2 T2 G2) | (have _t := tk2; refine wpl_frame (.tmp 2) rfl A2 ?_ ?_ ?_; rfl; rfl; clear tk2))
  have Y2 := Y1.kept (k := w.heap.size) (fun b o e => by have := HL1.out b o e; omega) G2
  have e2 := G2.cell e1 (by simp)
  have f2 : w2.frozen? ⟨w.heap.size + 1, 0, none⟩ = false := (World.frozen?_of_block (a := ⟨w.heap.size + 1, 0, none⟩) (G2.block (w.heap.size + 1) (by omega) (by simp))).trans f1
  have W2 := below_grown W1 G2 (Nat.le_refl _) (by omega)
  have L2 : w.heap.size + 2 < w2.heap.size := Nat.lt_of_lt_of_le L1 G2.size
  have HN := hide Y2.len
  clear T1 Y1 e1 f1 W1 L1 G2
  refine (right12 f a1 n1 c1 _ HN.out).mono ?_
  rintro e w3 ⟨rfl, hb3⟩
  replace A2 := A2.on hb3; replace T2 := there_on T2 (by omega) hb3; replace Y2 := Y2.on hb3
  replace e2 := (hb3.cell (p := ⟨w.heap.size + 1, 0, none⟩) (show w.heap.size + 1 < w2.heap.size by omega)).trans e2
  replace f2 := (hb3.frozen (p := ⟨w.heap.size + 1, 0, none⟩) (show w.heap.size + 1 < w2.heap.size by omega)).trans f2
  replace W2 := belowOn W2 hb3
  replace L2 : w.heap.size + 2 < w3.heap.size := Nat.lt_of_lt_of_le L2 hb3.size
  clear hb3
  have p16 := A2.c16
  go_wp2_with fail
  refine (cloneF a1 n1 c1 f.bs _ Y2 (by have := HK.out; have := HN.out; omega)).mono ?_
  rintro e w4 ⟨a4, c4, rfl, Y4, hfr, hb4⟩
  have A4 := A2.on hb4
  have T4 := there_on T2 (by omega) hb4
  have e4 := (hb4.cell (p := ⟨w.heap.size + 1, 0, none⟩) (show w.heap.size + 1 < w3.heap.size by omega)).trans e2
  have f4 := (hb4.frozen (p := ⟨w.heap.size + 1, 0, none⟩) (show w.heap.size + 1 < w3.heap.size by omega)).trans f2
  have W4 := belowOn W2 hb4
  have L4 : w.heap.size + 2 < w4.heap.size := Nat.lt_of_lt_of_le L2 hb4.size
  replace hfr : ∀ b o, a4 = some ⟨b, o, none⟩ → w.heap.size + 2 < b := fun b o e => Nat.lt_of_lt_of_le L2 (hfr b o e)
  have q16 := A4.c16
  have g16 : w4.frozen? ⟨w.heap.size, 16, none⟩ = false := (T4 16 (by omega)).2
  have G5 := setCell_grown w4 w.heap.size 16 (.slice a4 n1 c4)
  have A5 := A4.set16 (.slice a4 n1 c4)
  have T5 : World.there (w4.setCell ⟨w.heap.size, 16, none⟩ (.slice a4 n1 c4)) w.heap.size 0 17 := World.there_setCells T4 w.heap.size 16 [.slice a4 n1 c4]
  have Y5 := Y4.kept (k := w.heap.size) (fun b o e => by have := hfr b o e; omega) G5
  have e5 := G5.cell e4 (by simp)
  have f5 : (w4.setCell ⟨w.heap.size, 16, none⟩ (.slice a4 n1 c4)).frozen? ⟨w.heap.size + 1, 0, none⟩ = false := by rw [World.frozen?_setCell]; exact f4
  have W5 := below_grown W4 G5 (Nat.le_refl _) (by omega)
  have L5 : w.heap.size + 2 < (w4.setCell ⟨w.heap.size, 16, none⟩ (.slice a4 n1 c4)).heap.size := Nat.lt_of_lt_of_le L4 G5.size
  have HF := hide hfr
  have tk3 : True := trivial
  have tk4 : True := trivial
  clear A2 T2 Y2 e2 f2 W2 L2 p16 hb4 A4 T4 Y4 G5 hfr
  go_wp2_with (first | (have _t := tk3; refine wpl_frame (.tmp 2) rfl A5 ?_ ?_ ?_; rfl; rfl; clear tk3) | (have _t := tk4; refine wpl_put f a4 n1 c4 (.tmp 2) (.tmp 17) rfl T5 ?_ ?_ ?_ ?_; rfl; rfl; rfl; clear tk4; intro w6 A6 T6 G6; have e6 := G6.cell e5 (by simp); have f6 : w6.frozen? ⟨w.heap.size + 1, 0, none⟩ = false := (World.frozen?_of_block (a := ⟨w.heap.size + 1, 0, none⟩) (G6.block (w.heap.size + 1) (by omega) (by simp))).trans f5))
  have W6 := below_grown W5 G6 (Nat.le_refl _) (by omega)
  have G7 := setCell_grown w6 (w.heap.size + 1) 0 (.int .i64 0)
  have A7 := A6.kept (by omega) G7
  have e7 := World.cell?_setCell_same w6 ⟨w.heap.size + 1, 0, none⟩ (.int .i64 0) e6
  have W7 := below_grown W6 G7 (by omega) (Nat.le_trans (by omega) G6.size)
  have Y7 := (Y5.kept (k := w.heap.size) (fun b o e => by have := HF.out b o e; omega) G6).kept (k := w.heap.size + 1) (fun b o e => by have := HF.out b o e; omega) G7
  refine leaves_cons (f := 29) (args := #[.pointer (some ⟨w.heap.size, 0, none⟩), .pointer (some ⟨w.heap.size + 1, 0, none⟩)]) (by simp) (by simp [go_sem]) ?_
  refine (catch_idle w.heap.size _).mono ?_
  rintro e u' w8 ⟨rfl, rfl, rfl⟩
  exact ⟨_, res_frame_cell rfl rfl rfl A7 e7, a4, n1, c4, rfl, Y7, W7⟩

theorem decode14 (ao : Option Addr) (n c : Nat) (ns : List Int) (w : World) (hb : Byt w ao n c ns) :
    Calls Try.prog 18 #[.slice ao n c] w fun e w' => ∃ ao' n' c', e = .returned (.tuple #[.agg #[.int .u8 (dec ns).1.d0, .int .u8 (dec ns).1.d1, .int .u8 (dec ns).1.d2, .int .u8 (dec ns).1.d3, .int .u8 (dec ns).1.d4, .int .u8 (dec ns).1.d5, .int .u8 (dec ns).1.s0, .int .u8 (dec ns).1.s1, .int .u8 (dec ns).1.s2, .int .u8 (dec ns).1.s3, .int .u8 (dec ns).1.s4, .int .u8 (dec ns).1.s5, .bool (dec ns).1.tg, .int .i64 (dec ns).1.vl, .int .i64 (dec ns).1.pr, .int .i64 (dec ns).1.ty, (.slice ao' n' c')], .int .i64 (dec ns).2]) ∧ Byt w' ao' n' c' (dec ns).1.bs ∧ Below w.heap.size w w' := by
  cases hr : raw ns with
  | none =>
    rw [dec_none hr]
    exact (dec14_none ao n c ns w hb hr).mono fun e w' ⟨he, hB⟩ => ⟨none, 0, 0, he, Byt.nothing w', hB⟩
  | some f =>
    cases hk : rt f
    · rw [dec_bad hr hk]
      exact (dec14_bad ao n c ns f w hb hr hk).mono fun e w' ⟨he, hB⟩ => ⟨none, 0, 0, he, Byt.nothing w', hB⟩
    · rw [dec_good hr hk]
      exact dec14_good ao n c ns f w hb hr hk
end Go.Proofs.Ytmpojeehjhpkbaa
