/- Contract of Decode, as the document has it. -/
import Derived.Test.YtdaglmimfkcmeaaRb
import Derived.Test.YtdaglmimfkcmeaaRo
import Derived.Test.YtdaglmimfkcmeaaWa
namespace Go.Proofs.Ytdaglmimfkcmeaa
open Go.RowKit

theorem res_bpdu_tmp {fn : Func} {p u : Tmp} (h : fn.results = #[.cell p 27, .tmp u]) {tmps : Array Value} {w : World} {k : Nat} {l : Bpd} (hp : tmps.getD p undef = .pointer (some ⟨k, 0, none⟩)) (hA : Box w k (bcl l)) :
    (results fn tmps).run Try.prog w = .ok (.tuple #[.agg (BC l), tmps.getD u undef]) w := by
  have hl := run_loadVar_mid (P := Try.prog) w k 0 27 _ _ hA.at_ Try.underlying27 rfl Try.size27
  rw [results_cell_tmp h, hp]
  simp [asAddr, Result.andThen, hl, BC]
theorem Byt.sub {w : World} {b o n c : Nat} {ns : List Int} (h : Byt w (some ⟨b, o, none⟩) n c ns) (i m : Nat) (hm : i + m ≤ n) : Byt w (some ⟨b, o + i, none⟩) m (c - i) ((ns.drop i).take m) := by
  have hl := h.len
  refine ⟨by rw [List.length_take, List.length_drop]; omega, fun e => (by cases e), fun j hj => ⟨b, o + i, rfl, ?_⟩, by have := h.le; omega, by have := h.mx; omega, rng_take (rng_drop h.rng i) m⟩
  obtain ⟨b', o', e, hc⟩ := h.cell (i + j) (by omega)
  injection Option.some.inj e with e1 e2
  subst e1 e2
  rw [Nat.add_assoc, hc]
  simp [List.getD_eq_getElem?_getD, hj]
theorem BC_kd (n : Int) : (BC zeroB).setIfInBounds 0 (.int .i64 n) = BC ⟨n, 0, zeroI, 0, zeroI, 0, 0, 0, 0, 0⟩ := rfl
section
attribute [local go_sem] ZB BC_kd
set_option maxRecDepth 100000 in
set_option maxHeartbeats 1000000 in
theorem dec15_len (ao : Option Addr) (n c : Nat) (w : World) (hn : n < 4) :
    Calls Try.prog 15 #[.slice ao n c] w fun e w' => e = .returned (.tuple #[.agg (BC zeroB), .int .i64 2]) ∧ Below w.heap.size w w' := by
  have A0 : Box (w.alloc (.cells (BC zeroB) 27)) w.heap.size (bcl zeroB) := Box.new w (bcl zeroB) 27
  have W0 := below_alloc w (.cells (BC zeroB) 27)
  have hn' : (n : Int) < 4 := by omega
  have tk1 : True := trivial
  clear hn
  go_enter Try.func15, Try.ntmps15
  go_wp2_with (have _t := tk1; refine wpl_putB zeroB zeroB (.tmp 2) (.tmp 10) rfl A0 ?_ ?_ ?_ ?_; rfl; rfl; rfl; clear tk1; intro w2 A1 g2)
  refine bodyPost_ret (res_bpdu_tmp rfl rfl A1) rfl ⟨rfl, below_grown W0 g2 (Nat.le_refl _) (by simp)⟩
set_option maxRecDepth 100000 in
set_option maxHeartbeats 8000000 in
theorem dec15_short_bad (b o n c : Nat) (ns : List Int) (w : World) (h : Byt w (some ⟨b, o, none⟩) n c ns) (hn4 : 4 ≤ n) (hn : n < 35) (hT : brt ⟨ns.getD 3 0, 0, zeroI, 0, zeroI, 0, 0, 0, 0, 0⟩ = false) :
    Calls Try.prog 15 #[.slice (some ⟨b, o, none⟩) n c] w fun e w' => e = .returned (.tuple #[.agg (BC zeroB), .int .i64 2]) ∧ Below w.heap.size w w' := by
  have hle := h.le
  have hmx := h.mx
  unfold maxLen at hmx
  have hbl : b < w.heap.size := h.lt b o rfl (by omega)
  have n4 : decide ((n : Int) < 4) = false := by simp; omega
  have n3 : (3 : Int) < n := by omega
  obtain ⟨b', o', e, hc, -⟩ := (h.alloc (.cells (BC zeroB) 27)).at (by omega)
  injection Option.some.inj e with e1 e2
  subst e1 e2
  have hy3 := hc 3 (by omega)
  have HT := hide hT
  clear hT hc e
  have Y := (h.alloc (.cells (BC zeroB) 27)).alloc (.cells (BC zeroB) 27)
  have n35 : decide ((35 : Int) ≤ n) = false := by simp; omega
  have r3 := rng_getD h.rng 3
  generalize ns.getD 3 0 = x0 at *
  have w3 : IntKind.i64.wrap x0 = x0 := IntWalk.i64_in _ (by omega)
  have D : Box ((w.alloc (.cells (BC zeroB) 27)).alloc (.cells (BC zeroB) 27)) w.heap.size (bcl zeroB) := (Box.new w (bcl zeroB) 27).alloc _
  have A0 : Box ((w.alloc (.cells (BC zeroB) 27)).alloc (.cells (BC zeroB) 27)) (w.heap.size + 1) (bcl zeroB) := by
    have := Box.new (w.alloc (.cells (BC zeroB) 27)) (bcl zeroB) 27
    rwa [World.size_alloc] at this
  have B : Below w.heap.size w ((w.alloc (.cells (BC zeroB) 27)).alloc (.cells (BC zeroB) 27)) := by go_grown
  have HN := hide hn
  clear h hle hn
  have tk1 : True := trivial
  have tk2 : True := trivial
  go_enter Try.func15, Try.ntmps15
  go_wp2_with (first | (have _t := tk1; refine wpl_putB ⟨x0, 0, zeroI, 0, zeroI, 0, 0, 0, 0, 0⟩ zeroB (.tmp 4) (.tmp 15) rfl A0 ?_ ?_ ?_ ?_; rfl; rfl; rfl; clear tk1; intro w2 A g2) | (have _t := tk2; refine wpl_bpdu (.tmp 4) rfl A ?_ ?_ ?_; rfl; rfl; clear tk2))
  have B2 := below_grown B g2 (by omega) (Nat.le_of_lt D.lt)
  replace D := D.kept (by omega) g2
  replace Y := Y.kept (k := w.heap.size + 1) (fun b' o' e hp => by injection Option.some.inj e with e1 e2; omega) g2
  replace B := B2
  clear A0 g2 B2 hy3 n3 n4 n35 r3 w3
  refine (encode11_no ⟨x0, 0, zeroI, 0, zeroI, 0, 0, 0, 0, 0⟩ _ HT.out).mono ?_
  rintro e v6 ⟨rfl, hb6⟩
  replace D := D.on hb6; replace B := belowOn B hb6
  have Sw : w.heap.size ≤ v6.heap.size := Nat.le_of_lt D.lt
  have tk1 : True := trivial
  clear hb6 A Y
  go_wp2_with (have _t := tk1; refine wpl_putB zeroB zeroB (.tmp 2) (.tmp 70) rfl D ?_ ?_ ?_ ?_; rfl; rfl; rfl; clear tk1; intro v7 D1 g2)
  refine bodyPost_ret (res_bpdu_tmp rfl rfl D1) rfl ⟨rfl, below_grown B g2 (Nat.le_refl _) Sw⟩
set_option maxRecDepth 100000 in
set_option maxHeartbeats 8000000 in
theorem dec15_short_yes (b o n c : Nat) (ns : List Int) (w : World) (h : Byt w (some ⟨b, o, none⟩) n c ns) (hn4 : 4 ≤ n) (hn : n < 35) (hB : BpdB ⟨ns.getD 3 0, 0, zeroI, 0, zeroI, 0, 0, 0, 0, 0⟩) (hT : brt ⟨ns.getD 3 0, 0, zeroI, 0, zeroI, 0, 0, 0, 0, 0⟩ = true) (hQ : ((bs (enc ⟨ns.getD 3 0, 0, zeroI, 0, zeroI, 0, 0, 0, 0, 0⟩)).toList == (bs ns).toList) = true) :
    Calls Try.prog 15 #[.slice (some ⟨b, o, none⟩) n c] w fun e w' => e = .returned (.tuple #[.agg (BC ⟨ns.getD 3 0, 0, zeroI, 0, zeroI, 0, 0, 0, 0, 0⟩), .int .i64 0]) ∧ Below w.heap.size w w' := by
  have hle := h.le
  have hmx := h.mx
  unfold maxLen at hmx
  have hbl : b < w.heap.size := h.lt b o rfl (by omega)
  have n4 : decide ((n : Int) < 4) = false := by simp; omega
  have n3 : (3 : Int) < n := by omega
  obtain ⟨b', o', e, hc, -⟩ := (h.alloc (.cells (BC zeroB) 27)).at (by omega)
  injection Option.some.inj e with e1 e2
  subst e1 e2
  have hy3 := hc 3 (by omega)
  have HT := hide hT
  have HB := hide hB
  have HQ := hide hQ
  clear hB hQ
  clear hT hc e
  have Y := (h.alloc (.cells (BC zeroB) 27)).alloc (.cells (BC zeroB) 27)
  have n35 : decide ((35 : Int) ≤ n) = false := by simp; omega
  have r3 := rng_getD h.rng 3
  generalize ns.getD 3 0 = x0 at *
  have w3 : IntKind.i64.wrap x0 = x0 := IntWalk.i64_in _ (by omega)
  have D : Box ((w.alloc (.cells (BC zeroB) 27)).alloc (.cells (BC zeroB) 27)) w.heap.size (bcl zeroB) := (Box.new w (bcl zeroB) 27).alloc _
  have A0 : Box ((w.alloc (.cells (BC zeroB) 27)).alloc (.cells (BC zeroB) 27)) (w.heap.size + 1) (bcl zeroB) := by
    have := Box.new (w.alloc (.cells (BC zeroB) 27)) (bcl zeroB) 27
    rwa [World.size_alloc] at this
  have B : Below w.heap.size w ((w.alloc (.cells (BC zeroB) 27)).alloc (.cells (BC zeroB) 27)) := by go_grown
  have HN := hide hn
  clear h hle hn
  have tk1 : True := trivial
  have tk2 : True := trivial
  go_enter Try.func15, Try.ntmps15
  go_wp2_with (first | (have _t := tk1; refine wpl_putB ⟨x0, 0, zeroI, 0, zeroI, 0, 0, 0, 0, 0⟩ zeroB (.tmp 4) (.tmp 15) rfl A0 ?_ ?_ ?_ ?_; rfl; rfl; rfl; clear tk1; intro w2 A g2) | (have _t := tk2; refine wpl_bpdu (.tmp 4) rfl A ?_ ?_ ?_; rfl; rfl; clear tk2))
  have B2 := below_grown B g2 (by omega) (Nat.le_of_lt D.lt)
  replace D := D.kept (by omega) g2
  replace Y := Y.kept (k := w.heap.size + 1) (fun b' o' e hp => by injection Option.some.inj e with e1 e2; omega) g2
  replace B := B2
  clear A0 g2 B2 hy3 n3 n4 n35 r3 w3
  refine (encode11_yes ⟨x0, 0, zeroI, 0, zeroI, 0, 0, 0, 0, 0⟩ _ HB.out HT.out).mono ?_
  rintro e v6 ⟨a6, n6, c6, rfl, Y6, hb6⟩
  replace D := D.on hb6; replace A := A.on hb6; replace Y := Y.on hb6; replace B := belowOn B hb6
  have hc1 := bytStr Y6
  have hc2 := bytStr Y
  have hq := HQ.out
  generalize enc ⟨x0, 0, zeroI, 0, zeroI, 0, 0, 0, 0, 0⟩ = el at *
  have Sw : w.heap.size ≤ v6.heap.size := Nat.le_of_lt D.lt
  have tk1 : True := trivial
  have tk2 : True := trivial
  clear hb6 Y6 HQ HB HT Y
  go_wp2_with (first | (have _t := tk1; refine wpl_bpdu (.tmp 4) rfl A ?_ ?_ ?_; rfl; rfl; clear tk1) | (have _t := tk2; refine wpl_putB ⟨x0, 0, zeroI, 0, zeroI, 0, 0, 0, 0, 0⟩ zeroB (.tmp 2) (.tmp 71) rfl D ?_ ?_ ?_ ?_; rfl; rfl; rfl; clear tk2; intro v7 D1 g2))
  refine bodyPost_ret (res_bpdu_tmp rfl rfl D1) rfl ⟨rfl, below_grown B g2 (Nat.le_refl _) Sw⟩
set_option maxRecDepth 100000 in
set_option maxHeartbeats 8000000 in
theorem dec15_short_no (b o n c : Nat) (ns : List Int) (w : World) (h : Byt w (some ⟨b, o, none⟩) n c ns) (hn4 : 4 ≤ n) (hn : n < 35) (hB : BpdB ⟨ns.getD 3 0, 0, zeroI, 0, zeroI, 0, 0, 0, 0, 0⟩) (hT : brt ⟨ns.getD 3 0, 0, zeroI, 0, zeroI, 0, 0, 0, 0, 0⟩ = true) (hQ : ((bs (enc ⟨ns.getD 3 0, 0, zeroI, 0, zeroI, 0, 0, 0, 0, 0⟩)).toList == (bs ns).toList) = false) :
    Calls Try.prog 15 #[.slice (some ⟨b, o, none⟩) n c] w fun e w' => e = .returned (.tuple #[.agg (BC zeroB), .int .i64 2]) ∧ Below w.heap.size w w' := by
  have hle := h.le
  have hmx := h.mx
  unfold maxLen at hmx
  have hbl : b < w.heap.size := h.lt b o rfl (by omega)
  have n4 : decide ((n : Int) < 4) = false := by simp; omega
  have n3 : (3 : Int) < n := by omega
  obtain ⟨b', o', e, hc, -⟩ := (h.alloc (.cells (BC zeroB) 27)).at (by omega)
  injection Option.some.inj e with e1 e2
  subst e1 e2
  have hy3 := hc 3 (by omega)
  have HT := hide hT
  have HB := hide hB
  have HQ := hide hQ
  clear hB hQ
  clear hT hc e
  have Y := (h.alloc (.cells (BC zeroB) 27)).alloc (.cells (BC zeroB) 27)
  have n35 : decide ((35 : Int) ≤ n) = false := by simp; omega
  have r3 := rng_getD h.rng 3
  generalize ns.getD 3 0 = x0 at *
  have w3 : IntKind.i64.wrap x0 = x0 := IntWalk.i64_in _ (by omega)
  have D : Box ((w.alloc (.cells (BC zeroB) 27)).alloc (.cells (BC zeroB) 27)) w.heap.size (bcl zeroB) := (Box.new w (bcl zeroB) 27).alloc _
  have A0 : Box ((w.alloc (.cells (BC zeroB) 27)).alloc (.cells (BC zeroB) 27)) (w.heap.size + 1) (bcl zeroB) := by
    have := Box.new (w.alloc (.cells (BC zeroB) 27)) (bcl zeroB) 27
    rwa [World.size_alloc] at this
  have B : Below w.heap.size w ((w.alloc (.cells (BC zeroB) 27)).alloc (.cells (BC zeroB) 27)) := by go_grown
  have HN := hide hn
  clear h hle hn
  have tk1 : True := trivial
  have tk2 : True := trivial
  go_enter Try.func15, Try.ntmps15
  go_wp2_with (first | (have _t := tk1; refine wpl_putB ⟨x0, 0, zeroI, 0, zeroI, 0, 0, 0, 0, 0⟩ zeroB (.tmp 4) (.tmp 15) rfl A0 ?_ ?_ ?_ ?_; rfl; rfl; rfl; clear tk1; intro w2 A g2) | (have _t := tk2; refine wpl_bpdu (.tmp 4) rfl A ?_ ?_ ?_; rfl; rfl; clear tk2))
  have B2 := below_grown B g2 (by omega) (Nat.le_of_lt D.lt)
  replace D := D.kept (by omega) g2
  replace Y := Y.kept (k := w.heap.size + 1) (fun b' o' e hp => by injection Option.some.inj e with e1 e2; omega) g2
  replace B := B2
  clear A0 g2 B2 hy3 n3 n4 n35 r3 w3
  refine (encode11_yes ⟨x0, 0, zeroI, 0, zeroI, 0, 0, 0, 0, 0⟩ _ HB.out HT.out).mono ?_
  rintro e v6 ⟨a6, n6, c6, rfl, Y6, hb6⟩
  replace D := D.on hb6; replace A := A.on hb6; replace Y := Y.on hb6; replace B := belowOn B hb6
  have hc1 := bytStr Y6
  have hc2 := bytStr Y
  have hq := HQ.out
  generalize enc ⟨x0, 0, zeroI, 0, zeroI, 0, 0, 0, 0, 0⟩ = el at *
  have Sw : w.heap.size ≤ v6.heap.size := Nat.le_of_lt D.lt
  have tk1 : True := trivial
  have tk2 : True := trivial
  clear hb6 Y6 HQ HB HT Y
  go_wp2_with (have _t := tk1; refine wpl_putB zeroB zeroB (.tmp 2) (.tmp 70) rfl D ?_ ?_ ?_ ?_; rfl; rfl; rfl; clear tk1; intro v7 D1 g2)
  refine bodyPost_ret (res_bpdu_tmp rfl rfl D1) rfl ⟨rfl, below_grown B g2 (Nat.le_refl _) Sw⟩
set_option maxRecDepth 100000 in
set_option maxHeartbeats 8000000 in
theorem dec15_long_bad (b o n c : Nat) (ns : List Int) (w : World) (h : Byt w (some ⟨b, o, none⟩) n c ns) (_hn4 : 4 ≤ n) (hn : 35 ≤ n) (hT : brt ⟨ns.getD 3 0, ns.getD 4 0, idt ((ns.drop 5).take 8), nb ((ns.drop 13).take 4), idt ((ns.drop 17).take 8), nb ((ns.drop 25).take 2), nb ((ns.drop 27).take 2), nb ((ns.drop 29).take 2), nb ((ns.drop 31).take 2), nb ((ns.drop 33).take 2)⟩ = false) :
    Calls Try.prog 15 #[.slice (some ⟨b, o, none⟩) n c] w fun e w' => e = .returned (.tuple #[.agg (BC zeroB), .int .i64 2]) ∧ Below w.heap.size w w' := by
  have hle := h.le
  have hmx := h.mx
  unfold maxLen at hmx
  have hbl : b < w.heap.size := h.lt b o rfl (by omega)
  have n4 : decide ((n : Int) < 4) = false := by simp; omega
  have n3 : (3 : Int) < n := by omega
  obtain ⟨b', o', e, hc, -⟩ := (h.alloc (.cells (BC zeroB) 27)).at (by omega)
  injection Option.some.inj e with e1 e2
  subst e1 e2
  have hy3 := hc 3 (by omega)
  have HT := hide hT
  clear hT hc e
  have Y := (h.alloc (.cells (BC zeroB) 27)).alloc (.cells (BC zeroB) 27)
  have n35 : (35 : Int) ≤ n := by omega
  have n4b : (4 : Int) < n := by omega
  have l13 : (13 : Int) ≤ c := by omega
  have l17 : (17 : Int) ≤ c := by omega
  have l25 : (25 : Int) ≤ c := by omega
  have l27 : (27 : Int) ≤ c := by omega
  have l29 : (29 : Int) ≤ c := by omega
  have l31 : (31 : Int) ≤ c := by omega
  have l33 : (33 : Int) ≤ c := by omega
  have l35 : (35 : Int) ≤ c := by omega
  have d5 : ¬ c = 5 := by omega
  have d13 : ¬ c = 13 := by omega
  have d17 : ¬ c = 17 := by omega
  have d25 : ¬ c = 25 := by omega
  have d27 : ¬ c = 27 := by omega
  have d29 : ¬ c = 29 := by omega
  have d31 : ¬ c = 31 := by omega
  have d33 : ¬ c = 33 := by omega
  have Tr : Hid (∀ (W : World), Byt W (some ⟨b, o, none⟩) n c ns → Calls Try.prog 29 #[.slice (some ⟨b, o + 5, none⟩) 8 (c - 5)] W fun e w' => e = .returned (.agg (IC (idt ((ns.drop 5).take 8)))) ∧ Below W.heap.size W w') := hide (fun W h => told29 _ _ _ W (h.sub 5 8 (by omega)))
  have Tc : Hid (∀ (W : World), Byt W (some ⟨b, o, none⟩) n c ns → Calls Try.prog 30 #[.slice (some ⟨b, o + 13, none⟩) 4 (c - 13)] W fun e w' => e = .returned (.int .i64 (nb ((ns.drop 13).take 4))) ∧ Below W.heap.size W w') := hide (fun W h => (of30 _ 4 _ _ W (h.sub 13 4 (by omega)) (by omega) (by omega)).mono fun e w' ⟨h1, h2⟩ => ⟨h1, by rw [h2]; exact Below.refl _ _⟩)
  have Tb : Hid (∀ (W : World), Byt W (some ⟨b, o, none⟩) n c ns → Calls Try.prog 29 #[.slice (some ⟨b, o + 17, none⟩) 8 (c - 17)] W fun e w' => e = .returned (.agg (IC (idt ((ns.drop 17).take 8)))) ∧ Below W.heap.size W w') := hide (fun W h => told29 _ _ _ W (h.sub 17 8 (by omega)))
  have Tpo : Hid (∀ (W : World), Byt W (some ⟨b, o, none⟩) n c ns → Calls Try.prog 30 #[.slice (some ⟨b, o + 25, none⟩) 2 (c - 25)] W fun e w' => e = .returned (.int .i64 (nb ((ns.drop 25).take 2))) ∧ Below W.heap.size W w') := hide (fun W h => (of30 _ 2 _ _ W (h.sub 25 2 (by omega)) (by omega) (by omega)).mono fun e w' ⟨h1, h2⟩ => ⟨h1, by rw [h2]; exact Below.refl _ _⟩)
  have Tag : Hid (∀ (W : World), Byt W (some ⟨b, o, none⟩) n c ns → Calls Try.prog 30 #[.slice (some ⟨b, o + 27, none⟩) 2 (c - 27)] W fun e w' => e = .returned (.int .i64 (nb ((ns.drop 27).take 2))) ∧ Below W.heap.size W w') := hide (fun W h => (of30 _ 2 _ _ W (h.sub 27 2 (by omega)) (by omega) (by omega)).mono fun e w' ⟨h1, h2⟩ => ⟨h1, by rw [h2]; exact Below.refl _ _⟩)
  have Tmx : Hid (∀ (W : World), Byt W (some ⟨b, o, none⟩) n c ns → Calls Try.prog 30 #[.slice (some ⟨b, o + 29, none⟩) 2 (c - 29)] W fun e w' => e = .returned (.int .i64 (nb ((ns.drop 29).take 2))) ∧ Below W.heap.size W w') := hide (fun W h => (of30 _ 2 _ _ W (h.sub 29 2 (by omega)) (by omega) (by omega)).mono fun e w' ⟨h1, h2⟩ => ⟨h1, by rw [h2]; exact Below.refl _ _⟩)
  have The : Hid (∀ (W : World), Byt W (some ⟨b, o, none⟩) n c ns → Calls Try.prog 30 #[.slice (some ⟨b, o + 31, none⟩) 2 (c - 31)] W fun e w' => e = .returned (.int .i64 (nb ((ns.drop 31).take 2))) ∧ Below W.heap.size W w') := hide (fun W h => (of30 _ 2 _ _ W (h.sub 31 2 (by omega)) (by omega) (by omega)).mono fun e w' ⟨h1, h2⟩ => ⟨h1, by rw [h2]; exact Below.refl _ _⟩)
  have Tfw : Hid (∀ (W : World), Byt W (some ⟨b, o, none⟩) n c ns → Calls Try.prog 30 #[.slice (some ⟨b, o + 33, none⟩) 2 (c - 33)] W fun e w' => e = .returned (.int .i64 (nb ((ns.drop 33).take 2))) ∧ Below W.heap.size W w') := hide (fun W h => (of30 _ 2 _ _ W (h.sub 33 2 (by omega)) (by omega) (by omega)).mono fun e w' ⟨h1, h2⟩ => ⟨h1, by rw [h2]; exact Below.refl _ _⟩)
  have hy4 : Hid (∀ (W : World), Byt W (some ⟨b, o, none⟩) n c ns → W.cell? ⟨b, o + 4, none⟩ = some (.int .u8 (ns.getD 4 0))) := hide (fun W h => by
    obtain ⟨b', o', e, hc, -⟩ := h.at (by omega)
    injection Option.some.inj e with e1 e2
    subst e1 e2
    exact hc 4 (by omega))
  have r4 := rng_getD h.rng 4
  have r3 := rng_getD h.rng 3
  generalize ns.getD 3 0 = x0 at *
  generalize ns.getD 4 0 = x1 at *
  generalize idt ((ns.drop 5).take 8) = x2 at *
  generalize nb ((ns.drop 13).take 4) = x3 at *
  generalize idt ((ns.drop 17).take 8) = x4 at *
  generalize nb ((ns.drop 25).take 2) = x5 at *
  generalize nb ((ns.drop 27).take 2) = x6 at *
  generalize nb ((ns.drop 29).take 2) = x7 at *
  generalize nb ((ns.drop 31).take 2) = x8 at *
  generalize nb ((ns.drop 33).take 2) = x9 at *
  have w4 : IntKind.i64.wrap x1 = x1 := IntWalk.i64_in _ (by omega)
  have w3 : IntKind.i64.wrap x0 = x0 := IntWalk.i64_in _ (by omega)
  have D : Box ((w.alloc (.cells (BC zeroB) 27)).alloc (.cells (BC zeroB) 27)) w.heap.size (bcl zeroB) := (Box.new w (bcl zeroB) 27).alloc _
  have A0 : Box ((w.alloc (.cells (BC zeroB) 27)).alloc (.cells (BC zeroB) 27)) (w.heap.size + 1) (bcl zeroB) := by
    have := Box.new (w.alloc (.cells (BC zeroB) 27)) (bcl zeroB) 27
    rwa [World.size_alloc] at this
  have B : Below w.heap.size w ((w.alloc (.cells (BC zeroB) 27)).alloc (.cells (BC zeroB) 27)) := by go_grown
  have HN := hide hn
  clear h hle hn
  have tk1 : True := trivial
  have tk2 : True := trivial
  go_enter Try.func15, Try.ntmps15
  have KEEP : ∀ (W W' : World), Byt W (some ⟨b, o, none⟩) n c ns → W.grownBy W' (some (w.heap.size + 1)) → Byt W' (some ⟨b, o, none⟩) n c ns := fun W W' h g => h.kept (k := w.heap.size + 1) (fun b' o' e hp => by injection Option.some.inj e with e1 e2; omega) g
  replace KEEP := hide KEEP
  go_wp2_with (have _t := tk1; refine wpl_putB ⟨x0, 0, zeroI, 0, zeroI, 0, 0, 0, 0, 0⟩ zeroB (.tmp 4) (.tmp 15) rfl A0 ?_ ?_ ?_ ?_; rfl; rfl; rfl; clear tk1; intro w2 A1 g2; have c1 := A1.cell 1 (.int .i64 0) rfl; have f1 := A1.free 1 (blen _ _ (by omega)); have hy := hy4.out w2 (KEEP.out _ _ Y g2))
  have g3 := setCell_grown w2 (w.heap.size + 1) 1 (.int .i64 x1)
  have A : Box (w2.setCell ⟨w.heap.size + 1, 1, none⟩ (.int .i64 x1)) (w.heap.size + 1) (bcl ⟨x0, x1, zeroI, 0, zeroI, 0, 0, 0, 0, 0⟩) := set_fl x1 A1
  have B2 := below_grown (below_grown B g2 (by omega) (Nat.le_of_lt D.lt)) g3 (by omega) (by have := (D.kept (by omega) g2).lt; omega)
  replace D := (D.kept (by omega) g2).kept (by omega) g3
  replace Y := KEEP.out _ _ (KEEP.out _ _ Y g2) g3
  replace B := B2
  clear A0 A1 g2 g3 B2 hy3 n3 n4 r3 w3 c1 f1 hy hy4 r4 w4 n4b tk2
  refine (Tr.out _ Y).mono ?_
  rintro e w3 ⟨rfl, hb⟩
  replace A := A.on hb; replace D := D.on hb; replace Y := Y.on hb; replace B := belowOn B hb
  have A2 : Box w3 (w.heap.size + 1) ([.int .i64 x0, .int .i64 x1] ++ (icl zeroI ++ (.int .i64 0 :: (icl zeroI ++ tcl ⟨x0, x1, x2, 0, zeroI, 0, 0, 0, 0, 0⟩)))) := A
  have tk1 : True := trivial
  clear hb A
  go_wp2_with (have _t := tk1; refine wpl_putI x2 [.int .i64 x0, .int .i64 x1] (.int .i64 0 :: (icl zeroI ++ tcl ⟨x0, x1, x2, 0, zeroI, 0, 0, 0, 0, 0⟩)) zeroI (.tmp 27) (.tmp 26) rfl A2 rfl ?_ ?_ ?_ ?_; rfl; rfl; rfl; clear tk1; intro u3 A3 g)
  have A : Box u3 (w.heap.size + 1) (bcl ⟨x0, x1, x2, 0, zeroI, 0, 0, 0, 0, 0⟩) := A3
  have B2 := below_grown B g (by omega) (Nat.le_of_lt D.lt)
  replace D := D.kept (by omega) g
  replace Y := KEEP.out _ _ Y g
  replace B := B2
  clear A2 A3 g B2 Tr
  refine (Tc.out _ Y).mono ?_
  rintro e w4 ⟨rfl, hb⟩
  replace A := A.on hb; replace D := D.on hb; replace Y := Y.on hb; replace B := belowOn B hb
  clear hb
  have c1 := A.cell 9 (.int .i64 0) rfl
  have f1 := A.free 9 (blen _ _ (by omega))
  have A2 : Box _ (w.heap.size + 1) (bcl ⟨x0, x1, x2, x3, zeroI, 0, 0, 0, 0, 0⟩) := set_c x3 A
  have g := setCell_grown w4 (w.heap.size + 1) 9 (.int .i64 x3)
  have B2 := below_grown B g (by omega) (Nat.le_of_lt D.lt)
  have D2 := D.kept (by omega) g
  have Y2 := KEEP.out _ _ Y g
  clear A D Y B g Tc
  go_wp2_with fail
  have A := A2
  have D := D2
  have Y := Y2
  have B := B2
  clear A2 D2 Y2 B2 c1 f1
  refine (Tb.out _ Y).mono ?_
  rintro e w5 ⟨rfl, hb⟩
  replace A := A.on hb; replace D := D.on hb; replace Y := Y.on hb; replace B := belowOn B hb
  have A2 : Box w5 (w.heap.size + 1) ((.int .i64 x0 :: .int .i64 x1 :: (icl x2 ++ [.int .i64 x3])) ++ (icl zeroI ++ (tcl ⟨x0, x1, x2, x3, x4, 0, 0, 0, 0, 0⟩))) := A
  have tk1 : True := trivial
  clear hb A
  go_wp2_with (have _t := tk1; refine wpl_putI x4 (.int .i64 x0 :: .int .i64 x1 :: (icl x2 ++ [.int .i64 x3])) (tcl ⟨x0, x1, x2, x3, x4, 0, 0, 0, 0, 0⟩) zeroI (.tmp 35) (.tmp 34) rfl A2 rfl ?_ ?_ ?_ ?_; rfl; rfl; rfl; clear tk1; intro u5 A3 g)
  have A : Box u5 (w.heap.size + 1) (bcl ⟨x0, x1, x2, x3, x4, 0, 0, 0, 0, 0⟩) := A3
  have B2 := below_grown B g (by omega) (Nat.le_of_lt D.lt)
  replace D := D.kept (by omega) g
  replace Y := KEEP.out _ _ Y g
  replace B := B2
  clear A2 A3 g B2 Tb
  refine (Tpo.out _ Y).mono ?_
  rintro e w6 ⟨rfl, hb⟩
  replace A := A.on hb; replace D := D.on hb; replace Y := Y.on hb; replace B := belowOn B hb
  clear hb
  have c1 := A.cell 17 (.int .i64 0) rfl
  have f1 := A.free 17 (blen _ _ (by omega))
  have A2 : Box _ (w.heap.size + 1) (bcl ⟨x0, x1, x2, x3, x4, x5, 0, 0, 0, 0⟩) := set_po x5 A
  have g := setCell_grown w6 (w.heap.size + 1) 17 (.int .i64 x5)
  have B2 := below_grown B g (by omega) (Nat.le_of_lt D.lt)
  have D2 := D.kept (by omega) g
  have Y2 := KEEP.out _ _ Y g
  clear A D Y B g Tpo
  go_wp2_with fail
  have A := A2
  have D := D2
  have Y := Y2
  have B := B2
  clear A2 D2 Y2 B2 c1 f1
  refine (Tag.out _ Y).mono ?_
  rintro e w7 ⟨rfl, hb⟩
  replace A := A.on hb; replace D := D.on hb; replace Y := Y.on hb; replace B := belowOn B hb
  clear hb
  have c1 := A.cell 18 (.int .i64 0) rfl
  have f1 := A.free 18 (blen _ _ (by omega))
  have A2 : Box _ (w.heap.size + 1) (bcl ⟨x0, x1, x2, x3, x4, x5, x6, 0, 0, 0⟩) := set_ag x6 A
  have g := setCell_grown w7 (w.heap.size + 1) 18 (.int .i64 x6)
  have B2 := below_grown B g (by omega) (Nat.le_of_lt D.lt)
  have D2 := D.kept (by omega) g
  have Y2 := KEEP.out _ _ Y g
  clear A D Y B g Tag
  go_wp2_with fail
  have A := A2
  have D := D2
  have Y := Y2
  have B := B2
  clear A2 D2 Y2 B2 c1 f1
  refine (Tmx.out _ Y).mono ?_
  rintro e w8 ⟨rfl, hb⟩
  replace A := A.on hb; replace D := D.on hb; replace Y := Y.on hb; replace B := belowOn B hb
  clear hb
  have c1 := A.cell 19 (.int .i64 0) rfl
  have f1 := A.free 19 (blen _ _ (by omega))
  have A2 : Box _ (w.heap.size + 1) (bcl ⟨x0, x1, x2, x3, x4, x5, x6, x7, 0, 0⟩) := set_mx x7 A
  have g := setCell_grown w8 (w.heap.size + 1) 19 (.int .i64 x7)
  have B2 := below_grown B g (by omega) (Nat.le_of_lt D.lt)
  have D2 := D.kept (by omega) g
  have Y2 := KEEP.out _ _ Y g
  clear A D Y B g Tmx
  go_wp2_with fail
  have A := A2
  have D := D2
  have Y := Y2
  have B := B2
  clear A2 D2 Y2 B2 c1 f1
  refine (The.out _ Y).mono ?_
  rintro e w9 ⟨rfl, hb⟩
  replace A := A.on hb; replace D := D.on hb; replace Y := Y.on hb; replace B := belowOn B hb
  clear hb
  have c1 := A.cell 20 (.int .i64 0) rfl
  have f1 := A.free 20 (blen _ _ (by omega))
  have A2 : Box _ (w.heap.size + 1) (bcl ⟨x0, x1, x2, x3, x4, x5, x6, x7, x8, 0⟩) := set_he x8 A
  have g := setCell_grown w9 (w.heap.size + 1) 20 (.int .i64 x8)
  have B2 := below_grown B g (by omega) (Nat.le_of_lt D.lt)
  have D2 := D.kept (by omega) g
  have Y2 := KEEP.out _ _ Y g
  clear A D Y B g The
  go_wp2_with fail
  have A := A2
  have D := D2
  have Y := Y2
  have B := B2
  clear A2 D2 Y2 B2 c1 f1
  refine (Tfw.out _ Y).mono ?_
  rintro e w10 ⟨rfl, hb⟩
  replace A := A.on hb; replace D := D.on hb; replace Y := Y.on hb; replace B := belowOn B hb
  clear hb
  have c1 := A.cell 21 (.int .i64 0) rfl
  have f1 := A.free 21 (blen _ _ (by omega))
  have A2 : Box _ (w.heap.size + 1) (bcl ⟨x0, x1, x2, x3, x4, x5, x6, x7, x8, x9⟩) := set_fw x9 A
  have g := setCell_grown w10 (w.heap.size + 1) 21 (.int .i64 x9)
  have B2 := below_grown B g (by omega) (Nat.le_of_lt D.lt)
  have D2 := D.kept (by omega) g
  have Y2 := KEEP.out _ _ Y g
  clear A D Y B g Tfw
  have tk1 : True := trivial
  go_wp2_with (have _t := tk1; refine wpl_bpdu (.tmp 4) rfl A2 ?_ ?_ ?_; rfl; rfl; clear tk1)
  have A := A2
  have D := D2
  have Y := Y2
  have B := B2
  clear A2 D2 Y2 B2 c1 f1
  clear KEEP l13 l17 l25 l27 l29 l31 l33 l35 d5 d13 d17 d25 d27 d29 d31 d33 n35
  refine (encode11_no ⟨x0, x1, x2, x3, x4, x5, x6, x7, x8, x9⟩ _ HT.out).mono ?_
  rintro e v6 ⟨rfl, hb6⟩
  replace D := D.on hb6; replace B := belowOn B hb6
  have Sw : w.heap.size ≤ v6.heap.size := Nat.le_of_lt D.lt
  have tk1 : True := trivial
  clear hb6 A Y
  go_wp2_with (have _t := tk1; refine wpl_putB zeroB zeroB (.tmp 2) (.tmp 70) rfl D ?_ ?_ ?_ ?_; rfl; rfl; rfl; clear tk1; intro v7 D1 g2)
  refine bodyPost_ret (res_bpdu_tmp rfl rfl D1) rfl ⟨rfl, below_grown B g2 (Nat.le_refl _) Sw⟩
set_option maxRecDepth 100000 in
set_option maxHeartbeats 8000000 in
theorem dec15_long_yes (b o n c : Nat) (ns : List Int) (w : World) (h : Byt w (some ⟨b, o, none⟩) n c ns) (_hn4 : 4 ≤ n) (hn : 35 ≤ n) (hB : BpdB ⟨ns.getD 3 0, ns.getD 4 0, idt ((ns.drop 5).take 8), nb ((ns.drop 13).take 4), idt ((ns.drop 17).take 8), nb ((ns.drop 25).take 2), nb ((ns.drop 27).take 2), nb ((ns.drop 29).take 2), nb ((ns.drop 31).take 2), nb ((ns.drop 33).take 2)⟩) (hT : brt ⟨ns.getD 3 0, ns.getD 4 0, idt ((ns.drop 5).take 8), nb ((ns.drop 13).take 4), idt ((ns.drop 17).take 8), nb ((ns.drop 25).take 2), nb ((ns.drop 27).take 2), nb ((ns.drop 29).take 2), nb ((ns.drop 31).take 2), nb ((ns.drop 33).take 2)⟩ = true) (hQ : ((bs (enc ⟨ns.getD 3 0, ns.getD 4 0, idt ((ns.drop 5).take 8), nb ((ns.drop 13).take 4), idt ((ns.drop 17).take 8), nb ((ns.drop 25).take 2), nb ((ns.drop 27).take 2), nb ((ns.drop 29).take 2), nb ((ns.drop 31).take 2), nb ((ns.drop 33).take 2)⟩)).toList == (bs ns).toList) = true) :
    Calls Try.prog 15 #[.slice (some ⟨b, o, none⟩) n c] w fun e w' => e = .returned (.tuple #[.agg (BC ⟨ns.getD 3 0, ns.getD 4 0, idt ((ns.drop 5).take 8), nb ((ns.drop 13).take 4), idt ((ns.drop 17).take 8), nb ((ns.drop 25).take 2), nb ((ns.drop 27).take 2), nb ((ns.drop 29).take 2), nb ((ns.drop 31).take 2), nb ((ns.drop 33).take 2)⟩), .int .i64 0]) ∧ Below w.heap.size w w' := by
  have hle := h.le
  have hmx := h.mx
  unfold maxLen at hmx
  have hbl : b < w.heap.size := h.lt b o rfl (by omega)
  have n4 : decide ((n : Int) < 4) = false := by simp; omega
  have n3 : (3 : Int) < n := by omega
  obtain ⟨b', o', e, hc, -⟩ := (h.alloc (.cells (BC zeroB) 27)).at (by omega)
  injection Option.some.inj e with e1 e2
  subst e1 e2
  have hy3 := hc 3 (by omega)
  have HT := hide hT
  have HB := hide hB
  have HQ := hide hQ
  clear hB hQ
  clear hT hc e
  have Y := (h.alloc (.cells (BC zeroB) 27)).alloc (.cells (BC zeroB) 27)
  have n35 : (35 : Int) ≤ n := by omega
  have n4b : (4 : Int) < n := by omega
  have l13 : (13 : Int) ≤ c := by omega
  have l17 : (17 : Int) ≤ c := by omega
  have l25 : (25 : Int) ≤ c := by omega
  have l27 : (27 : Int) ≤ c := by omega
  have l29 : (29 : Int) ≤ c := by omega
  have l31 : (31 : Int) ≤ c := by omega
  have l33 : (33 : Int) ≤ c := by omega
  have l35 : (35 : Int) ≤ c := by omega
  have d5 : ¬ c = 5 := by omega
  have d13 : ¬ c = 13 := by omega
  have d17 : ¬ c = 17 := by omega
  have d25 : ¬ c = 25 := by omega
  have d27 : ¬ c = 27 := by omega
  have d29 : ¬ c = 29 := by omega
  have d31 : ¬ c = 31 := by omega
  have d33 : ¬ c = 33 := by omega
  have Tr : Hid (∀ (W : World), Byt W (some ⟨b, o, none⟩) n c ns → Calls Try.prog 29 #[.slice (some ⟨b, o + 5, none⟩) 8 (c - 5)] W fun e w' => e = .returned (.agg (IC (idt ((ns.drop 5).take 8)))) ∧ Below W.heap.size W w') := hide (fun W h => told29 _ _ _ W (h.sub 5 8 (by omega)))
  have Tc : Hid (∀ (W : World), Byt W (some ⟨b, o, none⟩) n c ns → Calls Try.prog 30 #[.slice (some ⟨b, o + 13, none⟩) 4 (c - 13)] W fun e w' => e = .returned (.int .i64 (nb ((ns.drop 13).take 4))) ∧ Below W.heap.size W w') := hide (fun W h => (of30 _ 4 _ _ W (h.sub 13 4 (by omega)) (by omega) (by omega)).mono fun e w' ⟨h1, h2⟩ => ⟨h1, by rw [h2]; exact Below.refl _ _⟩)
  have Tb : Hid (∀ (W : World), Byt W (some ⟨b, o, none⟩) n c ns → Calls Try.prog 29 #[.slice (some ⟨b, o + 17, none⟩) 8 (c - 17)] W fun e w' => e = .returned (.agg (IC (idt ((ns.drop 17).take 8)))) ∧ Below W.heap.size W w') := hide (fun W h => told29 _ _ _ W (h.sub 17 8 (by omega)))
  have Tpo : Hid (∀ (W : World), Byt W (some ⟨b, o, none⟩) n c ns → Calls Try.prog 30 #[.slice (some ⟨b, o + 25, none⟩) 2 (c - 25)] W fun e w' => e = .returned (.int .i64 (nb ((ns.drop 25).take 2))) ∧ Below W.heap.size W w') := hide (fun W h => (of30 _ 2 _ _ W (h.sub 25 2 (by omega)) (by omega) (by omega)).mono fun e w' ⟨h1, h2⟩ => ⟨h1, by rw [h2]; exact Below.refl _ _⟩)
  have Tag : Hid (∀ (W : World), Byt W (some ⟨b, o, none⟩) n c ns → Calls Try.prog 30 #[.slice (some ⟨b, o + 27, none⟩) 2 (c - 27)] W fun e w' => e = .returned (.int .i64 (nb ((ns.drop 27).take 2))) ∧ Below W.heap.size W w') := hide (fun W h => (of30 _ 2 _ _ W (h.sub 27 2 (by omega)) (by omega) (by omega)).mono fun e w' ⟨h1, h2⟩ => ⟨h1, by rw [h2]; exact Below.refl _ _⟩)
  have Tmx : Hid (∀ (W : World), Byt W (some ⟨b, o, none⟩) n c ns → Calls Try.prog 30 #[.slice (some ⟨b, o + 29, none⟩) 2 (c - 29)] W fun e w' => e = .returned (.int .i64 (nb ((ns.drop 29).take 2))) ∧ Below W.heap.size W w') := hide (fun W h => (of30 _ 2 _ _ W (h.sub 29 2 (by omega)) (by omega) (by omega)).mono fun e w' ⟨h1, h2⟩ => ⟨h1, by rw [h2]; exact Below.refl _ _⟩)
  have The : Hid (∀ (W : World), Byt W (some ⟨b, o, none⟩) n c ns → Calls Try.prog 30 #[.slice (some ⟨b, o + 31, none⟩) 2 (c - 31)] W fun e w' => e = .returned (.int .i64 (nb ((ns.drop 31).take 2))) ∧ Below W.heap.size W w') := hide (fun W h => (of30 _ 2 _ _ W (h.sub 31 2 (by omega)) (by omega) (by omega)).mono fun e w' ⟨h1, h2⟩ => ⟨h1, by rw [h2]; exact Below.refl _ _⟩)
  have Tfw : Hid (∀ (W : World), Byt W (some ⟨b, o, none⟩) n c ns → Calls Try.prog 30 #[.slice (some ⟨b, o + 33, none⟩) 2 (c - 33)] W fun e w' => e = .returned (.int .i64 (nb ((ns.drop 33).take 2))) ∧ Below W.heap.size W w') := hide (fun W h => (of30 _ 2 _ _ W (h.sub 33 2 (by omega)) (by omega) (by omega)).mono fun e w' ⟨h1, h2⟩ => ⟨h1, by rw [h2]; exact Below.refl _ _⟩)
  have hy4 : Hid (∀ (W : World), Byt W (some ⟨b, o, none⟩) n c ns → W.cell? ⟨b, o + 4, none⟩ = some (.int .u8 (ns.getD 4 0))) := hide (fun W h => by
    obtain ⟨b', o', e, hc, -⟩ := h.at (by omega)
    injection Option.some.inj e with e1 e2
    subst e1 e2
    exact hc 4 (by omega))
  have r4 := rng_getD h.rng 4
  have r3 := rng_getD h.rng 3
  generalize ns.getD 3 0 = x0 at *
  generalize ns.getD 4 0 = x1 at *
  generalize idt ((ns.drop 5).take 8) = x2 at *
  generalize nb ((ns.drop 13).take 4) = x3 at *
  generalize idt ((ns.drop 17).take 8) = x4 at *
  generalize nb ((ns.drop 25).take 2) = x5 at *
  generalize nb ((ns.drop 27).take 2) = x6 at *
  generalize nb ((ns.drop 29).take 2) = x7 at *
  generalize nb ((ns.drop 31).take 2) = x8 at *
  generalize nb ((ns.drop 33).take 2) = x9 at *
  have w4 : IntKind.i64.wrap x1 = x1 := IntWalk.i64_in _ (by omega)
  have w3 : IntKind.i64.wrap x0 = x0 := IntWalk.i64_in _ (by omega)
  have D : Box ((w.alloc (.cells (BC zeroB) 27)).alloc (.cells (BC zeroB) 27)) w.heap.size (bcl zeroB) := (Box.new w (bcl zeroB) 27).alloc _
  have A0 : Box ((w.alloc (.cells (BC zeroB) 27)).alloc (.cells (BC zeroB) 27)) (w.heap.size + 1) (bcl zeroB) := by
    have := Box.new (w.alloc (.cells (BC zeroB) 27)) (bcl zeroB) 27
    rwa [World.size_alloc] at this
  have B : Below w.heap.size w ((w.alloc (.cells (BC zeroB) 27)).alloc (.cells (BC zeroB) 27)) := by go_grown
  have HN := hide hn
  clear h hle hn
  have tk1 : True := trivial
  have tk2 : True := trivial
  go_enter Try.func15, Try.ntmps15
  have KEEP : ∀ (W W' : World), Byt W (some ⟨b, o, none⟩) n c ns → W.grownBy W' (some (w.heap.size + 1)) → Byt W' (some ⟨b, o, none⟩) n c ns := fun W W' h g => h.kept (k := w.heap.size + 1) (fun b' o' e hp => by injection Option.some.inj e with e1 e2; omega) g
  replace KEEP := hide KEEP
  go_wp2_with (have _t := tk1; refine wpl_putB ⟨x0, 0, zeroI, 0, zeroI, 0, 0, 0, 0, 0⟩ zeroB (.tmp 4) (.tmp 15) rfl A0 ?_ ?_ ?_ ?_; rfl; rfl; rfl; clear tk1; intro w2 A1 g2; have c1 := A1.cell 1 (.int .i64 0) rfl; have f1 := A1.free 1 (blen _ _ (by omega)); have hy := hy4.out w2 (KEEP.out _ _ Y g2))
  have g3 := setCell_grown w2 (w.heap.size + 1) 1 (.int .i64 x1)
  have A : Box (w2.setCell ⟨w.heap.size + 1, 1, none⟩ (.int .i64 x1)) (w.heap.size + 1) (bcl ⟨x0, x1, zeroI, 0, zeroI, 0, 0, 0, 0, 0⟩) := set_fl x1 A1
  have B2 := below_grown (below_grown B g2 (by omega) (Nat.le_of_lt D.lt)) g3 (by omega) (by have := (D.kept (by omega) g2).lt; omega)
  replace D := (D.kept (by omega) g2).kept (by omega) g3
  replace Y := KEEP.out _ _ (KEEP.out _ _ Y g2) g3
  replace B := B2
  clear A0 A1 g2 g3 B2 hy3 n3 n4 r3 w3 c1 f1 hy hy4 r4 w4 n4b tk2
  refine (Tr.out _ Y).mono ?_
  rintro e w3 ⟨rfl, hb⟩
  replace A := A.on hb; replace D := D.on hb; replace Y := Y.on hb; replace B := belowOn B hb
  have A2 : Box w3 (w.heap.size + 1) ([.int .i64 x0, .int .i64 x1] ++ (icl zeroI ++ (.int .i64 0 :: (icl zeroI ++ tcl ⟨x0, x1, x2, 0, zeroI, 0, 0, 0, 0, 0⟩)))) := A
  have tk1 : True := trivial
  clear hb A
  go_wp2_with (have _t := tk1; refine wpl_putI x2 [.int .i64 x0, .int .i64 x1] (.int .i64 0 :: (icl zeroI ++ tcl ⟨x0, x1, x2, 0, zeroI, 0, 0, 0, 0, 0⟩)) zeroI (.tmp 27) (.tmp 26) rfl A2 rfl ?_ ?_ ?_ ?_; rfl; rfl; rfl; clear tk1; intro u3 A3 g)
  have A : Box u3 (w.heap.size + 1) (bcl ⟨x0, x1, x2, 0, zeroI, 0, 0, 0, 0, 0⟩) := A3
  have B2 := below_grown B g (by omega) (Nat.le_of_lt D.lt)
  replace D := D.kept (by omega) g
  replace Y := KEEP.out _ _ Y g
  replace B := B2
  clear A2 A3 g B2 Tr
  refine (Tc.out _ Y).mono ?_
  rintro e w4 ⟨rfl, hb⟩
  replace A := A.on hb; replace D := D.on hb; replace Y := Y.on hb; replace B := belowOn B hb
  clear hb
  have c1 := A.cell 9 (.int .i64 0) rfl
  have f1 := A.free 9 (blen _ _ (by omega))
  have A2 : Box _ (w.heap.size + 1) (bcl ⟨x0, x1, x2, x3, zeroI, 0, 0, 0, 0, 0⟩) := set_c x3 A
  have g := setCell_grown w4 (w.heap.size + 1) 9 (.int .i64 x3)
  have B2 := below_grown B g (by omega) (Nat.le_of_lt D.lt)
  have D2 := D.kept (by omega) g
  have Y2 := KEEP.out _ _ Y g
  clear A D Y B g Tc
  go_wp2_with fail
  have A := A2
  have D := D2
  have Y := Y2
  have B := B2
  clear A2 D2 Y2 B2 c1 f1
  refine (Tb.out _ Y).mono ?_
  rintro e w5 ⟨rfl, hb⟩
  replace A := A.on hb; replace D := D.on hb; replace Y := Y.on hb; replace B := belowOn B hb
  have A2 : Box w5 (w.heap.size + 1) ((.int .i64 x0 :: .int .i64 x1 :: (icl x2 ++ [.int .i64 x3])) ++ (icl zeroI ++ (tcl ⟨x0, x1, x2, x3, x4, 0, 0, 0, 0, 0⟩))) := A
  have tk1 : True := trivial
  clear hb A
  go_wp2_with (have _t := tk1; refine wpl_putI x4 (.int .i64 x0 :: .int .i64 x1 :: (icl x2 ++ [.int .i64 x3])) (tcl ⟨x0, x1, x2, x3, x4, 0, 0, 0, 0, 0⟩) zeroI (.tmp 35) (.tmp 34) rfl A2 rfl ?_ ?_ ?_ ?_; rfl; rfl; rfl; clear tk1; intro u5 A3 g)
  have A : Box u5 (w.heap.size + 1) (bcl ⟨x0, x1, x2, x3, x4, 0, 0, 0, 0, 0⟩) := A3
  have B2 := below_grown B g (by omega) (Nat.le_of_lt D.lt)
  replace D := D.kept (by omega) g
  replace Y := KEEP.out _ _ Y g
  replace B := B2
  clear A2 A3 g B2 Tb
  refine (Tpo.out _ Y).mono ?_
  rintro e w6 ⟨rfl, hb⟩
  replace A := A.on hb; replace D := D.on hb; replace Y := Y.on hb; replace B := belowOn B hb
  clear hb
  have c1 := A.cell 17 (.int .i64 0) rfl
  have f1 := A.free 17 (blen _ _ (by omega))
  have A2 : Box _ (w.heap.size + 1) (bcl ⟨x0, x1, x2, x3, x4, x5, 0, 0, 0, 0⟩) := set_po x5 A
  have g := setCell_grown w6 (w.heap.size + 1) 17 (.int .i64 x5)
  have B2 := below_grown B g (by omega) (Nat.le_of_lt D.lt)
  have D2 := D.kept (by omega) g
  have Y2 := KEEP.out _ _ Y g
  clear A D Y B g Tpo
  go_wp2_with fail
  have A := A2
  have D := D2
  have Y := Y2
  have B := B2
  clear A2 D2 Y2 B2 c1 f1
  refine (Tag.out _ Y).mono ?_
  rintro e w7 ⟨rfl, hb⟩
  replace A := A.on hb; replace D := D.on hb; replace Y := Y.on hb; replace B := belowOn B hb
  clear hb
  have c1 := A.cell 18 (.int .i64 0) rfl
  have f1 := A.free 18 (blen _ _ (by omega))
  have A2 : Box _ (w.heap.size + 1) (bcl ⟨x0, x1, x2, x3, x4, x5, x6, 0, 0, 0⟩) := set_ag x6 A
  have g := setCell_grown w7 (w.heap.size + 1) 18 (.int .i64 x6)
  have B2 := below_grown B g (by omega) (Nat.le_of_lt D.lt)
  have D2 := D.kept (by omega) g
  have Y2 := KEEP.out _ _ Y g
  clear A D Y B g Tag
  go_wp2_with fail
  have A := A2
  have D := D2
  have Y := Y2
  have B := B2
  clear A2 D2 Y2 B2 c1 f1
  refine (Tmx.out _ Y).mono ?_
  rintro e w8 ⟨rfl, hb⟩
  replace A := A.on hb; replace D := D.on hb; replace Y := Y.on hb; replace B := belowOn B hb
  clear hb
  have c1 := A.cell 19 (.int .i64 0) rfl
  have f1 := A.free 19 (blen _ _ (by omega))
  have A2 : Box _ (w.heap.size + 1) (bcl ⟨x0, x1, x2, x3, x4, x5, x6, x7, 0, 0⟩) := set_mx x7 A
  have g := setCell_grown w8 (w.heap.size + 1) 19 (.int .i64 x7)
  have B2 := below_grown B g (by omega) (Nat.le_of_lt D.lt)
  have D2 := D.kept (by omega) g
  have Y2 := KEEP.out _ _ Y g
  clear A D Y B g Tmx
  go_wp2_with fail
  have A := A2
  have D := D2
  have Y := Y2
  have B := B2
  clear A2 D2 Y2 B2 c1 f1
  refine (The.out _ Y).mono ?_
  rintro e w9 ⟨rfl, hb⟩
  replace A := A.on hb; replace D := D.on hb; replace Y := Y.on hb; replace B := belowOn B hb
  clear hb
  have c1 := A.cell 20 (.int .i64 0) rfl
  have f1 := A.free 20 (blen _ _ (by omega))
  have A2 : Box _ (w.heap.size + 1) (bcl ⟨x0, x1, x2, x3, x4, x5, x6, x7, x8, 0⟩) := set_he x8 A
  have g := setCell_grown w9 (w.heap.size + 1) 20 (.int .i64 x8)
  have B2 := below_grown B g (by omega) (Nat.le_of_lt D.lt)
  have D2 := D.kept (by omega) g
  have Y2 := KEEP.out _ _ Y g
  clear A D Y B g The
  go_wp2_with fail
  have A := A2
  have D := D2
  have Y := Y2
  have B := B2
  clear A2 D2 Y2 B2 c1 f1
  refine (Tfw.out _ Y).mono ?_
  rintro e w10 ⟨rfl, hb⟩
  replace A := A.on hb; replace D := D.on hb; replace Y := Y.on hb; replace B := belowOn B hb
  clear hb
  have c1 := A.cell 21 (.int .i64 0) rfl
  have f1 := A.free 21 (blen _ _ (by omega))
  have A2 : Box _ (w.heap.size + 1) (bcl ⟨x0, x1, x2, x3, x4, x5, x6, x7, x8, x9⟩) := set_fw x9 A
  have g := setCell_grown w10 (w.heap.size + 1) 21 (.int .i64 x9)
  have B2 := below_grown B g (by omega) (Nat.le_of_lt D.lt)
  have D2 := D.kept (by omega) g
  have Y2 := KEEP.out _ _ Y g
  clear A D Y B g Tfw
  have tk1 : True := trivial
  go_wp2_with (have _t := tk1; refine wpl_bpdu (.tmp 4) rfl A2 ?_ ?_ ?_; rfl; rfl; clear tk1)
  have A := A2
  have D := D2
  have Y := Y2
  have B := B2
  clear A2 D2 Y2 B2 c1 f1
  clear KEEP l13 l17 l25 l27 l29 l31 l33 l35 d5 d13 d17 d25 d27 d29 d31 d33 n35
  refine (encode11_yes ⟨x0, x1, x2, x3, x4, x5, x6, x7, x8, x9⟩ _ HB.out HT.out).mono ?_
  rintro e v6 ⟨a6, n6, c6, rfl, Y6, hb6⟩
  replace D := D.on hb6; replace A := A.on hb6; replace Y := Y.on hb6; replace B := belowOn B hb6
  have hc1 := bytStr Y6
  have hc2 := bytStr Y
  have hq := HQ.out
  generalize enc ⟨x0, x1, x2, x3, x4, x5, x6, x7, x8, x9⟩ = el at *
  have Sw : w.heap.size ≤ v6.heap.size := Nat.le_of_lt D.lt
  have tk1 : True := trivial
  have tk2 : True := trivial
  clear hb6 Y6 HQ HB HT Y
  go_wp2_with (first | (have _t := tk1; refine wpl_bpdu (.tmp 4) rfl A ?_ ?_ ?_; rfl; rfl; clear tk1) | (have _t := tk2; refine wpl_putB ⟨x0, x1, x2, x3, x4, x5, x6, x7, x8, x9⟩ zeroB (.tmp 2) (.tmp 71) rfl D ?_ ?_ ?_ ?_; rfl; rfl; rfl; clear tk2; intro v7 D1 g2))
  refine bodyPost_ret (res_bpdu_tmp rfl rfl D1) rfl ⟨rfl, below_grown B g2 (Nat.le_refl _) Sw⟩
set_option maxRecDepth 100000 in
set_option maxHeartbeats 8000000 in
theorem dec15_long_no (b o n c : Nat) (ns : List Int) (w : World) (h : Byt w (some ⟨b, o, none⟩) n c ns) (_hn4 : 4 ≤ n) (hn : 35 ≤ n) (hB : BpdB ⟨ns.getD 3 0, ns.getD 4 0, idt ((ns.drop 5).take 8), nb ((ns.drop 13).take 4), idt ((ns.drop 17).take 8), nb ((ns.drop 25).take 2), nb ((ns.drop 27).take 2), nb ((ns.drop 29).take 2), nb ((ns.drop 31).take 2), nb ((ns.drop 33).take 2)⟩) (hT : brt ⟨ns.getD 3 0, ns.getD 4 0, idt ((ns.drop 5).take 8), nb ((ns.drop 13).take 4), idt ((ns.drop 17).take 8), nb ((ns.drop 25).take 2), nb ((ns.drop 27).take 2), nb ((ns.drop 29).take 2), nb ((ns.drop 31).take 2), nb ((ns.drop 33).take 2)⟩ = true) (hQ : ((bs (enc ⟨ns.getD 3 0, ns.getD 4 0, idt ((ns.drop 5).take 8), nb ((ns.drop 13).take 4), idt ((ns.drop 17).take 8), nb ((ns.drop 25).take 2), nb ((ns.drop 27).take 2), nb ((ns.drop 29).take 2), nb ((ns.drop 31).take 2), nb ((ns.drop 33).take 2)⟩)).toList == (bs ns).toList) = false) :
    Calls Try.prog 15 #[.slice (some ⟨b, o, none⟩) n c] w fun e w' => e = .returned (.tuple #[.agg (BC zeroB), .int .i64 2]) ∧ Below w.heap.size w w' := by
  have hle := h.le
  have hmx := h.mx
  unfold maxLen at hmx
  have hbl : b < w.heap.size := h.lt b o rfl (by omega)
  have n4 : decide ((n : Int) < 4) = false := by simp; omega
  have n3 : (3 : Int) < n := by omega
  obtain ⟨b', o', e, hc, -⟩ := (h.alloc (.cells (BC zeroB) 27)).at (by omega)
  injection Option.some.inj e with e1 e2
  subst e1 e2
  have hy3 := hc 3 (by omega)
  have HT := hide hT
  have HB := hide hB
  have HQ := hide hQ
  clear hB hQ
  clear hT hc e
  have Y := (h.alloc (.cells (BC zeroB) 27)).alloc (.cells (BC zeroB) 27)
  have n35 : (35 : Int) ≤ n := by omega
  have n4b : (4 : Int) < n := by omega
  have l13 : (13 : Int) ≤ c := by omega
  have l17 : (17 : Int) ≤ c := by omega
  have l25 : (25 : Int) ≤ c := by omega
  have l27 : (27 : Int) ≤ c := by omega
  have l29 : (29 : Int) ≤ c := by omega
  have l31 : (31 : Int) ≤ c := by omega
  have l33 : (33 : Int) ≤ c := by omega
  have l35 : (35 : Int) ≤ c := by omega
  have d5 : ¬ c = 5 := by omega
  have d13 : ¬ c = 13 := by omega
  have d17 : ¬ c = 17 := by omega
  have d25 : ¬ c = 25 := by omega
  have d27 : ¬ c = 27 := by omega
  have d29 : ¬ c = 29 := by omega
  have d31 : ¬ c = 31 := by omega
  have d33 : ¬ c = 33 := by omega
  have Tr : Hid (∀ (W : World), Byt W (some ⟨b, o, none⟩) n c ns → Calls Try.prog 29 #[.slice (some ⟨b, o + 5, none⟩) 8 (c - 5)] W fun e w' => e = .returned (.agg (IC (idt ((ns.drop 5).take 8)))) ∧ Below W.heap.size W w') := hide (fun W h => told29 _ _ _ W (h.sub 5 8 (by omega)))
  have Tc : Hid (∀ (W : World), Byt W (some ⟨b, o, none⟩) n c ns → Calls Try.prog 30 #[.slice (some ⟨b, o + 13, none⟩) 4 (c - 13)] W fun e w' => e = .returned (.int .i64 (nb ((ns.drop 13).take 4))) ∧ Below W.heap.size W w') := hide (fun W h => (of30 _ 4 _ _ W (h.sub 13 4 (by omega)) (by omega) (by omega)).mono fun e w' ⟨h1, h2⟩ => ⟨h1, by rw [h2]; exact Below.refl _ _⟩)
  have Tb : Hid (∀ (W : World), Byt W (some ⟨b, o, none⟩) n c ns → Calls Try.prog 29 #[.slice (some ⟨b, o + 17, none⟩) 8 (c - 17)] W fun e w' => e = .returned (.agg (IC (idt ((ns.drop 17).take 8)))) ∧ Below W.heap.size W w') := hide (fun W h => told29 _ _ _ W (h.sub 17 8 (by omega)))
  have Tpo : Hid (∀ (W : World), Byt W (some ⟨b, o, none⟩) n c ns → Calls Try.prog 30 #[.slice (some ⟨b, o + 25, none⟩) 2 (c - 25)] W fun e w' => e = .returned (.int .i64 (nb ((ns.drop 25).take 2))) ∧ Below W.heap.size W w') := hide (fun W h => (of30 _ 2 _ _ W (h.sub 25 2 (by omega)) (by omega) (by omega)).mono fun e w' ⟨h1, h2⟩ => ⟨h1, by rw [h2]; exact Below.refl _ _⟩)
  have Tag : Hid (∀ (W : World), Byt W (some ⟨b, o, none⟩) n c ns → Calls Try.prog 30 #[.slice (some ⟨b, o + 27, none⟩) 2 (c - 27)] W fun e w' => e = .returned (.int .i64 (nb ((ns.drop 27).take 2))) ∧ Below W.heap.size W w') := hide (fun W h => (of30 _ 2 _ _ W (h.sub 27 2 (by omega)) (by omega) (by omega)).mono fun e w' ⟨h1, h2⟩ => ⟨h1, by rw [h2]; exact Below.refl _ _⟩)
  have Tmx : Hid (∀ (W : World), Byt W (some ⟨b, o, none⟩) n c ns → Calls Try.prog 30 #[.slice (some ⟨b, o + 29, none⟩) 2 (c - 29)] W fun e w' => e = .returned (.int .i64 (nb ((ns.drop 29).take 2))) ∧ Below W.heap.size W w') := hide (fun W h => (of30 _ 2 _ _ W (h.sub 29 2 (by omega)) (by omega) (by omega)).mono fun e w' ⟨h1, h2⟩ => ⟨h1, by rw [h2]; exact Below.refl _ _⟩)
  have The : Hid (∀ (W : World), Byt W (some ⟨b, o, none⟩) n c ns → Calls Try.prog 30 #[.slice (some ⟨b, o + 31, none⟩) 2 (c - 31)] W fun e w' => e = .returned (.int .i64 (nb ((ns.drop 31).take 2))) ∧ Below W.heap.size W w') := hide (fun W h => (of30 _ 2 _ _ W (h.sub 31 2 (by omega)) (by omega) (by omega)).mono fun e w' ⟨h1, h2⟩ => ⟨h1, by rw [h2]; exact Below.refl _ _⟩)
  have Tfw : Hid (∀ (W : World), Byt W (some ⟨b, o, none⟩) n c ns → Calls Try.prog 30 #[.slice (some ⟨b, o + 33, none⟩) 2 (c - 33)] W fun e w' => e = .returned (.int .i64 (nb ((ns.drop 33).take 2))) ∧ Below W.heap.size W w') := hide (fun W h => (of30 _ 2 _ _ W (h.sub 33 2 (by omega)) (by omega) (by omega)).mono fun e w' ⟨h1, h2⟩ => ⟨h1, by rw [h2]; exact Below.refl _ _⟩)
  have hy4 : Hid (∀ (W : World), Byt W (some ⟨b, o, none⟩) n c ns → W.cell? ⟨b, o + 4, none⟩ = some (.int .u8 (ns.getD 4 0))) := hide (fun W h => by
    obtain ⟨b', o', e, hc, -⟩ := h.at (by omega)
    injection Option.some.inj e with e1 e2
    subst e1 e2
    exact hc 4 (by omega))
  have r4 := rng_getD h.rng 4
  have r3 := rng_getD h.rng 3
  generalize ns.getD 3 0 = x0 at *
  generalize ns.getD 4 0 = x1 at *
  generalize idt ((ns.drop 5).take 8) = x2 at *
  generalize nb ((ns.drop 13).take 4) = x3 at *
  generalize idt ((ns.drop 17).take 8) = x4 at *
  generalize nb ((ns.drop 25).take 2) = x5 at *
  generalize nb ((ns.drop 27).take 2) = x6 at *
  generalize nb ((ns.drop 29).take 2) = x7 at *
  generalize nb ((ns.drop 31).take 2) = x8 at *
  generalize nb ((ns.drop 33).take 2) = x9 at *
  have w4 : IntKind.i64.wrap x1 = x1 := IntWalk.i64_in _ (by omega)
  have w3 : IntKind.i64.wrap x0 = x0 := IntWalk.i64_in _ (by omega)
  have D : Box ((w.alloc (.cells (BC zeroB) 27)).alloc (.cells (BC zeroB) 27)) w.heap.size (bcl zeroB) := (Box.new w (bcl zeroB) 27).alloc _
  have A0 : Box ((w.alloc (.cells (BC zeroB) 27)).alloc (.cells (BC zeroB) 27)) (w.heap.size + 1) (bcl zeroB) := by
    have := Box.new (w.alloc (.cells (BC zeroB) 27)) (bcl zeroB) 27
    rwa [World.size_alloc] at this
  have B : Below w.heap.size w ((w.alloc (.cells (BC zeroB) 27)).alloc (.cells (BC zeroB) 27)) := by go_grown
  have HN := hide hn
  clear h hle hn
  have tk1 : True := trivial
  have tk2 : True := trivial
  go_enter Try.func15, Try.ntmps15
  have KEEP : ∀ (W W' : World), Byt W (some ⟨b, o, none⟩) n c ns → W.grownBy W' (some (w.heap.size + 1)) → Byt W' (some ⟨b, o, none⟩) n c ns := fun W W' h g => h.kept (k := w.heap.size + 1) (fun b' o' e hp => by injection Option.some.inj e with e1 e2; omega) g
  replace KEEP := hide KEEP
  go_wp2_with (have _t := tk1; refine wpl_putB ⟨x0, 0, zeroI, 0, zeroI, 0, 0, 0, 0, 0⟩ zeroB (.tmp 4) (.tmp 15) rfl A0 ?_ ?_ ?_ ?_; rfl; rfl; rfl; clear tk1; intro w2 A1 g2; have c1 := A1.cell 1 (.int .i64 0) rfl; have f1 := A1.free 1 (blen _ _ (by omega)); have hy := hy4.out w2 (KEEP.out _ _ Y g2))
  have g3 := setCell_grown w2 (w.heap.size + 1) 1 (.int .i64 x1)
  have A : Box (w2.setCell ⟨w.heap.size + 1, 1, none⟩ (.int .i64 x1)) (w.heap.size + 1) (bcl ⟨x0, x1, zeroI, 0, zeroI, 0, 0, 0, 0, 0⟩) := set_fl x1 A1
  have B2 := below_grown (below_grown B g2 (by omega) (Nat.le_of_lt D.lt)) g3 (by omega) (by have := (D.kept (by omega) g2).lt; omega)
  replace D := (D.kept (by omega) g2).kept (by omega) g3
  replace Y := KEEP.out _ _ (KEEP.out _ _ Y g2) g3
  replace B := B2
  clear A0 A1 g2 g3 B2 hy3 n3 n4 r3 w3 c1 f1 hy hy4 r4 w4 n4b tk2
  refine (Tr.out _ Y).mono ?_
  rintro e w3 ⟨rfl, hb⟩
  replace A := A.on hb; replace D := D.on hb; replace Y := Y.on hb; replace B := belowOn B hb
  have A2 : Box w3 (w.heap.size + 1) ([.int .i64 x0, .int .i64 x1] ++ (icl zeroI ++ (.int .i64 0 :: (icl zeroI ++ tcl ⟨x0, x1, x2, 0, zeroI, 0, 0, 0, 0, 0⟩)))) := A
  have tk1 : True := trivial
  clear hb A
  go_wp2_with (have _t := tk1; refine wpl_putI x2 [.int .i64 x0, .int .i64 x1] (.int .i64 0 :: (icl zeroI ++ tcl ⟨x0, x1, x2, 0, zeroI, 0, 0, 0, 0, 0⟩)) zeroI (.tmp 27) (.tmp 26) rfl A2 rfl ?_ ?_ ?_ ?_; rfl; rfl; rfl; clear tk1; intro u3 A3 g)
  have A : Box u3 (w.heap.size + 1) (bcl ⟨x0, x1, x2, 0, zeroI, 0, 0, 0, 0, 0⟩) := A3
  have B2 := below_grown B g (by omega) (Nat.le_of_lt D.lt)
  replace D := D.kept (by omega) g
  replace Y := KEEP.out _ _ Y g
  replace B := B2
  clear A2 A3 g B2 Tr
  refine (Tc.out _ Y).mono ?_
  rintro e w4 ⟨rfl, hb⟩
  replace A := A.on hb; replace D := D.on hb; replace Y := Y.on hb; replace B := belowOn B hb
  clear hb
  have c1 := A.cell 9 (.int .i64 0) rfl
  have f1 := A.free 9 (blen _ _ (by omega))
  have A2 : Box _ (w.heap.size + 1) (bcl ⟨x0, x1, x2, x3, zeroI, 0, 0, 0, 0, 0⟩) := set_c x3 A
  have g := setCell_grown w4 (w.heap.size + 1) 9 (.int .i64 x3)
  have B2 := below_grown B g (by omega) (Nat.le_of_lt D.lt)
  have D2 := D.kept (by omega) g
  have Y2 := KEEP.out _ _ Y g
  clear A D Y B g Tc
  go_wp2_with fail
  have A := A2
  have D := D2
  have Y := Y2
  have B := B2
  clear A2 D2 Y2 B2 c1 f1
  refine (Tb.out _ Y).mono ?_
  rintro e w5 ⟨rfl, hb⟩
  replace A := A.on hb; replace D := D.on hb; replace Y := Y.on hb; replace B := belowOn B hb
  have A2 : Box w5 (w.heap.size + 1) ((.int .i64 x0 :: .int .i64 x1 :: (icl x2 ++ [.int .i64 x3])) ++ (icl zeroI ++ (tcl ⟨x0, x1, x2, x3, x4, 0, 0, 0, 0, 0⟩))) := A
  have tk1 : True := trivial
  clear hb A
  go_wp2_with (have _t := tk1; refine wpl_putI x4 (.int .i64 x0 :: .int .i64 x1 :: (icl x2 ++ [.int .i64 x3])) (tcl ⟨x0, x1, x2, x3, x4, 0, 0, 0, 0, 0⟩) zeroI (.tmp 35) (.tmp 34) rfl A2 rfl ?_ ?_ ?_ ?_; rfl; rfl; rfl; clear tk1; intro u5 A3 g)
  have A : Box u5 (w.heap.size + 1) (bcl ⟨x0, x1, x2, x3, x4, 0, 0, 0, 0, 0⟩) := A3
  have B2 := below_grown B g (by omega) (Nat.le_of_lt D.lt)
  replace D := D.kept (by omega) g
  replace Y := KEEP.out _ _ Y g
  replace B := B2
  clear A2 A3 g B2 Tb
  refine (Tpo.out _ Y).mono ?_
  rintro e w6 ⟨rfl, hb⟩
  replace A := A.on hb; replace D := D.on hb; replace Y := Y.on hb; replace B := belowOn B hb
  clear hb
  have c1 := A.cell 17 (.int .i64 0) rfl
  have f1 := A.free 17 (blen _ _ (by omega))
  have A2 : Box _ (w.heap.size + 1) (bcl ⟨x0, x1, x2, x3, x4, x5, 0, 0, 0, 0⟩) := set_po x5 A
  have g := setCell_grown w6 (w.heap.size + 1) 17 (.int .i64 x5)
  have B2 := below_grown B g (by omega) (Nat.le_of_lt D.lt)
  have D2 := D.kept (by omega) g
  have Y2 := KEEP.out _ _ Y g
  clear A D Y B g Tpo
  go_wp2_with fail
  have A := A2
  have D := D2
  have Y := Y2
  have B := B2
  clear A2 D2 Y2 B2 c1 f1
  refine (Tag.out _ Y).mono ?_
  rintro e w7 ⟨rfl, hb⟩
  replace A := A.on hb; replace D := D.on hb; replace Y := Y.on hb; replace B := belowOn B hb
  clear hb
  have c1 := A.cell 18 (.int .i64 0) rfl
  have f1 := A.free 18 (blen _ _ (by omega))
  have A2 : Box _ (w.heap.size + 1) (bcl ⟨x0, x1, x2, x3, x4, x5, x6, 0, 0, 0⟩) := set_ag x6 A
  have g := setCell_grown w7 (w.heap.size + 1) 18 (.int .i64 x6)
  have B2 := below_grown B g (by omega) (Nat.le_of_lt D.lt)
  have D2 := D.kept (by omega) g
  have Y2 := KEEP.out _ _ Y g
  clear A D Y B g Tag
  go_wp2_with fail
  have A := A2
  have D := D2
  have Y := Y2
  have B := B2
  clear A2 D2 Y2 B2 c1 f1
  refine (Tmx.out _ Y).mono ?_
  rintro e w8 ⟨rfl, hb⟩
  replace A := A.on hb; replace D := D.on hb; replace Y := Y.on hb; replace B := belowOn B hb
  clear hb
  have c1 := A.cell 19 (.int .i64 0) rfl
  have f1 := A.free 19 (blen _ _ (by omega))
  have A2 : Box _ (w.heap.size + 1) (bcl ⟨x0, x1, x2, x3, x4, x5, x6, x7, 0, 0⟩) := set_mx x7 A
  have g := setCell_grown w8 (w.heap.size + 1) 19 (.int .i64 x7)
  have B2 := below_grown B g (by omega) (Nat.le_of_lt D.lt)
  have D2 := D.kept (by omega) g
  have Y2 := KEEP.out _ _ Y g
  clear A D Y B g Tmx
  go_wp2_with fail
  have A := A2
  have D := D2
  have Y := Y2
  have B := B2
  clear A2 D2 Y2 B2 c1 f1
  refine (The.out _ Y).mono ?_
  rintro e w9 ⟨rfl, hb⟩
  replace A := A.on hb; replace D := D.on hb; replace Y := Y.on hb; replace B := belowOn B hb
  clear hb
  have c1 := A.cell 20 (.int .i64 0) rfl
  have f1 := A.free 20 (blen _ _ (by omega))
  have A2 : Box _ (w.heap.size + 1) (bcl ⟨x0, x1, x2, x3, x4, x5, x6, x7, x8, 0⟩) := set_he x8 A
  have g := setCell_grown w9 (w.heap.size + 1) 20 (.int .i64 x8)
  have B2 := below_grown B g (by omega) (Nat.le_of_lt D.lt)
  have D2 := D.kept (by omega) g
  have Y2 := KEEP.out _ _ Y g
  clear A D Y B g The
  go_wp2_with fail
  have A := A2
  have D := D2
  have Y := Y2
  have B := B2
  clear A2 D2 Y2 B2 c1 f1
  refine (Tfw.out _ Y).mono ?_
  rintro e w10 ⟨rfl, hb⟩
  replace A := A.on hb; replace D := D.on hb; replace Y := Y.on hb; replace B := belowOn B hb
  clear hb
  have c1 := A.cell 21 (.int .i64 0) rfl
  have f1 := A.free 21 (blen _ _ (by omega))
  have A2 : Box _ (w.heap.size + 1) (bcl ⟨x0, x1, x2, x3, x4, x5, x6, x7, x8, x9⟩) := set_fw x9 A
  have g := setCell_grown w10 (w.heap.size + 1) 21 (.int .i64 x9)
  have B2 := below_grown B g (by omega) (Nat.le_of_lt D.lt)
  have D2 := D.kept (by omega) g
  have Y2 := KEEP.out _ _ Y g
  clear A D Y B g Tfw
  have tk1 : True := trivial
  go_wp2_with (have _t := tk1; refine wpl_bpdu (.tmp 4) rfl A2 ?_ ?_ ?_; rfl; rfl; clear tk1)
  have A := A2
  have D := D2
  have Y := Y2
  have B := B2
  clear A2 D2 Y2 B2 c1 f1
  clear KEEP l13 l17 l25 l27 l29 l31 l33 l35 d5 d13 d17 d25 d27 d29 d31 d33 n35
  refine (encode11_yes ⟨x0, x1, x2, x3, x4, x5, x6, x7, x8, x9⟩ _ HB.out HT.out).mono ?_
  rintro e v6 ⟨a6, n6, c6, rfl, Y6, hb6⟩
  replace D := D.on hb6; replace A := A.on hb6; replace Y := Y.on hb6; replace B := belowOn B hb6
  have hc1 := bytStr Y6
  have hc2 := bytStr Y
  have hq := HQ.out
  generalize enc ⟨x0, x1, x2, x3, x4, x5, x6, x7, x8, x9⟩ = el at *
  have Sw : w.heap.size ≤ v6.heap.size := Nat.le_of_lt D.lt
  have tk1 : True := trivial
  have tk2 : True := trivial
  clear hb6 Y6 HQ HB HT Y
  go_wp2_with (have _t := tk1; refine wpl_putB zeroB zeroB (.tmp 2) (.tmp 70) rfl D ?_ ?_ ?_ ?_; rfl; rfl; rfl; clear tk1; intro v7 D1 g2)
  refine bodyPost_ret (res_bpdu_tmp rfl rfl D1) rfl ⟨rfl, below_grown B g2 (Nat.le_refl _) Sw⟩
end
theorem decode15 (ao : Option Addr) (n c : Nat) (ns : List Int) (w : World) (h : Byt w ao n c ns) :
    Calls Try.prog 15 #[.slice ao n c] w fun e w' => e = .returned (.tuple #[.agg (BC (dl ns)), .int .i64 (dc ns)]) ∧ Below w.heap.size w w' := by
  have hr := h.rng
  have hl := h.len
  by_cases h4 : n < 4
  · have k := ok_short hr (by omega)
    rw [dl_no k, dc_no k]
    exact dec15_len ao n c w h4
  obtain ⟨b, o, rfl, -, -⟩ := h.at (by omega)
  have hB := dr_B hr
  have hO := ok_dr hr
  have hQ := fun (k : brt (dr ns) = true) => bs_beq (enc_rng hB k) hr
  have hD : ok ns = true → dl ns = dr ns := fun k => by rw [dl_yes k, bpd_dr hr k]
  by_cases h35 : 35 ≤ n
  · have e : dr ns = ⟨ns.getD 3 0, ns.getD 4 0, idt ((ns.drop 5).take 8), nb ((ns.drop 13).take 4), idt ((ns.drop 17).take 8), nb ((ns.drop 25).take 2), nb ((ns.drop 27).take 2), nb ((ns.drop 29).take 2), nb ((ns.drop 31).take 2), nb ((ns.drop 33).take 2)⟩ := by
      unfold dr
      rw [if_pos (by omega)]
    cases k : brt (dr ns)
    · rw [k, Bool.false_and] at hO
      rw [dl_no hO, dc_no hO]
      exact dec15_long_bad b o n c ns w h (by omega) h35 (by rw [← e]; exact k)
    · rw [k, Bool.true_and] at hO
      replace hQ := hQ k
      rw [← hO] at hQ
      cases k2 : ok ns
      · rw [dl_no k2, dc_no k2]
        rw [k2] at hQ
        exact dec15_long_no b o n c ns w h (by omega) h35 (by rw [← e]; exact hB) (by rw [← e]; exact k) (by rw [← e]; exact hQ)
      · rw [hD k2, dc_yes k2, e]
        rw [k2] at hQ
        exact dec15_long_yes b o n c ns w h (by omega) h35 (by rw [← e]; exact hB) (by rw [← e]; exact k) (by rw [← e]; exact hQ)
  · have e : dr ns = ⟨ns.getD 3 0, 0, zeroI, 0, zeroI, 0, 0, 0, 0, 0⟩ := by
      unfold dr
      rw [if_neg (by omega)]
    cases k : brt (dr ns)
    · rw [k, Bool.false_and] at hO
      rw [dl_no hO, dc_no hO]
      exact dec15_short_bad b o n c ns w h (by omega) (by omega) (by rw [← e]; exact k)
    · rw [k, Bool.true_and] at hO
      replace hQ := hQ k
      rw [← hO] at hQ
      cases k2 : ok ns
      · rw [dl_no k2, dc_no k2]
        rw [k2] at hQ
        exact dec15_short_no b o n c ns w h (by omega) (by omega) (by rw [← e]; exact hB) (by rw [← e]; exact k) (by rw [← e]; exact hQ)
      · rw [hD k2, dc_yes k2, e]
        rw [k2] at hQ
        exact dec15_short_yes b o n c ns w h (by omega) (by omega) (by rw [← e]; exact hB) (by rw [← e]; exact k) (by rw [← e]; exact hQ)
end Go.Proofs.Ytdaglmimfkcmeaa
