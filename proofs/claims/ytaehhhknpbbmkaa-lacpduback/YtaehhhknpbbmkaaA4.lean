/- Contracts of what the program puts down: appendPair, appendZeros, appendInfo. -/
import Derived.Test.YtaehhhknpbbmkaaA2
import Derived.Test.YtaehhhknpbbmkaaA3
namespace Go.Proofs.Ytaehhhknpbbmkaa
open Go.RowKit

theorem u8_mod (n : Int) : IntKind.u8.wrap n = n % 256 := by rw [IntKind.wrap_u8]
theorem u8_div (n : Int) (h0 : 0 ≤ n) (h1 : n ≤ 65535) : IntKind.u8.wrap (n / 256) = n / 256 := by rw [IntKind.wrap_u8]; omega
theorem byt2 (w : World) (x y : Int) (h : 0 ≤ x ∧ x ≤ 255) (k : 0 ≤ y ∧ y ≤ 255) : Byt (w.alloc (.cells #[.int .u8 x, .int .u8 y] 5)) (some ⟨w.heap.size, 0, none⟩) 2 2 [x, y] :=
  byt_of_new w _ [x, y] 2 rfl rfl (by omega) (rng_cons h.1 h.2 (rng_cons k.1 k.2 rng_nil))
theorem byt1 (w : World) (x : Int) (h : 0 ≤ x ∧ x ≤ 255) : Byt (w.alloc (.cells #[.int .u8 x] 5)) (some ⟨w.heap.size, 0, none⟩) 1 1 [x] :=
  byt_of_new w _ [x] 1 rfl rfl (by omega) (rng_cons h.1 h.2 rng_nil)
theorem byt4 (w : World) (x y z u : Int) (h : 0 ≤ x ∧ x ≤ 255) (k : 0 ≤ y ∧ y ≤ 255) (h2 : 0 ≤ z ∧ z ≤ 255) (k2 : 0 ≤ u ∧ u ≤ 255) : Byt (w.alloc (.cells #[.int .u8 x, .int .u8 y, .int .u8 z, .int .u8 u] 5)) (some ⟨w.heap.size, 0, none⟩) 4 4 [x, y, z, u] :=
  byt_of_new w _ [x, y, z, u] 4 rfl rfl (by omega) (rng_cons h.1 h.2 (rng_cons k.1 k.2 (rng_cons h2.1 h2.2 (rng_cons k2.1 k2.2 rng_nil))))
theorem bytM {w : World} {b : Nat} {x : Inf} (h : Box w b (icl x)) (hr : Rng (ml x)) : Byt w (some ⟨b, 1, none⟩) 6 6 (ml x) :=
  ⟨rfl, fun e => (by cases e), fun j hj => ⟨b, 1, rfl, by
    refine h.cell (1 + j) _ ?_
    rcases (show j = 0 ∨ j = 1 ∨ j = 2 ∨ j = 3 ∨ j = 4 ∨ j = 5 by omega) with rfl | rfl | rfl | rfl | rfl | rfl <;> rfl⟩, Nat.le_refl _, by unfold maxLen; omega, hr⟩
set_option maxRecDepth 100000 in
set_option maxHeartbeats 1000000 in
theorem pair21 (G k : Nat) (ns : List Int) (n : Int) (w : World) (h0 : 0 ≤ n) (h1 : n ≤ 65535) (hown : Own w G k ns) (hk : k + 2 ≤ 110) :
    Calls Try.prog 21 #[.slice (some ⟨G, 0, none⟩) k 110, .int .i64 n] w fun e w' => e = .returned (.slice (some ⟨G, 0, none⟩) (k + 2) 110) ∧ Own w' G (k + 2) (ns ++ [n / 256, n % 256]) ∧ w.grownBy w' (some G) := by
  have q1 := u8_div n h0 h1
  have q2 := u8_mod n
  have lt := hown.lt
  have HO := hide hown
  have HB := hide (byt2 w (n / 256) (n % 256) (by omega) (by omega))
  clear hown
  go_enter Try.func21, Try.ntmps21
  go_wp2_with (at_builtin; refine wpl_fit rfl (.tmp 5) (.tmp 11) rfl G k (k + 2) ns rfl (HO.out.alloc _) _ 2 2 _ rfl HB.out rfl hk ?_)
  intro w1 h2 h3
  have HO2 := hide h2
  have hB := grown_trans (World.grownBy_alloc w _ (some G)) h3
  clear h2 h3 HO HB
  go_wp2
  go_ret
  exact ⟨rfl, HO2.out, hB⟩
set_option maxRecDepth 100000 in
set_option maxHeartbeats 1000000 in
theorem zeros22 (G k K : Nat) (ns : List Int) (M : Int) (m : Nat) (w : World) (hM : M = m) (h0 : 0 < m) (hown : Own w G k ns) (hK : k + m = K) (hk : K ≤ 110) :
    Calls Try.prog 22 #[.slice (some ⟨G, 0, none⟩) k 110, .int .i64 M] w fun e w' => e = .returned (.slice (some ⟨G, 0, none⟩) K 110) ∧ Own w' G K (ns ++ zs m) ∧ w.grownBy w' (some G) := by
  have HO := hide hown
  have HM := hide hM
  have HK := hide hK
  clear hown hM hK
  go_enter Try.func22, Try.ntmps22
  go_wp2_with (at_builtin; refine wpl_fit0 rfl (.tmp 5) (.tmp 6) rfl G k K ns rfl HO.out M m rfl HM.out h0 (by have := HK.out; omega) HK.out hk ?_)
  intro w1 h2 h3
  have HO2 := hide h2
  clear h2 HO HM HK
  go_wp2
  go_ret
  exact ⟨rfl, HO2.out, h3⟩
set_option maxRecDepth 100000 in
set_option maxHeartbeats 2000000 in
theorem info20 (G k : Nat) (ns : List Int) (x : Inf) (w : World) (hx : irt x = true) (hr : Rng (ml x)) (hown : Own w G k ns) (hk : k + 18 ≤ 110) :
    Calls Try.prog 20 #[.slice (some ⟨G, 0, none⟩) k 110, .agg (IC x)] w fun e w' => e = .returned (.slice (some ⟨G, 0, none⟩) (k + 18) 110) ∧ Own w' G (k + 18) (ns ++ ibs x) ∧ w.grownBy w' (some G) := by
  obtain ⟨⟨a1, b1⟩, ⟨a2, b2⟩, ⟨a3, b3⟩, ⟨a4, b4⟩, ⟨a5, b5⟩⟩ := irt_and hx
  have q5 : IntKind.u8.wrap x.st = x.st := by rw [u8_mod]; omega
  have HR := hide hr
  have G0 : w.grownBy (w.alloc (.cells (IC x) 25)) (some G) := World.grownBy_alloc w _ _
  have A0 : Box (w.alloc (.cells (IC x) 25)) w.heap.size (icl x) := Box.new w (icl x) 25
  have hG : w.heap.size ≠ G := by have := hown.lt; omega
  have HO := hide (hown.alloc (.cells (IC x) 25))
  clear hown hr hx
  go_enter Try.func20, Try.ntmps20
  have c0 := A0.cell 0 _ rfl
  go_wp2_with fail
  refine (pair21 G k ns x.sp _ a1 b1 HO.out (by omega)).mono ?_
  rintro e w1 ⟨rfl, hO, g1⟩
  replace A0 := A0.kept hG g1
  replace G0 := grown_trans G0 g1
  have HO1 := hide hO
  have BM := hide (bytM A0 HR.out)
  clear hO g1 HO c0 a1 b1
  go_wp2_with (at_builtin; refine wpl_fit rfl (.tmp 9) (.tmp 11) rfl G (k + 2) (k + 8) _ rfl HO1.out _ 6 6 _ rfl BM.out (by omega) (by omega) ?_)
  intro w2 hO g1
  replace A0 := A0.kept hG g1
  replace G0 := grown_trans G0 g1
  have HO2 := hide hO
  have c0 := A0.cell 7 _ rfl
  clear hO g1 HO1 BM
  go_wp2_with fail
  refine (pair21 G (k + 8) _ x.ky _ a2 b2 HO2.out (by omega)).mono ?_
  rintro e w3 ⟨rfl, hO, g1⟩
  replace A0 := A0.kept hG g1
  replace G0 := grown_trans G0 g1
  have HO3 := hide hO
  clear hO g1 HO2 c0 a2 b2
  have c0 := A0.cell 8 _ rfl
  go_wp2_with fail
  refine (pair21 G (k + 8 + 2) _ x.pp _ a3 b3 HO3.out (by omega)).mono ?_
  rintro e w4 ⟨rfl, hO, g1⟩
  replace A0 := A0.kept hG g1
  replace G0 := grown_trans G0 g1
  have HO4 := hide hO
  clear hO g1 HO3 c0 a3 b3
  have c0 := A0.cell 9 _ rfl
  go_wp2_with fail
  refine (pair21 G (k + 8 + 2 + 2) _ x.po _ a4 b4 HO4.out (by omega)).mono ?_
  rintro e w5 ⟨rfl, hO, g1⟩
  replace A0 := A0.kept hG g1
  replace G0 := grown_trans G0 g1
  have HO5 := hide hO
  clear hO g1 HO4 c0 a4 b4
  have c0 := A0.cell 10 _ rfl
  have B1 := hide (byt1 w5 x.st ⟨a5, b5⟩)
  go_wp2_with (at_builtin; refine wpl_fit rfl (.tmp 25) (.tmp 29) rfl G (k + 8 + 2 + 2 + 2) (k + 15) _ rfl (HO5.out.alloc _) _ 1 1 _ rfl B1.out (by omega) (by omega) ?_)
  intro w6 hO g1
  replace G0 := grown_trans (grown_alloc G0 _) g1
  have HO6 := hide hO
  clear hO g1 HO5 A0 c0 B1 a5 b5
  go_wp2_with fail
  refine (zeros22 G (k + 15) (k + 18) _ 3 3 _ rfl (by omega) HO6.out (by omega) (by omega)).mono ?_
  rintro e w7 ⟨rfl, hO, g1⟩
  replace G0 := grown_trans G0 g1
  have HO7 := hide hO
  clear hO g1 HO6
  go_wp2
  go_ret
  refine ⟨rfl, ?_, G0⟩
  have h := HO7.out
  simp only [List.append_assoc] at h
  exact h
end Go.Proofs.Ytaehhhknpbbmkaa
