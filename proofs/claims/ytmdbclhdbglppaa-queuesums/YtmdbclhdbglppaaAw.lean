/- Contract of awake. -/
import Derived.Test.YtmdbclhdbglppaaSp
import Derived.Lib.SlBytesConst
namespace Go.Proofs.Ytmdbclhdbglppaa
open Go.RowKit Go.PlainAid

/-- The program's queue alone. -/
structure Pw (w0 w : World) (G : Nat) (p : Addr) (S : Nat → Prop) (n : Nat) (L : List Wt) (ls : List Nat) : Prop where
  P : PQ w p S n L ls
  lo : ∀ i, S i → G ≤ i
  sz : G ≤ w.heap.size
  BB : Below G w0 w
section
variable {w0 w w1 : World} {G : Nat} {p : Addr} {S : Nat → Prop} {n : Nat} {L : List Wt} {ls : List Nat}
theorem Pw.on (H : Pw w0 w G p S n L ls) (C : Below w.heap.size w w1) : Pw w0 w1 G p S n L ls := ⟨H.P.keep (kp_below C), H.lo, Nat.le_trans H.sz C.size, H.BB.trans (C.mono H.sz)⟩
theorem Pw.drewN (H : Pw w0 w G p S n L ls) (q : Nat) : Pw w0 (w.drewN q) G p S n L ls := H.on (belowN (Below.refl _ _) q)
theorem Pw.low (H : Pw w0 w G p S n L ls) (C : Chg S w w1) : Below G w w1 := ⟨C.os, C.tape, C.output, C.size, fun i hi => C.block i (by have := H.sz; omega) (fun h => by have := H.lo i h; omega)⟩
theorem Pw.prog (H : Pw w0 w G p S n L ls) (C : Chg S w w1) {S' : Nat → Prop} {L' : List Wt} {l' : List Nat} (P : PQ w1 p S' n L' l') (hS : ∀ i, S' i → S i ∨ w.heap.size ≤ i) : Pw w0 w1 G p S' n L' l' :=
  ⟨P, fun i hi => by rcases hS i hi with h | h; exact H.lo i h; have := H.sz; omega, Nat.le_trans H.sz C.size, H.BB.trans (H.low C)⟩
end
theorem byt1m (w : World) (x : Int) (h : 0 ≤ x ∧ x ≤ 255) : Byt (w.alloc (.cells #[.int .u8 x] 5 (1, 2))) (some ⟨w.heap.size, 0, none⟩) 1 1 [x] :=
  ⟨rfl, fun e => (by cases e), fun j hj => ⟨w.heap.size, 0, rfl, by
    obtain rfl : j = 0 := by omega
    have hg : (w.alloc (.cells #[.int .u8 x] 5 (1, 2))).heap[w.heap.size]? = some (.cells #[.int .u8 x] 5 (1, 2)) := heap_alloc_new w _
    rw [cell_of_row _ _ _ _ _ _ hg]; rfl⟩, Nat.le_refl _, by unfold maxLen; omega, rng_cons h.1 h.2 rng_nil⟩
theorem str98 : bs [98] = { data := #[98] } := by kernel_rfl
set_option maxRecDepth 100000 in
set_option maxHeartbeats 4000000 in
theorem awakeC (w : World) : Calls Try.prog 8 #[] w fun e w' => e = .returned (.bool true) ∧ Below w.heap.size w w' := by
  obtain ⟨G, hG⟩ : ∃ G, G = w.heap.size := ⟨_, rfl⟩
  have HG := hide hG
  rw [← hG]
  clear hG
  have kc := fun (w : World) (C : Array Value) (n c : Nat) => Lib.run_convert_bytes_const (P := Try.prog) w 32 5 C n c Try.underlying32 Try.underlying5
  go_enter Try.func8, Try.ntmps8
  go_wp2_with fail
  refine (newQ 2 _ (by omega) (by omega)).mono ?_
  rintro e w1 ⟨p, S, rfl, P1, hS1, B1⟩
  have H1 : Hid (Pw w w1 G p S 2 [] z8) := hide ⟨P1, by rw [HG.out]; exact hS1, by rw [HG.out]; exact B1.size, by rw [HG.out]; exact B1⟩
  clear P1 hS1 B1
  have b1 := below_alloc w1 (.cells #[.int .u8 97] 5 (1, 2))
  have Y1 := hide (byt1m w1 97 (by omega))
  replace H1 := hide (H1.out.on b1)
  clear b1
  go_wp2_with fail
  refine (putQ p S 2 [] z8 0 (fun _ => True) _ _ _ [97] _ H1.out.P (by simp) (fun j => by match j with | 0 | 1 | 2 | 3 | 4 | 5 | 6 | 7 => decide | j + 8 => exact Nat.zero_le _) ⟨Y1.out, fun _ _ _ _ => trivial⟩ (by omega)).mono ?_
  rintro e w2 ⟨rfl, ⟨S2, P2, hS2⟩, C2⟩
  have H2 : Hid (Pw w w2 G p S2 2 [⟨0, [97]⟩] z8) := hide (H1.out.prog C2 P2 hS2)
  clear P2 hS2 C2 Y1 H1
  have b2 := below_alloc w2 (.cells #[.int .u8 98] 5 (1, 2))
  have Y2 := hide (byt1m w2 98 (by omega))
  replace H2 := hide (H2.out.on b2)
  clear b2
  go_wp2_with fail
  refine (putQ p S2 2 [⟨0, [97]⟩] z8 7 (fun _ => True) _ _ _ [98] _ H2.out.P (by simp) (fun j => by match j with | 0 | 1 | 2 | 3 | 4 | 5 | 6 | 7 => decide | j + 8 => exact Nat.zero_le _) ⟨Y2.out, fun _ _ _ _ => trivial⟩ (by omega)).mono ?_
  rintro e w3 ⟨rfl, ⟨S3, P3, hS3⟩, C3⟩
  have H3 : Hid (Pw w w3 G p S3 2 [⟨0, [97]⟩, ⟨7, [98]⟩] z8) := hide (H2.out.prog C3 P3 hS3)
  clear P3 hS3 C3 Y2 H2
  go_wp2_with fail
  refine (getQ_some p S3 2 [⟨0, [97]⟩, ⟨7, [98]⟩] z8 ⟨7, [98]⟩ 1 _ H3.out.P (by simp) (by decide) rfl).mono ?_
  rintro e w4 ⟨⟨a4, n4, c4, rfl, Y4⟩, ⟨S4, P4, hS4⟩, C4⟩
  have H4 : Hid (Pw w w4 G p S4 2 [⟨0, [97]⟩] z8) := hide (H3.out.prog C4 P4 hS4)
  have hc := bytStr Y4.b
  rw [str98] at hc
  clear P4 hS4 C4 H3 Y4
  go_wp2_with fail
  refine (lenQ p S4 2 [⟨0, [97]⟩] z8 0 _ H4.out.P).mono ?_
  rintro e w5 ⟨rfl, rfl⟩
  have h1 : cnt [⟨0, [97]⟩] 0 = 1 := by decide
  rw [h1]
  clear hc
  go_wp2
  go_ret
  exact ⟨rfl, H4.out.BB⟩
end Go.Proofs.Ytmdbclhdbglppaa
