/- Contracts of the document's own number and told. -/
import Derived.Test.YtaehhhknpbbmkaaAg
namespace Go.Proofs.Ytaehhhknpbbmkaa
open Go.RowKit Go.PlainAid

theorem drop_getD (ns : List Int) (k j : Nat) : (ns.drop k).getD j 0 = ns.getD (k + j) 0 := by simp [List.getD_eq_getElem?_getD]
theorem Byt.one {w : World} {b o N C : Nat} {ns : List Int} (h : Byt w (some ⟨b, o, none⟩) N C ns) {j : Nat} (hj : j < N) : w.cell? ⟨b, o + j, none⟩ = some (.int .u8 (ns.getD j 0)) := by
  obtain ⟨b', o', e, hc⟩ := h.cell j hj
  injection Option.some.inj e with e1 e2
  subst e1 e2
  exact hc
set_option maxRecDepth 100000 in
set_option maxHeartbeats 1000000 in
theorem num32 (b o q k n c N C : Nat) (ns : List Int) (w : World) (h : Byt w (some ⟨b, o, none⟩) N C ns) (hq : q = o + k) (hk : k + 2 ≤ N) (hn : 2 ≤ n) (hc : n ≤ c) :
    Calls Try.prog 32 #[.slice (some ⟨b, q, none⟩) n c] w fun e w' => e = .returned (.int .i64 (pr (ns.drop k))) ∧ ∃ m, w' = w.drewN m := by
  subst hq
  have d0 := h.one (j := k) (by omega)
  have d1 := h.one (j := k + 1) (by omega)
  rw [← Nat.add_assoc] at d1
  obtain ⟨g0, g1⟩ := rng_getD h.rng k
  obtain ⟨g2, g3⟩ := rng_getD h.rng (k + 1)
  have HP : Hid (pr (ns.drop k) = ns.getD k 0 * 256 + ns.getD (k + 1) 0) := hide (by unfold pr; rw [drop_getD, drop_getD]; rfl)
  generalize ns.getD k 0 = x at *
  generalize ns.getD (k + 1) 0 = y at *
  have b0 := i64_byte x g0 g1
  have b1 := i64_byte y g2 g3
  have hn1 : (2 : Int) ≤ n := by omega
  have hc1 : (n : Int) ≤ c := by omega
  clear h
  generalize o + k = q at *
  go_enter Try.func32, Try.ntmps32
  go_wp2_with fail
  go_quiet (fail)
  go_wp2
  go_ret
  exact ⟨ret_int (by rw [HP.out]), _, rfl⟩
theorem Box.set {w : World} {k : Nat} {cs : List Value} (h : Box w k cs) (j : Nat) (v : Value) (hj : j < cs.length) : Box (w.setCell ⟨k, j, none⟩ v) k (cs.set j v) := by
  have e1 : cs = cs.take j ++ ([cs[j]] ++ cs.drop (j + 1)) := by
    have h1 := List.take_append_drop j cs
    rw [List.drop_eq_getElem_cons hj] at h1
    exact h1.symm
  have hb := Box.put (w := w) (k := k) (o := j) (A := cs.take j) (B := [cs[j]]) (C := cs.drop (j + 1)) (B' := [v]) (by rw [← e1]; exact h) rfl (by rw [List.length_take]; omega)
  rw [List.set_eq_take_append_cons_drop, if_pos hj]
  exact hb
/-- An info with the first k bytes of its address. -/
def tk6 (x : Inf) (f : Nat → Int) : Nat → Inf
  | 0 => { x with m0 := 0, m1 := 0, m2 := 0, m3 := 0, m4 := 0, m5 := 0 }
  | 1 => { x with m0 := f 0, m1 := 0, m2 := 0, m3 := 0, m4 := 0, m5 := 0 }
  | 2 => { x with m0 := f 0, m1 := f 1, m2 := 0, m3 := 0, m4 := 0, m5 := 0 }
  | 3 => { x with m0 := f 0, m1 := f 1, m2 := f 2, m3 := 0, m4 := 0, m5 := 0 }
  | 4 => { x with m0 := f 0, m1 := f 1, m2 := f 2, m3 := f 3, m4 := 0, m5 := 0 }
  | 5 => { x with m0 := f 0, m1 := f 1, m2 := f 2, m3 := f 3, m4 := f 4, m5 := 0 }
  | _ => { x with m0 := f 0, m1 := f 1, m2 := f 2, m3 := f 3, m4 := f 4, m5 := f 5 }
theorem below_drewN {B : Nat} {a w : World} (h : Below B a w) (n : Nat) : Below B a (w.drewN n) := ⟨h.os, h.tape, h.output, h.size, h.block⟩
section
attribute [local go_sem] ZI
set_option maxRecDepth 100000 in
set_option maxHeartbeats 4000000 in
theorem told31 (b o c : Nat) (ns : List Int) (w : World) (h : Byt w (some ⟨b, o, none⟩) 18 c ns) :
    Calls Try.prog 31 #[.slice (some ⟨b, o, none⟩) 18 c] w fun e w' => e = .returned (.agg (IC (inf ns))) ∧ Below w.heap.size w w' := by
  have hle : (18 : Int) ≤ c := by have := h.le; omega
  have hcn : 18 ≤ c := h.le
  have hbl : b < w.heap.size := h.lt b o rfl (by omega)
  have hd8 : ¬ c = 8 := by omega
  have hd10 : ¬ c = 10 := by omega
  have hd12 : ¬ c = 12 := by omega
  have A0 : Box (w.alloc (.cells (IC zeroI) 25)).drew w.heap.size (icl zeroI) := (Box.new w (icl zeroI) 25).drew
  have Y0 := (h.alloc (.cells (IC zeroI) 25)).drew
  have W0 := (below_alloc w (.cells (IC zeroI) 25)).drew
  have S0 : (w.alloc (.cells (IC zeroI) 25)).drew.heap.size = w.heap.size + 1 := by simp
  obtain ⟨gz0, gz1⟩ := rng_getD h.rng 14
  have HZ : Hid (∀ W, Byt W (some ⟨b, o, none⟩) 18 c ns → W.cell? ⟨b, o + 14, none⟩ = some (.int .u8 (ns.getD 14 0))) := hide (fun W h => h.one (by omega))
  have hcell : ∀ W, Byt W (some ⟨b, o, none⟩) 18 c ns → ∀ j, j < 18 → W.cell? ⟨b, o + j, none⟩ = some (.int .u8 (ns.getD j 0)) := fun W h j hj => h.one hj
  have HCELL := hide hcell
  have HINF : Hid (inf ns = tk6 ⟨pr ns, 0, 0, 0, 0, 0, 0, pr (ns.drop 8), pr (ns.drop 10), pr (ns.drop 12), ns.getD 14 0⟩ (fun j => ns.getD (2 + j) 0) 6) := hide rfl
  have HP0 : Hid (pr ns = pr (ns.drop 0)) := hide rfl
  have hf : ∀ j, ns.getD (2 + j) 0 = (fun j => ns.getD (2 + j) 0) j := fun j => rfl
  clear h hcell
  rw [HINF.out]
  generalize hF : (fun j => ns.getD (2 + j) 0) = f at *
  replace hf := hide hf
  clear hF HINF
  rw [HP0.out]
  have N0 : ∀ (W : World), Byt W (some ⟨b, o, none⟩) 18 c ns → Calls Try.prog 32 #[.slice (some ⟨b, o, none⟩) 18 c] W fun e w' => e = .returned (.int .i64 (pr (ns.drop 0))) ∧ ∃ m, w' = W.drewN m := fun W h => num32 b o o 0 18 c 18 c ns W h rfl (by omega) (by omega) hcn
  have N1 : ∀ (W : World), Byt W (some ⟨b, o, none⟩) 18 c ns → Calls Try.prog 32 #[.slice (some ⟨b, o + 8, none⟩) 10 (c - 8)] W fun e w' => e = .returned (.int .i64 (pr (ns.drop 8))) ∧ ∃ m, w' = W.drewN m := fun W h => num32 b o (o + 8) 8 10 (c - 8) 18 c ns W h rfl (by omega) (by omega) (by omega)
  have N2 : ∀ (W : World), Byt W (some ⟨b, o, none⟩) 18 c ns → Calls Try.prog 32 #[.slice (some ⟨b, o + 10, none⟩) 8 (c - 10)] W fun e w' => e = .returned (.int .i64 (pr (ns.drop 10))) ∧ ∃ m, w' = W.drewN m := fun W h => num32 b o (o + 10) 10 8 (c - 10) 18 c ns W h rfl (by omega) (by omega) (by omega)
  have N3 : ∀ (W : World), Byt W (some ⟨b, o, none⟩) 18 c ns → Calls Try.prog 32 #[.slice (some ⟨b, o + 12, none⟩) 6 (c - 12)] W fun e w' => e = .returned (.int .i64 (pr (ns.drop 12))) ∧ ∃ m, w' = W.drewN m := fun W h => num32 b o (o + 12) 12 6 (c - 12) 18 c ns W h rfl (by omega) (by omega) (by omega)
  generalize pr (ns.drop 0) = P0 at *
  generalize pr (ns.drop 8) = P1 at *
  generalize pr (ns.drop 10) = P2 at *
  generalize pr (ns.drop 12) = P3 at *
  generalize ns.getD 14 0 = z at *
  have bz := i64_byte z gz0 gz1
  replace N0 := hide N0; replace N1 := hide N1; replace N2 := hide N2; replace N3 := hide N3
  clear HP0
  go_enter Try.func31, Try.ntmps31
  go_wp2_with fail
  refine wp_region_held_drew (S := fun w' => Byt w' (some ⟨b, o, none⟩) 18 c ns) (by kernel_rfl) Y0 (fun hHeld => ?_)
  refine wpAnyH_take (i := 0) (v := .slice (some ⟨b, o, none⟩) 18 c) rfl (by kernel_rfl) (by kernel_rfl) (by kernel_rfl) (fun _ _ _ h => h) (Or.inl ⟨by rfl, ?_⟩) hHeld ?_
  · intro W hW; clear hW; go_simp
  change wpAnyH _ _ _ _ _ _ _ ⟨#[.slice (some ⟨b, o, none⟩) 18 c, undef, .pointer (some ⟨w.heap.size, 0, none⟩), undef, undef, .slice (some ⟨b, o, none⟩) 18 c, undef, undef, undef, undef, undef, undef, undef, undef, undef, undef, undef, undef, undef, undef, undef, undef, undef, undef, undef, undef, undef, undef, undef, undef, undef, undef, undef, undef], []⟩ _
  refine wpAnyH_take (i := 2) (v := .slice (some ⟨b, o, none⟩) 18 c) rfl (by kernel_rfl) (by kernel_rfl) (by kernel_rfl) (fun _ _ _ h => h) (Or.inl ⟨by rfl, ?_⟩) hHeld ?_
  · intro W hW; clear hW; go_simp
  change wpAnyH _ _ _ _ _ _ _ ⟨#[.slice (some ⟨b, o, none⟩) 18 c, undef, .pointer (some ⟨w.heap.size, 0, none⟩), undef, undef, .slice (some ⟨b, o, none⟩) 18 c, undef, .slice (some ⟨b, o, none⟩) 18 c, undef, undef, undef, undef, undef, undef, undef, undef, undef, undef, undef, undef, undef, undef, undef, undef, undef, undef, undef, undef, undef, undef, undef, undef, undef, undef], []⟩ _
  refine wpAnyH_take (i := 3) (v := .slice (some ⟨b, o + 8, none⟩) 10 (c - 8)) rfl (by kernel_rfl) (by kernel_rfl) (by kernel_rfl) (fun _ _ _ h => h) (Or.inl ⟨by rfl, ?_⟩) hHeld ?_
  · intro W hW; clear hW; go_simp
  change wpAnyH _ _ _ _ _ _ _ ⟨#[.slice (some ⟨b, o, none⟩) 18 c, undef, .pointer (some ⟨w.heap.size, 0, none⟩), undef, undef, .slice (some ⟨b, o, none⟩) 18 c, undef, .slice (some ⟨b, o, none⟩) 18 c, .slice (some ⟨b, o + 8, none⟩) 10 (c - 8), undef, undef, undef, undef, undef, undef, undef, undef, undef, undef, undef, undef, undef, undef, undef, undef, undef, undef, undef, undef, undef, undef, undef, undef, undef], []⟩ _
  refine wpAnyH_take (i := 5) (v := .slice (some ⟨b, o, none⟩) 18 c) rfl (by kernel_rfl) (by kernel_rfl) (by kernel_rfl) (fun _ _ _ h => h) (Or.inl ⟨by rfl, ?_⟩) hHeld ?_
  · intro W hW; clear hW; go_simp
  change wpAnyH _ _ _ _ _ _ _ ⟨#[.slice (some ⟨b, o, none⟩) 18 c, undef, .pointer (some ⟨w.heap.size, 0, none⟩), undef, undef, .slice (some ⟨b, o, none⟩) 18 c, undef, .slice (some ⟨b, o, none⟩) 18 c, .slice (some ⟨b, o + 8, none⟩) 10 (c - 8), undef, .slice (some ⟨b, o, none⟩) 18 c, undef, undef, undef, undef, undef, undef, undef, undef, undef, undef, undef, undef, undef, undef, undef, undef, undef, undef, undef, undef, undef, undef, undef], []⟩ _
  refine wpAnyH_take (i := 6) (v := .slice (some ⟨b, o + 10, none⟩) 8 (c - 10)) rfl (by kernel_rfl) (by kernel_rfl) (by kernel_rfl) (fun _ _ _ h => h) (Or.inl ⟨by rfl, ?_⟩) hHeld ?_
  · intro W hW; clear hW; go_simp
  change wpAnyH _ _ _ _ _ _ _ ⟨#[.slice (some ⟨b, o, none⟩) 18 c, undef, .pointer (some ⟨w.heap.size, 0, none⟩), undef, undef, .slice (some ⟨b, o, none⟩) 18 c, undef, .slice (some ⟨b, o, none⟩) 18 c, .slice (some ⟨b, o + 8, none⟩) 10 (c - 8), undef, .slice (some ⟨b, o, none⟩) 18 c, .slice (some ⟨b, o + 10, none⟩) 8 (c - 10), undef, undef, undef, undef, undef, undef, undef, undef, undef, undef, undef, undef, undef, undef, undef, undef, undef, undef, undef, undef, undef, undef], []⟩ _
  refine wpAnyH_take (i := 8) (v := .slice (some ⟨b, o, none⟩) 18 c) rfl (by kernel_rfl) (by kernel_rfl) (by kernel_rfl) (fun _ _ _ h => h) (Or.inl ⟨by rfl, ?_⟩) hHeld ?_
  · intro W hW; clear hW; go_simp
  change wpAnyH _ _ _ _ _ _ _ ⟨#[.slice (some ⟨b, o, none⟩) 18 c, undef, .pointer (some ⟨w.heap.size, 0, none⟩), undef, undef, .slice (some ⟨b, o, none⟩) 18 c, undef, .slice (some ⟨b, o, none⟩) 18 c, .slice (some ⟨b, o + 8, none⟩) 10 (c - 8), undef, .slice (some ⟨b, o, none⟩) 18 c, .slice (some ⟨b, o + 10, none⟩) 8 (c - 10), undef, .slice (some ⟨b, o, none⟩) 18 c, undef, undef, undef, undef, undef, undef, undef, undef, undef, undef, undef, undef, undef, undef, undef, undef, undef, undef, undef, undef], []⟩ _
  refine wpAnyH_take (i := 9) (v := .slice (some ⟨b, o + 12, none⟩) 6 (c - 12)) rfl (by kernel_rfl) (by kernel_rfl) (by kernel_rfl) (fun _ _ _ h => h) (Or.inl ⟨by rfl, ?_⟩) hHeld ?_
  · intro W hW; clear hW; go_simp
  change wpAnyH _ _ _ _ _ _ _ ⟨#[.slice (some ⟨b, o, none⟩) 18 c, undef, .pointer (some ⟨w.heap.size, 0, none⟩), undef, undef, .slice (some ⟨b, o, none⟩) 18 c, undef, .slice (some ⟨b, o, none⟩) 18 c, .slice (some ⟨b, o + 8, none⟩) 10 (c - 8), undef, .slice (some ⟨b, o, none⟩) 18 c, .slice (some ⟨b, o + 10, none⟩) 8 (c - 10), undef, .slice (some ⟨b, o, none⟩) 18 c, .slice (some ⟨b, o + 12, none⟩) 6 (c - 12), undef, undef, undef, undef, undef, undef, undef, undef, undef, undef, undef, undef, undef, undef, undef, undef, undef, undef, undef], []⟩ _
  refine wpAnyH_take (i := 11) (v := .slice (some ⟨b, o, none⟩) 18 c) rfl (by kernel_rfl) (by kernel_rfl) (by kernel_rfl) (fun _ _ _ h => h) (Or.inl ⟨by rfl, ?_⟩) hHeld ?_
  · intro W hW; clear hW; go_simp
  change wpAnyH _ _ _ _ _ _ _ ⟨#[.slice (some ⟨b, o, none⟩) 18 c, undef, .pointer (some ⟨w.heap.size, 0, none⟩), undef, undef, .slice (some ⟨b, o, none⟩) 18 c, undef, .slice (some ⟨b, o, none⟩) 18 c, .slice (some ⟨b, o + 8, none⟩) 10 (c - 8), undef, .slice (some ⟨b, o, none⟩) 18 c, .slice (some ⟨b, o + 10, none⟩) 8 (c - 10), undef, .slice (some ⟨b, o, none⟩) 18 c, .slice (some ⟨b, o + 12, none⟩) 6 (c - 12), undef, .slice (some ⟨b, o, none⟩) 18 c, undef, undef, undef, undef, undef, undef, undef, undef, undef, undef, undef, undef, undef, undef, undef, undef, undef], []⟩ _
  refine wpAnyH_take (i := 12) (v := .pointer (some ⟨b, o + 14, none⟩)) rfl (by kernel_rfl) (by kernel_rfl) (by kernel_rfl) (fun _ _ _ h => h) (Or.inl ⟨by rfl, ?_⟩) hHeld ?_
  · intro W hW; clear hW; go_simp
  change wpAnyH _ _ _ _ _ _ _ ⟨#[.slice (some ⟨b, o, none⟩) 18 c, undef, .pointer (some ⟨w.heap.size, 0, none⟩), undef, undef, .slice (some ⟨b, o, none⟩) 18 c, undef, .slice (some ⟨b, o, none⟩) 18 c, .slice (some ⟨b, o + 8, none⟩) 10 (c - 8), undef, .slice (some ⟨b, o, none⟩) 18 c, .slice (some ⟨b, o + 10, none⟩) 8 (c - 10), undef, .slice (some ⟨b, o, none⟩) 18 c, .slice (some ⟨b, o + 12, none⟩) 6 (c - 12), undef, .slice (some ⟨b, o, none⟩) 18 c, .pointer (some ⟨b, o + 14, none⟩), undef, undef, undef, undef, undef, undef, undef, undef, undef, undef, undef, undef, undef, undef, undef, undef], []⟩ _
  refine wpAnyH_take (i := 13) (v := .int .u8 z) rfl (by kernel_rfl) (by kernel_rfl) (by kernel_rfl) (fun _ _ _ h => h) (Or.inl ⟨by rfl, ?_⟩) hHeld ?_
  · intro W hW; have hz := HZ.out W hW; clear hW; go_simp
  change wpAnyH _ _ _ _ _ _ _ ⟨#[.slice (some ⟨b, o, none⟩) 18 c, undef, .pointer (some ⟨w.heap.size, 0, none⟩), undef, undef, .slice (some ⟨b, o, none⟩) 18 c, undef, .slice (some ⟨b, o, none⟩) 18 c, .slice (some ⟨b, o + 8, none⟩) 10 (c - 8), undef, .slice (some ⟨b, o, none⟩) 18 c, .slice (some ⟨b, o + 10, none⟩) 8 (c - 10), undef, .slice (some ⟨b, o, none⟩) 18 c, .slice (some ⟨b, o + 12, none⟩) 6 (c - 12), undef, .slice (some ⟨b, o, none⟩) 18 c, .pointer (some ⟨b, o + 14, none⟩), .int .u8 z, undef, undef, undef, undef, undef, undef, undef, undef, undef, undef, undef, undef, undef, undef, undef], []⟩ _
  refine wpAnyH_take (i := 14) (v := .int .i64 z) rfl (by kernel_rfl) (by kernel_rfl) (by kernel_rfl) (fun _ _ _ h => h) (Or.inl ⟨by rfl, ?_⟩) hHeld ?_
  · intro W hW; clear hW; go_simp
  change wpAnyH _ _ _ _ _ _ _ ⟨#[.slice (some ⟨b, o, none⟩) 18 c, undef, .pointer (some ⟨w.heap.size, 0, none⟩), undef, undef, .slice (some ⟨b, o, none⟩) 18 c, undef, .slice (some ⟨b, o, none⟩) 18 c, .slice (some ⟨b, o + 8, none⟩) 10 (c - 8), undef, .slice (some ⟨b, o, none⟩) 18 c, .slice (some ⟨b, o + 10, none⟩) 8 (c - 10), undef, .slice (some ⟨b, o, none⟩) 18 c, .slice (some ⟨b, o + 12, none⟩) 6 (c - 12), undef, .slice (some ⟨b, o, none⟩) 18 c, .pointer (some ⟨b, o + 14, none⟩), .int .u8 z, .int .i64 z, undef, undef, undef, undef, undef, undef, undef, undef, undef, undef, undef, undef, undef, undef], []⟩ _
  obtain ⟨u0, hu0⟩ : ∃ u0, u0 = (w.alloc (.cells (IC zeroI) 25)).drew := ⟨_, rfl⟩
  rw [← hu0] at A0 Y0 W0 S0 hHeld ⊢
  clear hu0
  refine wpAnyH_ready (rs := [1, 16]) (by kernel_rfl) (by simp) ?_
  refine AllReadyH.cons rfl (fun K hK => ?_) (AllReadyH.cons rfl (fun K hK => ?_) AllReadyH.nil)
  rotate_left
  · skip
    go_simp
    have C0 : Box (World.alloc u0 (.cells (IC zeroI) 25)) (World.heap u0).size (icl zeroI) := Box.new _ (icl zeroI) 25
    rw [S0] at C0
    replace Y0 := Y0.alloc (.cells (IC zeroI) 25); replace A0 := A0.alloc (.cells (IC zeroI) 25); replace W0 := belowOn W0 (below_alloc _ (.cells (IC zeroI) 25))
    refine hK.out _ _ Y0 (fun hHeld => ?_)
    clear hK K hHeld
    obtain ⟨u1, hu⟩ : ∃ u1, u1 = World.alloc u0 (.cells (IC zeroI) 25) := ⟨_, rfl⟩
    replace S0 : u1.heap.size = w.heap.size + 2 := by rw [hu, World.size_alloc, S0]
    rw [← hu] at Y0 A0 W0 C0
    have hHeld := Y0
    change wpAnyH _ _ _ _ _ _ _ ⟨#[.slice (some ⟨b, o, none⟩) 18 c, undef, .pointer (some ⟨w.heap.size, 0, none⟩), .pointer (some ⟨w.heap.size + 1, 0, none⟩), undef, .slice (some ⟨b, o, none⟩) 18 c, undef, .slice (some ⟨b, o, none⟩) 18 c, .slice (some ⟨b, o + 8, none⟩) 10 (c - 8), undef, .slice (some ⟨b, o, none⟩) 18 c, .slice (some ⟨b, o + 10, none⟩) 8 (c - 10), undef, .slice (some ⟨b, o, none⟩) 18 c, .slice (some ⟨b, o + 12, none⟩) 6 (c - 12), undef, .slice (some ⟨b, o, none⟩) 18 c, .pointer (some ⟨b, o + 14, none⟩), .int .u8 z, .int .i64 z, undef, undef, undef, undef, undef, undef, undef, undef, undef, undef, undef, undef, undef, undef], []⟩ (World.alloc u0 (.cells (IC zeroI) 25))
    rw [← hu]
    clear hu
    refine wpAnyH_ready (rs := [1]) (by kernel_rfl) (by simp) ?_
    refine AllReadyH.cons rfl (fun K hK => ?_) AllReadyH.nil
    go_simp
    refine (N0.out _ Y0).mono ?_
    rintro e u2 ⟨rfl, m, hm⟩
    replace Y0 := Y0.drewN m; replace A0 := A0.drewN m; replace W0 := below_drewN W0 m; replace C0 := C0.drewN m
    replace S0 : u2.heap.size = w.heap.size + 2 := by rw [hm]; exact S0
    rw [← hm] at Y0 A0 W0 C0
    clear hm hHeld
    refine hK.out _ _ Y0 (fun hHeld => ?_)
    clear hK K
    change wpAnyH _ _ _ _ _ _ _ ⟨#[.slice (some ⟨b, o, none⟩) 18 c, undef, .pointer (some ⟨w.heap.size, 0, none⟩), .pointer (some ⟨w.heap.size + 1, 0, none⟩), undef, .slice (some ⟨b, o, none⟩) 18 c, .int .i64 P0, .slice (some ⟨b, o, none⟩) 18 c, .slice (some ⟨b, o + 8, none⟩) 10 (c - 8), undef, .slice (some ⟨b, o, none⟩) 18 c, .slice (some ⟨b, o + 10, none⟩) 8 (c - 10), undef, .slice (some ⟨b, o, none⟩) 18 c, .slice (some ⟨b, o + 12, none⟩) 6 (c - 12), undef, .slice (some ⟨b, o, none⟩) 18 c, .pointer (some ⟨b, o + 14, none⟩), .int .u8 z, .int .i64 z, undef, undef, undef, undef, undef, undef, undef, undef, undef, undef, undef, undef, undef, undef], []⟩ _
    refine wpAnyH_ready (rs := [4]) (by kernel_rfl) (by simp) ?_
    refine AllReadyH.cons rfl (fun K hK => ?_) AllReadyH.nil
    go_simp
    refine (N1.out _ Y0).mono ?_
    rintro e u3 ⟨rfl, m, hm⟩
    replace Y0 := Y0.drewN m; replace A0 := A0.drewN m; replace W0 := below_drewN W0 m; replace C0 := C0.drewN m
    replace S0 : u3.heap.size = w.heap.size + 2 := by rw [hm]; exact S0
    rw [← hm] at Y0 A0 W0 C0
    clear hm hHeld
    refine hK.out _ _ Y0 (fun hHeld => ?_)
    clear hK K
    change wpAnyH _ _ _ _ _ _ _ ⟨#[.slice (some ⟨b, o, none⟩) 18 c, undef, .pointer (some ⟨w.heap.size, 0, none⟩), .pointer (some ⟨w.heap.size + 1, 0, none⟩), undef, .slice (some ⟨b, o, none⟩) 18 c, .int .i64 P0, .slice (some ⟨b, o, none⟩) 18 c, .slice (some ⟨b, o + 8, none⟩) 10 (c - 8), .int .i64 P1, .slice (some ⟨b, o, none⟩) 18 c, .slice (some ⟨b, o + 10, none⟩) 8 (c - 10), undef, .slice (some ⟨b, o, none⟩) 18 c, .slice (some ⟨b, o + 12, none⟩) 6 (c - 12), undef, .slice (some ⟨b, o, none⟩) 18 c, .pointer (some ⟨b, o + 14, none⟩), .int .u8 z, .int .i64 z, undef, undef, undef, undef, undef, undef, undef, undef, undef, undef, undef, undef, undef, undef], []⟩ _
    refine wpAnyH_ready (rs := [7]) (by kernel_rfl) (by simp) ?_
    refine AllReadyH.cons rfl (fun K hK => ?_) AllReadyH.nil
    go_simp
    refine (N2.out _ Y0).mono ?_
    rintro e u4 ⟨rfl, m, hm⟩
    replace Y0 := Y0.drewN m; replace A0 := A0.drewN m; replace W0 := below_drewN W0 m; replace C0 := C0.drewN m
    replace S0 : u4.heap.size = w.heap.size + 2 := by rw [hm]; exact S0
    rw [← hm] at Y0 A0 W0 C0
    clear hm hHeld
    refine hK.out _ _ Y0 (fun hHeld => ?_)
    clear hK K
    change wpAnyH _ _ _ _ _ _ _ ⟨#[.slice (some ⟨b, o, none⟩) 18 c, undef, .pointer (some ⟨w.heap.size, 0, none⟩), .pointer (some ⟨w.heap.size + 1, 0, none⟩), undef, .slice (some ⟨b, o, none⟩) 18 c, .int .i64 P0, .slice (some ⟨b, o, none⟩) 18 c, .slice (some ⟨b, o + 8, none⟩) 10 (c - 8), .int .i64 P1, .slice (some ⟨b, o, none⟩) 18 c, .slice (some ⟨b, o + 10, none⟩) 8 (c - 10), .int .i64 P2, .slice (some ⟨b, o, none⟩) 18 c, .slice (some ⟨b, o + 12, none⟩) 6 (c - 12), undef, .slice (some ⟨b, o, none⟩) 18 c, .pointer (some ⟨b, o + 14, none⟩), .int .u8 z, .int .i64 z, undef, undef, undef, undef, undef, undef, undef, undef, undef, undef, undef, undef, undef, undef], []⟩ _
    refine wpAnyH_ready (rs := [10]) (by kernel_rfl) (by simp) ?_
    refine AllReadyH.cons rfl (fun K hK => ?_) AllReadyH.nil
    go_simp
    refine (N3.out _ Y0).mono ?_
    rintro e u5 ⟨rfl, m, hm⟩
    replace Y0 := Y0.drewN m; replace A0 := A0.drewN m; replace W0 := below_drewN W0 m; replace C0 := C0.drewN m
    replace S0 : u5.heap.size = w.heap.size + 2 := by rw [hm]; exact S0
    rw [← hm] at Y0 A0 W0 C0
    clear hm hHeld
    refine hK.out _ _ Y0 (fun hHeld => ?_)
    clear hK K
    change wpAnyH _ _ _ _ _ _ _ ⟨#[.slice (some ⟨b, o, none⟩) 18 c, undef, .pointer (some ⟨w.heap.size, 0, none⟩), .pointer (some ⟨w.heap.size + 1, 0, none⟩), undef, .slice (some ⟨b, o, none⟩) 18 c, .int .i64 P0, .slice (some ⟨b, o, none⟩) 18 c, .slice (some ⟨b, o + 8, none⟩) 10 (c - 8), .int .i64 P1, .slice (some ⟨b, o, none⟩) 18 c, .slice (some ⟨b, o + 10, none⟩) 8 (c - 10), .int .i64 P2, .slice (some ⟨b, o, none⟩) 18 c, .slice (some ⟨b, o + 12, none⟩) 6 (c - 12), .int .i64 P3, .slice (some ⟨b, o, none⟩) 18 c, .pointer (some ⟨b, o + 14, none⟩), .int .u8 z, .int .i64 z, undef, undef, undef, undef, undef, undef, undef, undef, undef, undef, undef, undef, undef, undef], []⟩ _
    refine wpAnyH_take (i := 15) (v := .agg #[.int .i64 P0, .int .u8 0, .int .u8 0, .int .u8 0, .int .u8 0, .int .u8 0, .int .u8 0, .int .i64 P1, .int .i64 P2, .int .i64 P3, .int .i64 z]) rfl (by kernel_rfl) (by kernel_rfl) (by kernel_rfl) (fun _ _ _ h => h) (Or.inl ⟨by rfl, ?_⟩) hHeld ?_
    · intro W hW; clear hW; go_simp; simp [IC, icl, mcl, zeroI]
    change wpAnyH _ _ _ _ _ _ _ ⟨#[.slice (some ⟨b, o, none⟩) 18 c, undef, .pointer (some ⟨w.heap.size, 0, none⟩), .pointer (some ⟨w.heap.size + 1, 0, none⟩), undef, .slice (some ⟨b, o, none⟩) 18 c, .int .i64 P0, .slice (some ⟨b, o, none⟩) 18 c, .slice (some ⟨b, o + 8, none⟩) 10 (c - 8), .int .i64 P1, .slice (some ⟨b, o, none⟩) 18 c, .slice (some ⟨b, o + 10, none⟩) 8 (c - 10), .int .i64 P2, .slice (some ⟨b, o, none⟩) 18 c, .slice (some ⟨b, o + 12, none⟩) 6 (c - 12), .int .i64 P3, .slice (some ⟨b, o, none⟩) 18 c, .pointer (some ⟨b, o + 14, none⟩), .int .u8 z, .int .i64 z, .agg #[.int .i64 P0, .int .u8 0, .int .u8 0, .int .u8 0, .int .u8 0, .int .u8 0, .int .u8 0, .int .i64 P1, .int .i64 P2, .int .i64 P3, .int .i64 z], undef, undef, undef, undef, undef, undef, undef, undef, undef, undef, undef, undef, undef], []⟩ _
    refine wpAnyH_ready (rs := [17]) (by kernel_rfl) (by simp) ?_
    refine AllReadyH.cons rfl (fun K hK => ?_) AllReadyH.nil
    rw [if_pos (by rfl)]
    refine wp_store_mid 25 (.tmp 3) (.tmp 20) rfl (w.heap.size + 1) 0 (IC ⟨P0, 0, 0, 0, 0, 0, 0, P1, P2, P3, z⟩) rfl rfl C0.th Try.size25 (one_icl _) ?_
    have g2 := setCells_grown (w.heap.size + 1) (icl ⟨P0, 0, 0, 0, 0, 0, 0, P1, P2, P3, z⟩) 0 u5
    have C1 : Box (World.setCells u5 (w.heap.size + 1) 0 (icl ⟨P0, 0, 0, 0, 0, 0, 0, P1, P2, P3, z⟩)) (w.heap.size + 1) (icl ⟨P0, 0, 0, 0, 0, 0, 0, P1, P2, P3, z⟩) := by
      have hb := Box.put (w := u5) (k := w.heap.size + 1) (o := 0) (A := []) (B := icl zeroI) (C := []) (B' := icl ⟨P0, 0, 0, 0, 0, 0, 0, P1, P2, P3, z⟩) (by rw [List.append_nil]; exact C0) rfl rfl
      rw [List.append_nil] at hb
      exact hb
    replace A0 := A0.kept (by omega) g2
    replace Y0 := Y0.kept (k := w.heap.size + 1) (fun b' o' e _ => by injection Option.some.inj e with e1 e2; omega) g2
    replace W0 := below_grown W0 g2 (by omega) (by omega)
    refine hK.out _ _ Y0 (fun hHeld => ?_)
    clear hK K hHeld g2 C0 N0 N1 N2 N3 HZ S0
    obtain ⟨v5, hv5⟩ : ∃ v5, v5 = World.setCells u5 (w.heap.size + 1) 0 (icl ⟨P0, 0, 0, 0, 0, 0, 0, P1, P2, P3, z⟩) := ⟨_, rfl⟩
    rw [← hv5] at A0 Y0 W0 C1
    have e5 : World.setCells u5 (w.heap.size + 1) 0 (IC ⟨P0, 0, 0, 0, 0, 0, 0, P1, P2, P3, z⟩).toList = v5 := by rw [hv5]; rfl
    rw [e5]
    clear e5 hv5
    change wpAnyH _ _ _ _ _ _ _ ⟨#[.slice (some ⟨b, o, none⟩) 18 c, undef, .pointer (some ⟨w.heap.size, 0, none⟩), .pointer (some ⟨w.heap.size + 1, 0, none⟩), undef, .slice (some ⟨b, o, none⟩) 18 c, .int .i64 P0, .slice (some ⟨b, o, none⟩) 18 c, .slice (some ⟨b, o + 8, none⟩) 10 (c - 8), .int .i64 P1, .slice (some ⟨b, o, none⟩) 18 c, .slice (some ⟨b, o + 10, none⟩) 8 (c - 10), .int .i64 P2, .slice (some ⟨b, o, none⟩) 18 c, .slice (some ⟨b, o + 12, none⟩) 6 (c - 12), .int .i64 P3, .slice (some ⟨b, o, none⟩) 18 c, .pointer (some ⟨b, o + 14, none⟩), .int .u8 z, .int .i64 z, .agg #[.int .i64 P0, .int .u8 0, .int .u8 0, .int .u8 0, .int .u8 0, .int .u8 0, .int .u8 0, .int .i64 P1, .int .i64 P2, .int .i64 P3, .int .i64 z], undef, undef, undef, undef, undef, undef, undef, undef, undef, undef, undef, undef, undef], []⟩ _
    refine wpAnyH_done (by kernel_rfl) ?_ _
    go_wp2
    go_loopw [4] (fun i wr => ∃ k : Nat, k ≤ 6 ∧ i = .int .i64 k ∧ Box wr (w.heap.size + 1) (icl (tk6 ⟨P0, 0, 0, 0, 0, 0, 0, P1, P2, P3, z⟩ f k)) ∧ Box wr w.heap.size (icl zeroI) ∧ Byt wr (some ⟨b, o, none⟩) 18 c ns ∧ Below w.heap.size w wr) (fun i _ => 6 - (intOf i).toNat)
    case atStart => exact ⟨0, by omega, rfl, C1, A0, Y0, W0⟩
    case round =>
      clear C1 A0 Y0 W0
      obtain ⟨k, hk, rfl, C0, A0, Y0, W0⟩ := hrel
      have hk7 : k = 0 ∨ k = 1 ∨ k = 2 ∨ k = 3 ∨ k = 4 ∨ k = 5 ∨ k = 6 := by omega
      rcases hk7 with e | e | e | e | e | e | e <;> subst e
      · have cy : wr.cell? ⟨b, o + 2, none⟩ = some (.int .u8 (f 0)) := by
          have h := HCELL.out wr Y0 2 (by omega)
          rw [show (2 : Nat) = 2 + 0 from rfl, hf.out 0] at h
          exact h
        have q1 := C0.cell 1 _ rfl
        have q2 := C0.free 1 (by simp [icl_length])
        have g2 := setCell_grown wr (w.heap.size + 1) 1 (.int .u8 (f 0))
        have C1 := C0.set 1 (.int .u8 (f 0)) (by simp [icl_length])
        have A1 := A0.kept (by omega) g2
        have Y1 := Y0.kept (k := w.heap.size + 1) (fun b' o' e _ => by injection Option.some.inj e with e1 e2; omega) g2
        have W1 := below_grown W0 g2 (by omega) (by have := A0.lt; omega)
        have H1 := hide C1; have H2 := hide A1; have H3 := hide Y1; have H4 := hide W1
        clear g2 C1 A1 Y1 W1 C0 A0 Y0 W0
        go_wp2
        go_roundw
        case rel => exact ⟨1, by omega, rfl, H1.out, H2.out, H3.out, H4.out⟩
        case measure => simp [intOf]
      · have cy : wr.cell? ⟨b, o + 3, none⟩ = some (.int .u8 (f 1)) := by
          have h := HCELL.out wr Y0 3 (by omega)
          rw [show (3 : Nat) = 2 + 1 from rfl, hf.out 1] at h
          exact h
        have q1 := C0.cell 2 _ rfl
        have q2 := C0.free 2 (by simp [icl_length])
        have g2 := setCell_grown wr (w.heap.size + 1) 2 (.int .u8 (f 1))
        have C1 := C0.set 2 (.int .u8 (f 1)) (by simp [icl_length])
        have A1 := A0.kept (by omega) g2
        have Y1 := Y0.kept (k := w.heap.size + 1) (fun b' o' e _ => by injection Option.some.inj e with e1 e2; omega) g2
        have W1 := below_grown W0 g2 (by omega) (by have := A0.lt; omega)
        have H1 := hide C1; have H2 := hide A1; have H3 := hide Y1; have H4 := hide W1
        clear g2 C1 A1 Y1 W1 C0 A0 Y0 W0
        go_wp2
        go_roundw
        case rel => exact ⟨2, by omega, rfl, H1.out, H2.out, H3.out, H4.out⟩
        case measure => simp [intOf]
      · have cy : wr.cell? ⟨b, o + 4, none⟩ = some (.int .u8 (f 2)) := by
          have h := HCELL.out wr Y0 4 (by omega)
          rw [show (4 : Nat) = 2 + 2 from rfl, hf.out 2] at h
          exact h
        have q1 := C0.cell 3 _ rfl
        have q2 := C0.free 3 (by simp [icl_length])
        have g2 := setCell_grown wr (w.heap.size + 1) 3 (.int .u8 (f 2))
        have C1 := C0.set 3 (.int .u8 (f 2)) (by simp [icl_length])
        have A1 := A0.kept (by omega) g2
        have Y1 := Y0.kept (k := w.heap.size + 1) (fun b' o' e _ => by injection Option.some.inj e with e1 e2; omega) g2
        have W1 := below_grown W0 g2 (by omega) (by have := A0.lt; omega)
        have H1 := hide C1; have H2 := hide A1; have H3 := hide Y1; have H4 := hide W1
        clear g2 C1 A1 Y1 W1 C0 A0 Y0 W0
        go_wp2
        go_roundw
        case rel => exact ⟨3, by omega, rfl, H1.out, H2.out, H3.out, H4.out⟩
        case measure => simp [intOf]
      · have cy : wr.cell? ⟨b, o + 5, none⟩ = some (.int .u8 (f 3)) := by
          have h := HCELL.out wr Y0 5 (by omega)
          rw [show (5 : Nat) = 2 + 3 from rfl, hf.out 3] at h
          exact h
        have q1 := C0.cell 4 _ rfl
        have q2 := C0.free 4 (by simp [icl_length])
        have g2 := setCell_grown wr (w.heap.size + 1) 4 (.int .u8 (f 3))
        have C1 := C0.set 4 (.int .u8 (f 3)) (by simp [icl_length])
        have A1 := A0.kept (by omega) g2
        have Y1 := Y0.kept (k := w.heap.size + 1) (fun b' o' e _ => by injection Option.some.inj e with e1 e2; omega) g2
        have W1 := below_grown W0 g2 (by omega) (by have := A0.lt; omega)
        have H1 := hide C1; have H2 := hide A1; have H3 := hide Y1; have H4 := hide W1
        clear g2 C1 A1 Y1 W1 C0 A0 Y0 W0
        go_wp2
        go_roundw
        case rel => exact ⟨4, by omega, rfl, H1.out, H2.out, H3.out, H4.out⟩
        case measure => simp [intOf]
      · have cy : wr.cell? ⟨b, o + 6, none⟩ = some (.int .u8 (f 4)) := by
          have h := HCELL.out wr Y0 6 (by omega)
          rw [show (6 : Nat) = 2 + 4 from rfl, hf.out 4] at h
          exact h
        have q1 := C0.cell 5 _ rfl
        have q2 := C0.free 5 (by simp [icl_length])
        have g2 := setCell_grown wr (w.heap.size + 1) 5 (.int .u8 (f 4))
        have C1 := C0.set 5 (.int .u8 (f 4)) (by simp [icl_length])
        have A1 := A0.kept (by omega) g2
        have Y1 := Y0.kept (k := w.heap.size + 1) (fun b' o' e _ => by injection Option.some.inj e with e1 e2; omega) g2
        have W1 := below_grown W0 g2 (by omega) (by have := A0.lt; omega)
        have H1 := hide C1; have H2 := hide A1; have H3 := hide Y1; have H4 := hide W1
        clear g2 C1 A1 Y1 W1 C0 A0 Y0 W0
        go_wp2
        go_roundw
        case rel => exact ⟨5, by omega, rfl, H1.out, H2.out, H3.out, H4.out⟩
        case measure => simp [intOf]
      · have cy : wr.cell? ⟨b, o + 7, none⟩ = some (.int .u8 (f 5)) := by
          have h := HCELL.out wr Y0 7 (by omega)
          rw [show (7 : Nat) = 2 + 5 from rfl, hf.out 5] at h
          exact h
        have q1 := C0.cell 6 _ rfl
        have q2 := C0.free 6 (by simp [icl_length])
        have g2 := setCell_grown wr (w.heap.size + 1) 6 (.int .u8 (f 5))
        have C1 := C0.set 6 (.int .u8 (f 5)) (by simp [icl_length])
        have A1 := A0.kept (by omega) g2
        have Y1 := Y0.kept (k := w.heap.size + 1) (fun b' o' e _ => by injection Option.some.inj e with e1 e2; omega) g2
        have W1 := below_grown W0 g2 (by omega) (by have := A0.lt; omega)
        have H1 := hide C1; have H2 := hide A1; have H3 := hide Y1; have H4 := hide W1
        clear g2 C1 A1 Y1 W1 C0 A0 Y0 W0
        go_wp2
        go_roundw
        case rel => exact ⟨6, by omega, rfl, H1.out, H2.out, H3.out, H4.out⟩
        case measure => simp [intOf]
      · have tk1 : True := trivial
        have tk2 : True := trivial
        go_wp2_with (first | (have _t := tk1; refine wpl_info (.tmp 3) rfl C0.at_ ?_ ?_ ?_; rfl; rfl; clear tk1) | (have _t := tk2; refine wpl_putI0 (tk6 ⟨P0, 0, 0, 0, 0, 0, 0, P1, P2, P3, z⟩ f 6) (.tmp 2) (.tmp 33) rfl A0 ?_ ?_ ?_ ?_; rfl; rfl; rfl; clear tk2; intro w8 A1 g2))
        refine bodyPost_ret (res_info rfl rfl A1) rfl ⟨rfl, below_grown W0 g2 (Nat.le_refl _) (by have := A0.lt; omega)⟩
  go_simp
  refine (N0.out _ Y0).mono ?_
  rintro e u6 ⟨rfl, m, hm⟩
  replace Y0 := Y0.drewN m; replace A0 := A0.drewN m; replace W0 := below_drewN W0 m
  replace S0 : u6.heap.size = w.heap.size + 1 := by rw [hm]; exact S0
  rw [← hm] at Y0 A0 W0
  clear hm hHeld
  refine hK.out _ _ Y0 (fun hHeld => ?_)
  clear hK K
  change wpAnyH _ _ _ _ _ _ _ ⟨#[.slice (some ⟨b, o, none⟩) 18 c, undef, .pointer (some ⟨w.heap.size, 0, none⟩), undef, undef, .slice (some ⟨b, o, none⟩) 18 c, .int .i64 P0, .slice (some ⟨b, o, none⟩) 18 c, .slice (some ⟨b, o + 8, none⟩) 10 (c - 8), undef, .slice (some ⟨b, o, none⟩) 18 c, .slice (some ⟨b, o + 10, none⟩) 8 (c - 10), undef, .slice (some ⟨b, o, none⟩) 18 c, .slice (some ⟨b, o + 12, none⟩) 6 (c - 12), undef, .slice (some ⟨b, o, none⟩) 18 c, .pointer (some ⟨b, o + 14, none⟩), .int .u8 z, .int .i64 z, undef, undef, undef, undef, undef, undef, undef, undef, undef, undef, undef, undef, undef, undef], []⟩ _
  refine wpAnyH_ready (rs := [4, 16]) (by kernel_rfl) (by simp) ?_
  refine AllReadyH.cons rfl (fun K hK => ?_) (AllReadyH.cons rfl (fun K hK => ?_) AllReadyH.nil)
  rotate_left
  · skip
    go_simp
    have C0 : Box (World.alloc u6 (.cells (IC zeroI) 25)) (World.heap u6).size (icl zeroI) := Box.new _ (icl zeroI) 25
    rw [S0] at C0
    replace Y0 := Y0.alloc (.cells (IC zeroI) 25); replace A0 := A0.alloc (.cells (IC zeroI) 25); replace W0 := belowOn W0 (below_alloc _ (.cells (IC zeroI) 25))
    refine hK.out _ _ Y0 (fun hHeld => ?_)
    clear hK K hHeld
    obtain ⟨u7, hu⟩ : ∃ u7, u7 = World.alloc u6 (.cells (IC zeroI) 25) := ⟨_, rfl⟩
    replace S0 : u7.heap.size = w.heap.size + 2 := by rw [hu, World.size_alloc, S0]
    rw [← hu] at Y0 A0 W0 C0
    have hHeld := Y0
    change wpAnyH _ _ _ _ _ _ _ ⟨#[.slice (some ⟨b, o, none⟩) 18 c, undef, .pointer (some ⟨w.heap.size, 0, none⟩), .pointer (some ⟨w.heap.size + 1, 0, none⟩), undef, .slice (some ⟨b, o, none⟩) 18 c, .int .i64 P0, .slice (some ⟨b, o, none⟩) 18 c, .slice (some ⟨b, o + 8, none⟩) 10 (c - 8), undef, .slice (some ⟨b, o, none⟩) 18 c, .slice (some ⟨b, o + 10, none⟩) 8 (c - 10), undef, .slice (some ⟨b, o, none⟩) 18 c, .slice (some ⟨b, o + 12, none⟩) 6 (c - 12), undef, .slice (some ⟨b, o, none⟩) 18 c, .pointer (some ⟨b, o + 14, none⟩), .int .u8 z, .int .i64 z, undef, undef, undef, undef, undef, undef, undef, undef, undef, undef, undef, undef, undef, undef], []⟩ (World.alloc u6 (.cells (IC zeroI) 25))
    rw [← hu]
    clear hu
    refine wpAnyH_ready (rs := [4]) (by kernel_rfl) (by simp) ?_
    refine AllReadyH.cons rfl (fun K hK => ?_) AllReadyH.nil
    go_simp
    refine (N1.out _ Y0).mono ?_
    rintro e u8 ⟨rfl, m, hm⟩
    replace Y0 := Y0.drewN m; replace A0 := A0.drewN m; replace W0 := below_drewN W0 m; replace C0 := C0.drewN m
    replace S0 : u8.heap.size = w.heap.size + 2 := by rw [hm]; exact S0
    rw [← hm] at Y0 A0 W0 C0
    clear hm hHeld
    refine hK.out _ _ Y0 (fun hHeld => ?_)
    clear hK K
    change wpAnyH _ _ _ _ _ _ _ ⟨#[.slice (some ⟨b, o, none⟩) 18 c, undef, .pointer (some ⟨w.heap.size, 0, none⟩), .pointer (some ⟨w.heap.size + 1, 0, none⟩), undef, .slice (some ⟨b, o, none⟩) 18 c, .int .i64 P0, .slice (some ⟨b, o, none⟩) 18 c, .slice (some ⟨b, o + 8, none⟩) 10 (c - 8), .int .i64 P1, .slice (some ⟨b, o, none⟩) 18 c, .slice (some ⟨b, o + 10, none⟩) 8 (c - 10), undef, .slice (some ⟨b, o, none⟩) 18 c, .slice (some ⟨b, o + 12, none⟩) 6 (c - 12), undef, .slice (some ⟨b, o, none⟩) 18 c, .pointer (some ⟨b, o + 14, none⟩), .int .u8 z, .int .i64 z, undef, undef, undef, undef, undef, undef, undef, undef, undef, undef, undef, undef, undef, undef], []⟩ _
    refine wpAnyH_ready (rs := [7]) (by kernel_rfl) (by simp) ?_
    refine AllReadyH.cons rfl (fun K hK => ?_) AllReadyH.nil
    go_simp
    refine (N2.out _ Y0).mono ?_
    rintro e u9 ⟨rfl, m, hm⟩
    replace Y0 := Y0.drewN m; replace A0 := A0.drewN m; replace W0 := below_drewN W0 m; replace C0 := C0.drewN m
    replace S0 : u9.heap.size = w.heap.size + 2 := by rw [hm]; exact S0
    rw [← hm] at Y0 A0 W0 C0
    clear hm hHeld
    refine hK.out _ _ Y0 (fun hHeld => ?_)
    clear hK K
    change wpAnyH _ _ _ _ _ _ _ ⟨#[.slice (some ⟨b, o, none⟩) 18 c, undef, .pointer (some ⟨w.heap.size, 0, none⟩), .pointer (some ⟨w.heap.size + 1, 0, none⟩), undef, .slice (some ⟨b, o, none⟩) 18 c, .int .i64 P0, .slice (some ⟨b, o, none⟩) 18 c, .slice (some ⟨b, o + 8, none⟩) 10 (c - 8), .int .i64 P1, .slice (some ⟨b, o, none⟩) 18 c, .slice (some ⟨b, o + 10, none⟩) 8 (c - 10), .int .i64 P2, .slice (some ⟨b, o, none⟩) 18 c, .slice (some ⟨b, o + 12, none⟩) 6 (c - 12), undef, .slice (some ⟨b, o, none⟩) 18 c, .pointer (some ⟨b, o + 14, none⟩), .int .u8 z, .int .i64 z, undef, undef, undef, undef, undef, undef, undef, undef, undef, undef, undef, undef, undef, undef], []⟩ _
    refine wpAnyH_ready (rs := [10]) (by kernel_rfl) (by simp) ?_
    refine AllReadyH.cons rfl (fun K hK => ?_) AllReadyH.nil
    go_simp
    refine (N3.out _ Y0).mono ?_
    rintro e u10 ⟨rfl, m, hm⟩
    replace Y0 := Y0.drewN m; replace A0 := A0.drewN m; replace W0 := below_drewN W0 m; replace C0 := C0.drewN m
    replace S0 : u10.heap.size = w.heap.size + 2 := by rw [hm]; exact S0
    rw [← hm] at Y0 A0 W0 C0
    clear hm hHeld
    refine hK.out _ _ Y0 (fun hHeld => ?_)
    clear hK K
    change wpAnyH _ _ _ _ _ _ _ ⟨#[.slice (some ⟨b, o, none⟩) 18 c, undef, .pointer (some ⟨w.heap.size, 0, none⟩), .pointer (some ⟨w.heap.size + 1, 0, none⟩), undef, .slice (some ⟨b, o, none⟩) 18 c, .int .i64 P0, .slice (some ⟨b, o, none⟩) 18 c, .slice (some ⟨b, o + 8, none⟩) 10 (c - 8), .int .i64 P1, .slice (some ⟨b, o, none⟩) 18 c, .slice (some ⟨b, o + 10, none⟩) 8 (c - 10), .int .i64 P2, .slice (some ⟨b, o, none⟩) 18 c, .slice (some ⟨b, o + 12, none⟩) 6 (c - 12), .int .i64 P3, .slice (some ⟨b, o, none⟩) 18 c, .pointer (some ⟨b, o + 14, none⟩), .int .u8 z, .int .i64 z, undef, undef, undef, undef, undef, undef, undef, undef, undef, undef, undef, undef, undef, undef], []⟩ _
    refine wpAnyH_take (i := 15) (v := .agg #[.int .i64 P0, .int .u8 0, .int .u8 0, .int .u8 0, .int .u8 0, .int .u8 0, .int .u8 0, .int .i64 P1, .int .i64 P2, .int .i64 P3, .int .i64 z]) rfl (by kernel_rfl) (by kernel_rfl) (by kernel_rfl) (fun _ _ _ h => h) (Or.inl ⟨by rfl, ?_⟩) hHeld ?_
    · intro W hW; clear hW; go_simp; simp [IC, icl, mcl, zeroI]
    change wpAnyH _ _ _ _ _ _ _ ⟨#[.slice (some ⟨b, o, none⟩) 18 c, undef, .pointer (some ⟨w.heap.size, 0, none⟩), .pointer (some ⟨w.heap.size + 1, 0, none⟩), undef, .slice (some ⟨b, o, none⟩) 18 c, .int .i64 P0, .slice (some ⟨b, o, none⟩) 18 c, .slice (some ⟨b, o + 8, none⟩) 10 (c - 8), .int .i64 P1, .slice (some ⟨b, o, none⟩) 18 c, .slice (some ⟨b, o + 10, none⟩) 8 (c - 10), .int .i64 P2, .slice (some ⟨b, o, none⟩) 18 c, .slice (some ⟨b, o + 12, none⟩) 6 (c - 12), .int .i64 P3, .slice (some ⟨b, o, none⟩) 18 c, .pointer (some ⟨b, o + 14, none⟩), .int .u8 z, .int .i64 z, .agg #[.int .i64 P0, .int .u8 0, .int .u8 0, .int .u8 0, .int .u8 0, .int .u8 0, .int .u8 0, .int .i64 P1, .int .i64 P2, .int .i64 P3, .int .i64 z], undef, undef, undef, undef, undef, undef, undef, undef, undef, undef, undef, undef, undef], []⟩ _
    refine wpAnyH_ready (rs := [17]) (by kernel_rfl) (by simp) ?_
    refine AllReadyH.cons rfl (fun K hK => ?_) AllReadyH.nil
    rw [if_pos (by rfl)]
    refine wp_store_mid 25 (.tmp 3) (.tmp 20) rfl (w.heap.size + 1) 0 (IC ⟨P0, 0, 0, 0, 0, 0, 0, P1, P2, P3, z⟩) rfl rfl C0.th Try.size25 (one_icl _) ?_
    have g2 := setCells_grown (w.heap.size + 1) (icl ⟨P0, 0, 0, 0, 0, 0, 0, P1, P2, P3, z⟩) 0 u10
    have C1 : Box (World.setCells u10 (w.heap.size + 1) 0 (icl ⟨P0, 0, 0, 0, 0, 0, 0, P1, P2, P3, z⟩)) (w.heap.size + 1) (icl ⟨P0, 0, 0, 0, 0, 0, 0, P1, P2, P3, z⟩) := by
      have hb := Box.put (w := u10) (k := w.heap.size + 1) (o := 0) (A := []) (B := icl zeroI) (C := []) (B' := icl ⟨P0, 0, 0, 0, 0, 0, 0, P1, P2, P3, z⟩) (by rw [List.append_nil]; exact C0) rfl rfl
      rw [List.append_nil] at hb
      exact hb
    replace A0 := A0.kept (by omega) g2
    replace Y0 := Y0.kept (k := w.heap.size + 1) (fun b' o' e _ => by injection Option.some.inj e with e1 e2; omega) g2
    replace W0 := below_grown W0 g2 (by omega) (by omega)
    refine hK.out _ _ Y0 (fun hHeld => ?_)
    clear hK K hHeld g2 C0 N0 N1 N2 N3 HZ S0
    obtain ⟨v5, hv5⟩ : ∃ v5, v5 = World.setCells u10 (w.heap.size + 1) 0 (icl ⟨P0, 0, 0, 0, 0, 0, 0, P1, P2, P3, z⟩) := ⟨_, rfl⟩
    rw [← hv5] at A0 Y0 W0 C1
    have e5 : World.setCells u10 (w.heap.size + 1) 0 (IC ⟨P0, 0, 0, 0, 0, 0, 0, P1, P2, P3, z⟩).toList = v5 := by rw [hv5]; rfl
    rw [e5]
    clear e5 hv5
    change wpAnyH _ _ _ _ _ _ _ ⟨#[.slice (some ⟨b, o, none⟩) 18 c, undef, .pointer (some ⟨w.heap.size, 0, none⟩), .pointer (some ⟨w.heap.size + 1, 0, none⟩), undef, .slice (some ⟨b, o, none⟩) 18 c, .int .i64 P0, .slice (some ⟨b, o, none⟩) 18 c, .slice (some ⟨b, o + 8, none⟩) 10 (c - 8), .int .i64 P1, .slice (some ⟨b, o, none⟩) 18 c, .slice (some ⟨b, o + 10, none⟩) 8 (c - 10), .int .i64 P2, .slice (some ⟨b, o, none⟩) 18 c, .slice (some ⟨b, o + 12, none⟩) 6 (c - 12), .int .i64 P3, .slice (some ⟨b, o, none⟩) 18 c, .pointer (some ⟨b, o + 14, none⟩), .int .u8 z, .int .i64 z, .agg #[.int .i64 P0, .int .u8 0, .int .u8 0, .int .u8 0, .int .u8 0, .int .u8 0, .int .u8 0, .int .i64 P1, .int .i64 P2, .int .i64 P3, .int .i64 z], undef, undef, undef, undef, undef, undef, undef, undef, undef, undef, undef, undef, undef], []⟩ _
    refine wpAnyH_done (by kernel_rfl) ?_ _
    go_wp2
    go_loopw [4] (fun i wr => ∃ k : Nat, k ≤ 6 ∧ i = .int .i64 k ∧ Box wr (w.heap.size + 1) (icl (tk6 ⟨P0, 0, 0, 0, 0, 0, 0, P1, P2, P3, z⟩ f k)) ∧ Box wr w.heap.size (icl zeroI) ∧ Byt wr (some ⟨b, o, none⟩) 18 c ns ∧ Below w.heap.size w wr) (fun i _ => 6 - (intOf i).toNat)
    case atStart => exact ⟨0, by omega, rfl, C1, A0, Y0, W0⟩
    case round =>
      clear C1 A0 Y0 W0
      obtain ⟨k, hk, rfl, C0, A0, Y0, W0⟩ := hrel
      have hk7 : k = 0 ∨ k = 1 ∨ k = 2 ∨ k = 3 ∨ k = 4 ∨ k = 5 ∨ k = 6 := by omega
      rcases hk7 with e | e | e | e | e | e | e <;> subst e
      · have cy : wr.cell? ⟨b, o + 2, none⟩ = some (.int .u8 (f 0)) := by
          have h := HCELL.out wr Y0 2 (by omega)
          rw [show (2 : Nat) = 2 + 0 from rfl, hf.out 0] at h
          exact h
        have q1 := C0.cell 1 _ rfl
        have q2 := C0.free 1 (by simp [icl_length])
        have g2 := setCell_grown wr (w.heap.size + 1) 1 (.int .u8 (f 0))
        have C1 := C0.set 1 (.int .u8 (f 0)) (by simp [icl_length])
        have A1 := A0.kept (by omega) g2
        have Y1 := Y0.kept (k := w.heap.size + 1) (fun b' o' e _ => by injection Option.some.inj e with e1 e2; omega) g2
        have W1 := below_grown W0 g2 (by omega) (by have := A0.lt; omega)
        have H1 := hide C1; have H2 := hide A1; have H3 := hide Y1; have H4 := hide W1
        clear g2 C1 A1 Y1 W1 C0 A0 Y0 W0
        go_wp2
        go_roundw
        case rel => exact ⟨1, by omega, rfl, H1.out, H2.out, H3.out, H4.out⟩
        case measure => simp [intOf]
      · have cy : wr.cell? ⟨b, o + 3, none⟩ = some (.int .u8 (f 1)) := by
          have h := HCELL.out wr Y0 3 (by omega)
          rw [show (3 : Nat) = 2 + 1 from rfl, hf.out 1] at h
          exact h
        have q1 := C0.cell 2 _ rfl
        have q2 := C0.free 2 (by simp [icl_length])
        have g2 := setCell_grown wr (w.heap.size + 1) 2 (.int .u8 (f 1))
        have C1 := C0.set 2 (.int .u8 (f 1)) (by simp [icl_length])
        have A1 := A0.kept (by omega) g2
        have Y1 := Y0.kept (k := w.heap.size + 1) (fun b' o' e _ => by injection Option.some.inj e with e1 e2; omega) g2
        have W1 := below_grown W0 g2 (by omega) (by have := A0.lt; omega)
        have H1 := hide C1; have H2 := hide A1; have H3 := hide Y1; have H4 := hide W1
        clear g2 C1 A1 Y1 W1 C0 A0 Y0 W0
        go_wp2
        go_roundw
        case rel => exact ⟨2, by omega, rfl, H1.out, H2.out, H3.out, H4.out⟩
        case measure => simp [intOf]
      · have cy : wr.cell? ⟨b, o + 4, none⟩ = some (.int .u8 (f 2)) := by
          have h := HCELL.out wr Y0 4 (by omega)
          rw [show (4 : Nat) = 2 + 2 from rfl, hf.out 2] at h
          exact h
        have q1 := C0.cell 3 _ rfl
        have q2 := C0.free 3 (by simp [icl_length])
        have g2 := setCell_grown wr (w.heap.size + 1) 3 (.int .u8 (f 2))
        have C1 := C0.set 3 (.int .u8 (f 2)) (by simp [icl_length])
        have A1 := A0.kept (by omega) g2
        have Y1 := Y0.kept (k := w.heap.size + 1) (fun b' o' e _ => by injection Option.some.inj e with e1 e2; omega) g2
        have W1 := below_grown W0 g2 (by omega) (by have := A0.lt; omega)
        have H1 := hide C1; have H2 := hide A1; have H3 := hide Y1; have H4 := hide W1
        clear g2 C1 A1 Y1 W1 C0 A0 Y0 W0
        go_wp2
        go_roundw
        case rel => exact ⟨3, by omega, rfl, H1.out, H2.out, H3.out, H4.out⟩
        case measure => simp [intOf]
      · have cy : wr.cell? ⟨b, o + 5, none⟩ = some (.int .u8 (f 3)) := by
          have h := HCELL.out wr Y0 5 (by omega)
          rw [show (5 : Nat) = 2 + 3 from rfl, hf.out 3] at h
          exact h
        have q1 := C0.cell 4 _ rfl
        have q2 := C0.free 4 (by simp [icl_length])
        have g2 := setCell_grown wr (w.heap.size + 1) 4 (.int .u8 (f 3))
        have C1 := C0.set 4 (.int .u8 (f 3)) (by simp [icl_length])
        have A1 := A0.kept (by omega) g2
        have Y1 := Y0.kept (k := w.heap.size + 1) (fun b' o' e _ => by injection Option.some.inj e with e1 e2; omega) g2
        have W1 := below_grown W0 g2 (by omega) (by have := A0.lt; omega)
        have H1 := hide C1; have H2 := hide A1; have H3 := hide Y1; have H4 := hide W1
        clear g2 C1 A1 Y1 W1 C0 A0 Y0 W0
        go_wp2
        go_roundw
        case rel => exact ⟨4, by omega, rfl, H1.out, H2.out, H3.out, H4.out⟩
        case measure => simp [intOf]
      · have cy : wr.cell? ⟨b, o + 6, none⟩ = some (.int .u8 (f 4)) := by
          have h := HCELL.out wr Y0 6 (by omega)
          rw [show (6 : Nat) = 2 + 4 from rfl, hf.out 4] at h
          exact h
        have q1 := C0.cell 5 _ rfl
        have q2 := C0.free 5 (by simp [icl_length])
        have g2 := setCell_grown wr (w.heap.size + 1) 5 (.int .u8 (f 4))
        have C1 := C0.set 5 (.int .u8 (f 4)) (by simp [icl_length])
        have A1 := A0.kept (by omega) g2
        have Y1 := Y0.kept (k := w.heap.size + 1) (fun b' o' e _ => by injection Option.some.inj e with e1 e2; omega) g2
        have W1 := below_grown W0 g2 (by omega) (by have := A0.lt; omega)
        have H1 := hide C1; have H2 := hide A1; have H3 := hide Y1; have H4 := hide W1
        clear g2 C1 A1 Y1 W1 C0 A0 Y0 W0
        go_wp2
        go_roundw
        case rel => exact ⟨5, by omega, rfl, H1.out, H2.out, H3.out, H4.out⟩
        case measure => simp [intOf]
      · have cy : wr.cell? ⟨b, o + 7, none⟩ = some (.int .u8 (f 5)) := by
          have h := HCELL.out wr Y0 7 (by omega)
          rw [show (7 : Nat) = 2 + 5 from rfl, hf.out 5] at h
          exact h
        have q1 := C0.cell 6 _ rfl
        have q2 := C0.free 6 (by simp [icl_length])
        have g2 := setCell_grown wr (w.heap.size + 1) 6 (.int .u8 (f 5))
        have C1 := C0.set 6 (.int .u8 (f 5)) (by simp [icl_length])
        have A1 := A0.kept (by omega) g2
        have Y1 := Y0.kept (k := w.heap.size + 1) (fun b' o' e _ => by injection Option.some.inj e with e1 e2; omega) g2
        have W1 := below_grown W0 g2 (by omega) (by have := A0.lt; omega)
        have H1 := hide C1; have H2 := hide A1; have H3 := hide Y1; have H4 := hide W1
        clear g2 C1 A1 Y1 W1 C0 A0 Y0 W0
        go_wp2
        go_roundw
        case rel => exact ⟨6, by omega, rfl, H1.out, H2.out, H3.out, H4.out⟩
        case measure => simp [intOf]
      · have tk1 : True := trivial
        have tk2 : True := trivial
        go_wp2_with (first | (have _t := tk1; refine wpl_info (.tmp 3) rfl C0.at_ ?_ ?_ ?_; rfl; rfl; clear tk1) | (have _t := tk2; refine wpl_putI0 (tk6 ⟨P0, 0, 0, 0, 0, 0, 0, P1, P2, P3, z⟩ f 6) (.tmp 2) (.tmp 33) rfl A0 ?_ ?_ ?_ ?_; rfl; rfl; rfl; clear tk2; intro w8 A1 g2))
        refine bodyPost_ret (res_info rfl rfl A1) rfl ⟨rfl, below_grown W0 g2 (Nat.le_refl _) (by have := A0.lt; omega)⟩
  go_simp
  refine (N1.out _ Y0).mono ?_
  rintro e u11 ⟨rfl, m, hm⟩
  replace Y0 := Y0.drewN m; replace A0 := A0.drewN m; replace W0 := below_drewN W0 m
  replace S0 : u11.heap.size = w.heap.size + 1 := by rw [hm]; exact S0
  rw [← hm] at Y0 A0 W0
  clear hm hHeld
  refine hK.out _ _ Y0 (fun hHeld => ?_)
  clear hK K
  change wpAnyH _ _ _ _ _ _ _ ⟨#[.slice (some ⟨b, o, none⟩) 18 c, undef, .pointer (some ⟨w.heap.size, 0, none⟩), undef, undef, .slice (some ⟨b, o, none⟩) 18 c, .int .i64 P0, .slice (some ⟨b, o, none⟩) 18 c, .slice (some ⟨b, o + 8, none⟩) 10 (c - 8), .int .i64 P1, .slice (some ⟨b, o, none⟩) 18 c, .slice (some ⟨b, o + 10, none⟩) 8 (c - 10), undef, .slice (some ⟨b, o, none⟩) 18 c, .slice (some ⟨b, o + 12, none⟩) 6 (c - 12), undef, .slice (some ⟨b, o, none⟩) 18 c, .pointer (some ⟨b, o + 14, none⟩), .int .u8 z, .int .i64 z, undef, undef, undef, undef, undef, undef, undef, undef, undef, undef, undef, undef, undef, undef], []⟩ _
  refine wpAnyH_ready (rs := [7, 16]) (by kernel_rfl) (by simp) ?_
  refine AllReadyH.cons rfl (fun K hK => ?_) (AllReadyH.cons rfl (fun K hK => ?_) AllReadyH.nil)
  rotate_left
  · skip
    go_simp
    have C0 : Box (World.alloc u11 (.cells (IC zeroI) 25)) (World.heap u11).size (icl zeroI) := Box.new _ (icl zeroI) 25
    rw [S0] at C0
    replace Y0 := Y0.alloc (.cells (IC zeroI) 25); replace A0 := A0.alloc (.cells (IC zeroI) 25); replace W0 := belowOn W0 (below_alloc _ (.cells (IC zeroI) 25))
    refine hK.out _ _ Y0 (fun hHeld => ?_)
    clear hK K hHeld
    obtain ⟨u12, hu⟩ : ∃ u12, u12 = World.alloc u11 (.cells (IC zeroI) 25) := ⟨_, rfl⟩
    replace S0 : u12.heap.size = w.heap.size + 2 := by rw [hu, World.size_alloc, S0]
    rw [← hu] at Y0 A0 W0 C0
    have hHeld := Y0
    change wpAnyH _ _ _ _ _ _ _ ⟨#[.slice (some ⟨b, o, none⟩) 18 c, undef, .pointer (some ⟨w.heap.size, 0, none⟩), .pointer (some ⟨w.heap.size + 1, 0, none⟩), undef, .slice (some ⟨b, o, none⟩) 18 c, .int .i64 P0, .slice (some ⟨b, o, none⟩) 18 c, .slice (some ⟨b, o + 8, none⟩) 10 (c - 8), .int .i64 P1, .slice (some ⟨b, o, none⟩) 18 c, .slice (some ⟨b, o + 10, none⟩) 8 (c - 10), undef, .slice (some ⟨b, o, none⟩) 18 c, .slice (some ⟨b, o + 12, none⟩) 6 (c - 12), undef, .slice (some ⟨b, o, none⟩) 18 c, .pointer (some ⟨b, o + 14, none⟩), .int .u8 z, .int .i64 z, undef, undef, undef, undef, undef, undef, undef, undef, undef, undef, undef, undef, undef, undef], []⟩ (World.alloc u11 (.cells (IC zeroI) 25))
    rw [← hu]
    clear hu
    refine wpAnyH_ready (rs := [7]) (by kernel_rfl) (by simp) ?_
    refine AllReadyH.cons rfl (fun K hK => ?_) AllReadyH.nil
    go_simp
    refine (N2.out _ Y0).mono ?_
    rintro e u13 ⟨rfl, m, hm⟩
    replace Y0 := Y0.drewN m; replace A0 := A0.drewN m; replace W0 := below_drewN W0 m; replace C0 := C0.drewN m
    replace S0 : u13.heap.size = w.heap.size + 2 := by rw [hm]; exact S0
    rw [← hm] at Y0 A0 W0 C0
    clear hm hHeld
    refine hK.out _ _ Y0 (fun hHeld => ?_)
    clear hK K
    change wpAnyH _ _ _ _ _ _ _ ⟨#[.slice (some ⟨b, o, none⟩) 18 c, undef, .pointer (some ⟨w.heap.size, 0, none⟩), .pointer (some ⟨w.heap.size + 1, 0, none⟩), undef, .slice (some ⟨b, o, none⟩) 18 c, .int .i64 P0, .slice (some ⟨b, o, none⟩) 18 c, .slice (some ⟨b, o + 8, none⟩) 10 (c - 8), .int .i64 P1, .slice (some ⟨b, o, none⟩) 18 c, .slice (some ⟨b, o + 10, none⟩) 8 (c - 10), .int .i64 P2, .slice (some ⟨b, o, none⟩) 18 c, .slice (some ⟨b, o + 12, none⟩) 6 (c - 12), undef, .slice (some ⟨b, o, none⟩) 18 c, .pointer (some ⟨b, o + 14, none⟩), .int .u8 z, .int .i64 z, undef, undef, undef, undef, undef, undef, undef, undef, undef, undef, undef, undef, undef, undef], []⟩ _
    refine wpAnyH_ready (rs := [10]) (by kernel_rfl) (by simp) ?_
    refine AllReadyH.cons rfl (fun K hK => ?_) AllReadyH.nil
    go_simp
    refine (N3.out _ Y0).mono ?_
    rintro e u14 ⟨rfl, m, hm⟩
    replace Y0 := Y0.drewN m; replace A0 := A0.drewN m; replace W0 := below_drewN W0 m; replace C0 := C0.drewN m
    replace S0 : u14.heap.size = w.heap.size + 2 := by rw [hm]; exact S0
    rw [← hm] at Y0 A0 W0 C0
    clear hm hHeld
    refine hK.out _ _ Y0 (fun hHeld => ?_)
    clear hK K
    change wpAnyH _ _ _ _ _ _ _ ⟨#[.slice (some ⟨b, o, none⟩) 18 c, undef, .pointer (some ⟨w.heap.size, 0, none⟩), .pointer (some ⟨w.heap.size + 1, 0, none⟩), undef, .slice (some ⟨b, o, none⟩) 18 c, .int .i64 P0, .slice (some ⟨b, o, none⟩) 18 c, .slice (some ⟨b, o + 8, none⟩) 10 (c - 8), .int .i64 P1, .slice (some ⟨b, o, none⟩) 18 c, .slice (some ⟨b, o + 10, none⟩) 8 (c - 10), .int .i64 P2, .slice (some ⟨b, o, none⟩) 18 c, .slice (some ⟨b, o + 12, none⟩) 6 (c - 12), .int .i64 P3, .slice (some ⟨b, o, none⟩) 18 c, .pointer (some ⟨b, o + 14, none⟩), .int .u8 z, .int .i64 z, undef, undef, undef, undef, undef, undef, undef, undef, undef, undef, undef, undef, undef, undef], []⟩ _
    refine wpAnyH_take (i := 15) (v := .agg #[.int .i64 P0, .int .u8 0, .int .u8 0, .int .u8 0, .int .u8 0, .int .u8 0, .int .u8 0, .int .i64 P1, .int .i64 P2, .int .i64 P3, .int .i64 z]) rfl (by kernel_rfl) (by kernel_rfl) (by kernel_rfl) (fun _ _ _ h => h) (Or.inl ⟨by rfl, ?_⟩) hHeld ?_
    · intro W hW; clear hW; go_simp; simp [IC, icl, mcl, zeroI]
    change wpAnyH _ _ _ _ _ _ _ ⟨#[.slice (some ⟨b, o, none⟩) 18 c, undef, .pointer (some ⟨w.heap.size, 0, none⟩), .pointer (some ⟨w.heap.size + 1, 0, none⟩), undef, .slice (some ⟨b, o, none⟩) 18 c, .int .i64 P0, .slice (some ⟨b, o, none⟩) 18 c, .slice (some ⟨b, o + 8, none⟩) 10 (c - 8), .int .i64 P1, .slice (some ⟨b, o, none⟩) 18 c, .slice (some ⟨b, o + 10, none⟩) 8 (c - 10), .int .i64 P2, .slice (some ⟨b, o, none⟩) 18 c, .slice (some ⟨b, o + 12, none⟩) 6 (c - 12), .int .i64 P3, .slice (some ⟨b, o, none⟩) 18 c, .pointer (some ⟨b, o + 14, none⟩), .int .u8 z, .int .i64 z, .agg #[.int .i64 P0, .int .u8 0, .int .u8 0, .int .u8 0, .int .u8 0, .int .u8 0, .int .u8 0, .int .i64 P1, .int .i64 P2, .int .i64 P3, .int .i64 z], undef, undef, undef, undef, undef, undef, undef, undef, undef, undef, undef, undef, undef], []⟩ _
    refine wpAnyH_ready (rs := [17]) (by kernel_rfl) (by simp) ?_
    refine AllReadyH.cons rfl (fun K hK => ?_) AllReadyH.nil
    rw [if_pos (by rfl)]
    refine wp_store_mid 25 (.tmp 3) (.tmp 20) rfl (w.heap.size + 1) 0 (IC ⟨P0, 0, 0, 0, 0, 0, 0, P1, P2, P3, z⟩) rfl rfl C0.th Try.size25 (one_icl _) ?_
    have g2 := setCells_grown (w.heap.size + 1) (icl ⟨P0, 0, 0, 0, 0, 0, 0, P1, P2, P3, z⟩) 0 u14
    have C1 : Box (World.setCells u14 (w.heap.size + 1) 0 (icl ⟨P0, 0, 0, 0, 0, 0, 0, P1, P2, P3, z⟩)) (w.heap.size + 1) (icl ⟨P0, 0, 0, 0, 0, 0, 0, P1, P2, P3, z⟩) := by
      have hb := Box.put (w := u14) (k := w.heap.size + 1) (o := 0) (A := []) (B := icl zeroI) (C := []) (B' := icl ⟨P0, 0, 0, 0, 0, 0, 0, P1, P2, P3, z⟩) (by rw [List.append_nil]; exact C0) rfl rfl
      rw [List.append_nil] at hb
      exact hb
    replace A0 := A0.kept (by omega) g2
    replace Y0 := Y0.kept (k := w.heap.size + 1) (fun b' o' e _ => by injection Option.some.inj e with e1 e2; omega) g2
    replace W0 := below_grown W0 g2 (by omega) (by omega)
    refine hK.out _ _ Y0 (fun hHeld => ?_)
    clear hK K hHeld g2 C0 N0 N1 N2 N3 HZ S0
    obtain ⟨v5, hv5⟩ : ∃ v5, v5 = World.setCells u14 (w.heap.size + 1) 0 (icl ⟨P0, 0, 0, 0, 0, 0, 0, P1, P2, P3, z⟩) := ⟨_, rfl⟩
    rw [← hv5] at A0 Y0 W0 C1
    have e5 : World.setCells u14 (w.heap.size + 1) 0 (IC ⟨P0, 0, 0, 0, 0, 0, 0, P1, P2, P3, z⟩).toList = v5 := by rw [hv5]; rfl
    rw [e5]
    clear e5 hv5
    change wpAnyH _ _ _ _ _ _ _ ⟨#[.slice (some ⟨b, o, none⟩) 18 c, undef, .pointer (some ⟨w.heap.size, 0, none⟩), .pointer (some ⟨w.heap.size + 1, 0, none⟩), undef, .slice (some ⟨b, o, none⟩) 18 c, .int .i64 P0, .slice (some ⟨b, o, none⟩) 18 c, .slice (some ⟨b, o + 8, none⟩) 10 (c - 8), .int .i64 P1, .slice (some ⟨b, o, none⟩) 18 c, .slice (some ⟨b, o + 10, none⟩) 8 (c - 10), .int .i64 P2, .slice (some ⟨b, o, none⟩) 18 c, .slice (some ⟨b, o + 12, none⟩) 6 (c - 12), .int .i64 P3, .slice (some ⟨b, o, none⟩) 18 c, .pointer (some ⟨b, o + 14, none⟩), .int .u8 z, .int .i64 z, .agg #[.int .i64 P0, .int .u8 0, .int .u8 0, .int .u8 0, .int .u8 0, .int .u8 0, .int .u8 0, .int .i64 P1, .int .i64 P2, .int .i64 P3, .int .i64 z], undef, undef, undef, undef, undef, undef, undef, undef, undef, undef, undef, undef, undef], []⟩ _
    refine wpAnyH_done (by kernel_rfl) ?_ _
    go_wp2
    go_loopw [4] (fun i wr => ∃ k : Nat, k ≤ 6 ∧ i = .int .i64 k ∧ Box wr (w.heap.size + 1) (icl (tk6 ⟨P0, 0, 0, 0, 0, 0, 0, P1, P2, P3, z⟩ f k)) ∧ Box wr w.heap.size (icl zeroI) ∧ Byt wr (some ⟨b, o, none⟩) 18 c ns ∧ Below w.heap.size w wr) (fun i _ => 6 - (intOf i).toNat)
    case atStart => exact ⟨0, by omega, rfl, C1, A0, Y0, W0⟩
    case round =>
      clear C1 A0 Y0 W0
      obtain ⟨k, hk, rfl, C0, A0, Y0, W0⟩ := hrel
      have hk7 : k = 0 ∨ k = 1 ∨ k = 2 ∨ k = 3 ∨ k = 4 ∨ k = 5 ∨ k = 6 := by omega
      rcases hk7 with e | e | e | e | e | e | e <;> subst e
      · have cy : wr.cell? ⟨b, o + 2, none⟩ = some (.int .u8 (f 0)) := by
          have h := HCELL.out wr Y0 2 (by omega)
          rw [show (2 : Nat) = 2 + 0 from rfl, hf.out 0] at h
          exact h
        have q1 := C0.cell 1 _ rfl
        have q2 := C0.free 1 (by simp [icl_length])
        have g2 := setCell_grown wr (w.heap.size + 1) 1 (.int .u8 (f 0))
        have C1 := C0.set 1 (.int .u8 (f 0)) (by simp [icl_length])
        have A1 := A0.kept (by omega) g2
        have Y1 := Y0.kept (k := w.heap.size + 1) (fun b' o' e _ => by injection Option.some.inj e with e1 e2; omega) g2
        have W1 := below_grown W0 g2 (by omega) (by have := A0.lt; omega)
        have H1 := hide C1; have H2 := hide A1; have H3 := hide Y1; have H4 := hide W1
        clear g2 C1 A1 Y1 W1 C0 A0 Y0 W0
        go_wp2
        go_roundw
        case rel => exact ⟨1, by omega, rfl, H1.out, H2.out, H3.out, H4.out⟩
        case measure => simp [intOf]
      · have cy : wr.cell? ⟨b, o + 3, none⟩ = some (.int .u8 (f 1)) := by
          have h := HCELL.out wr Y0 3 (by omega)
          rw [show (3 : Nat) = 2 + 1 from rfl, hf.out 1] at h
          exact h
        have q1 := C0.cell 2 _ rfl
        have q2 := C0.free 2 (by simp [icl_length])
        have g2 := setCell_grown wr (w.heap.size + 1) 2 (.int .u8 (f 1))
        have C1 := C0.set 2 (.int .u8 (f 1)) (by simp [icl_length])
        have A1 := A0.kept (by omega) g2
        have Y1 := Y0.kept (k := w.heap.size + 1) (fun b' o' e _ => by injection Option.some.inj e with e1 e2; omega) g2
        have W1 := below_grown W0 g2 (by omega) (by have := A0.lt; omega)
        have H1 := hide C1; have H2 := hide A1; have H3 := hide Y1; have H4 := hide W1
        clear g2 C1 A1 Y1 W1 C0 A0 Y0 W0
        go_wp2
        go_roundw
        case rel => exact ⟨2, by omega, rfl, H1.out, H2.out, H3.out, H4.out⟩
        case measure => simp [intOf]
      · have cy : wr.cell? ⟨b, o + 4, none⟩ = some (.int .u8 (f 2)) := by
          have h := HCELL.out wr Y0 4 (by omega)
          rw [show (4 : Nat) = 2 + 2 from rfl, hf.out 2] at h
          exact h
        have q1 := C0.cell 3 _ rfl
        have q2 := C0.free 3 (by simp [icl_length])
        have g2 := setCell_grown wr (w.heap.size + 1) 3 (.int .u8 (f 2))
        have C1 := C0.set 3 (.int .u8 (f 2)) (by simp [icl_length])
        have A1 := A0.kept (by omega) g2
        have Y1 := Y0.kept (k := w.heap.size + 1) (fun b' o' e _ => by injection Option.some.inj e with e1 e2; omega) g2
        have W1 := below_grown W0 g2 (by omega) (by have := A0.lt; omega)
        have H1 := hide C1; have H2 := hide A1; have H3 := hide Y1; have H4 := hide W1
        clear g2 C1 A1 Y1 W1 C0 A0 Y0 W0
        go_wp2
        go_roundw
        case rel => exact ⟨3, by omega, rfl, H1.out, H2.out, H3.out, H4.out⟩
        case measure => simp [intOf]
      · have cy : wr.cell? ⟨b, o + 5, none⟩ = some (.int .u8 (f 3)) := by
          have h := HCELL.out wr Y0 5 (by omega)
          rw [show (5 : Nat) = 2 + 3 from rfl, hf.out 3] at h
          exact h
        have q1 := C0.cell 4 _ rfl
        have q2 := C0.free 4 (by simp [icl_length])
        have g2 := setCell_grown wr (w.heap.size + 1) 4 (.int .u8 (f 3))
        have C1 := C0.set 4 (.int .u8 (f 3)) (by simp [icl_length])
        have A1 := A0.kept (by omega) g2
        have Y1 := Y0.kept (k := w.heap.size + 1) (fun b' o' e _ => by injection Option.some.inj e with e1 e2; omega) g2
        have W1 := below_grown W0 g2 (by omega) (by have := A0.lt; omega)
        have H1 := hide C1; have H2 := hide A1; have H3 := hide Y1; have H4 := hide W1
        clear g2 C1 A1 Y1 W1 C0 A0 Y0 W0
        go_wp2
        go_roundw
        case rel => exact ⟨4, by omega, rfl, H1.out, H2.out, H3.out, H4.out⟩
        case measure => simp [intOf]
      · have cy : wr.cell? ⟨b, o + 6, none⟩ = some (.int .u8 (f 4)) := by
          have h := HCELL.out wr Y0 6 (by omega)
          rw [show (6 : Nat) = 2 + 4 from rfl, hf.out 4] at h
          exact h
        have q1 := C0.cell 5 _ rfl
        have q2 := C0.free 5 (by simp [icl_length])
        have g2 := setCell_grown wr (w.heap.size + 1) 5 (.int .u8 (f 4))
        have C1 := C0.set 5 (.int .u8 (f 4)) (by simp [icl_length])
        have A1 := A0.kept (by omega) g2
        have Y1 := Y0.kept (k := w.heap.size + 1) (fun b' o' e _ => by injection Option.some.inj e with e1 e2; omega) g2
        have W1 := below_grown W0 g2 (by omega) (by have := A0.lt; omega)
        have H1 := hide C1; have H2 := hide A1; have H3 := hide Y1; have H4 := hide W1
        clear g2 C1 A1 Y1 W1 C0 A0 Y0 W0
        go_wp2
        go_roundw
        case rel => exact ⟨5, by omega, rfl, H1.out, H2.out, H3.out, H4.out⟩
        case measure => simp [intOf]
      · have cy : wr.cell? ⟨b, o + 7, none⟩ = some (.int .u8 (f 5)) := by
          have h := HCELL.out wr Y0 7 (by omega)
          rw [show (7 : Nat) = 2 + 5 from rfl, hf.out 5] at h
          exact h
        have q1 := C0.cell 6 _ rfl
        have q2 := C0.free 6 (by simp [icl_length])
        have g2 := setCell_grown wr (w.heap.size + 1) 6 (.int .u8 (f 5))
        have C1 := C0.set 6 (.int .u8 (f 5)) (by simp [icl_length])
        have A1 := A0.kept (by omega) g2
        have Y1 := Y0.kept (k := w.heap.size + 1) (fun b' o' e _ => by injection Option.some.inj e with e1 e2; omega) g2
        have W1 := below_grown W0 g2 (by omega) (by have := A0.lt; omega)
        have H1 := hide C1; have H2 := hide A1; have H3 := hide Y1; have H4 := hide W1
        clear g2 C1 A1 Y1 W1 C0 A0 Y0 W0
        go_wp2
        go_roundw
        case rel => exact ⟨6, by omega, rfl, H1.out, H2.out, H3.out, H4.out⟩
        case measure => simp [intOf]
      · have tk1 : True := trivial
        have tk2 : True := trivial
        go_wp2_with (first | (have _t := tk1; refine wpl_info (.tmp 3) rfl C0.at_ ?_ ?_ ?_; rfl; rfl; clear tk1) | (have _t := tk2; refine wpl_putI0 (tk6 ⟨P0, 0, 0, 0, 0, 0, 0, P1, P2, P3, z⟩ f 6) (.tmp 2) (.tmp 33) rfl A0 ?_ ?_ ?_ ?_; rfl; rfl; rfl; clear tk2; intro w8 A1 g2))
        refine bodyPost_ret (res_info rfl rfl A1) rfl ⟨rfl, below_grown W0 g2 (Nat.le_refl _) (by have := A0.lt; omega)⟩
  go_simp
  refine (N2.out _ Y0).mono ?_
  rintro e u15 ⟨rfl, m, hm⟩
  replace Y0 := Y0.drewN m; replace A0 := A0.drewN m; replace W0 := below_drewN W0 m
  replace S0 : u15.heap.size = w.heap.size + 1 := by rw [hm]; exact S0
  rw [← hm] at Y0 A0 W0
  clear hm hHeld
  refine hK.out _ _ Y0 (fun hHeld => ?_)
  clear hK K
  change wpAnyH _ _ _ _ _ _ _ ⟨#[.slice (some ⟨b, o, none⟩) 18 c, undef, .pointer (some ⟨w.heap.size, 0, none⟩), undef, undef, .slice (some ⟨b, o, none⟩) 18 c, .int .i64 P0, .slice (some ⟨b, o, none⟩) 18 c, .slice (some ⟨b, o + 8, none⟩) 10 (c - 8), .int .i64 P1, .slice (some ⟨b, o, none⟩) 18 c, .slice (some ⟨b, o + 10, none⟩) 8 (c - 10), .int .i64 P2, .slice (some ⟨b, o, none⟩) 18 c, .slice (some ⟨b, o + 12, none⟩) 6 (c - 12), undef, .slice (some ⟨b, o, none⟩) 18 c, .pointer (some ⟨b, o + 14, none⟩), .int .u8 z, .int .i64 z, undef, undef, undef, undef, undef, undef, undef, undef, undef, undef, undef, undef, undef, undef], []⟩ _
  refine wpAnyH_ready (rs := [10, 16]) (by kernel_rfl) (by simp) ?_
  refine AllReadyH.cons rfl (fun K hK => ?_) (AllReadyH.cons rfl (fun K hK => ?_) AllReadyH.nil)
  rotate_left
  · skip
    go_simp
    have C0 : Box (World.alloc u15 (.cells (IC zeroI) 25)) (World.heap u15).size (icl zeroI) := Box.new _ (icl zeroI) 25
    rw [S0] at C0
    replace Y0 := Y0.alloc (.cells (IC zeroI) 25); replace A0 := A0.alloc (.cells (IC zeroI) 25); replace W0 := belowOn W0 (below_alloc _ (.cells (IC zeroI) 25))
    refine hK.out _ _ Y0 (fun hHeld => ?_)
    clear hK K hHeld
    obtain ⟨u16, hu⟩ : ∃ u16, u16 = World.alloc u15 (.cells (IC zeroI) 25) := ⟨_, rfl⟩
    replace S0 : u16.heap.size = w.heap.size + 2 := by rw [hu, World.size_alloc, S0]
    rw [← hu] at Y0 A0 W0 C0
    have hHeld := Y0
    change wpAnyH _ _ _ _ _ _ _ ⟨#[.slice (some ⟨b, o, none⟩) 18 c, undef, .pointer (some ⟨w.heap.size, 0, none⟩), .pointer (some ⟨w.heap.size + 1, 0, none⟩), undef, .slice (some ⟨b, o, none⟩) 18 c, .int .i64 P0, .slice (some ⟨b, o, none⟩) 18 c, .slice (some ⟨b, o + 8, none⟩) 10 (c - 8), .int .i64 P1, .slice (some ⟨b, o, none⟩) 18 c, .slice (some ⟨b, o + 10, none⟩) 8 (c - 10), .int .i64 P2, .slice (some ⟨b, o, none⟩) 18 c, .slice (some ⟨b, o + 12, none⟩) 6 (c - 12), undef, .slice (some ⟨b, o, none⟩) 18 c, .pointer (some ⟨b, o + 14, none⟩), .int .u8 z, .int .i64 z, undef, undef, undef, undef, undef, undef, undef, undef, undef, undef, undef, undef, undef, undef], []⟩ (World.alloc u15 (.cells (IC zeroI) 25))
    rw [← hu]
    clear hu
    refine wpAnyH_ready (rs := [10]) (by kernel_rfl) (by simp) ?_
    refine AllReadyH.cons rfl (fun K hK => ?_) AllReadyH.nil
    go_simp
    refine (N3.out _ Y0).mono ?_
    rintro e u17 ⟨rfl, m, hm⟩
    replace Y0 := Y0.drewN m; replace A0 := A0.drewN m; replace W0 := below_drewN W0 m; replace C0 := C0.drewN m
    replace S0 : u17.heap.size = w.heap.size + 2 := by rw [hm]; exact S0
    rw [← hm] at Y0 A0 W0 C0
    clear hm hHeld
    refine hK.out _ _ Y0 (fun hHeld => ?_)
    clear hK K
    change wpAnyH _ _ _ _ _ _ _ ⟨#[.slice (some ⟨b, o, none⟩) 18 c, undef, .pointer (some ⟨w.heap.size, 0, none⟩), .pointer (some ⟨w.heap.size + 1, 0, none⟩), undef, .slice (some ⟨b, o, none⟩) 18 c, .int .i64 P0, .slice (some ⟨b, o, none⟩) 18 c, .slice (some ⟨b, o + 8, none⟩) 10 (c - 8), .int .i64 P1, .slice (some ⟨b, o, none⟩) 18 c, .slice (some ⟨b, o + 10, none⟩) 8 (c - 10), .int .i64 P2, .slice (some ⟨b, o, none⟩) 18 c, .slice (some ⟨b, o + 12, none⟩) 6 (c - 12), .int .i64 P3, .slice (some ⟨b, o, none⟩) 18 c, .pointer (some ⟨b, o + 14, none⟩), .int .u8 z, .int .i64 z, undef, undef, undef, undef, undef, undef, undef, undef, undef, undef, undef, undef, undef, undef], []⟩ _
    refine wpAnyH_take (i := 15) (v := .agg #[.int .i64 P0, .int .u8 0, .int .u8 0, .int .u8 0, .int .u8 0, .int .u8 0, .int .u8 0, .int .i64 P1, .int .i64 P2, .int .i64 P3, .int .i64 z]) rfl (by kernel_rfl) (by kernel_rfl) (by kernel_rfl) (fun _ _ _ h => h) (Or.inl ⟨by rfl, ?_⟩) hHeld ?_
    · intro W hW; clear hW; go_simp; simp [IC, icl, mcl, zeroI]
    change wpAnyH _ _ _ _ _ _ _ ⟨#[.slice (some ⟨b, o, none⟩) 18 c, undef, .pointer (some ⟨w.heap.size, 0, none⟩), .pointer (some ⟨w.heap.size + 1, 0, none⟩), undef, .slice (some ⟨b, o, none⟩) 18 c, .int .i64 P0, .slice (some ⟨b, o, none⟩) 18 c, .slice (some ⟨b, o + 8, none⟩) 10 (c - 8), .int .i64 P1, .slice (some ⟨b, o, none⟩) 18 c, .slice (some ⟨b, o + 10, none⟩) 8 (c - 10), .int .i64 P2, .slice (some ⟨b, o, none⟩) 18 c, .slice (some ⟨b, o + 12, none⟩) 6 (c - 12), .int .i64 P3, .slice (some ⟨b, o, none⟩) 18 c, .pointer (some ⟨b, o + 14, none⟩), .int .u8 z, .int .i64 z, .agg #[.int .i64 P0, .int .u8 0, .int .u8 0, .int .u8 0, .int .u8 0, .int .u8 0, .int .u8 0, .int .i64 P1, .int .i64 P2, .int .i64 P3, .int .i64 z], undef, undef, undef, undef, undef, undef, undef, undef, undef, undef, undef, undef, undef], []⟩ _
    refine wpAnyH_ready (rs := [17]) (by kernel_rfl) (by simp) ?_
    refine AllReadyH.cons rfl (fun K hK => ?_) AllReadyH.nil
    rw [if_pos (by rfl)]
    refine wp_store_mid 25 (.tmp 3) (.tmp 20) rfl (w.heap.size + 1) 0 (IC ⟨P0, 0, 0, 0, 0, 0, 0, P1, P2, P3, z⟩) rfl rfl C0.th Try.size25 (one_icl _) ?_
    have g2 := setCells_grown (w.heap.size + 1) (icl ⟨P0, 0, 0, 0, 0, 0, 0, P1, P2, P3, z⟩) 0 u17
    have C1 : Box (World.setCells u17 (w.heap.size + 1) 0 (icl ⟨P0, 0, 0, 0, 0, 0, 0, P1, P2, P3, z⟩)) (w.heap.size + 1) (icl ⟨P0, 0, 0, 0, 0, 0, 0, P1, P2, P3, z⟩) := by
      have hb := Box.put (w := u17) (k := w.heap.size + 1) (o := 0) (A := []) (B := icl zeroI) (C := []) (B' := icl ⟨P0, 0, 0, 0, 0, 0, 0, P1, P2, P3, z⟩) (by rw [List.append_nil]; exact C0) rfl rfl
      rw [List.append_nil] at hb
      exact hb
    replace A0 := A0.kept (by omega) g2
    replace Y0 := Y0.kept (k := w.heap.size + 1) (fun b' o' e _ => by injection Option.some.inj e with e1 e2; omega) g2
    replace W0 := below_grown W0 g2 (by omega) (by omega)
    refine hK.out _ _ Y0 (fun hHeld => ?_)
    clear hK K hHeld g2 C0 N0 N1 N2 N3 HZ S0
    obtain ⟨v5, hv5⟩ : ∃ v5, v5 = World.setCells u17 (w.heap.size + 1) 0 (icl ⟨P0, 0, 0, 0, 0, 0, 0, P1, P2, P3, z⟩) := ⟨_, rfl⟩
    rw [← hv5] at A0 Y0 W0 C1
    have e5 : World.setCells u17 (w.heap.size + 1) 0 (IC ⟨P0, 0, 0, 0, 0, 0, 0, P1, P2, P3, z⟩).toList = v5 := by rw [hv5]; rfl
    rw [e5]
    clear e5 hv5
    change wpAnyH _ _ _ _ _ _ _ ⟨#[.slice (some ⟨b, o, none⟩) 18 c, undef, .pointer (some ⟨w.heap.size, 0, none⟩), .pointer (some ⟨w.heap.size + 1, 0, none⟩), undef, .slice (some ⟨b, o, none⟩) 18 c, .int .i64 P0, .slice (some ⟨b, o, none⟩) 18 c, .slice (some ⟨b, o + 8, none⟩) 10 (c - 8), .int .i64 P1, .slice (some ⟨b, o, none⟩) 18 c, .slice (some ⟨b, o + 10, none⟩) 8 (c - 10), .int .i64 P2, .slice (some ⟨b, o, none⟩) 18 c, .slice (some ⟨b, o + 12, none⟩) 6 (c - 12), .int .i64 P3, .slice (some ⟨b, o, none⟩) 18 c, .pointer (some ⟨b, o + 14, none⟩), .int .u8 z, .int .i64 z, .agg #[.int .i64 P0, .int .u8 0, .int .u8 0, .int .u8 0, .int .u8 0, .int .u8 0, .int .u8 0, .int .i64 P1, .int .i64 P2, .int .i64 P3, .int .i64 z], undef, undef, undef, undef, undef, undef, undef, undef, undef, undef, undef, undef, undef], []⟩ _
    refine wpAnyH_done (by kernel_rfl) ?_ _
    go_wp2
    go_loopw [4] (fun i wr => ∃ k : Nat, k ≤ 6 ∧ i = .int .i64 k ∧ Box wr (w.heap.size + 1) (icl (tk6 ⟨P0, 0, 0, 0, 0, 0, 0, P1, P2, P3, z⟩ f k)) ∧ Box wr w.heap.size (icl zeroI) ∧ Byt wr (some ⟨b, o, none⟩) 18 c ns ∧ Below w.heap.size w wr) (fun i _ => 6 - (intOf i).toNat)
    case atStart => exact ⟨0, by omega, rfl, C1, A0, Y0, W0⟩
    case round =>
      clear C1 A0 Y0 W0
      obtain ⟨k, hk, rfl, C0, A0, Y0, W0⟩ := hrel
      have hk7 : k = 0 ∨ k = 1 ∨ k = 2 ∨ k = 3 ∨ k = 4 ∨ k = 5 ∨ k = 6 := by omega
      rcases hk7 with e | e | e | e | e | e | e <;> subst e
      · have cy : wr.cell? ⟨b, o + 2, none⟩ = some (.int .u8 (f 0)) := by
          have h := HCELL.out wr Y0 2 (by omega)
          rw [show (2 : Nat) = 2 + 0 from rfl, hf.out 0] at h
          exact h
        have q1 := C0.cell 1 _ rfl
        have q2 := C0.free 1 (by simp [icl_length])
        have g2 := setCell_grown wr (w.heap.size + 1) 1 (.int .u8 (f 0))
        have C1 := C0.set 1 (.int .u8 (f 0)) (by simp [icl_length])
        have A1 := A0.kept (by omega) g2
        have Y1 := Y0.kept (k := w.heap.size + 1) (fun b' o' e _ => by injection Option.some.inj e with e1 e2; omega) g2
        have W1 := below_grown W0 g2 (by omega) (by have := A0.lt; omega)
        have H1 := hide C1; have H2 := hide A1; have H3 := hide Y1; have H4 := hide W1
        clear g2 C1 A1 Y1 W1 C0 A0 Y0 W0
        go_wp2
        go_roundw
        case rel => exact ⟨1, by omega, rfl, H1.out, H2.out, H3.out, H4.out⟩
        case measure => simp [intOf]
      · have cy : wr.cell? ⟨b, o + 3, none⟩ = some (.int .u8 (f 1)) := by
          have h := HCELL.out wr Y0 3 (by omega)
          rw [show (3 : Nat) = 2 + 1 from rfl, hf.out 1] at h
          exact h
        have q1 := C0.cell 2 _ rfl
        have q2 := C0.free 2 (by simp [icl_length])
        have g2 := setCell_grown wr (w.heap.size + 1) 2 (.int .u8 (f 1))
        have C1 := C0.set 2 (.int .u8 (f 1)) (by simp [icl_length])
        have A1 := A0.kept (by omega) g2
        have Y1 := Y0.kept (k := w.heap.size + 1) (fun b' o' e _ => by injection Option.some.inj e with e1 e2; omega) g2
        have W1 := below_grown W0 g2 (by omega) (by have := A0.lt; omega)
        have H1 := hide C1; have H2 := hide A1; have H3 := hide Y1; have H4 := hide W1
        clear g2 C1 A1 Y1 W1 C0 A0 Y0 W0
        go_wp2
        go_roundw
        case rel => exact ⟨2, by omega, rfl, H1.out, H2.out, H3.out, H4.out⟩
        case measure => simp [intOf]
      · have cy : wr.cell? ⟨b, o + 4, none⟩ = some (.int .u8 (f 2)) := by
          have h := HCELL.out wr Y0 4 (by omega)
          rw [show (4 : Nat) = 2 + 2 from rfl, hf.out 2] at h
          exact h
        have q1 := C0.cell 3 _ rfl
        have q2 := C0.free 3 (by simp [icl_length])
        have g2 := setCell_grown wr (w.heap.size + 1) 3 (.int .u8 (f 2))
        have C1 := C0.set 3 (.int .u8 (f 2)) (by simp [icl_length])
        have A1 := A0.kept (by omega) g2
        have Y1 := Y0.kept (k := w.heap.size + 1) (fun b' o' e _ => by injection Option.some.inj e with e1 e2; omega) g2
        have W1 := below_grown W0 g2 (by omega) (by have := A0.lt; omega)
        have H1 := hide C1; have H2 := hide A1; have H3 := hide Y1; have H4 := hide W1
        clear g2 C1 A1 Y1 W1 C0 A0 Y0 W0
        go_wp2
        go_roundw
        case rel => exact ⟨3, by omega, rfl, H1.out, H2.out, H3.out, H4.out⟩
        case measure => simp [intOf]
      · have cy : wr.cell? ⟨b, o + 5, none⟩ = some (.int .u8 (f 3)) := by
          have h := HCELL.out wr Y0 5 (by omega)
          rw [show (5 : Nat) = 2 + 3 from rfl, hf.out 3] at h
          exact h
        have q1 := C0.cell 4 _ rfl
        have q2 := C0.free 4 (by simp [icl_length])
        have g2 := setCell_grown wr (w.heap.size + 1) 4 (.int .u8 (f 3))
        have C1 := C0.set 4 (.int .u8 (f 3)) (by simp [icl_length])
        have A1 := A0.kept (by omega) g2
        have Y1 := Y0.kept (k := w.heap.size + 1) (fun b' o' e _ => by injection Option.some.inj e with e1 e2; omega) g2
        have W1 := below_grown W0 g2 (by omega) (by have := A0.lt; omega)
        have H1 := hide C1; have H2 := hide A1; have H3 := hide Y1; have H4 := hide W1
        clear g2 C1 A1 Y1 W1 C0 A0 Y0 W0
        go_wp2
        go_roundw
        case rel => exact ⟨4, by omega, rfl, H1.out, H2.out, H3.out, H4.out⟩
        case measure => simp [intOf]
      · have cy : wr.cell? ⟨b, o + 6, none⟩ = some (.int .u8 (f 4)) := by
          have h := HCELL.out wr Y0 6 (by omega)
          rw [show (6 : Nat) = 2 + 4 from rfl, hf.out 4] at h
          exact h
        have q1 := C0.cell 5 _ rfl
        have q2 := C0.free 5 (by simp [icl_length])
        have g2 := setCell_grown wr (w.heap.size + 1) 5 (.int .u8 (f 4))
        have C1 := C0.set 5 (.int .u8 (f 4)) (by simp [icl_length])
        have A1 := A0.kept (by omega) g2
        have Y1 := Y0.kept (k := w.heap.size + 1) (fun b' o' e _ => by injection Option.some.inj e with e1 e2; omega) g2
        have W1 := below_grown W0 g2 (by omega) (by have := A0.lt; omega)
        have H1 := hide C1; have H2 := hide A1; have H3 := hide Y1; have H4 := hide W1
        clear g2 C1 A1 Y1 W1 C0 A0 Y0 W0
        go_wp2
        go_roundw
        case rel => exact ⟨5, by omega, rfl, H1.out, H2.out, H3.out, H4.out⟩
        case measure => simp [intOf]
      · have cy : wr.cell? ⟨b, o + 7, none⟩ = some (.int .u8 (f 5)) := by
          have h := HCELL.out wr Y0 7 (by omega)
          rw [show (7 : Nat) = 2 + 5 from rfl, hf.out 5] at h
          exact h
        have q1 := C0.cell 6 _ rfl
        have q2 := C0.free 6 (by simp [icl_length])
        have g2 := setCell_grown wr (w.heap.size + 1) 6 (.int .u8 (f 5))
        have C1 := C0.set 6 (.int .u8 (f 5)) (by simp [icl_length])
        have A1 := A0.kept (by omega) g2
        have Y1 := Y0.kept (k := w.heap.size + 1) (fun b' o' e _ => by injection Option.some.inj e with e1 e2; omega) g2
        have W1 := below_grown W0 g2 (by omega) (by have := A0.lt; omega)
        have H1 := hide C1; have H2 := hide A1; have H3 := hide Y1; have H4 := hide W1
        clear g2 C1 A1 Y1 W1 C0 A0 Y0 W0
        go_wp2
        go_roundw
        case rel => exact ⟨6, by omega, rfl, H1.out, H2.out, H3.out, H4.out⟩
        case measure => simp [intOf]
      · have tk1 : True := trivial
        have tk2 : True := trivial
        go_wp2_with (first | (have _t := tk1; refine wpl_info (.tmp 3) rfl C0.at_ ?_ ?_ ?_; rfl; rfl; clear tk1) | (have _t := tk2; refine wpl_putI0 (tk6 ⟨P0, 0, 0, 0, 0, 0, 0, P1, P2, P3, z⟩ f 6) (.tmp 2) (.tmp 33) rfl A0 ?_ ?_ ?_ ?_; rfl; rfl; rfl; clear tk2; intro w8 A1 g2))
        refine bodyPost_ret (res_info rfl rfl A1) rfl ⟨rfl, below_grown W0 g2 (Nat.le_refl _) (by have := A0.lt; omega)⟩
  go_simp
  refine (N3.out _ Y0).mono ?_
  rintro e u18 ⟨rfl, m, hm⟩
  replace Y0 := Y0.drewN m; replace A0 := A0.drewN m; replace W0 := below_drewN W0 m
  replace S0 : u18.heap.size = w.heap.size + 1 := by rw [hm]; exact S0
  rw [← hm] at Y0 A0 W0
  clear hm hHeld
  refine hK.out _ _ Y0 (fun hHeld => ?_)
  clear hK K
  change wpAnyH _ _ _ _ _ _ _ ⟨#[.slice (some ⟨b, o, none⟩) 18 c, undef, .pointer (some ⟨w.heap.size, 0, none⟩), undef, undef, .slice (some ⟨b, o, none⟩) 18 c, .int .i64 P0, .slice (some ⟨b, o, none⟩) 18 c, .slice (some ⟨b, o + 8, none⟩) 10 (c - 8), .int .i64 P1, .slice (some ⟨b, o, none⟩) 18 c, .slice (some ⟨b, o + 10, none⟩) 8 (c - 10), .int .i64 P2, .slice (some ⟨b, o, none⟩) 18 c, .slice (some ⟨b, o + 12, none⟩) 6 (c - 12), .int .i64 P3, .slice (some ⟨b, o, none⟩) 18 c, .pointer (some ⟨b, o + 14, none⟩), .int .u8 z, .int .i64 z, undef, undef, undef, undef, undef, undef, undef, undef, undef, undef, undef, undef, undef, undef], []⟩ _
  refine wpAnyH_take (i := 15) (v := .agg #[.int .i64 P0, .int .u8 0, .int .u8 0, .int .u8 0, .int .u8 0, .int .u8 0, .int .u8 0, .int .i64 P1, .int .i64 P2, .int .i64 P3, .int .i64 z]) rfl (by kernel_rfl) (by kernel_rfl) (by kernel_rfl) (fun _ _ _ h => h) (Or.inl ⟨by rfl, ?_⟩) hHeld ?_
  · intro W hW; clear hW; go_simp; simp [IC, icl, mcl, zeroI]
  change wpAnyH _ _ _ _ _ _ _ ⟨#[.slice (some ⟨b, o, none⟩) 18 c, undef, .pointer (some ⟨w.heap.size, 0, none⟩), undef, undef, .slice (some ⟨b, o, none⟩) 18 c, .int .i64 P0, .slice (some ⟨b, o, none⟩) 18 c, .slice (some ⟨b, o + 8, none⟩) 10 (c - 8), .int .i64 P1, .slice (some ⟨b, o, none⟩) 18 c, .slice (some ⟨b, o + 10, none⟩) 8 (c - 10), .int .i64 P2, .slice (some ⟨b, o, none⟩) 18 c, .slice (some ⟨b, o + 12, none⟩) 6 (c - 12), .int .i64 P3, .slice (some ⟨b, o, none⟩) 18 c, .pointer (some ⟨b, o + 14, none⟩), .int .u8 z, .int .i64 z, .agg #[.int .i64 P0, .int .u8 0, .int .u8 0, .int .u8 0, .int .u8 0, .int .u8 0, .int .u8 0, .int .i64 P1, .int .i64 P2, .int .i64 P3, .int .i64 z], undef, undef, undef, undef, undef, undef, undef, undef, undef, undef, undef, undef, undef], []⟩ _
  refine wpAnyH_ready (rs := [16]) (by kernel_rfl) (by simp) ?_
  refine AllReadyH.cons rfl (fun K hK => ?_) AllReadyH.nil
  go_simp
  have C0 : Box (World.alloc u18 (.cells (IC zeroI) 25)) (World.heap u18).size (icl zeroI) := Box.new _ (icl zeroI) 25
  rw [S0] at C0
  replace Y0 := Y0.alloc (.cells (IC zeroI) 25); replace A0 := A0.alloc (.cells (IC zeroI) 25); replace W0 := belowOn W0 (below_alloc _ (.cells (IC zeroI) 25))
  refine hK.out _ _ Y0 (fun hHeld => ?_)
  clear hK K hHeld
  obtain ⟨u19, hu⟩ : ∃ u19, u19 = World.alloc u18 (.cells (IC zeroI) 25) := ⟨_, rfl⟩
  replace S0 : u19.heap.size = w.heap.size + 2 := by rw [hu, World.size_alloc, S0]
  rw [← hu] at Y0 A0 W0 C0
  have hHeld := Y0
  change wpAnyH _ _ _ _ _ _ _ ⟨#[.slice (some ⟨b, o, none⟩) 18 c, undef, .pointer (some ⟨w.heap.size, 0, none⟩), .pointer (some ⟨w.heap.size + 1, 0, none⟩), undef, .slice (some ⟨b, o, none⟩) 18 c, .int .i64 P0, .slice (some ⟨b, o, none⟩) 18 c, .slice (some ⟨b, o + 8, none⟩) 10 (c - 8), .int .i64 P1, .slice (some ⟨b, o, none⟩) 18 c, .slice (some ⟨b, o + 10, none⟩) 8 (c - 10), .int .i64 P2, .slice (some ⟨b, o, none⟩) 18 c, .slice (some ⟨b, o + 12, none⟩) 6 (c - 12), .int .i64 P3, .slice (some ⟨b, o, none⟩) 18 c, .pointer (some ⟨b, o + 14, none⟩), .int .u8 z, .int .i64 z, .agg #[.int .i64 P0, .int .u8 0, .int .u8 0, .int .u8 0, .int .u8 0, .int .u8 0, .int .u8 0, .int .i64 P1, .int .i64 P2, .int .i64 P3, .int .i64 z], undef, undef, undef, undef, undef, undef, undef, undef, undef, undef, undef, undef, undef], []⟩ (World.alloc u18 (.cells (IC zeroI) 25))
  rw [← hu]
  clear hu
  refine wpAnyH_ready (rs := [17]) (by kernel_rfl) (by simp) ?_
  refine AllReadyH.cons rfl (fun K hK => ?_) AllReadyH.nil
  rw [if_pos (by rfl)]
  refine wp_store_mid 25 (.tmp 3) (.tmp 20) rfl (w.heap.size + 1) 0 (IC ⟨P0, 0, 0, 0, 0, 0, 0, P1, P2, P3, z⟩) rfl rfl C0.th Try.size25 (one_icl _) ?_
  have g2 := setCells_grown (w.heap.size + 1) (icl ⟨P0, 0, 0, 0, 0, 0, 0, P1, P2, P3, z⟩) 0 u19
  have C1 : Box (World.setCells u19 (w.heap.size + 1) 0 (icl ⟨P0, 0, 0, 0, 0, 0, 0, P1, P2, P3, z⟩)) (w.heap.size + 1) (icl ⟨P0, 0, 0, 0, 0, 0, 0, P1, P2, P3, z⟩) := by
    have hb := Box.put (w := u19) (k := w.heap.size + 1) (o := 0) (A := []) (B := icl zeroI) (C := []) (B' := icl ⟨P0, 0, 0, 0, 0, 0, 0, P1, P2, P3, z⟩) (by rw [List.append_nil]; exact C0) rfl rfl
    rw [List.append_nil] at hb
    exact hb
  replace A0 := A0.kept (by omega) g2
  replace Y0 := Y0.kept (k := w.heap.size + 1) (fun b' o' e _ => by injection Option.some.inj e with e1 e2; omega) g2
  replace W0 := below_grown W0 g2 (by omega) (by omega)
  refine hK.out _ _ Y0 (fun hHeld => ?_)
  clear hK K hHeld g2 C0 N0 N1 N2 N3 HZ S0
  obtain ⟨v5, hv5⟩ : ∃ v5, v5 = World.setCells u19 (w.heap.size + 1) 0 (icl ⟨P0, 0, 0, 0, 0, 0, 0, P1, P2, P3, z⟩) := ⟨_, rfl⟩
  rw [← hv5] at A0 Y0 W0 C1
  have e5 : World.setCells u19 (w.heap.size + 1) 0 (IC ⟨P0, 0, 0, 0, 0, 0, 0, P1, P2, P3, z⟩).toList = v5 := by rw [hv5]; rfl
  rw [e5]
  clear e5 hv5
  change wpAnyH _ _ _ _ _ _ _ ⟨#[.slice (some ⟨b, o, none⟩) 18 c, undef, .pointer (some ⟨w.heap.size, 0, none⟩), .pointer (some ⟨w.heap.size + 1, 0, none⟩), undef, .slice (some ⟨b, o, none⟩) 18 c, .int .i64 P0, .slice (some ⟨b, o, none⟩) 18 c, .slice (some ⟨b, o + 8, none⟩) 10 (c - 8), .int .i64 P1, .slice (some ⟨b, o, none⟩) 18 c, .slice (some ⟨b, o + 10, none⟩) 8 (c - 10), .int .i64 P2, .slice (some ⟨b, o, none⟩) 18 c, .slice (some ⟨b, o + 12, none⟩) 6 (c - 12), .int .i64 P3, .slice (some ⟨b, o, none⟩) 18 c, .pointer (some ⟨b, o + 14, none⟩), .int .u8 z, .int .i64 z, .agg #[.int .i64 P0, .int .u8 0, .int .u8 0, .int .u8 0, .int .u8 0, .int .u8 0, .int .u8 0, .int .i64 P1, .int .i64 P2, .int .i64 P3, .int .i64 z], undef, undef, undef, undef, undef, undef, undef, undef, undef, undef, undef, undef, undef], []⟩ _
  refine wpAnyH_done (by kernel_rfl) ?_ _
  go_wp2
  go_loopw [4] (fun i wr => ∃ k : Nat, k ≤ 6 ∧ i = .int .i64 k ∧ Box wr (w.heap.size + 1) (icl (tk6 ⟨P0, 0, 0, 0, 0, 0, 0, P1, P2, P3, z⟩ f k)) ∧ Box wr w.heap.size (icl zeroI) ∧ Byt wr (some ⟨b, o, none⟩) 18 c ns ∧ Below w.heap.size w wr) (fun i _ => 6 - (intOf i).toNat)
  case atStart => exact ⟨0, by omega, rfl, C1, A0, Y0, W0⟩
  case round =>
    clear C1 A0 Y0 W0
    obtain ⟨k, hk, rfl, C0, A0, Y0, W0⟩ := hrel
    have hk7 : k = 0 ∨ k = 1 ∨ k = 2 ∨ k = 3 ∨ k = 4 ∨ k = 5 ∨ k = 6 := by omega
    rcases hk7 with e | e | e | e | e | e | e <;> subst e
    · have cy : wr.cell? ⟨b, o + 2, none⟩ = some (.int .u8 (f 0)) := by
        have h := HCELL.out wr Y0 2 (by omega)
        rw [show (2 : Nat) = 2 + 0 from rfl, hf.out 0] at h
        exact h
      have q1 := C0.cell 1 _ rfl
      have q2 := C0.free 1 (by simp [icl_length])
      have g2 := setCell_grown wr (w.heap.size + 1) 1 (.int .u8 (f 0))
      have C1 := C0.set 1 (.int .u8 (f 0)) (by simp [icl_length])
      have A1 := A0.kept (by omega) g2
      have Y1 := Y0.kept (k := w.heap.size + 1) (fun b' o' e _ => by injection Option.some.inj e with e1 e2; omega) g2
      have W1 := below_grown W0 g2 (by omega) (by have := A0.lt; omega)
      have H1 := hide C1; have H2 := hide A1; have H3 := hide Y1; have H4 := hide W1
      clear g2 C1 A1 Y1 W1 C0 A0 Y0 W0
      go_wp2
      go_roundw
      case rel => exact ⟨1, by omega, rfl, H1.out, H2.out, H3.out, H4.out⟩
      case measure => simp [intOf]
    · have cy : wr.cell? ⟨b, o + 3, none⟩ = some (.int .u8 (f 1)) := by
        have h := HCELL.out wr Y0 3 (by omega)
        rw [show (3 : Nat) = 2 + 1 from rfl, hf.out 1] at h
        exact h
      have q1 := C0.cell 2 _ rfl
      have q2 := C0.free 2 (by simp [icl_length])
      have g2 := setCell_grown wr (w.heap.size + 1) 2 (.int .u8 (f 1))
      have C1 := C0.set 2 (.int .u8 (f 1)) (by simp [icl_length])
      have A1 := A0.kept (by omega) g2
      have Y1 := Y0.kept (k := w.heap.size + 1) (fun b' o' e _ => by injection Option.some.inj e with e1 e2; omega) g2
      have W1 := below_grown W0 g2 (by omega) (by have := A0.lt; omega)
      have H1 := hide C1; have H2 := hide A1; have H3 := hide Y1; have H4 := hide W1
      clear g2 C1 A1 Y1 W1 C0 A0 Y0 W0
      go_wp2
      go_roundw
      case rel => exact ⟨2, by omega, rfl, H1.out, H2.out, H3.out, H4.out⟩
      case measure => simp [intOf]
    · have cy : wr.cell? ⟨b, o + 4, none⟩ = some (.int .u8 (f 2)) := by
        have h := HCELL.out wr Y0 4 (by omega)
        rw [show (4 : Nat) = 2 + 2 from rfl, hf.out 2] at h
        exact h
      have q1 := C0.cell 3 _ rfl
      have q2 := C0.free 3 (by simp [icl_length])
      have g2 := setCell_grown wr (w.heap.size + 1) 3 (.int .u8 (f 2))
      have C1 := C0.set 3 (.int .u8 (f 2)) (by simp [icl_length])
      have A1 := A0.kept (by omega) g2
      have Y1 := Y0.kept (k := w.heap.size + 1) (fun b' o' e _ => by injection Option.some.inj e with e1 e2; omega) g2
      have W1 := below_grown W0 g2 (by omega) (by have := A0.lt; omega)
      have H1 := hide C1; have H2 := hide A1; have H3 := hide Y1; have H4 := hide W1
      clear g2 C1 A1 Y1 W1 C0 A0 Y0 W0
      go_wp2
      go_roundw
      case rel => exact ⟨3, by omega, rfl, H1.out, H2.out, H3.out, H4.out⟩
      case measure => simp [intOf]
    · have cy : wr.cell? ⟨b, o + 5, none⟩ = some (.int .u8 (f 3)) := by
        have h := HCELL.out wr Y0 5 (by omega)
        rw [show (5 : Nat) = 2 + 3 from rfl, hf.out 3] at h
        exact h
      have q1 := C0.cell 4 _ rfl
      have q2 := C0.free 4 (by simp [icl_length])
      have g2 := setCell_grown wr (w.heap.size + 1) 4 (.int .u8 (f 3))
      have C1 := C0.set 4 (.int .u8 (f 3)) (by simp [icl_length])
      have A1 := A0.kept (by omega) g2
      have Y1 := Y0.kept (k := w.heap.size + 1) (fun b' o' e _ => by injection Option.some.inj e with e1 e2; omega) g2
      have W1 := below_grown W0 g2 (by omega) (by have := A0.lt; omega)
      have H1 := hide C1; have H2 := hide A1; have H3 := hide Y1; have H4 := hide W1
      clear g2 C1 A1 Y1 W1 C0 A0 Y0 W0
      go_wp2
      go_roundw
      case rel => exact ⟨4, by omega, rfl, H1.out, H2.out, H3.out, H4.out⟩
      case measure => simp [intOf]
    · have cy : wr.cell? ⟨b, o + 6, none⟩ = some (.int .u8 (f 4)) := by
        have h := HCELL.out wr Y0 6 (by omega)
        rw [show (6 : Nat) = 2 + 4 from rfl, hf.out 4] at h
        exact h
      have q1 := C0.cell 5 _ rfl
      have q2 := C0.free 5 (by simp [icl_length])
      have g2 := setCell_grown wr (w.heap.size + 1) 5 (.int .u8 (f 4))
      have C1 := C0.set 5 (.int .u8 (f 4)) (by simp [icl_length])
      have A1 := A0.kept (by omega) g2
      have Y1 := Y0.kept (k := w.heap.size + 1) (fun b' o' e _ => by injection Option.some.inj e with e1 e2; omega) g2
      have W1 := below_grown W0 g2 (by omega) (by have := A0.lt; omega)
      have H1 := hide C1; have H2 := hide A1; have H3 := hide Y1; have H4 := hide W1
      clear g2 C1 A1 Y1 W1 C0 A0 Y0 W0
      go_wp2
      go_roundw
      case rel => exact ⟨5, by omega, rfl, H1.out, H2.out, H3.out, H4.out⟩
      case measure => simp [intOf]
    · have cy : wr.cell? ⟨b, o + 7, none⟩ = some (.int .u8 (f 5)) := by
        have h := HCELL.out wr Y0 7 (by omega)
        rw [show (7 : Nat) = 2 + 5 from rfl, hf.out 5] at h
        exact h
      have q1 := C0.cell 6 _ rfl
      have q2 := C0.free 6 (by simp [icl_length])
      have g2 := setCell_grown wr (w.heap.size + 1) 6 (.int .u8 (f 5))
      have C1 := C0.set 6 (.int .u8 (f 5)) (by simp [icl_length])
      have A1 := A0.kept (by omega) g2
      have Y1 := Y0.kept (k := w.heap.size + 1) (fun b' o' e _ => by injection Option.some.inj e with e1 e2; omega) g2
      have W1 := below_grown W0 g2 (by omega) (by have := A0.lt; omega)
      have H1 := hide C1; have H2 := hide A1; have H3 := hide Y1; have H4 := hide W1
      clear g2 C1 A1 Y1 W1 C0 A0 Y0 W0
      go_wp2
      go_roundw
      case rel => exact ⟨6, by omega, rfl, H1.out, H2.out, H3.out, H4.out⟩
      case measure => simp [intOf]
    · have tk1 : True := trivial
      have tk2 : True := trivial
      go_wp2_with (first | (have _t := tk1; refine wpl_info (.tmp 3) rfl C0.at_ ?_ ?_ ?_; rfl; rfl; clear tk1) | (have _t := tk2; refine wpl_putI0 (tk6 ⟨P0, 0, 0, 0, 0, 0, 0, P1, P2, P3, z⟩ f 6) (.tmp 2) (.tmp 33) rfl A0 ?_ ?_ ?_ ?_; rfl; rfl; rfl; clear tk2; intro w8 A1 g2))
      refine bodyPost_ret (res_info rfl rfl A1) rfl ⟨rfl, below_grown W0 g2 (Nat.le_refl _) (by have := A0.lt; omega)⟩
end
end Go.Proofs.Ytaehhhknpbbmkaa
