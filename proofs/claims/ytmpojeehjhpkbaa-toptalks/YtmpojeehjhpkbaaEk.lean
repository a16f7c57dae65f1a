/- Contracts of the reader: mac. -/
import Derived.Test.YtmpojeehjhpkbaaEj
namespace Go.Proofs.Ytmpojeehjhpkbaa
open Go.RowKit Go.PlainAid

theorem copy6 {w1 : World} {M b o c : Nat} {x0 x1 x2 x3 x4 x5 : Int} (hM : w1.heap[M]? = some (.cells #[.int .u8 0, .int .u8 0, .int .u8 0, .int .u8 0, .int .u8 0, .int .u8 0] 23 (0, 0)))
    (d0 : w1.cell? ⟨b, o, none⟩ = some (.int .u8 x0)) (d1 : w1.cell? ⟨b, o + 1, none⟩ = some (.int .u8 x1)) (d2 : w1.cell? ⟨b, o + 2, none⟩ = some (.int .u8 x2)) (d3 : w1.cell? ⟨b, o + 3, none⟩ = some (.int .u8 x3)) (d4 : w1.cell? ⟨b, o + 4, none⟩ = some (.int .u8 x4)) (d5 : w1.cell? ⟨b, o + 5, none⟩ = some (.int .u8 x5)) : ∃ w2, (Builtin.copy_ #[24, 24] 3 #[.slice (some ⟨M, 0, none⟩) 6 6, .slice (some ⟨b, o, none⟩) 6 c]).run Try.prog w1 = .ok (.int .i64 6) w2 ∧ w2.heap[M]? = some (.cells #[.int .u8 x0, .int .u8 x1, .int .u8 x2, .int .u8 x3, .int .u8 x4, .int .u8 x5] 23 (0, 0)) ∧ w1.grownBy w2 (some M) := by
  have hs : (Try.prog.info? 5).map (·.size) = some 1 := by kernel_rfl
  have h := run_copy_row (P := Try.prog) w1 24 24 3 5 M 0 6 6 ⟨b, o, none⟩ 6 c #[.int .u8 0, .int .u8 0, .int .u8 0, .int .u8 0, .int .u8 0, .int .u8 0] 23 [.int .u8 x0, .int .u8 x1, .int .u8 x2, .int .u8 x3, .int .u8 x4, .int .u8 x5] Try.underlying24 hs hM rfl (fun j v hv => by
      rw [Addr.add_lit]
      match j, hv with
      | 0, hv => simp at hv; subst hv; exact d0
      | 1, hv => simp at hv; subst hv; exact d1
      | 2, hv => simp at hv; subst hv; exact d2
      | 3, hv => simp at hv; subst hv; exact d3
      | 4, hv => simp at hv; subst hv; exact d4
      | 5, hv => simp at hv; subst hv; exact d5) (by simp) (by intro v hv; simp at hv; rcases hv with rfl | rfl | rfl | rfl | rfl | rfl <;> rfl)
  refine ⟨_, h, ?_, ?_⟩
  · exact setRow_heap w1 M _ _ 23 _ hM
  · exact ⟨rfl, rfl, rfl, by simp [World.setRow], fun k hk hne => setRow_other w1 M k _ (fun e => hne (by rw [e]))⟩
theorem res_mac {fn : Func} {p : Tmp} (h : fn.results = #[.cell p 23]) {tmps : Array Value} {w : World} {k : Nat} {a0 a1 a2 a3 a4 a5 : Value} (hp : tmps.getD p undef = .pointer (some ⟨k, 0, none⟩)) (hA : w.rangeAt k 0 [a0, a1, a2, a3, a4, a5]) :
    (results fn tmps).run Try.prog w = .ok (.agg #[a0, a1, a2, a3, a4, a5]) w := by
  have hl := run_loadVar_mid (P := Try.prog) w k 0 23 _ _ hA Try.underlying23 rfl Try.size23
  have hp' : tmps[p]?.getD undef = .pointer (some ⟨k, 0, none⟩) := by simpa using hp
  simp only [results, h]
  simp [hp', asAddr, hl]
theorem grown6 (w : World) (k : Nat) (v0 v1 v2 v3 v4 v5 : Value) : w.grownBy ((((((w.setCell ⟨k, 0, none⟩ v0).setCell ⟨k, 1, none⟩ v1).setCell ⟨k, 2, none⟩ v2).setCell ⟨k, 3, none⟩ v3).setCell ⟨k, 4, none⟩ v4).setCell ⟨k, 5, none⟩ v5) (some k) := setCells_grown k [v0, v1, v2, v3, v4, v5] 0 w
set_option maxRecDepth 100000 in
set_option maxHeartbeats 2000000 in
theorem mac27_yes (r : Nat) (ao : Option Addr) (n c : Nat) (ns : List Int) (w : World) (h : Rd w r ao n c ns) (hn : 6 ≤ n) :
    Calls Try.prog 35 #[.pointer (some ⟨r, 0, none⟩)] w fun e w' => e = .returned (.agg #[.int .u8 (ns.getD 0 0), .int .u8 (ns.getD 1 0), .int .u8 (ns.getD 2 0), .int .u8 (ns.getD 3 0), .int .u8 (ns.getD 4 0), .int .u8 (ns.getD 5 0)]) ∧ ∃ ao', Rd w' r ao' (n - 6) (c - 6) (ns.drop 6) ∧ (∀ b' o', ao' = some ⟨b', o', none⟩ → ∃ o2, ao = some ⟨b', o2, none⟩) ∧ w.grownBy w' (some r) := by
  obtain ⟨b, o, rfl, hc, hbl⟩ := h.byt.at (by omega)
  have hne := h.ne b o rfl (by omega)
  have hrl := h.lt
  have c0 : ((w.alloc (.cells #[.int .u8 0, .int .u8 0, .int .u8 0, .int .u8 0, .int .u8 0, .int .u8 0] 23)).alloc (.cells #[.int .u8 0, .int .u8 0, .int .u8 0, .int .u8 0, .int .u8 0, .int .u8 0] 23)).drew.cell? ⟨b, o, none⟩ = some (.int .u8 (ns.getD 0 0)) := by
    have e := hc 0 (by omega)
    simp only [World.cell?_drew]
    rw [World.cell?_alloc_past _ _ _ (by simp; omega), World.cell?_alloc_past _ _ _ hbl]
    exact e
  have c1 : ((w.alloc (.cells #[.int .u8 0, .int .u8 0, .int .u8 0, .int .u8 0, .int .u8 0, .int .u8 0] 23)).alloc (.cells #[.int .u8 0, .int .u8 0, .int .u8 0, .int .u8 0, .int .u8 0, .int .u8 0] 23)).drew.cell? ⟨b, o + 1, none⟩ = some (.int .u8 (ns.getD 1 0)) := by
    have e := hc 1 (by omega)
    simp only [World.cell?_drew]
    rw [World.cell?_alloc_past _ _ _ (by simp; omega), World.cell?_alloc_past _ _ _ hbl]
    exact e
  have c2 : ((w.alloc (.cells #[.int .u8 0, .int .u8 0, .int .u8 0, .int .u8 0, .int .u8 0, .int .u8 0] 23)).alloc (.cells #[.int .u8 0, .int .u8 0, .int .u8 0, .int .u8 0, .int .u8 0, .int .u8 0] 23)).drew.cell? ⟨b, o + 2, none⟩ = some (.int .u8 (ns.getD 2 0)) := by
    have e := hc 2 (by omega)
    simp only [World.cell?_drew]
    rw [World.cell?_alloc_past _ _ _ (by simp; omega), World.cell?_alloc_past _ _ _ hbl]
    exact e
  have c3 : ((w.alloc (.cells #[.int .u8 0, .int .u8 0, .int .u8 0, .int .u8 0, .int .u8 0, .int .u8 0] 23)).alloc (.cells #[.int .u8 0, .int .u8 0, .int .u8 0, .int .u8 0, .int .u8 0, .int .u8 0] 23)).drew.cell? ⟨b, o + 3, none⟩ = some (.int .u8 (ns.getD 3 0)) := by
    have e := hc 3 (by omega)
    simp only [World.cell?_drew]
    rw [World.cell?_alloc_past _ _ _ (by simp; omega), World.cell?_alloc_past _ _ _ hbl]
    exact e
  have c4 : ((w.alloc (.cells #[.int .u8 0, .int .u8 0, .int .u8 0, .int .u8 0, .int .u8 0, .int .u8 0] 23)).alloc (.cells #[.int .u8 0, .int .u8 0, .int .u8 0, .int .u8 0, .int .u8 0, .int .u8 0] 23)).drew.cell? ⟨b, o + 4, none⟩ = some (.int .u8 (ns.getD 4 0)) := by
    have e := hc 4 (by omega)
    simp only [World.cell?_drew]
    rw [World.cell?_alloc_past _ _ _ (by simp; omega), World.cell?_alloc_past _ _ _ hbl]
    exact e
  have c5 : ((w.alloc (.cells #[.int .u8 0, .int .u8 0, .int .u8 0, .int .u8 0, .int .u8 0, .int .u8 0] 23)).alloc (.cells #[.int .u8 0, .int .u8 0, .int .u8 0, .int .u8 0, .int .u8 0, .int .u8 0] 23)).drew.cell? ⟨b, o + 5, none⟩ = some (.int .u8 (ns.getD 5 0)) := by
    have e := hc 5 (by omega)
    simp only [World.cell?_drew]
    rw [World.cell?_alloc_past _ _ _ (by simp; omega), World.cell?_alloc_past _ _ _ hbl]
    exact e
  have HR : Hid (Rd ((w.alloc (.cells #[.int .u8 0, .int .u8 0, .int .u8 0, .int .u8 0, .int .u8 0, .int .u8 0] 23)).alloc (.cells #[.int .u8 0, .int .u8 0, .int .u8 0, .int .u8 0, .int .u8 0, .int .u8 0] 23)).drew r (some ⟨b, o, none⟩) n c ns) := hide ((h.on (by go_grown)).drew)
  have HM : Hid ((((w.alloc (.cells #[.int .u8 0, .int .u8 0, .int .u8 0, .int .u8 0, .int .u8 0, .int .u8 0] 23)).alloc (.cells #[.int .u8 0, .int .u8 0, .int .u8 0, .int .u8 0, .int .u8 0, .int .u8 0] 23)).drew).heap[w.heap.size + 1]? = some (.cells #[.int .u8 0, .int .u8 0, .int .u8 0, .int .u8 0, .int .u8 0, .int .u8 0] 23 (0, 0))) := by
    have e := heap_alloc_new (w.alloc (.cells #[.int .u8 0, .int .u8 0, .int .u8 0, .int .u8 0, .int .u8 0, .int .u8 0] 23)) (.cells #[.int .u8 0, .int .u8 0, .int .u8 0, .int .u8 0, .int .u8 0, .int .u8 0] 23)
    rw [World.size_alloc] at e
    exact e
  have G0 : w.grownBy ((w.alloc (.cells #[.int .u8 0, .int .u8 0, .int .u8 0, .int .u8 0, .int .u8 0, .int .u8 0] 23)).alloc (.cells #[.int .u8 0, .int .u8 0, .int .u8 0, .int .u8 0, .int .u8 0, .int .u8 0] 23)).drew (some r) := grown_drew (grown_alloc (grown_alloc (World.grownBy.refl w (some r)) _) _)
  have hle := h.byt.le
  have hc6 : (6 : Int) ≤ c := by omega
  have hm1 : some (w.heap.size + 1) ≠ some r := fun e => by have := Option.some.inj e; omega
  have hm0 : some w.heap.size ≠ some r := fun e => by have := Option.some.inj e; omega
  generalize ns.getD 0 0 = x0 at *
  generalize ns.getD 1 0 = x1 at *
  generalize ns.getD 2 0 = x2 at *
  generalize ns.getD 3 0 = x3 at *
  generalize ns.getD 4 0 = x4 at *
  generalize ns.getD 5 0 = x5 at *
  clear h hc
  go_enter Try.func35, Try.ntmps35
  go_wp2_with fail
  go_region_with (first | (go_at_call 37; refine (take29 r b o n c ns 6 6 _ HR.out hn rfl).mono ?_; rintro e w1 ⟨rfl, ao', R1, hb', G1⟩; obtain ⟨w2, hcp, hg2, G2⟩ := copy6 (w1 := w1) (M := w.heap.size + 1) (b := b) (o := o) (c := c) ((G1.block (w.heap.size + 1) (by simp) hm1).trans HM.out) (G1.cell c0 (fun e => hne (Option.some.inj e))) (G1.cell c1 (fun e => hne (Option.some.inj e))) (G1.cell c2 (fun e => hne (Option.some.inj e))) (G1.cell c3 (fun e => hne (Option.some.inj e))) (G1.cell c4 (fun e => hne (Option.some.inj e))) (G1.cell c5 (fun e => hne (Option.some.inj e)))))
  have hnb : ∀ b' o', ao' = some ⟨b', o', none⟩ → b' < w.heap.size := fun b' o' e => by rw [hb' b' o' e]; exact hbl
  have m0 : w2.cell? ⟨w.heap.size + 1, 0, none⟩ = some (.int .u8 x0) := cell_of_row w2 _ 0 _ _ _ hg2
  have m1 : w2.cell? ⟨w.heap.size + 1, 1, none⟩ = some (.int .u8 x1) := cell_of_row w2 _ 1 _ _ _ hg2
  have m2 : w2.cell? ⟨w.heap.size + 1, 2, none⟩ = some (.int .u8 x2) := cell_of_row w2 _ 2 _ _ _ hg2
  have m3 : w2.cell? ⟨w.heap.size + 1, 3, none⟩ = some (.int .u8 x3) := cell_of_row w2 _ 3 _ _ _ hg2
  have m4 : w2.cell? ⟨w.heap.size + 1, 4, none⟩ = some (.int .u8 x4) := cell_of_row w2 _ 4 _ _ _ hg2
  have m5 : w2.cell? ⟨w.heap.size + 1, 5, none⟩ = some (.int .u8 x5) := cell_of_row w2 _ 5 _ _ _ hg2
  have l0 : w2.cell? ⟨w.heap.size, 0, none⟩ = some (.int .u8 0) := G2.cell (G1.cell (a := ⟨w.heap.size, 0, none⟩) (v := .int .u8 0) (by simp) hm0) (by simp)
  have l1 : w2.cell? ⟨w.heap.size, 1, none⟩ = some (.int .u8 0) := G2.cell (G1.cell (a := ⟨w.heap.size, 1, none⟩) (v := .int .u8 0) (by simp) hm0) (by simp)
  have l2 : w2.cell? ⟨w.heap.size, 2, none⟩ = some (.int .u8 0) := G2.cell (G1.cell (a := ⟨w.heap.size, 2, none⟩) (v := .int .u8 0) (by simp) hm0) (by simp)
  have l3 : w2.cell? ⟨w.heap.size, 3, none⟩ = some (.int .u8 0) := G2.cell (G1.cell (a := ⟨w.heap.size, 3, none⟩) (v := .int .u8 0) (by simp) hm0) (by simp)
  have l4 : w2.cell? ⟨w.heap.size, 4, none⟩ = some (.int .u8 0) := G2.cell (G1.cell (a := ⟨w.heap.size, 4, none⟩) (v := .int .u8 0) (by simp) hm0) (by simp)
  have l5 : w2.cell? ⟨w.heap.size, 5, none⟩ = some (.int .u8 0) := G2.cell (G1.cell (a := ⟨w.heap.size, 5, none⟩) (v := .int .u8 0) (by simp) hm0) (by simp)
  have fl : ∀ j, w2.frozen? ⟨w.heap.size, j, none⟩ = false := fun j => (World.frozen?_of_block (a := ⟨w.heap.size, j, none⟩) (G2.block w.heap.size (Nat.lt_of_lt_of_le (by simp; omega) G1.size) (by simp))).trans ((World.frozen?_of_block (a := ⟨w.heap.size, j, none⟩) (G1.block w.heap.size (by simp; omega) hm0)).trans (by simp))
  have R2 := hide (R1.kept (k := w.heap.size + 1) (by omega) (fun b' o' e => by have := hnb b' o' e; omega) G2)
  have G02 := grown_new (grown_trans G0 G1) G2 (by omega)
  have HB := hide hb'
  have HNB := hide hnb
  have T2 : w2.there w.heap.size 0 6 := fun j hj => by
    rw [Nat.zero_add]
    refine ⟨?_, fl j⟩
    rcases (show j = 0 ∨ j = 1 ∨ j = 2 ∨ j = 3 ∨ j = 4 ∨ j = 5 by omega) with rfl | rfl | rfl | rfl | rfl | rfl
    · rw [l0]; rfl
    · rw [l1]; rfl
    · rw [l2]; rfl
    · rw [l3]; rfl
    · rw [l4]; rfl
    · rw [l5]; rfl
  have RG := hide (World.rangeAt_setCells_same w2 w.heap.size 0 [.int .u8 x0, .int .u8 x1, .int .u8 x2, .int .u8 x3, .int .u8 x4, .int .u8 x5] T2)
  clear R1 G0 G1 G2 hcp hg2 hb' hnb HM HR c0 c1 c2 c3 c4 c5 T2
  go_wp2
  refine bodyPost_ret (res_mac rfl rfl RG.out) rfl ⟨rfl, ao', R2.out.kept (k := w.heap.size) (by omega) (fun b' o' e => by have := HNB.out b' o' e; omega) (grown6 _ _ _ _ _ _ _ _), fun b' o' e => ⟨o, by rw [HB.out b' o' e]⟩, grown_new G02 (grown6 _ _ _ _ _ _ _ _) (Nat.le_refl _)⟩

set_option maxRecDepth 100000 in
set_option maxHeartbeats 1000000 in
theorem mac27_no (r : Nat) (ao : Option Addr) (n c : Nat) (ns : List Int) (w : World) (h : Rd w r ao n c ns) (hn : n < 6) :
    Calls Try.prog 35 #[.pointer (some ⟨r, 0, none⟩)] w fun e w' => e = .panicked pan ∧ w.grownBy w' (some r) := by
  have HR : Hid (Rd ((w.alloc (.cells #[.int .u8 0, .int .u8 0, .int .u8 0, .int .u8 0, .int .u8 0, .int .u8 0] 23)).alloc (.cells #[.int .u8 0, .int .u8 0, .int .u8 0, .int .u8 0, .int .u8 0, .int .u8 0] 23)).drew r ao n c ns) := hide ((h.on (by go_grown)).drew)
  have G0 : w.grownBy ((w.alloc (.cells #[.int .u8 0, .int .u8 0, .int .u8 0, .int .u8 0, .int .u8 0, .int .u8 0] 23)).alloc (.cells #[.int .u8 0, .int .u8 0, .int .u8 0, .int .u8 0, .int .u8 0, .int .u8 0] 23)).drew (some r) := grown_drew (grown_alloc (grown_alloc (World.grownBy.refl w (some r)) _) _)
  clear h
  go_enter Try.func35, Try.ntmps35
  go_wp2_with fail
  refine wp_region_any (by kernel_rfl) ?_
  change wpAny _ _ _ _ _ _ _ (World.drew _)
  refine wpAny_take (i := 0) (v := .slice (some ⟨w.heap.size + 1, 0, none⟩) 6 6) rfl (by kernel_rfl) (by kernel_rfl) (by kernel_rfl) (fun _ _ _ h => h) (Or.inl ⟨by rfl, ?_⟩) ?_
  · intro w; go_simp
  refine wpAny_take (i := 1) (v := .pointer (some ⟨r, 0, none⟩)) rfl (by kernel_rfl) (by kernel_rfl) (by kernel_rfl) (fun _ _ _ h => h) (Or.inl ⟨by rfl, ?_⟩) ?_
  · intro w; go_simp
  refine wpAny_ready (rs := [2]) (by kernel_rfl) (by simp) ?_
  refine AllReady.cons rfl (fun K hK => ?_) AllReady.nil
  go_simp
  refine (take29_no r ao n c ns 6 _ HR.out (by omega)).mono ?_
  rintro e w1 ⟨rfl, rfl⟩
  exact ⟨rfl, rfl, G0⟩
end Go.Proofs.Ytmpojeehjhpkbaa
