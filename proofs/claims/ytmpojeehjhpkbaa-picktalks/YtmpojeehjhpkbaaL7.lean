/- PickTalks: for every frame, bytes and two ints the law answers true, and all three read behind the call as they read before. No condition. -/
import Derived.Test.YtmpojeehjhpkbaaQo
namespace Go.Proofs.Ytmpojeehjhpkbaa
open Go.ChangeShapes Go.WideShapes Go.ChangeAt Go.RowKit Go.PlainAid

theorem AtF.kept {w w1 : World} {k r : Nat} {f : Fd} {b : Value} (h : AtF w k f b) (hne : k ≠ r) (hg : w.grownBy w1 (some r)) : AtF w1 k f b := by
  have hn : ∀ i, some (⟨k, i, none⟩ : Addr).block ≠ some r := fun i e => hne (Option.some.inj e)
  exact ⟨Nat.lt_of_lt_of_le h.lt hg.size, hg.cell h.c0 (hn 0), hg.cell h.c1 (hn 1), hg.cell h.c2 (hn 2), hg.cell h.c3 (hn 3), hg.cell h.c4 (hn 4), hg.cell h.c5 (hn 5), hg.cell h.c6 (hn 6), hg.cell h.c7 (hn 7), hg.cell h.c8 (hn 8), hg.cell h.c9 (hn 9), hg.cell h.c10 (hn 10), hg.cell h.c11 (hn 11), hg.cell h.c12 (hn 12), hg.cell h.c13 (hn 13), hg.cell h.c14 (hn 14), hg.cell h.c15 (hn 15), hg.cell h.c16 (hn 16)⟩
theorem AtF.set16 {w : World} {k : Nat} {f : Fd} {b : Value} (h : AtF w k f b) (v : Value) : AtF (w.setCell ⟨k, 16, none⟩ (v)) k f v := by
  have e : ∀ i, i ≠ 16 → (w.setCell ⟨k, 16, none⟩ (v)).cell? ⟨k, i, none⟩ = w.cell? ⟨k, i, none⟩ := fun i hi => World.cell?_setCell_other _ _ _ _ (fun e => hi (congrArg Addr.off e).symm)
  exact ⟨by simpa [World.setCell] using h.lt, by rw [e 0 (by omega)]; exact h.c0, by rw [e 1 (by omega)]; exact h.c1, by rw [e 2 (by omega)]; exact h.c2, by rw [e 3 (by omega)]; exact h.c3, by rw [e 4 (by omega)]; exact h.c4, by rw [e 5 (by omega)]; exact h.c5, by rw [e 6 (by omega)]; exact h.c6, by rw [e 7 (by omega)]; exact h.c7, by rw [e 8 (by omega)]; exact h.c8, by rw [e 9 (by omega)]; exact h.c9, by rw [e 10 (by omega)]; exact h.c10, by rw [e 11 (by omega)]; exact h.c11, by rw [e 12 (by omega)]; exact h.c12, by rw [e 13 (by omega)]; exact h.c13, by rw [e 14 (by omega)]; exact h.c14, by rw [e 15 (by omega)]; exact h.c15, World.cell?_setCell_same _ _ _ h.c16⟩
theorem AtF.set15 {w : World} {k : Nat} {f : Fd} {b : Value} (h : AtF w k f b) (x : Int) : AtF (w.setCell ⟨k, 15, none⟩ (.int .i64 x)) k { f with ty := x } b := by
  have e : ∀ i, i ≠ 15 → (w.setCell ⟨k, 15, none⟩ (.int .i64 x)).cell? ⟨k, i, none⟩ = w.cell? ⟨k, i, none⟩ := fun i hi => World.cell?_setCell_other _ _ _ _ (fun e => hi (congrArg Addr.off e).symm)
  exact ⟨by simpa [World.setCell] using h.lt, by rw [e 0 (by omega)]; exact h.c0, by rw [e 1 (by omega)]; exact h.c1, by rw [e 2 (by omega)]; exact h.c2, by rw [e 3 (by omega)]; exact h.c3, by rw [e 4 (by omega)]; exact h.c4, by rw [e 5 (by omega)]; exact h.c5, by rw [e 6 (by omega)]; exact h.c6, by rw [e 7 (by omega)]; exact h.c7, by rw [e 8 (by omega)]; exact h.c8, by rw [e 9 (by omega)]; exact h.c9, by rw [e 10 (by omega)]; exact h.c10, by rw [e 11 (by omega)]; exact h.c11, by rw [e 12 (by omega)]; exact h.c12, by rw [e 13 (by omega)]; exact h.c13, by rw [e 14 (by omega)]; exact h.c14, World.cell?_setCell_same _ _ _ h.c15, by rw [e 16 (by omega)]; exact h.c16⟩
theorem AtF.set14 {w : World} {k : Nat} {f : Fd} {b : Value} (h : AtF w k f b) (x : Int) : AtF (w.setCell ⟨k, 14, none⟩ (.int .i64 x)) k { f with pr := x } b := by
  have e : ∀ i, i ≠ 14 → (w.setCell ⟨k, 14, none⟩ (.int .i64 x)).cell? ⟨k, i, none⟩ = w.cell? ⟨k, i, none⟩ := fun i hi => World.cell?_setCell_other _ _ _ _ (fun e => hi (congrArg Addr.off e).symm)
  exact ⟨by simpa [World.setCell] using h.lt, by rw [e 0 (by omega)]; exact h.c0, by rw [e 1 (by omega)]; exact h.c1, by rw [e 2 (by omega)]; exact h.c2, by rw [e 3 (by omega)]; exact h.c3, by rw [e 4 (by omega)]; exact h.c4, by rw [e 5 (by omega)]; exact h.c5, by rw [e 6 (by omega)]; exact h.c6, by rw [e 7 (by omega)]; exact h.c7, by rw [e 8 (by omega)]; exact h.c8, by rw [e 9 (by omega)]; exact h.c9, by rw [e 10 (by omega)]; exact h.c10, by rw [e 11 (by omega)]; exact h.c11, by rw [e 12 (by omega)]; exact h.c12, by rw [e 13 (by omega)]; exact h.c13, World.cell?_setCell_same _ _ _ h.c14, by rw [e 15 (by omega)]; exact h.c15, by rw [e 16 (by omega)]; exact h.c16⟩
theorem AtF.set12 {w : World} {k : Nat} {f : Fd} {b : Value} (h : AtF w k f b) (x : Bool) : AtF (w.setCell ⟨k, 12, none⟩ (.bool x)) k { f with tg := x } b := by
  have e : ∀ i, i ≠ 12 → (w.setCell ⟨k, 12, none⟩ (.bool x)).cell? ⟨k, i, none⟩ = w.cell? ⟨k, i, none⟩ := fun i hi => World.cell?_setCell_other _ _ _ _ (fun e => hi (congrArg Addr.off e).symm)
  exact ⟨by simpa [World.setCell] using h.lt, by rw [e 0 (by omega)]; exact h.c0, by rw [e 1 (by omega)]; exact h.c1, by rw [e 2 (by omega)]; exact h.c2, by rw [e 3 (by omega)]; exact h.c3, by rw [e 4 (by omega)]; exact h.c4, by rw [e 5 (by omega)]; exact h.c5, by rw [e 6 (by omega)]; exact h.c6, by rw [e 7 (by omega)]; exact h.c7, by rw [e 8 (by omega)]; exact h.c8, by rw [e 9 (by omega)]; exact h.c9, by rw [e 10 (by omega)]; exact h.c10, by rw [e 11 (by omega)]; exact h.c11, World.cell?_setCell_same _ _ _ h.c12, by rw [e 13 (by omega)]; exact h.c13, by rw [e 14 (by omega)]; exact h.c14, by rw [e 15 (by omega)]; exact h.c15, by rw [e 16 (by omega)]; exact h.c16⟩
theorem below_grown {B : Nat} {w w1 w2 : World} {k : Nat} (hb : Below B w w1) (hg : w1.grownBy w2 (some k)) (hk : B ≤ k) (hs : B ≤ w1.heap.size) : Below B w w2 :=
  hb.grown hg hs (fun r hr => by have := Option.some.inj hr; omega)
theorem there_new (w : World) (cs : Array Value) (e : TypeId) : (w.alloc (.cells cs e)).there w.heap.size 0 cs.size := fun j hj => by
  rw [Nat.zero_add]
  have hg : (w.alloc (.cells cs e)).heap[w.heap.size]? = some (.cells cs e (0, 0)) := heap_alloc_new w _
  refine ⟨?_, ?_⟩
  · rw [cell_of_row _ _ j _ _ _ hg, Array.getElem?_eq_getElem hj]; rfl
  · show (match (w.alloc (.cells cs e)).heap[w.heap.size]? with | some (.cells _ _ (lo, hi)) => decide (lo ≤ j) && decide (j < hi) | _ => false) = false
    rw [hg]
    simp
theorem there_set {w : World} {k n : Nat} (h : w.there k 0 n) (i : Nat) (v : Value) : (w.setCell ⟨k, i, none⟩ v).there k 0 n := World.there_setCells h k i [v]
theorem there_frozen {w : World} {k n : Nat} (h : w.there k 0 n) (i : Nat) (hi : i < n) : w.frozen? ⟨k, i, none⟩ = false := by
  have := (h i hi).2
  rwa [Nat.zero_add] at this
theorem Try.cells37 : Try.prog.cellsOf 37 = 2 := by kernel_rfl
theorem list2 {α : Type} (l : List α) (h : (⟨l⟩ : Array α).size = 2) : ∃ a b, l = [a, b] := by
  match l, h with
  | [a, b], _ => exact ⟨a, b, rfl⟩
theorem list2' {α : Type} (l : List α) (h : l.length = 2) : ∃ a b, l = [a, b] := by
  match l, h with
  | [a, b], _ => exact ⟨a, b, rfl⟩
theorem open_two {H : Type} {enc : TypeId × Value → H} {W : World} {r : Reach} {b0 : Nat} {v : Value} {d : DataW H} {p : List MemPlace}
    (hv : Value.okWide Try.prog W r b0 37 v) (h : DataW.Trod enc Try.prog W 0 (fun _ => true) true 37 v d p) : ∃ a b : Int, v = .agg #[.int .i64 a, .int .i64 b] := by
  obtain ⟨cs, rfl, hsz, _⟩ : ∃ cs, v = .agg cs ∧ cs.size = Try.prog.cellsOf 37 ∧ Row.okWide Try.prog W r b0 37 cs := by
    simpa [Value.okWide, Try.underlying37] using hv
  rw [Try.cells37] at hsz
  obtain ⟨l⟩ := cs
  obtain ⟨c0, c1, rfl⟩ := list2 l hsz
  obtain ⟨fuel, hf⟩ := h
  obtain ⟨xs, m, _, hx, _, hl, hg⟩ := DataW.trod_array Try.underlying37 hf
  obtain ⟨x0, x1, rfl⟩ := list2' xs hl
  have g0 := hg 0 (by omega); have g1 := hg 1 (by omega)
  simp [Try.cells3, Value.cells] at g0 g1
  obtain ⟨n0, e0, rfl, w0⟩ := DataW.trod_int Try.underlying3 g0
  obtain ⟨n1, e1, rfl, w1⟩ := DataW.trod_int Try.underlying3 g1
  simp at e0 e1
  subst e0 e1
  exact ⟨n0, n1, rfl⟩
set_option maxRecDepth 100000 in
set_option maxHeartbeats 8000000 in
theorem talksWalk (f : Fd) (a : Option Addr) (m c : Nat) (ab : Option Addr) (nb cb : Nat) (x0 x1 : Int) (w : World) (hf : FdB f) :
    Calls Try.prog 7 #[.agg #[.int .u8 f.d0, .int .u8 f.d1, .int .u8 f.d2, .int .u8 f.d3, .int .u8 f.d4, .int .u8 f.d5, .int .u8 f.s0, .int .u8 f.s1, .int .u8 f.s2, .int .u8 f.s3, .int .u8 f.s4, .int .u8 f.s5, .bool f.tg, .int .i64 f.vl, .int .i64 f.pr, .int .i64 f.ty, .slice a m c], .slice ab nb cb, .agg #[.int .i64 x0, .int .i64 x1]] w fun e w' => e = .returned (.bool true) ∧ Below w.heap.size w w' := by
  have HF := hide hf.a
  have b0 := (below_alloc w (.cells #[.int .u8 f.d0, .int .u8 f.d1, .int .u8 f.d2, .int .u8 f.d3, .int .u8 f.d4, .int .u8 f.d5, .int .u8 f.s0, .int .u8 f.s1, .int .u8 f.s2, .int .u8 f.s3, .int .u8 f.s4, .int .u8 f.s5, .bool f.tg, .int .i64 f.vl, .int .i64 f.pr, .int .i64 f.ty, .slice a m c] 26)).alloc (show w.heap.size ≤ (w.alloc (.cells #[.int .u8 f.d0, .int .u8 f.d1, .int .u8 f.d2, .int .u8 f.d3, .int .u8 f.d4, .int .u8 f.d5, .int .u8 f.s0, .int .u8 f.s1, .int .u8 f.s2, .int .u8 f.s3, .int .u8 f.s4, .int .u8 f.s5, .bool f.tg, .int .i64 f.vl, .int .i64 f.pr, .int .i64 f.ty, .slice a m c] 26)).heap.size by simp) (.cells #[.int .i64 x0, .int .i64 x1] 37)
  have HB0 := hide b0
  have HA0 := hide ((AtF.new w f (.slice a m c)).alloc (.cells #[.int .i64 x0, .int .i64 x1] 37))
  have HX0 : Hid ((((w.alloc (.cells #[.int .u8 f.d0, .int .u8 f.d1, .int .u8 f.d2, .int .u8 f.d3, .int .u8 f.d4, .int .u8 f.d5, .int .u8 f.s0, .int .u8 f.s1, .int .u8 f.s2, .int .u8 f.s3, .int .u8 f.s4, .int .u8 f.s5, .bool f.tg, .int .i64 f.vl, .int .i64 f.pr, .int .i64 f.ty, .slice a m c] 26)).alloc (.cells #[.int .i64 x0, .int .i64 x1] 37)).cell? ⟨w.heap.size + 1, 0, none⟩ = some (.int .i64 x0)) ∧ (((w.alloc (.cells #[.int .u8 f.d0, .int .u8 f.d1, .int .u8 f.d2, .int .u8 f.d3, .int .u8 f.d4, .int .u8 f.d5, .int .u8 f.s0, .int .u8 f.s1, .int .u8 f.s2, .int .u8 f.s3, .int .u8 f.s4, .int .u8 f.s5, .bool f.tg, .int .i64 f.vl, .int .i64 f.pr, .int .i64 f.ty, .slice a m c] 26)).alloc (.cells #[.int .i64 x0, .int .i64 x1] 37)).cell? ⟨w.heap.size + 1, 1, none⟩ = some (.int .i64 x1)) ∧ w.heap.size + 1 < ((w.alloc (.cells #[.int .u8 f.d0, .int .u8 f.d1, .int .u8 f.d2, .int .u8 f.d3, .int .u8 f.d4, .int .u8 f.d5, .int .u8 f.s0, .int .u8 f.s1, .int .u8 f.s2, .int .u8 f.s3, .int .u8 f.s4, .int .u8 f.s5, .bool f.tg, .int .i64 f.vl, .int .i64 f.pr, .int .i64 f.ty, .slice a m c] 26)).alloc (.cells #[.int .i64 x0, .int .i64 x1] 37)).heap.size) := hide (by
    have e : w.heap.size + 1 = (w.alloc (.cells #[.int .u8 f.d0, .int .u8 f.d1, .int .u8 f.d2, .int .u8 f.d3, .int .u8 f.d4, .int .u8 f.d5, .int .u8 f.s0, .int .u8 f.s1, .int .u8 f.s2, .int .u8 f.s3, .int .u8 f.s4, .int .u8 f.s5, .bool f.tg, .int .i64 f.vl, .int .i64 f.pr, .int .i64 f.ty, .slice a m c] 26)).heap.size := by simp
    rw [e]
    exact ⟨by simp, by simp, by simp⟩)
  clear hf b0
  go_enter Try.func7, Try.ntmps7
  go_wp2_with fail
  refine (awakeC _).mono ?_
  rintro e w1 ⟨rfl, B1⟩
  have HB := hide (belowOn HB0.out B1)
  have HA := hide (HA0.out.on B1)
  have HX : Hid (w1.cell? ⟨w.heap.size + 1, 0, none⟩ = some (.int .i64 x0) ∧ w1.cell? ⟨w.heap.size + 1, 1, none⟩ = some (.int .i64 x1) ∧ w.heap.size + 1 < w1.heap.size) := hide
    ⟨(B1.cell (p := ⟨w.heap.size + 1, 0, none⟩) HX0.out.2.2).trans HX0.out.1, (B1.cell (p := ⟨w.heap.size + 1, 1, none⟩) HX0.out.2.2).trans HX0.out.2.1, Nat.lt_of_lt_of_le HX0.out.2.2 B1.size⟩
  clear B1 HA0 HB0 HX0
  have u0 : ∀ cs, (w1.alloc (.cells cs 26)).cell? ⟨w.heap.size + 1, 0, none⟩ = some (.int .i64 x0) := fun cs => ((below_alloc w1 _).cell (p := ⟨w.heap.size + 1, 0, none⟩) HX.out.2.2).trans HX.out.1
  have u1 : ∀ cs, (w1.alloc (.cells cs 26)).cell? ⟨w.heap.size + 1, 1, none⟩ = some (.int .i64 x1) := fun cs => ((below_alloc w1 _).cell (p := ⟨w.heap.size + 1, 1, none⟩) HX.out.2.2).trans HX.out.2.1
  have u2 : ∀ cs, (w1.alloc (.cells cs 26)).cell? ⟨w.heap.size, 12, none⟩ = some (.bool f.tg) := fun cs => (HA.out.alloc (.cells cs 26)).c12
  have tk1 : True := trivial
  go_wp2_with (first | (have _t := tk1; refine wpl_frame (.tmp 3) rfl HA.out ?_ ?_ ?_; rfl; rfl; clear tk1))
  clear u0 u1 u2
  obtain ⟨w2, hw2⟩ : ∃ w2, w2 = w1.alloc (.cells #[.int .u8 f.d0, .int .u8 f.d1, .int .u8 f.d2, .int .u8 f.d3, .int .u8 f.d4, .int .u8 f.d5, .int .u8 f.s0, .int .u8 f.s1, .int .u8 f.s2, .int .u8 f.s3, .int .u8 f.s4, .int .u8 f.s5, .bool (!f.tg), .int .i64 f.vl, .int .i64 x1, .int .i64 x0, .slice ab nb cb] 26) := ⟨_, rfl⟩
  obtain ⟨g, hA2, hfg, hsg⟩ : ∃ g, AtF w2 w1.heap.size g (.slice ab nb cb) ∧ Rng (adL g) ∧ hsh g = hsh f := ⟨{ f with ty := x0, pr := x1, tg := !f.tg }, by rw [hw2]; exact AtF.new w1 { f with ty := x0, pr := x1, tg := !f.tg } (.slice ab nb cb), HF.out, hsh_same rfl rfl⟩
  have hA1 : AtF w2 w.heap.size f (.slice a m c) := by rw [hw2]; exact HA.out.alloc _
  have hB2 : Below w.heap.size w w2 := by rw [hw2]; exact belowOn HB.out (below_alloc w1 _)
  rw [← hw2]
  clear HB HA HX hw2
  generalize w1.heap.size = K at *
  obtain ⟨kx, hkx⟩ : ∃ kx, kx = w.heap.size := ⟨_, rfl⟩
  rw [← hkx] at hA1 ⊢
  have HA1 := hide hA1
  have HA2 := hide hA2
  have HB := hide hB2
  have HFG := hide hfg
  have HSG := hide hsg
  have HKX := hide hkx
  clear hA1 hA2 hB2 hfg hsg hkx
  obtain ⟨z, hz⟩ : ∃ z, z = hsh f := ⟨_, rfl⟩
  rw [← hz] at HSG
  have HG := hide hz
  clear hz
  refine wp_region_held_drew (S := fun w' => AtF w' kx f (.slice a m c) ∧ AtF w' K g (.slice ab nb cb)) (by kernel_rfl) ⟨HA1.out.on (⟨rfl, rfl, rfl, Nat.le_refl _, fun _ _ => rfl⟩ : Below w2.heap.size w2 w2.drew), HA2.out.on (⟨rfl, rfl, rfl, Nat.le_refl _, fun _ _ => rfl⟩ : Below w2.heap.size w2 w2.drew)⟩ (fun hHeld => ?_)
  replace HB : Hid (Below kx w w2.drew) := hide (show Below kx w w2.drew from by rw [HKX.out]; exact ⟨HB.out.os, HB.out.tape, HB.out.output, HB.out.size, HB.out.block⟩)
  clear HA1 HA2
  generalize w2.drew = u0 at *
  refine wpAnyH_take (i := 0) (v := .bool true) rfl (by kernel_rfl) (by kernel_rfl) (by kernel_rfl) (fun _ _ _ h => h) (Or.inl ⟨by rfl, ?_⟩) hHeld ?_
  · intro W hW; (try dsimp only at hW); clear hW; go_simp
  change wpAnyH _ _ _ _ _ _ _ ⟨#[_,_,_,.pointer (some ⟨kx, 0, none⟩),_,_,_,.bool true,.pointer (some ⟨K, 0, none⟩),_,_,_,_,_,_,_,_,_,_,_,_,_,_,.bool true,_,_,_,_,_,_,_], []⟩ _
  refine wpAnyH_take (i := 1) (v := .bool true) rfl (by kernel_rfl) (by kernel_rfl) (by kernel_rfl) (fun _ _ _ h => h) (Or.inl ⟨by rfl, ?_⟩) hHeld ?_
  · intro W hW; (try dsimp only at hW); clear hW; go_simp
  change wpAnyH _ _ _ _ _ _ _ ⟨#[_,_,_,.pointer (some ⟨kx, 0, none⟩),_,_,_,.bool true,.pointer (some ⟨K, 0, none⟩),_,_,_,_,_,_,_,_,_,_,_,_,_,_,.bool true,.bool true,_,_,_,_,_,_], []⟩ _
  refine wpAnyH_take (i := 2) (v := .agg #[.int .u8 f.d0, .int .u8 f.d1, .int .u8 f.d2, .int .u8 f.d3, .int .u8 f.d4, .int .u8 f.d5, .int .u8 f.s0, .int .u8 f.s1, .int .u8 f.s2, .int .u8 f.s3, .int .u8 f.s4, .int .u8 f.s5, .bool f.tg, .int .i64 f.vl, .int .i64 f.pr, .int .i64 f.ty, .slice a m c]) rfl (by kernel_rfl) (by kernel_rfl) (by kernel_rfl) (fun _ _ _ h => h) (yieldsIf_load_mid (by rfl) 26 (.tmp 3) rfl kx 0 rfl ([.int .u8 f.d0, .int .u8 f.d1, .int .u8 f.d2, .int .u8 f.d3, .int .u8 f.d4, .int .u8 f.d5, .int .u8 f.s0, .int .u8 f.s1, .int .u8 f.s2, .int .u8 f.s3, .int .u8 f.s4, .int .u8 f.s5, .bool f.tg, .int .i64 f.vl, .int .i64 f.pr, .int .i64 f.ty, .slice a m c]) _ (fun W hW => hW.1.all) Try.underlying26 rfl Try.size26) hHeld ?_
  change wpAnyH _ _ _ _ _ _ _ ⟨#[_,_,_,.pointer (some ⟨kx, 0, none⟩),_,_,_,.bool true,.pointer (some ⟨K, 0, none⟩),_,_,_,_,_,_,_,_,_,_,_,_,_,_,.bool true,.bool true,.agg #[.int .u8 f.d0, .int .u8 f.d1, .int .u8 f.d2, .int .u8 f.d3, .int .u8 f.d4, .int .u8 f.d5, .int .u8 f.s0, .int .u8 f.s1, .int .u8 f.s2, .int .u8 f.s3, .int .u8 f.s4, .int .u8 f.s5, .bool f.tg, .int .i64 f.vl, .int .i64 f.pr, .int .i64 f.ty, .slice a m c],_,_,_,_,_], []⟩ _
  refine wpAnyH_take (i := 4) (v := .agg #[.int .u8 g.d0, .int .u8 g.d1, .int .u8 g.d2, .int .u8 g.d3, .int .u8 g.d4, .int .u8 g.d5, .int .u8 g.s0, .int .u8 g.s1, .int .u8 g.s2, .int .u8 g.s3, .int .u8 g.s4, .int .u8 g.s5, .bool g.tg, .int .i64 g.vl, .int .i64 g.pr, .int .i64 g.ty, .slice ab nb cb]) rfl (by kernel_rfl) (by kernel_rfl) (by kernel_rfl) (fun _ _ _ h => h) (yieldsIf_load_mid (by rfl) 26 (.tmp 8) rfl K 0 rfl ([.int .u8 g.d0, .int .u8 g.d1, .int .u8 g.d2, .int .u8 g.d3, .int .u8 g.d4, .int .u8 g.d5, .int .u8 g.s0, .int .u8 g.s1, .int .u8 g.s2, .int .u8 g.s3, .int .u8 g.s4, .int .u8 g.s5, .bool g.tg, .int .i64 g.vl, .int .i64 g.pr, .int .i64 g.ty, .slice ab nb cb]) _ (fun W hW => hW.2.all) Try.underlying26 rfl Try.size26) hHeld ?_
  change wpAnyH _ _ _ _ _ _ _ ⟨#[_,_,_,.pointer (some ⟨kx, 0, none⟩),_,_,_,.bool true,.pointer (some ⟨K, 0, none⟩),_,_,_,_,_,_,_,_,_,_,_,_,_,_,.bool true,.bool true,.agg #[.int .u8 f.d0, .int .u8 f.d1, .int .u8 f.d2, .int .u8 f.d3, .int .u8 f.d4, .int .u8 f.d5, .int .u8 f.s0, .int .u8 f.s1, .int .u8 f.s2, .int .u8 f.s3, .int .u8 f.s4, .int .u8 f.s5, .bool f.tg, .int .i64 f.vl, .int .i64 f.pr, .int .i64 f.ty, .slice a m c],_,.agg #[.int .u8 g.d0, .int .u8 g.d1, .int .u8 g.d2, .int .u8 g.d3, .int .u8 g.d4, .int .u8 g.d5, .int .u8 g.s0, .int .u8 g.s1, .int .u8 g.s2, .int .u8 g.s3, .int .u8 g.s4, .int .u8 g.s5, .bool g.tg, .int .i64 g.vl, .int .i64 g.pr, .int .i64 g.ty, .slice ab nb cb],_,_,_], []⟩ _
  refine wpAnyH_ready (rs := [3]) (by kernel_rfl) (by simp) ?_
  refine AllReadyH.cons rfl (fun K hK => ?_) AllReadyH.nil
  go_simp
  refine (hashQ f (.slice a m c) _ HF.out).mono ?_
  rintro e w9 ⟨rfl, B9⟩
  replace HB : Hid (Below kx w w9) := hide (by have := HKX.out; have hb := HB.out; subst this; exact belowOn hb B9)
  rw [← HG.out]
  refine hK.out _ _ ⟨hHeld.1.on B9, hHeld.2.on B9⟩ (fun hHeld => ?_)
  clear hK K B9
  change wpAnyH _ _ _ _ _ _ _ ⟨#[_,_,_,.pointer (some ⟨kx, 0, none⟩),_,_,_,.bool true,.pointer (some ⟨K, 0, none⟩),_,_,_,_,_,_,_,_,_,_,_,_,_,_,.bool true,.bool true,.agg #[.int .u8 f.d0, .int .u8 f.d1, .int .u8 f.d2, .int .u8 f.d3, .int .u8 f.d4, .int .u8 f.d5, .int .u8 f.s0, .int .u8 f.s1, .int .u8 f.s2, .int .u8 f.s3, .int .u8 f.s4, .int .u8 f.s5, .bool f.tg, .int .i64 f.vl, .int .i64 f.pr, .int .i64 f.ty, .slice a m c],.int .u32 (z : Int),.agg #[.int .u8 g.d0, .int .u8 g.d1, .int .u8 g.d2, .int .u8 g.d3, .int .u8 g.d4, .int .u8 g.d5, .int .u8 g.s0, .int .u8 g.s1, .int .u8 g.s2, .int .u8 g.s3, .int .u8 g.s4, .int .u8 g.s5, .bool g.tg, .int .i64 g.vl, .int .i64 g.pr, .int .i64 g.ty, .slice ab nb cb],_,_,_], []⟩ _
  refine wpAnyH_ready (rs := [5]) (by kernel_rfl) (by simp) ?_
  refine AllReadyH.cons rfl (fun K hK => ?_) AllReadyH.nil
  go_simp
  refine (hashQ g (.slice ab nb cb) _ HFG.out).mono ?_
  rintro e w9 ⟨rfl, B9⟩
  replace HB : Hid (Below kx w w9) := hide (by have := HKX.out; have hb := HB.out; subst this; exact belowOn hb B9)
  rw [HSG.out]
  refine hK.out _ _ ⟨hHeld.1.on B9, hHeld.2.on B9⟩ (fun hHeld => ?_)
  clear hK K B9
  change wpAnyH _ _ _ _ _ _ _ ⟨#[_,_,_,.pointer (some ⟨kx, 0, none⟩),_,_,_,.bool true,.pointer (some ⟨K, 0, none⟩),_,_,_,_,_,_,_,_,_,_,_,_,_,_,.bool true,.bool true,.agg #[.int .u8 f.d0, .int .u8 f.d1, .int .u8 f.d2, .int .u8 f.d3, .int .u8 f.d4, .int .u8 f.d5, .int .u8 f.s0, .int .u8 f.s1, .int .u8 f.s2, .int .u8 f.s3, .int .u8 f.s4, .int .u8 f.s5, .bool f.tg, .int .i64 f.vl, .int .i64 f.pr, .int .i64 f.ty, .slice a m c],.int .u32 (z : Int),.agg #[.int .u8 g.d0, .int .u8 g.d1, .int .u8 g.d2, .int .u8 g.d3, .int .u8 g.d4, .int .u8 g.d5, .int .u8 g.s0, .int .u8 g.s1, .int .u8 g.s2, .int .u8 g.s3, .int .u8 g.s4, .int .u8 g.s5, .bool g.tg, .int .i64 g.vl, .int .i64 g.pr, .int .i64 g.ty, .slice ab nb cb],.int .u32 (z : Int),_,_], []⟩ _
  refine wpAnyH_take (i := 6) (v := .bool true) rfl (by kernel_rfl) (by kernel_rfl) (by kernel_rfl) (fun _ _ _ h => h) (Or.inl ⟨by rfl, ?_⟩) hHeld ?_
  · intro W hW; (try dsimp only at hW); clear hW; go_simp
  change wpAnyH _ _ _ _ _ _ _ ⟨#[_,_,_,.pointer (some ⟨kx, 0, none⟩),_,_,_,.bool true,.pointer (some ⟨K, 0, none⟩),_,_,_,_,_,_,_,_,_,_,_,_,_,_,.bool true,.bool true,.agg #[.int .u8 f.d0, .int .u8 f.d1, .int .u8 f.d2, .int .u8 f.d3, .int .u8 f.d4, .int .u8 f.d5, .int .u8 f.s0, .int .u8 f.s1, .int .u8 f.s2, .int .u8 f.s3, .int .u8 f.s4, .int .u8 f.s5, .bool f.tg, .int .i64 f.vl, .int .i64 f.pr, .int .i64 f.ty, .slice a m c],.int .u32 (z : Int),.agg #[.int .u8 g.d0, .int .u8 g.d1, .int .u8 g.d2, .int .u8 g.d3, .int .u8 g.d4, .int .u8 g.d5, .int .u8 g.s0, .int .u8 g.s1, .int .u8 g.s2, .int .u8 g.s3, .int .u8 g.s4, .int .u8 g.s5, .bool g.tg, .int .i64 g.vl, .int .i64 g.pr, .int .i64 g.ty, .slice ab nb cb],.int .u32 (z : Int),.bool true,_], []⟩ _
  refine wpAnyH_take (i := 7) (v := .bool true) rfl (by kernel_rfl) (by kernel_rfl) (by kernel_rfl) (fun _ _ _ h => h) (Or.inl ⟨by rfl, ?_⟩) hHeld ?_
  · intro W hW; (try dsimp only at hW); clear hW; go_simp
  change wpAnyH _ _ _ _ _ _ _ ⟨#[_,_,_,.pointer (some ⟨kx, 0, none⟩),_,_,_,.bool true,.pointer (some ⟨K, 0, none⟩),_,_,_,_,_,_,_,_,_,_,_,_,_,_,.bool true,.bool true,.agg #[.int .u8 f.d0, .int .u8 f.d1, .int .u8 f.d2, .int .u8 f.d3, .int .u8 f.d4, .int .u8 f.d5, .int .u8 f.s0, .int .u8 f.s1, .int .u8 f.s2, .int .u8 f.s3, .int .u8 f.s4, .int .u8 f.s5, .bool f.tg, .int .i64 f.vl, .int .i64 f.pr, .int .i64 f.ty, .slice a m c],.int .u32 (z : Int),.agg #[.int .u8 g.d0, .int .u8 g.d1, .int .u8 g.d2, .int .u8 g.d3, .int .u8 g.d4, .int .u8 g.d5, .int .u8 g.s0, .int .u8 g.s1, .int .u8 g.s2, .int .u8 g.s3, .int .u8 g.s4, .int .u8 g.s5, .bool g.tg, .int .i64 g.vl, .int .i64 g.pr, .int .i64 g.ty, .slice ab nb cb],.int .u32 (z : Int),.bool true,.bool true], []⟩ _
  refine wpAnyH_take (i := 8) (v := .bool true) rfl (by kernel_rfl) (by kernel_rfl) (by kernel_rfl) (fun _ _ _ h => h) (Or.inl ⟨by rfl, ?_⟩) hHeld ?_
  · intro W hW; (try dsimp only at hW); clear hW; go_simp
  change wpAnyH _ _ _ _ _ _ _ ⟨#[_,_,_,.pointer (some ⟨kx, 0, none⟩),_,_,.bool true,.bool true,.pointer (some ⟨K, 0, none⟩),_,_,_,_,_,_,_,_,_,_,_,_,_,_,.bool true,.bool true,.agg #[.int .u8 f.d0, .int .u8 f.d1, .int .u8 f.d2, .int .u8 f.d3, .int .u8 f.d4, .int .u8 f.d5, .int .u8 f.s0, .int .u8 f.s1, .int .u8 f.s2, .int .u8 f.s3, .int .u8 f.s4, .int .u8 f.s5, .bool f.tg, .int .i64 f.vl, .int .i64 f.pr, .int .i64 f.ty, .slice a m c],.int .u32 (z : Int),.agg #[.int .u8 g.d0, .int .u8 g.d1, .int .u8 g.d2, .int .u8 g.d3, .int .u8 g.d4, .int .u8 g.d5, .int .u8 g.s0, .int .u8 g.s1, .int .u8 g.s2, .int .u8 g.s3, .int .u8 g.s4, .int .u8 g.s5, .bool g.tg, .int .i64 g.vl, .int .i64 g.pr, .int .i64 g.ty, .slice ab nb cb],.int .u32 (z : Int),.bool true,.bool true], []⟩ _
  refine wpAnyH_done (by kernel_rfl) ?_ _
  clear hHeld
  have h9 := HB.out
  rw [HKX.out] at h9
  have HB9 := hide h9
  clear h9
  go_wp2
  go_ret
  exact ⟨rfl, HB9.out⟩
set_option maxRecDepth 100000 in
set_option maxHeartbeats 2000000 in
theorem pickTalkslifted (os : Os) (started : os.Started) (H : Type) (enc : TypeId × Value → H) :
    ReturnsInHanded {} Try.checked os 7 .any (Rows.pickTalksSpec.pre6 enc Try.prog Try.f7 Rows.pickTalksRow.domain false) (Rows.pickTalksSpec.post enc Try.prog Try.f7 false true false false) := by
  refine returnsInHanded_of_change (C := Try.checked) own started (by kernel_rfl) Try.func7
    (ChangeSpec.witness6 (enc := enc) (C := Try.checked) false ⟨#[], #[.agg #[.int .u8 0, .int .u8 0, .int .u8 0, .int .u8 0, .int .u8 0, .int .u8 0, .int .u8 0, .int .u8 0, .int .u8 0, .int .u8 0, .int .u8 0, .int .u8 0, .bool false, .int .i64 0, .int .i64 0, .int .i64 0, .slice none 0 0], .slice none 0 0, .agg #[.int .i64 0, .int .i64 0]], []⟩ 8 (by kernel_rfl) (by kernel_rfl) (by kernel_rfl) (by kernel_rfl)) ?_
  intro W base args ds gs before hval0 hW _ _
  have hval : ∀ (j : Nat) t v, Try.f7.params[j]? = some t → args[j]? = some v → Value.okWide Try.prog W .any base t v := hval0
  have hW' := hW
  obtain ⟨p, q, hA0, hV, rfl, _, _⟩ := hW
  have hA : DataW.TrodAll enc Try.prog W 0 (fun _ => true) true Try.f7.params.toList args.toList ds p := hA0
  rw [Try.params7] at hA hval
  obtain ⟨v0, vs0, d0, ds0, p0, q0, hargs, rfl, rfl, h0, r0⟩ := trodAll_cons hA
  obtain ⟨v1, vs1, d1, ds1, p1, q1, rfl, rfl, rfl, h1, r1⟩ := trodAll_cons r0
  obtain ⟨v2, vs2, d2, ds2, p2, q2, rfl, rfl, rfl, h2, r2⟩ := trodAll_cons r1
  obtain ⟨rfl, rfl, rfl⟩ := trodAll_nil r2
  obtain rfl : args = #[v0, v1, v2] := by cases args; simp_all
  obtain ⟨rfl, rfl⟩ := trodVars_none hV
  have h0k := h0
  obtain ⟨f0, a0, m0, c0, rfl, hf0, hs0⟩ := open_frame (hval 0 26 v0 rfl rfl) h0
  have h1k := h1
  obtain ⟨ao1, n1, c1, ss1, rfl, hs1⟩ := open_bytes (hval 1 24 v1 rfl rfl) h1
  have h2k := h2
  obtain ⟨x2, y2, rfl⟩ := open_two (hval 2 37 v2 rfl rfl) h2
  clear hA0 hval0
  simp only [List.append_nil] at hW'
  have hlt : ∀ x ∈ p0 ++ p1 ++ p2, x.block < W.heap.size := fun x hx => by simpa using hW'.lt x (by simpa using hx)
  refine (talksWalk f0 a0 m0 c0 ao1 n1 c1 x2 y2 W hf0).mono fun e W' ⟨he, hbl⟩ => ?_
  subst he
  exact ⟨_, rfl, _, _, _, [], _, [], hW', (trodAll_cons_mk (shut_bool Try.underlying4 _) trodAll_mk0), (trodAll_cons_mk (Below.trod Try.laidOut (by kernel_rfl) (of_decide_eq_true (by kernel_rfl)) h0k hbl (fun x hx => hlt x (by simp [hx]))) (trodAll_cons_mk (Below.trod Try.laidOut (by kernel_rfl) (of_decide_eq_true (by kernel_rfl)) h1k hbl (fun x hx => hlt x (by simp [hx]))) (trodAll_cons_mk (Below.trod Try.laidOut (by kernel_rfl) (of_decide_eq_true (by kernel_rfl)) h2k hbl (fun x hx => hlt x (by simp [hx]))) trodAll_mk0))), rfl, hbl.frame _, fun h => by cases h⟩

theorem pickTalks_holds : Rows.PickTalksSaid :=
  OpenClaim.holds_of_wide 7 Try.f7 rfl rfl rfl rfl rfl rfl rfl ⟨rfl, rfl, rfl, rfl, rfl⟩ rfl rfl rfl rfl rfl (by kernel_rfl) Try.func7 (by kernel_rfl)
    (of_decide_eq_true (by kernel_rfl)) (by unfold Func.isWrapper; first | (rw [if_pos (by decide +kernel)]; kernel_rfl) | (rw [if_neg (by decide +kernel)]; exact ⟨rfl, rfl⟩))
    (fun os started H enc _ => pickTalkslifted os started H enc)

#print axioms pickTalks_holds
end Go.Proofs.Ytmpojeehjhpkbaa
