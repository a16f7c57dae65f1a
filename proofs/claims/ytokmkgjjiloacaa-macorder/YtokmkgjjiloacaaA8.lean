/- Plain facts on what Parse answers, and what holds at the head of its loop. -/
import Derived.Test.YtokmkgjjiloacaaA4
import Derived.PlainAid
namespace Go.Proofs.Ytokmkgjjiloacaa
open Go.RowKit Go.PlainAid

/-- The text's k-th pair of figures stands as it must. -/
def okAt (s : ByteArray) (k : Nat) : Prop := (k = 0 ∨ bt s (3 * k - 1) = 58) ∧ 0 ≤ val (bt s (3 * k)) ∧ 0 ≤ val (bt s (3 * k + 1))
/-- The text is an address's. -/
def okAll (s : ByteArray) : Prop := okAt s 0 ∧ okAt s 1 ∧ okAt s 2 ∧ okAt s 3 ∧ okAt s 4 ∧ okAt s 5
/-- The k-th byte that it tells. -/
def byteAt (s : ByteArray) (k : Nat) : Int := val (bt s (3 * k)) * 16 + val (bt s (3 * k + 1))
/-- What the array holds at j behind k rounds. -/
def pb (s : ByteArray) (k j : Nat) : Int := if j < k then byteAt s j else 0

theorem byteAt_lo {s : ByteArray} {k : Nat} (h : okAt s k) : 0 ≤ byteAt s k := by
  obtain ⟨_, h1, h2⟩ := h; unfold byteAt; omega
theorem byteAt_hi {s : ByteArray} {k : Nat} (h : okAt s k) : byteAt s k ≤ 255 := by
  obtain ⟨_, h1, h2⟩ := h
  have := val_lt (bt s (3 * k))
  have := val_lt (bt s (3 * k + 1))
  unfold byteAt; omega
theorem okAll_B6 {s : ByteArray} (h : okAll s) : B6 (byteAt s 0) (byteAt s 1) (byteAt s 2) (byteAt s 3) (byteAt s 4) (byteAt s 5) := by
  obtain ⟨h0, h1, h2, h3, h4, h5⟩ := h
  exact ⟨byteAt_lo h0, byteAt_hi h0, byteAt_lo h1, byteAt_hi h1, byteAt_lo h2, byteAt_hi h2, byteAt_lo h3, byteAt_hi h3, byteAt_lo h4, byteAt_hi h4, byteAt_lo h5, byteAt_hi h5⟩

/-- 'high << 4 | low' of two figures' values. -/
theorem or4 (x y : Int) (h0 : 0 ≤ x) (h1 : x < 16) (g0 : 0 ≤ y) (g1 : y < 16) : bits .or .u8 (IntKind.u8.wrap (x * 16)) y = x * 16 + y := by
  have e1 : IntKind.u8.wrap (x * 16) = x * 16 := IntWalk.u8_in _ (by omega)
  rw [e1, u8_or _ _ (by omega) (by omega) (by omega) (by omega), nat_join 4 _ _ (by omega) (by omega)]
  omega
theorem or4' (x y : Int) (h0 : 0 ≤ x) (h1 : x < 16) (g0 : 0 ≤ y) (g1 : y < 16) : bits .or .u8 (x * 16) y = x * 16 + y := by
  rw [u8_or _ _ (by omega) (by omega) (by omega) (by omega), nat_join 4 _ _ (by omega) (by omega)]
  omega

/-- Two new arrays: the result's, of noughts, and the one that is filled. -/
structure PI (w wr : World) (b0 b1 b2 b3 b4 b5 : Int) : Prop where
  below : Below w.heap.size w wr
  size : w.heap.size + 1 < wr.heap.size
  r0 : wr.cell? ⟨w.heap.size, 0, none⟩ = some (.int .u8 0)
  r1 : wr.cell? ⟨w.heap.size, 1, none⟩ = some (.int .u8 0)
  r2 : wr.cell? ⟨w.heap.size, 2, none⟩ = some (.int .u8 0)
  r3 : wr.cell? ⟨w.heap.size, 3, none⟩ = some (.int .u8 0)
  r4 : wr.cell? ⟨w.heap.size, 4, none⟩ = some (.int .u8 0)
  r5 : wr.cell? ⟨w.heap.size, 5, none⟩ = some (.int .u8 0)
  c0 : wr.cell? ⟨w.heap.size + 1, 0, none⟩ = some (.int .u8 b0)
  c1 : wr.cell? ⟨w.heap.size + 1, 1, none⟩ = some (.int .u8 b1)
  c2 : wr.cell? ⟨w.heap.size + 1, 2, none⟩ = some (.int .u8 b2)
  c3 : wr.cell? ⟨w.heap.size + 1, 3, none⟩ = some (.int .u8 b3)
  c4 : wr.cell? ⟨w.heap.size + 1, 4, none⟩ = some (.int .u8 b4)
  c5 : wr.cell? ⟨w.heap.size + 1, 5, none⟩ = some (.int .u8 b5)
  fr : ∀ j, wr.frozen? ⟨w.heap.size, j, none⟩ = false
  fc : ∀ j, wr.frozen? ⟨w.heap.size + 1, j, none⟩ = false

theorem PI.on {w wr w1 : World} {b0 b1 b2 b3 b4 b5 : Int} (h : PI w wr b0 b1 b2 b3 b4 b5) (hb : Below wr.heap.size wr w1) : PI w w1 b0 b1 b2 b3 b4 b5 := by
  have s := h.size
  have e : ∀ i, w1.cell? ⟨w.heap.size, i, none⟩ = wr.cell? ⟨w.heap.size, i, none⟩ := fun i => hb.cell (p := ⟨w.heap.size, i, none⟩) (by show w.heap.size < _; omega)
  have d : ∀ i, w1.cell? ⟨w.heap.size + 1, i, none⟩ = wr.cell? ⟨w.heap.size + 1, i, none⟩ := fun i => hb.cell (p := ⟨w.heap.size + 1, i, none⟩) s
  have f : ∀ i, w1.frozen? ⟨w.heap.size, i, none⟩ = wr.frozen? ⟨w.heap.size, i, none⟩ := fun i => hb.frozen (p := ⟨w.heap.size, i, none⟩) (by show w.heap.size < _; omega)
  have g : ∀ i, w1.frozen? ⟨w.heap.size + 1, i, none⟩ = wr.frozen? ⟨w.heap.size + 1, i, none⟩ := fun i => hb.frozen (p := ⟨w.heap.size + 1, i, none⟩) s
  exact ⟨belowOn h.below hb, Nat.lt_of_lt_of_le s hb.size, by rw [e]; exact h.r0, by rw [e]; exact h.r1, by rw [e]; exact h.r2, by rw [e]; exact h.r3, by rw [e]; exact h.r4, by rw [e]; exact h.r5,
    by rw [d]; exact h.c0, by rw [d]; exact h.c1, by rw [d]; exact h.c2, by rw [d]; exact h.c3, by rw [d]; exact h.c4, by rw [d]; exact h.c5, fun j => by rw [f]; exact h.fr j, fun j => by rw [g]; exact h.fc j⟩

theorem PI.start (w : World) : PI w ((w.alloc (.cells #[.int .u8 0, .int .u8 0, .int .u8 0, .int .u8 0, .int .u8 0, .int .u8 0] 23)).alloc (.cells #[.int .u8 0, .int .u8 0, .int .u8 0, .int .u8 0, .int .u8 0, .int .u8 0] 23)) 0 0 0 0 0 0 :=
  ⟨by go_grown, by simp, by simp, by simp, by simp, by simp, by simp, by simp, by simp, by simp, by simp, by simp, by simp, by simp, by simp, by simp⟩

/-- What Parse answers. -/
def pRes (s : ByteArray) (e : Ending) : Prop := (okAll s ∧ e = .returned (.tuple #[.agg #[.int .u8 (byteAt s 0), .int .u8 (byteAt s 1), .int .u8 (byteAt s 2), .int .u8 (byteAt s 3), .int .u8 (byteAt s 4), .int .u8 (byteAt s 5)], .int .i64 0])) ∨ (¬ okAll s ∧ e = .returned (.tuple #[.agg #[.int .u8 0, .int .u8 0, .int .u8 0, .int .u8 0, .int .u8 0, .int .u8 0], .int .i64 2]))
theorem PI.set0 {w wr : World} {b0 b1 b2 b3 b4 b5 : Int} (h : PI w wr b0 b1 b2 b3 b4 b5) (v : Int) : PI w (wr.setCell ⟨w.heap.size + 1, 0, none⟩ (.int .u8 v)) v b1 b2 b3 b4 b5 := by
  have e : ∀ i, (wr.setCell ⟨w.heap.size + 1, 0, none⟩ (.int .u8 v)).cell? ⟨w.heap.size, i, none⟩ = wr.cell? ⟨w.heap.size, i, none⟩ := fun i => World.cell?_setCell_other _ _ _ _ (by simp)
  have e1 : ∀ i, i ≠ 0 → (wr.setCell ⟨w.heap.size + 1, 0, none⟩ (.int .u8 v)).cell? ⟨w.heap.size + 1, i, none⟩ = wr.cell? ⟨w.heap.size + 1, i, none⟩ := fun i hi => World.cell?_setCell_other _ _ _ _ (fun e => hi (congrArg Addr.off e).symm)
  have e2 := World.cell?_setCell_same wr ⟨w.heap.size + 1, 0, none⟩ (.int .u8 v) h.c0
  exact ⟨h.below.setCell (by simp) _, by simpa [World.setCell] using h.size, by rw [e]; exact h.r0, by rw [e]; exact h.r1, by rw [e]; exact h.r2, by rw [e]; exact h.r3, by rw [e]; exact h.r4, by rw [e]; exact h.r5, e2, by rw [e1 1 (by omega)]; exact h.c1, by rw [e1 2 (by omega)]; exact h.c2, by rw [e1 3 (by omega)]; exact h.c3, by rw [e1 4 (by omega)]; exact h.c4, by rw [e1 5 (by omega)]; exact h.c5, fun j => by rw [World.frozen?_setCell]; exact h.fr j, fun j => by rw [World.frozen?_setCell]; exact h.fc j⟩
theorem PI.set1 {w wr : World} {b0 b1 b2 b3 b4 b5 : Int} (h : PI w wr b0 b1 b2 b3 b4 b5) (v : Int) : PI w (wr.setCell ⟨w.heap.size + 1, 1, none⟩ (.int .u8 v)) b0 v b2 b3 b4 b5 := by
  have e : ∀ i, (wr.setCell ⟨w.heap.size + 1, 1, none⟩ (.int .u8 v)).cell? ⟨w.heap.size, i, none⟩ = wr.cell? ⟨w.heap.size, i, none⟩ := fun i => World.cell?_setCell_other _ _ _ _ (by simp)
  have e1 : ∀ i, i ≠ 1 → (wr.setCell ⟨w.heap.size + 1, 1, none⟩ (.int .u8 v)).cell? ⟨w.heap.size + 1, i, none⟩ = wr.cell? ⟨w.heap.size + 1, i, none⟩ := fun i hi => World.cell?_setCell_other _ _ _ _ (fun e => hi (congrArg Addr.off e).symm)
  have e2 := World.cell?_setCell_same wr ⟨w.heap.size + 1, 1, none⟩ (.int .u8 v) h.c1
  exact ⟨h.below.setCell (by simp) _, by simpa [World.setCell] using h.size, by rw [e]; exact h.r0, by rw [e]; exact h.r1, by rw [e]; exact h.r2, by rw [e]; exact h.r3, by rw [e]; exact h.r4, by rw [e]; exact h.r5, by rw [e1 0 (by omega)]; exact h.c0, e2, by rw [e1 2 (by omega)]; exact h.c2, by rw [e1 3 (by omega)]; exact h.c3, by rw [e1 4 (by omega)]; exact h.c4, by rw [e1 5 (by omega)]; exact h.c5, fun j => by rw [World.frozen?_setCell]; exact h.fr j, fun j => by rw [World.frozen?_setCell]; exact h.fc j⟩
theorem PI.set2 {w wr : World} {b0 b1 b2 b3 b4 b5 : Int} (h : PI w wr b0 b1 b2 b3 b4 b5) (v : Int) : PI w (wr.setCell ⟨w.heap.size + 1, 2, none⟩ (.int .u8 v)) b0 b1 v b3 b4 b5 := by
  have e : ∀ i, (wr.setCell ⟨w.heap.size + 1, 2, none⟩ (.int .u8 v)).cell? ⟨w.heap.size, i, none⟩ = wr.cell? ⟨w.heap.size, i, none⟩ := fun i => World.cell?_setCell_other _ _ _ _ (by simp)
  have e1 : ∀ i, i ≠ 2 → (wr.setCell ⟨w.heap.size + 1, 2, none⟩ (.int .u8 v)).cell? ⟨w.heap.size + 1, i, none⟩ = wr.cell? ⟨w.heap.size + 1, i, none⟩ := fun i hi => World.cell?_setCell_other _ _ _ _ (fun e => hi (congrArg Addr.off e).symm)
  have e2 := World.cell?_setCell_same wr ⟨w.heap.size + 1, 2, none⟩ (.int .u8 v) h.c2
  exact ⟨h.below.setCell (by simp) _, by simpa [World.setCell] using h.size, by rw [e]; exact h.r0, by rw [e]; exact h.r1, by rw [e]; exact h.r2, by rw [e]; exact h.r3, by rw [e]; exact h.r4, by rw [e]; exact h.r5, by rw [e1 0 (by omega)]; exact h.c0, by rw [e1 1 (by omega)]; exact h.c1, e2, by rw [e1 3 (by omega)]; exact h.c3, by rw [e1 4 (by omega)]; exact h.c4, by rw [e1 5 (by omega)]; exact h.c5, fun j => by rw [World.frozen?_setCell]; exact h.fr j, fun j => by rw [World.frozen?_setCell]; exact h.fc j⟩
theorem PI.set3 {w wr : World} {b0 b1 b2 b3 b4 b5 : Int} (h : PI w wr b0 b1 b2 b3 b4 b5) (v : Int) : PI w (wr.setCell ⟨w.heap.size + 1, 3, none⟩ (.int .u8 v)) b0 b1 b2 v b4 b5 := by
  have e : ∀ i, (wr.setCell ⟨w.heap.size + 1, 3, none⟩ (.int .u8 v)).cell? ⟨w.heap.size, i, none⟩ = wr.cell? ⟨w.heap.size, i, none⟩ := fun i => World.cell?_setCell_other _ _ _ _ (by simp)
  have e1 : ∀ i, i ≠ 3 → (wr.setCell ⟨w.heap.size + 1, 3, none⟩ (.int .u8 v)).cell? ⟨w.heap.size + 1, i, none⟩ = wr.cell? ⟨w.heap.size + 1, i, none⟩ := fun i hi => World.cell?_setCell_other _ _ _ _ (fun e => hi (congrArg Addr.off e).symm)
  have e2 := World.cell?_setCell_same wr ⟨w.heap.size + 1, 3, none⟩ (.int .u8 v) h.c3
  exact ⟨h.below.setCell (by simp) _, by simpa [World.setCell] using h.size, by rw [e]; exact h.r0, by rw [e]; exact h.r1, by rw [e]; exact h.r2, by rw [e]; exact h.r3, by rw [e]; exact h.r4, by rw [e]; exact h.r5, by rw [e1 0 (by omega)]; exact h.c0, by rw [e1 1 (by omega)]; exact h.c1, by rw [e1 2 (by omega)]; exact h.c2, e2, by rw [e1 4 (by omega)]; exact h.c4, by rw [e1 5 (by omega)]; exact h.c5, fun j => by rw [World.frozen?_setCell]; exact h.fr j, fun j => by rw [World.frozen?_setCell]; exact h.fc j⟩
theorem PI.set4 {w wr : World} {b0 b1 b2 b3 b4 b5 : Int} (h : PI w wr b0 b1 b2 b3 b4 b5) (v : Int) : PI w (wr.setCell ⟨w.heap.size + 1, 4, none⟩ (.int .u8 v)) b0 b1 b2 b3 v b5 := by
  have e : ∀ i, (wr.setCell ⟨w.heap.size + 1, 4, none⟩ (.int .u8 v)).cell? ⟨w.heap.size, i, none⟩ = wr.cell? ⟨w.heap.size, i, none⟩ := fun i => World.cell?_setCell_other _ _ _ _ (by simp)
  have e1 : ∀ i, i ≠ 4 → (wr.setCell ⟨w.heap.size + 1, 4, none⟩ (.int .u8 v)).cell? ⟨w.heap.size + 1, i, none⟩ = wr.cell? ⟨w.heap.size + 1, i, none⟩ := fun i hi => World.cell?_setCell_other _ _ _ _ (fun e => hi (congrArg Addr.off e).symm)
  have e2 := World.cell?_setCell_same wr ⟨w.heap.size + 1, 4, none⟩ (.int .u8 v) h.c4
  exact ⟨h.below.setCell (by simp) _, by simpa [World.setCell] using h.size, by rw [e]; exact h.r0, by rw [e]; exact h.r1, by rw [e]; exact h.r2, by rw [e]; exact h.r3, by rw [e]; exact h.r4, by rw [e]; exact h.r5, by rw [e1 0 (by omega)]; exact h.c0, by rw [e1 1 (by omega)]; exact h.c1, by rw [e1 2 (by omega)]; exact h.c2, by rw [e1 3 (by omega)]; exact h.c3, e2, by rw [e1 5 (by omega)]; exact h.c5, fun j => by rw [World.frozen?_setCell]; exact h.fr j, fun j => by rw [World.frozen?_setCell]; exact h.fc j⟩
theorem PI.set5 {w wr : World} {b0 b1 b2 b3 b4 b5 : Int} (h : PI w wr b0 b1 b2 b3 b4 b5) (v : Int) : PI w (wr.setCell ⟨w.heap.size + 1, 5, none⟩ (.int .u8 v)) b0 b1 b2 b3 b4 v := by
  have e : ∀ i, (wr.setCell ⟨w.heap.size + 1, 5, none⟩ (.int .u8 v)).cell? ⟨w.heap.size, i, none⟩ = wr.cell? ⟨w.heap.size, i, none⟩ := fun i => World.cell?_setCell_other _ _ _ _ (by simp)
  have e1 : ∀ i, i ≠ 5 → (wr.setCell ⟨w.heap.size + 1, 5, none⟩ (.int .u8 v)).cell? ⟨w.heap.size + 1, i, none⟩ = wr.cell? ⟨w.heap.size + 1, i, none⟩ := fun i hi => World.cell?_setCell_other _ _ _ _ (fun e => hi (congrArg Addr.off e).symm)
  have e2 := World.cell?_setCell_same wr ⟨w.heap.size + 1, 5, none⟩ (.int .u8 v) h.c5
  exact ⟨h.below.setCell (by simp) _, by simpa [World.setCell] using h.size, by rw [e]; exact h.r0, by rw [e]; exact h.r1, by rw [e]; exact h.r2, by rw [e]; exact h.r3, by rw [e]; exact h.r4, by rw [e]; exact h.r5, by rw [e1 0 (by omega)]; exact h.c0, by rw [e1 1 (by omega)]; exact h.c1, by rw [e1 2 (by omega)]; exact h.c2, by rw [e1 3 (by omega)]; exact h.c3, by rw [e1 4 (by omega)]; exact h.c4, e2, fun j => by rw [World.frozen?_setCell]; exact h.fr j, fun j => by rw [World.frozen?_setCell]; exact h.fc j⟩
end Go.Proofs.Ytokmkgjjiloacaa
