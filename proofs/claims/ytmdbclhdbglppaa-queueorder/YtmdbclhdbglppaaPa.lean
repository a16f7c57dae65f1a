/- Memory: the program's queue: an array of slices of slices of bytes. -/
import Derived.Test.YtmdbclhdbglppaaQm
import Derived.Deep.AppendSrc
namespace Go.Proofs.Ytmdbclhdbglppaa
open Go.RowKit Go.PlainAid

/-- All blocks but some stay as they were. -/
structure Chg (S : Nat → Prop) (w w' : World) : Prop where
  os : w'.os = w.os
  tape : w'.tape = w.tape
  output : w'.output = w.output
  size : w.heap.size ≤ w'.heap.size
  block : ∀ i, i < w.heap.size → ¬ S i → w'.heap[i]? = w.heap[i]?
theorem Chg.refl (S : Nat → Prop) (w : World) : Chg S w w := ⟨rfl, rfl, rfl, Nat.le_refl _, fun _ _ _ => rfl⟩
theorem Chg.trans {S : Nat → Prop} {w w1 w2 : World} (h : Chg S w w1) (k : Chg S w1 w2) : Chg S w w2 :=
  ⟨k.os.trans h.os, k.tape.trans h.tape, k.output.trans h.output, Nat.le_trans h.size k.size, fun i hi hn => (k.block i (Nat.lt_of_lt_of_le hi h.size) hn).trans (h.block i hi hn)⟩
theorem Chg.trans_of {S S' : Nat → Prop} {w w1 w2 : World} (h : Chg S w w1) (k : Chg S' w1 w2) (e : ∀ i, S' i → S i ∨ w.heap.size ≤ i) : Chg S w w2 :=
  ⟨k.os.trans h.os, k.tape.trans h.tape, k.output.trans h.output, Nat.le_trans h.size k.size, fun i hi hn => (k.block i (Nat.lt_of_lt_of_le hi h.size) (fun q => by
    rcases e i q with r | r
    · exact hn r
    · omega)).trans (h.block i hi hn)⟩
theorem Chg.mono {S S' : Nat → Prop} {w w1 : World} (h : Chg S w w1) (e : ∀ i, S i → S' i) : Chg S' w w1 := ⟨h.os, h.tape, h.output, h.size, fun i hi hn => h.block i hi (fun hs => hn (e i hs))⟩
theorem Chg.mono_lt {S S' : Nat → Prop} {w w1 : World} (h : Chg S w w1) (e : ∀ i, i < w.heap.size → S i → S' i) : Chg S' w w1 := ⟨h.os, h.tape, h.output, h.size, fun i hi hn => h.block i hi (fun hs => hn (e i hi hs))⟩
theorem chg_below {S : Nat → Prop} {w w1 : World} (h : Below w.heap.size w w1) : Chg S w w1 := ⟨h.os, h.tape, h.output, h.size, fun i hi _ => h.block i hi⟩
theorem chg_drewN {S : Nat → Prop} (w : World) (q : Nat) : Chg S w (w.drewN q) := ⟨rfl, rfl, rfl, Nat.le_refl _, fun _ _ _ => rfl⟩
theorem chg_drew {S : Nat → Prop} (w : World) : Chg S w w.drew := ⟨rfl, rfl, rfl, Nat.le_refl _, fun _ _ _ => rfl⟩
theorem chg_grown {S : Nat → Prop} {w w1 : World} {r : Nat} (h : w.grownBy w1 (some r)) (e : S r) : Chg S w w1 := ⟨h.os, h.tape, h.output, h.size, fun i hi hn => h.block i hi (fun q => hn (by obtain rfl := Option.some.inj q; exact e))⟩
theorem chg_set {S : Nat → Prop} (w : World) (g i : Nat) (v : Value) (e : S g) : Chg S w (w.setCell ⟨g, i, none⟩ v) := chg_grown (setCell_grown w g i v) e
theorem kp_chg {S K : Nat → Prop} {w w1 : World} (h : Chg S w w1) (e : ∀ i, K i → ¬ S i) : Kp K w w1 := ⟨h.size, fun i hi hl => h.block i hl (e i hi)⟩

/-- A slice. -/
structure Sv where
  a : Option Addr
  n : Nat
  p : Nat
def sv (x : Sv) : Value := .slice x.a x.n x.p
def zS : Sv := ⟨none, 0, 0⟩
/-- What waits of a class: a slice of slices of bytes, those in blocks T. -/
structure Ck (w : World) (T : Nat → Prop) (x : Sv) (Bs : List (List Int)) : Prop where
  len : Bs.length = x.n
  le : x.n ≤ x.p
  mx : x.p ≤ maxLen
  nil : x.a = none → x.p = 0
  at_ : ∀ a, x.a = some a → ∃ b o, a = ⟨b, o, none⟩ ∧ b < w.heap.size ∧ (∀ j, j < x.p → (w.cell? ⟨b, o + j, none⟩).isSome = true ∧ w.frozen? ⟨b, o + j, none⟩ = false) ∧ ∀ j l, Bs[j]? = some l → ∃ v : Sv, w.cell? ⟨b, o + j, none⟩ = some (sv v) ∧ By w T v.a v.n v.p l
def bk (x : Sv) (i : Nat) : Prop := ∃ a, x.a = some a ∧ a.block = i
theorem Ck.keep {w w1 : World} {T : Nat → Prop} {x : Sv} {Bs : List (List Int)} (h : Ck w T x Bs) (e : Kp (fun i => T i ∨ bk x i) w w1) : Ck w1 T x Bs :=
  ⟨h.len, h.le, h.mx, h.nil, fun a ha => by
    obtain ⟨b, o, rfl, hb, h1, h2⟩ := h.at_ a ha
    have eb := e.block b (Or.inr ⟨_, ha, rfl⟩) hb
    refine ⟨b, o, rfl, Nat.lt_of_lt_of_le hb e.size, fun j hj => ?_, fun j l hj => ?_⟩
    · rw [World.cell?_of_block (a := ⟨b, o + j, none⟩) eb, World.frozen?_of_block (a := ⟨b, o + j, none⟩) eb]; exact h1 j hj
    · obtain ⟨v, hv, hy⟩ := h2 j l hj
      exact ⟨v, by rw [World.cell?_of_block (a := ⟨b, o + j, none⟩) eb]; exact hv, hy.keep (e.mono (fun i hi => Or.inl hi))⟩⟩
theorem Ck.mono {w : World} {T T' : Nat → Prop} {x : Sv} {Bs : List (List Int)} (h : Ck w T x Bs) (e : ∀ i, T i → T' i) : Ck w T' x Bs :=
  ⟨h.len, h.le, h.mx, h.nil, fun a ha => by
    obtain ⟨b, o, rfl, hb, h1, h2⟩ := h.at_ a ha
    refine ⟨b, o, rfl, hb, h1, fun j l hj => ?_⟩
    obtain ⟨v, hv, hy⟩ := h2 j l hj
    exact ⟨v, hv, hy.mono e⟩⟩
theorem ck_nil (w : World) (T : Nat → Prop) : Ck w T zS [] := ⟨rfl, Nat.le_refl _, Nat.zero_le _, fun _ => rfl, fun a e => (by cases e)⟩
theorem Ck.lt {w : World} {T : Nat → Prop} {x : Sv} {Bs : List (List Int)} (h : Ck w T x Bs) : ∀ i, bk x i → i < w.heap.size := by
  rintro i ⟨a, ha, rfl⟩
  obtain ⟨b, o, rfl, hb, _⟩ := h.at_ a ha
  exact hb
theorem Try.info32 : (Try.prog.info? 32).map (fun i => (i.zero, i.size, i.bytes)) = some (some (.slice none 0 0), 1, 24) := by kernel_rfl
theorem src_cells {w : World} {b o : Nat} : ∀ (n : Nat), (∀ j, j < n → ∃ v : Sv, w.cell? ⟨b, o + j, none⟩ = some (sv v)) → ∃ xs : List Value, xs.length = n ∧ (∀ j u, xs[j]? = some u → w.cell? ⟨b, o + j, none⟩ = some u)
  | 0, _ => ⟨[], rfl, fun j u h => by simp at h⟩
  | n + 1, h => by
    obtain ⟨xs, hl, hx⟩ := src_cells n (fun j hj => h j (by omega))
    obtain ⟨v, hv⟩ := h n (by omega)
    refine ⟨xs ++ [sv v], by simp [hl], fun j u hj => ?_⟩
    by_cases c : j < n
    · rw [List.getElem?_append_left (by omega)] at hj; exact hx j u hj
    · have := (List.getElem?_eq_some_iff.1 hj).1
      simp at this
      obtain rfl : j = n := by omega
      rw [List.getElem?_append_right (by omega), hl, Nat.sub_self] at hj
      obtain rfl : sv v = u := by simpa using hj
      exact hv
/-- One more of a class. -/
theorem sapp_run {w : World} {T : Nat → Prop} {x : Sv} {Bs : List (List Int)} (H : Ck w T x Bs) (hm : x.n ≤ 100000) {r : Nat} {y : Sv} {l : List Int} (hc : w.cell? ⟨r, 0, none⟩ = some (sv y)) (hy : By w T y.a y.n y.p l) (hT : ∀ i, bk x i → ¬ T i) :
    ∃ (x' : Sv) (w' : World), (Builtin.append_ #[47, 47] 47 #[sv x, .slice (some ⟨r, 0, none⟩) 1 1]).run Try.prog w = .ok (sv x') w' ∧ Ck w' T x' (Bs ++ [l]) ∧ Chg (bk x) w w' ∧ (∀ i, bk x' i → bk x i ∨ (w.heap.size ≤ i ∧ i < w'.heap.size)) := by
  obtain ⟨i0, hi, hz0, hz1, hz2⟩ := info_parts Try.info32
  have hs : Src Try.prog i0.size 47 (.slice (some ⟨r, 0, none⟩) 1 1) 1 [sv y] w := by
    rw [hz1]
    exact Src.ofSlice (P := Try.prog) w Try.underlying47 ⟨r, 0, none⟩ 1 1 [sv y] rfl (fun j u hj => by
      have hj0 : j = 0 := by
        have := (List.getElem?_eq_some_iff.1 hj).1
        simp at this; omega
      subst hj0
      obtain rfl : sv y = u := by simpa using hj
      rw [Addr.add_lit]; exact hc) (fun u hu => by rw [List.mem_singleton.1 hu]; rfl)
  have hlen := H.len
  have hle := H.le
  by_cases hroom : x.n + 1 ≤ x.p
  · obtain ⟨a, ha⟩ : ∃ a, x.a = some a := by
      cases e : x.a with
      | none => have := H.nil e; omega
      | some a => exact ⟨a, rfl⟩
    obtain ⟨b, o, rfl, hb, h1, h2⟩ := H.at_ a ha
    have run := run_append_room_src (P := Try.prog) w 47 47 47 32 i0 Try.underlying47 hi b o x.n x.p _ 1 [sv y] hs hroom (fun j hj => by
      simp at hj; subst hj
      rw [hz1, Nat.mul_one]; exact (h1 (x.n + 0) (by omega)).1) (fun j hj => by
      simp at hj; subst hj
      rw [hz1, Nat.mul_one]; exact (h1 (x.n + 0) (by omega)).2)
    rw [hz1, Nat.mul_one] at run
    have G := setCells_grown b [sv y] (o + x.n) w
    have K : Kp T w (w.setCells b (o + x.n) [sv y]) := kp_chg (S := fun i => i = b) (chg_grown G rfl) (fun i hi e => hT b ⟨_, ha, rfl⟩ (e ▸ hi))
    refine ⟨⟨x.a, x.n + 1, x.p⟩, _, ?_, ⟨by simp [hlen], hroom, H.mx, H.nil, fun a' ha' => ?_⟩, chg_grown G ⟨_, ha, rfl⟩, fun i hi => Or.inl hi⟩
    · unfold sv
      rw [ha]; exact run
    · have e : a' = ⟨b, o, none⟩ := by have := ha'.symm.trans ha; exact Option.some.inj this
      subst e
      refine ⟨b, o, rfl, Nat.lt_of_lt_of_le hb G.size, fun j hj => ⟨World.isSome_setCells b _ _ w _ (h1 j hj).1, by rw [World.frozen?_setCells]; exact (h1 j hj).2⟩, fun j l' hj => ?_⟩
      by_cases c : j < x.n
      · rw [List.getElem?_append_left (by omega)] at hj
        obtain ⟨v, hv, hyv⟩ := h2 j l' hj
        refine ⟨v, ?_, hyv.keep K⟩
        rw [World.cell?_setCells_out b _ _ w ⟨b, o + j, none⟩ (fun _ _ => Or.inl (by show o + j < o + x.n; omega))]
        exact hv
      · have hl := (List.getElem?_eq_some_iff.1 hj).1
        simp at hl
        obtain rfl : j = x.n := by omega
        rw [List.getElem?_append_right (by omega), hlen, Nat.sub_self] at hj
        obtain rfl : l = l' := by simpa using hj
        refine ⟨y, ?_, hy.keep K⟩
        have := World.cell?_setCells_in b [sv y] (o + x.n) w (fun j hj => by
          simp at hj; subst hj
          exact (h1 (x.n + 0) (by omega)).1) 0 (by simp)
        simpa using this
  · have hnp : x.p = x.n := by omega
    obtain ⟨xs, hxl, hold, hxs⟩ : ∃ xs : List Value, xs.length = x.n ∧ (Builtin.firstCells i0.size x.n (.slice x.a x.n x.p)).run Try.prog w.drew = .ok xs.toArray w.drew ∧ ∀ j l, Bs[j]? = some l → ∃ v : Sv, xs[j]? = some (sv v) ∧ By w T v.a v.n v.p l := by
      cases e : x.a with
      | none =>
        have h0 := H.nil e
        have hn0 : x.n = 0 := by omega
        refine ⟨[], hn0.symm, ?_, fun j l hj => ?_⟩
        · rw [hn0, h0]; exact run_firstCells_none w.drew _ 0 0 0
        · have := (List.getElem?_eq_some_iff.1 hj).1
          omega
      | some a =>
        obtain ⟨b, o, rfl, hb, h1, h2⟩ := H.at_ a e
        have hE : ∀ j, j < x.n → ∃ v : Sv, w.cell? ⟨b, o + j, none⟩ = some (sv v) := fun j hj => by
          obtain ⟨v, hv, _⟩ := h2 j _ (List.getElem?_eq_getElem (by omega))
          exact ⟨v, hv⟩
        obtain ⟨xs, hxl, hxs⟩ := src_cells x.n hE
        refine ⟨xs, hxl, run_firstCells_some w.drew i0.size x.n ⟨b, o, none⟩ x.n x.p xs (by rw [hz1, hxl]; omega) (fun j v hj => ?_), fun j l hj => ?_⟩
        · rw [Addr.add_lit]; exact hxs j v hj
        · obtain ⟨v, hv, hyv⟩ := h2 j l hj
          have hjl := (List.getElem?_eq_some_iff.1 hj).1
          have e3 := List.getElem?_eq_getElem (show j < xs.length by omega)
          have e4 := hxs j _ e3
          rw [hv] at e4
          rw [← Option.some.inj e4] at e3
          exact ⟨v, e3, hyv⟩
    have run := run_append_grow_src (P := Try.prog) w 47 47 47 32 i0 _ Try.underlying47 hi hz0 x.a x.n x.p xs hold _ 1 [sv y] hs (by omega) (by omega) (growslice_fits (by omega) (by rw [hz2]; omega))
    have hg := grownCap_ge w (x.n + 1) x.p 32
    have hgm := grownCap_le_maxLen w (x.n + 1) x.p 32 (by unfold maxLen; omega)
    refine ⟨⟨some ⟨w.heap.size, 0, none⟩, x.n + 1, grownCap w (x.n + 1) x.p 32⟩, _, run, ⟨by simp [hlen], hg, hgm, fun e => (by cases e), fun a' ha' => ?_⟩, ?_, ?_⟩
    · obtain rfl := Option.some.inj ha'
      have hsz : ((xs ++ [sv y]).toArray ++ Builtin.zeroCells (Value.slice none 0 0).cells (grownCap w (x.n + 1) x.p 32 - (x.n + 1))).size = grownCap w (x.n + 1) x.p 32 := by
        rw [Array.size_append, size_zeroCells]
        show (xs ++ [sv y]).length + _ * 1 = _
        rw [List.length_append]
        show xs.length + 1 + _ * 1 = _
        omega
      have hin : ∀ j u, (xs ++ [sv y])[j]? = some u → ((xs ++ [sv y]).toArray ++ Builtin.zeroCells (Value.slice none 0 0).cells (grownCap w (x.n + 1) x.p 32 - (x.n + 1)))[j]? = some u := fun j u hj => by
        rw [Array.getElem?_append_left (by simpa using (List.getElem?_eq_some_iff.1 hj).1), List.getElem?_toArray]
        exact hj
      generalize ((xs ++ [sv y]).toArray ++ Builtin.zeroCells (Value.slice none 0 0).cells (grownCap w (x.n + 1) x.p 32 - (x.n + 1))) = C at *
      have K : Kp T w (w.drew.alloc (.cells C 32)) := ⟨by simp, fun i hi hl => heap_alloc_old w.drew _ hl⟩
      have hC : ∀ i, (w.drew.alloc (.cells C 32)).cell? ⟨w.heap.size, i, none⟩ = C[i]? := fun i => World.cell?_alloc_at (w := w.drew) _ _ _ _ rfl
      refine ⟨w.heap.size, 0, rfl, by simp, fun j hj => ⟨?_, ?_⟩, fun j l' hj => ?_⟩
      · rw [hC, Nat.zero_add, Array.getElem?_eq_getElem (by rw [hsz]; exact hj)]; rfl
      · exact World.frozen?_alloc_at (w := w.drew) _ _ _ _ rfl
      · by_cases c : j < x.n
        · rw [List.getElem?_append_left (by omega)] at hj
          obtain ⟨v, hv, hyv⟩ := hxs j l' hj
          refine ⟨v, ?_, hyv.keep K⟩
          rw [hC, Nat.zero_add]
          exact hin j _ (by rw [List.getElem?_append_left (by omega)]; exact hv)
        · have hl := (List.getElem?_eq_some_iff.1 hj).1
          simp at hl
          obtain rfl : j = x.n := by omega
          rw [List.getElem?_append_right (by omega), hlen, Nat.sub_self] at hj
          obtain rfl : l = l' := by simpa using hj
          refine ⟨y, ?_, hy.keep K⟩
          rw [hC, Nat.zero_add]
          exact hin _ _ (by rw [List.getElem?_append_right (by omega), hxl, Nat.sub_self]; rfl)
    · exact ⟨rfl, rfl, rfl, by simp, fun i hl _ => heap_alloc_old w.drew _ hl⟩
    · rintro i ⟨a, ha, rfl⟩
      obtain rfl := Option.some.inj ha
      exact Or.inr ⟨Nat.le_refl _, by simp⟩
end Go.Proofs.Ytmdbclhdbglppaa
