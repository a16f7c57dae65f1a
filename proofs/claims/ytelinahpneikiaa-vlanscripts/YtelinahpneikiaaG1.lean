/- Plain: the VLANs that have members, rising, each once: sorted and compacted, whatever the order. -/
import Derived.Test.YtelinahpneikiaaPlain
import Derived.Lib.SlicesCompact
namespace Go.Proofs.Ytelinahpneikiaa
open Go.Lib

theorem mem_vls (l : List Mm) (x : Int) : ∀ n, x ∈ vls l n ↔ 1 ≤ x ∧ x ≤ n ∧ anyv l x = true
  | 0 => by simp [vls]; omega
  | n + 1 => by
    have ih := mem_vls l x n
    unfold vls
    rcases Bool.eq_false_or_eq_true (anyv l ((n + 1 : Nat) : Int)) with h | h
    · rw [h]
      simp only [if_true, List.mem_append, List.mem_singleton, ih]
      constructor
      · rintro (⟨a, b, c⟩ | rfl)
        · exact ⟨a, by omega, c⟩
        · exact ⟨by omega, by omega, h⟩
      · rintro ⟨a, b, c⟩
        by_cases e : x = ((n + 1 : Nat) : Int)
        · exact Or.inr e
        · exact Or.inl ⟨a, by omega, c⟩
    · rw [h]
      simp only [Bool.false_eq_true, if_false, ih]
      constructor
      · rintro ⟨a, b, c⟩; exact ⟨a, by omega, c⟩
      · rintro ⟨a, b, c⟩
        refine ⟨a, ?_, c⟩
        by_cases e : x = ((n + 1 : Nat) : Int)
        · rw [e, h] at c; cases c
        · omega
theorem vls_sorted (l : List Mm) : ∀ n, (vls l n).Pairwise (· < ·)
  | 0 => by simp [vls]
  | n + 1 => by
    have ih := vls_sorted l n
    unfold vls
    split
    · refine List.pairwise_append.2 ⟨ih, by simp, fun a ha b hb => ?_⟩
      have := (mem_vls l a n).1 ha
      simp at hb
      omega
    · exact ih
theorem vls_len (l : List Mm) : ∀ n, (vls l n).length ≤ n
  | 0 => by simp [vls]
  | n + 1 => by
    have := vls_len l n
    unfold vls
    split
    · simp; omega
    · omega
theorem strict_ext : ∀ {a b : List Int}, a.Pairwise (· < ·) → b.Pairwise (· < ·) → (∀ x, x ∈ a ↔ x ∈ b) → a = b
  | [], [], _, _, _ => rfl
  | [], y :: b, _, _, h => by have := (h y).2 (by simp); simp at this
  | x :: a, [], _, _, h => by have := (h x).1 (by simp); simp at this
  | x :: a, y :: b, ha, hb, h => by
    obtain ⟨ha1, ha2⟩ := List.pairwise_cons.1 ha
    obtain ⟨hb1, hb2⟩ := List.pairwise_cons.1 hb
    have exy : x = y := by
      have h1 : x ∈ y :: b := (h x).1 (by simp)
      have h2 : y ∈ x :: a := (h y).2 (by simp)
      rcases List.mem_cons.1 h1 with e | h1
      · exact e
      · rcases List.mem_cons.1 h2 with e | h2
        · exact e.symm
        · have := hb1 x h1
          have := ha1 y h2
          omega
    subst exy
    rw [strict_ext ha2 hb2 (fun z => ?_)]
    have hz := h z
    constructor
    · intro hm
      rcases List.mem_cons.1 (hz.1 (by simp [hm])) with e | e
      · have := ha1 z hm; omega
      · exact e
    · intro hm
      rcases List.mem_cons.1 (hz.2 (by simp [hm])) with e | e
      · have := hb1 z hm; omega
      · exact e
theorem get_le {zs : List Int} (h : zs.Pairwise (· ≤ ·)) {i j : Nat} (hij : i ≤ j) (hj : j < zs.length) : zs.toArray[i]! ≤ zs.toArray[j]! := by
  rw [getElem!_pos _ i (by simp; omega), getElem!_pos _ j (by simpa using hj)]
  by_cases e : i = j
  · subst e; exact Int.le_refl _
  · have := List.pairwise_iff_getElem.1 h i j (by omega) hj (by omega)
    simpa using this
theorem compact_facts {zs : List Int} (h : zs.Pairwise (· ≤ ·)) : ∀ m, m ≤ zs.length → (compactUpTo zs.toArray m).Pairwise (· < ·) ∧ ∀ x, x ∈ compactUpTo zs.toArray m ↔ ∃ j, j < m ∧ zs.toArray[j]! = x
  | 0, _ => by simp [compactUpTo]
  | m + 1, hm => by
    obtain ⟨ih1, ih2⟩ := compact_facts h m (by omega)
    rw [compactUpTo_succ]
    rcases Bool.eq_false_or_eq_true (keeps zs.toArray m) with hk | hk
    · rw [hk, if_pos rfl]
      refine ⟨List.pairwise_append.2 ⟨ih1, by simp, fun a ha b hb => ?_⟩, fun x => ?_⟩
      · obtain ⟨j, hj, rfl⟩ := (ih2 a).1 ha
        simp only [List.mem_singleton] at hb
        subst hb
        have h1 := get_le h (i := j) (j := m - 1) (by omega) (by omega)
        have h2 := get_le h (i := m - 1) (j := m) (by omega) (by omega)
        have h3 : zs.toArray[m]! ≠ zs.toArray[m - 1]! := by
          unfold keeps at hk
          simp only [decide_eq_true_eq] at hk
          rcases hk with e | e
          · omega
          · exact e
        omega
      · simp only [List.mem_append, List.mem_singleton, ih2]
        constructor
        · rintro (⟨j, hj, e⟩ | rfl)
          · exact ⟨j, by omega, e⟩
          · exact ⟨m, by omega, rfl⟩
        · rintro ⟨j, hj, e⟩
          by_cases ej : j = m
          · subst ej; exact Or.inr e.symm
          · exact Or.inl ⟨j, by omega, e⟩
    · rw [hk]
      simp only [Bool.false_eq_true, if_false, List.append_nil]
      refine ⟨ih1, fun x => ?_⟩
      rw [ih2]
      have h3 : ¬ (m = 0 ∨ zs.toArray[m]! ≠ zs.toArray[m - 1]!) := by
        intro hc
        unfold keeps at hk
        rw [decide_eq_true hc] at hk
        cases hk
      have h4 : m ≠ 0 := fun e => h3 (Or.inl e)
      have h5 : zs.toArray[m]! = zs.toArray[m - 1]! := by
        by_cases e : zs.toArray[m]! = zs.toArray[m - 1]!
        · exact e
        · exact absurd (Or.inr e) h3
      constructor
      · rintro ⟨j, hj, e⟩; exact ⟨j, by omega, e⟩
      · rintro ⟨j, hj, e⟩
        by_cases ej : j = m
        · subst ej; exact ⟨j - 1, by omega, by rw [← h5]; exact e⟩
        · exact ⟨j, by omega, e⟩
theorem mem_arr (zs : List Int) (x : Int) : (∃ j, j < zs.length ∧ zs.toArray[j]! = x) ↔ x ∈ zs := by
  constructor
  · rintro ⟨j, hj, rfl⟩
    rw [getElem!_pos _ j (by simpa using hj)]
    simp
  · intro h
    obtain ⟨j, hj, rfl⟩ := List.getElem_of_mem h
    exact ⟨j, hj, by rw [getElem!_pos _ j (by simpa using hj)]; simp⟩
/-- Sorted and compacted it is the document's list. -/
theorem vlans_eq {l : List Mm} {zs : List Int} (hp : zs.Perm (l.map (·.v))) (hl : ∀ m ∈ l, 1 ≤ m.v ∧ m.v ≤ 4094) : compact (zs.mergeSort fun x y => decide (x ≤ y)) = vls l 4094 := by
  have hs : (zs.mergeSort fun x y => decide (x ≤ y)).Pairwise (· ≤ ·) := by
    have := List.pairwise_mergeSort (le := fun x y : Int => decide (x ≤ y)) (fun a b c h1 h2 => by simp at *; omega) (fun a b => by simp; omega) zs
    exact this.imp (fun h => by simpa using h)
  have hq : (zs.mergeSort fun x y => decide (x ≤ y)).Perm zs := List.mergeSort_perm _ _
  generalize (zs.mergeSort fun x y => decide (x ≤ y)) = ys at hs hq
  obtain ⟨c1, c2⟩ := compact_facts hs ys.length (Nat.le_refl _)
  refine strict_ext c1 (vls_sorted l 4094) (fun x => ?_)
  have e : x ∈ compact ys ↔ x ∈ ys := (c2 x).trans (mem_arr ys x)
  rw [e, hq.mem_iff, hp.mem_iff, mem_vls]
  constructor
  · intro h
    obtain ⟨m, hm, rfl⟩ := List.mem_map.1 h
    have := hl m hm
    exact ⟨this.1, by omega, List.any_eq_true.2 ⟨m, hm, by simp⟩⟩
  · rintro ⟨_, _, h⟩
    obtain ⟨m, hm, e⟩ := List.any_eq_true.1 h
    exact List.mem_map.2 ⟨m, hm, by simpa using e⟩
/-- Who has members. -/
theorem anyv_mbs {T : Tb} (hw : Wf T) (v : Int) : anyv T.l v = true ↔ 0 < (mbs T.l v T.n).length := by
  rw [List.length_pos_iff_exists_mem]
  constructor
  · intro h
    obtain ⟨m, hm, e⟩ := List.any_eq_true.1 h
    have e' : m.v = v := by simpa using e
    have hb := hw.mem m hm
    exact ⟨m.p, (mem_mbs _ _ _ _).2 ⟨hb.2.2.1, hb.2.2.2, (hs_mem _ _ _).2 ⟨m, hm, e', rfl⟩⟩⟩
  · rintro ⟨p, hp⟩
    obtain ⟨m, hm, e, _⟩ := (hs_mem _ _ _).1 ((mem_mbs _ _ _ _).1 hp).2.2
    exact List.any_eq_true.2 ⟨m, hm, by simpa using e⟩
theorem mem_vlans {T : Tb} (hw : Wf T) (v : Int) : v ∈ vls T.l 4094 ↔ 0 < (mbs T.l v T.n).length := by
  rw [mem_vls, ← anyv_mbs hw]
  constructor
  · exact fun h => h.2.2
  · intro h
    obtain ⟨m, hm, e⟩ := List.any_eq_true.1 h
    have e' : m.v = v := by simpa using e
    have := hw.mem m hm
    exact ⟨by omega, by omega, h⟩
end Go.Proofs.Ytelinahpneikiaa
