/- The library's SortFunc at entries: a permutation, in order. -/
import Derived.Test.YtjlmheecefobaaaD1
namespace Go.Proofs.Ytjlmheecefobaaa
open Go.Shelf Go.RowKit Go.Lib Go.PlainAid

theorem es_at {l : List En} {i c : Nat} {x : En} (h : l[i]? = some x) (hc : c < 10) : (es l)[i * 10 + c]? = (ecl x)[c]? := by
  rw [es_parts h, List.getElem?_append_right (by rw [es_take_len h]; omega), es_take_len h, show i * 10 + c - i * 10 = c by omega, List.getElem?_append_left (by rw [ecl_length]; exact hc)]
theorem get_some {cs : List Value} {c : Nat} (h : c < cs.length) : cs[c]? = some cs[c]! := by
  rw [List.getElem?_eq_getElem h, List.getElem!_eq_getElem?_getD, List.getElem?_eq_getElem h]; rfl
theorem arr_get {α : Type} [Inhabited α] (val : α → En) (d : Array α) {i : Nat} (h : i < d.size) : (d.toList.map val)[i]? = some (val d[i]!) := by
  rw [List.getElem?_map, Array.getElem?_toList, Array.getElem?_eq_getElem h, getElem!_pos d i h]; rfl
theorem holds_of_box {α : Type} [Inhabited α] (val : α → En) (d : Array α) {w : World} {blk : Nat} (h : Box w blk (es (d.toList.map val))) : Go.Sort.HoldsK (fun x => ecl (val x)) 10 w blk 0 d := by
  intro t ht
  rw [Go.Sort.size_flatK] at ht
  have hj : t / 10 < d.size := by omega
  have hc : t % 10 < 10 := by omega
  have hx := arr_get val d hj
  have e : t = t / 10 * 10 + t % 10 := by omega
  rw [Go.Sort.get_flatK _ _ _ _ ht]
  refine ⟨?_, ?_⟩
  · have := h.ent hx (t % 10) _ (get_some (by rw [ecl_length]; exact hc))
    rw [← e] at this
    rw [Nat.zero_add]
    exact this
  · exact (h.th t (by rw [es_length]; simp; omega)).2
theorem box_of_holds {α : Type} [Inhabited α] (val : α → En) (d : Array α) {w : World} {blk : Nat} (hb : blk < w.heap.size) (h : Go.Sort.HoldsK (fun x => ecl (val x)) 10 w blk 0 d) : Box w blk (es (d.toList.map val)) := by
  have key : ∀ j, j < (es (d.toList.map val)).length → w.cell? ⟨blk, 0 + j, none⟩ = (es (d.toList.map val))[j]? ∧ w.frozen? ⟨blk, 0 + j, none⟩ = false := fun j hj => by
    rw [es_length] at hj
    simp at hj
    have hi : j / 10 < d.size := by omega
    have hc : j % 10 < 10 := by omega
    obtain ⟨h1, h2⟩ := h.cell hi hc
    have e : j / 10 * 10 + j % 10 = j := by omega
    rw [Nat.zero_add, e] at h1 h2
    have h3 := es_at (arr_get val d hi) hc
    rw [e] at h3
    rw [Nat.zero_add, h3, get_some (cs := ecl (val d[j / 10]!)) (by rw [ecl_length]; exact hc)]
    exact ⟨h1, h2⟩
  refine ⟨hb, fun j v hj => ?_, fun j hj => ⟨?_, (key j hj).2⟩⟩
  · rw [(key j (List.getElem?_eq_some_iff.1 hj).1).1]; exact hj
  · rw [(key j hj).1]; simp [hj]
theorem grown_sort {α : Type} [Inhabited α] (enc : α → List Value) (k : Nat) (w : World) (blk off n : Nat) (d : Array α) (os : Array Obj) : w.grownBy (sortWorldK enc k w blk off n d os) (some blk) := by
  refine ⟨rfl, rfl, rfl, ?_, fun i hi hne => ?_⟩
  · show w.heap.size ≤ (w.heap.modify blk _ ++ os).size
    simp
  · show (w.heap.modify blk _ ++ os)[i]? = w.heap[i]?
    rw [Array.getElem?_append_left (by simpa using hi), Array.getElem?_modify, if_neg (fun e => hne (by rw [e]))]
theorem cfE_lt {x y : En} (h : Mok x.m) (k : Mok y.m) : decide (cfE x y < 0) = decide (ke x < ke y) := by
  have := num_0 h; have := num_1 h; have := num_0 k; have := num_1 k
  rw [decide_eq_decide]
  unfold cfE ke kn cmp3
  split <;> split <;> omega
theorem mok_list : ∀ l : List En, (∀ x ∈ l, Mok x.m) → ∃ ls : List {x : En // Mok x.m}, ls.map (·.1) = l
  | [], _ => ⟨[], rfl⟩
  | x :: r, h => by
    obtain ⟨ls, e⟩ := mok_list r (fun y hy => h y (by simp [hy]))
    exact ⟨⟨x, h x (by simp)⟩ :: ls, by simp [e]⟩
theorem Try.agg36 : ∀ w, (isAgg (Try.sortE_ren.t 24)).run Try.prog w = .ok true w := Try.isAgg36
theorem Try.siz36 : ∀ w, (Go.sizeOf (Try.sortE_ren.t 24)).run Try.prog w = .ok 10 w := Try.sizeOf36
theorem sort49 (fn blk cap : Nat) (l : List En) (w : World) (eg : ∀ (args : Array Value) (w : World), (callFunc fn args).run Try.prog w = .ok (.enter fn args) w) (ho : ∀ (x y : En) (w : World), Mok x.m → Mok y.m → Calls Try.prog fn #[.agg (EC x), .agg (EC y)] w fun e w' => e = .returned (.int .i64 (cfE x y)) ∧ Grw w w') (hl : l.length < 100000) (hB : Box w blk (es l)) (hm : ∀ x ∈ l, Mok x.m) :
    Calls Try.prog 49 #[.slice (some ⟨blk, 0, none⟩) l.length cap, .func (.func fn) #[] #[]] w fun e w' => e = .returned (.tuple #[]) ∧ ∃ l', l'.Perm l ∧ l'.Pairwise (fun x y => ke x ≤ ke y) ∧ Box w' blk (es l') ∧ w.grownBy w' (some blk) := by
  obtain ⟨ls, rfl⟩ := mok_list l hm
  haveI : Inhabited {x : En // Mok x.m} := ⟨⟨zE, mok_z⟩⟩
  have hlt : ∀ x y : {x : En // Mok x.m}, ltOf (fun x y : {x : En // Mok x.m} => cfE x.1 y.1) x y = decide (ke x.1 < ke y.1) := fun x y => cfE_lt x.2 y.2
  have hO : Go.Sort.SWO (ltOf (fun x y : {x : En // Mok x.m} => cfE x.1 y.1)) := by
    refine ⟨fun x => ?_, fun x y z h1 h2 => ?_, fun x y z h1 h2 => ?_⟩
    · rw [hlt]; simp
    · rw [hlt] at *; simp at *; omega
    · rw [hlt] at *; simp at *; omega
  have hcmp : CmpLays Try.prog fn #[] (fun x : {x : En // Mok x.m} => ecl x.1) 10 (fun x y => cfE x.1 y.1) blk 0 ls.toArray.size w := fun _ _ _ _ x y => ho x.1 y.1 _ x.2 y.2
  have hH := holds_of_box (fun x : {x : En // Mok x.m} => x.1) ls.toArray (w := w) (blk := blk) hB
  have hcon := AnyQ.slices_SortFunc Try.sortE 10 Try.agg36 Try.siz36 (fun x : {x : En // Mok x.m} => ecl x.1) (fun _ => rfl) (fun x => one_ecl x.1) (fun x y => cfE x.1 y.1) hO fn #[] blk 0 cap ls.toArray w eg hcmp hH hB.lt (by simp at hl ⊢; omega)
  have e0 : (ls.map (·.1)).length = ls.toArray.size := by simp
  rw [e0]
  change Calls Try.prog 49 _ _ _ at hcon
  refine hcon.mono ?_
  rintro e w' ⟨rfl, d', n, os, hp, hs, rfl⟩
  refine ⟨rfl, d'.toList.map (·.1), ?_, ?_, ?_, grown_sort _ _ _ _ _ _ _ _⟩
  · have h3 := hp.2.2
    rw [Array.extract_eq_self_of_le (by rw [hp.1]; exact Nat.le_refl _), Array.extract_eq_self_of_le (Nat.le_refl _)] at h3
    exact h3.map _
  · rw [List.pairwise_map, List.pairwise_iff_getElem]
    intro i j hi hj hij
    have h4 := hs i j (Nat.zero_le _) hij (by simpa [hp.1] using hj)
    rw [hlt] at h4
    simp at h4
    rw [getElem!_pos d' i (by simpa using hi), getElem!_pos d' j (by simpa using hj)] at h4
    simpa using h4
  · refine box_of_holds _ d' (Nat.lt_of_lt_of_le hB.lt (size_sortWorldK_c _ _ _ _ _ _ _ _)) (holdsK_sortWorldK_c _ 10 w blk 0 ls.toArray d' n os hH hB.lt hp.1)
end Go.Proofs.Ytjlmheecefobaaa
