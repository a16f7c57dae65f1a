/- Plain: what waits, in the order in which it was put; what Put, Get, Len and Clear do to it. Nothing of the program. -/
import Derived.Test.YtmdbclhdbglppaaGa
namespace Go.Proofs.Ytmdbclhdbglppaa

/-- Something that waits: its class, its bytes. -/
structure Wt where
  c : Int
  b : List Int
def zW : Wt := ⟨0, []⟩
/-- How many of a class wait; which ones. -/
def cl (L : List Wt) (k : Int) : List (List Int) := (L.filter (fun x => x.c == k)).map (·.b)
def cnt (L : List Wt) (k : Int) : Nat := (cl L k).length
/-- The class of the one at a place. -/
def cx (L : List Wt) (i : Nat) : Int := (L[i]?.getD zW).c
/-- Among the first i: the place of the first one of the greatest class. -/
def bi (L : List Wt) : Nat → Option Nat
  | 0 => none
  | i + 1 => match bi L i with
    | none => some i
    | some j => if cx L j < cx L i then some i else some j
def isC (k : Int) : Bool := decide (0 ≤ k) && decide (k < 8)
theorem isC_iff {k : Int} : isC k = true ↔ 0 ≤ k ∧ k < 8 := by simp [isC]
def pE (n : Nat) (L : List Wt) (k : Int) : Int := if isC k then (if n ≤ cnt L k then 3 else 0) else 1
def pL (n : Nat) (L : List Wt) (k : Int) (b : List Int) : List Wt := if pE n L k = 0 then L ++ [⟨k, b⟩] else L
def up1 (g : List Nat) (k : Nat) : List Nat := g.set k (g[k]?.getD 0 + 1)
def pG (n : Nat) (L : List Wt) (g : List Nat) (k : Int) : List Nat := if pE n L k = 3 then up1 g k.toNat else g
def lost (g : List Nat) (k : Int) : Nat := if isC k then g[k.toNat]?.getD 0 else 0
theorem cl_nil (k : Int) : cl [] k = [] := rfl
theorem cl_add (L : List Wt) (x : Wt) (k : Int) : cl (L ++ [x]) k = if x.c = k then cl L k ++ [x.b] else cl L k := by
  unfold cl
  rw [List.filter_append, List.map_append]
  by_cases h : x.c = k
  · rw [if_pos h]; simp [h]
  · rw [if_neg h]; simp [h]
theorem cl_cons (x : Wt) (L : List Wt) (k : Int) : cl (x :: L) k = if x.c = k then x.b :: cl L k else cl L k := by
  unfold cl
  rw [List.filter_cons]
  by_cases h : x.c = k
  · simp [h]
  · simp [h]
theorem cl_append (A B : List Wt) (k : Int) : cl (A ++ B) k = cl A k ++ cl B k := by simp [cl]
theorem cnt_take_succ {L : List Wt} {i : Nat} {x : Wt} (h : L[i]? = some x) (k : Int) : cnt (L.take (i + 1)) k = cnt (L.take i) k + if x.c = k then 1 else 0 := by
  unfold cnt
  rw [List.take_add_one, h]
  show (cl (L.take i ++ [x]) k).length = _
  rw [cl_add]
  split <;> simp
theorem cnt_le (L : List Wt) (k : Int) : cnt L k ≤ L.length := by
  unfold cnt cl
  rw [List.length_map]
  exact List.length_filter_le _ _
theorem cnt_out {L : List Wt} (h : ∀ x ∈ L, isC x.c = true) {k : Int} (hk : isC k = false) : cnt L k = 0 := by
  unfold cnt cl
  rw [List.length_map, List.length_eq_zero_iff, List.filter_eq_nil_iff]
  intro x hx e
  have : x.c = k := by simpa using e
  rw [← this, h x hx] at hk
  cases hk
/-- What the loop of Get finds. -/
structure Bst (L : List Wt) (i j : Nat) : Prop where
  lt : j < i
  le : ∀ m, m < i → cx L m ≤ cx L j
  first : ∀ m, m < j → cx L m < cx L j
theorem bi_none {L : List Wt} : ∀ {i : Nat}, bi L i = none → i = 0
  | 0, _ => rfl
  | i + 1, h => by
    unfold bi at h
    cases h2 : bi L i <;> rw [h2] at h
    · cases h
    · simp only at h
      split at h <;> cases h
theorem bi_some {L : List Wt} : ∀ {i j : Nat}, bi L i = some j → Bst L i j
  | 0, j, h => by cases h
  | i + 1, j, h => by
    unfold bi at h
    cases h2 : bi L i with
    | none =>
      rw [h2] at h
      obtain rfl := bi_none h2
      obtain rfl := Option.some.inj h
      exact ⟨by omega, fun m hm => by obtain rfl : m = 0 := by omega
                                      exact Int.le_refl _, fun m hm => by omega⟩
    | some q =>
      rw [h2] at h
      have B := bi_some h2
      simp only at h
      split at h
      · next hc =>
        obtain rfl := Option.some.inj h
        refine ⟨by omega, fun m hm => ?_, fun m hm => ?_⟩
        · by_cases e : m = i
          · rw [e]; exact Int.le_refl _
          · have := B.le m (by omega); omega
        · have := B.le m hm; omega
      · next hc =>
        obtain rfl := Option.some.inj h
        refine ⟨by have := B.lt; omega, fun m hm => ?_, B.first⟩
        by_cases e : m = i
        · rw [e]; omega
        · exact B.le m (by omega)
theorem bi_zero (L : List Wt) : bi L 0 = none := rfl
theorem bi_next_none {L : List Wt} {i : Nat} (h : bi L i = none) : bi L (i + 1) = some i := by
  unfold bi; rw [h]
theorem bi_next {L : List Wt} {i j : Nat} (h : bi L i = some j) : bi L (i + 1) = if cx L j < cx L i then some i else some j := by
  rw [bi, h]
/-- What Get leaves, by classes. -/
theorem best_cl {L : List Wt} {j : Nat} {x : Wt} (h : bi L L.length = some j) (hx : L[j]? = some x) :
    cl L x.c = x.b :: cl (L.eraseIdx j) x.c ∧ (∀ k, k ≠ x.c → cl (L.eraseIdx j) k = cl L k) ∧ ∀ k, x.c < k → cl L k = [] := by
  have B := bi_some h
  have hlt := B.lt
  have hcx : cx L j = x.c := by unfold cx; rw [hx]; rfl
  have e1 : L = L.take j ++ x :: L.drop (j + 1) := by
    obtain ⟨h1, h2⟩ := List.getElem?_eq_some_iff.1 hx
    rw [← h2, List.getElem_cons_drop, List.take_append_drop]
  have e2 : L.eraseIdx j = L.take j ++ L.drop (j + 1) := List.eraseIdx_eq_take_drop_succ L j
  have e3 : cl (L.take j) x.c = [] := by
    unfold cl
    rw [List.map_eq_nil_iff, List.filter_eq_nil_iff]
    intro y hy e
    obtain ⟨m, hm⟩ := List.getElem?_of_mem hy
    have hmj : m < j := by
      have := (List.getElem?_eq_some_iff.1 hm).1
      rw [List.length_take] at this; omega
    rw [List.getElem?_take_of_lt hmj] at hm
    have := B.first m hmj
    have hcy : cx L m = y.c := by unfold cx; rw [hm]; rfl
    have : y.c = x.c := by simpa using e
    omega
  refine ⟨?_, fun k hk => ?_, fun k hk => ?_⟩
  · conv => lhs; rw [e1]
    rw [e2, cl_append, cl_append, e3, cl_cons, if_pos rfl]; rfl
  · conv => rhs; rw [e1]
    rw [e2, cl_append, cl_append, cl_cons, if_neg (fun e => hk e.symm)]
  · unfold cl
    rw [List.map_eq_nil_iff, List.filter_eq_nil_iff]
    intro y hy e
    obtain ⟨m, hm⟩ := List.getElem?_of_mem hy
    have hcy : cx L m = y.c := by unfold cx; rw [hm]; rfl
    have := B.le m (List.getElem?_eq_some_iff.1 hm).1
    have : y.c = k := by simpa using e
    omega
end Go.Proofs.Ytmdbclhdbglppaa
