/- Plain facts: entries, their keys, a list of them in order; places around a ring. Nothing of the program. -/
import Derived.WalkKit
import Derived.Handy
namespace Go.Proofs.Ytjlmheecefobaaa
open Go.RowKit

/-- An address, as six bytes. -/
structure Mc where
  a : Int
  b : Int
  c : Int
  d : Int
  e : Int
  f : Int
/-- An entry. -/
structure En where
  v : Int
  m : Mc
  p : Int
  t : Int
  s : Bool
def zM : Mc := ⟨0, 0, 0, 0, 0, 0⟩
def zE : En := ⟨0, zM, 0, 0, false⟩
def eqM (x y : Mc) : Bool := x.a == y.a && (x.b == y.b && (x.c == y.c && (x.d == y.d && (x.e == y.e && x.f == y.f))))
theorem eqM_iff (x y : Mc) : eqM x y = true ↔ x = y := by
  cases x; cases y; simp [eqM]
def eqE (x y : En) : Bool := x.v == y.v && (eqM x.m y.m && (x.p == y.p && (x.t == y.t && x.s == y.s)))
theorem eqE_iff (x y : En) : eqE x y = true ↔ x = y := by
  cases x; cases y; simp [eqE, eqM_iff]
/-- Six bytes. -/
structure Mok (m : Mc) : Prop where
  a0 : 0 ≤ m.a
  a1 : m.a < 256
  b0 : 0 ≤ m.b
  b1 : m.b < 256
  c0 : 0 ≤ m.c
  c1 : m.c < 256
  d0 : 0 ≤ m.d
  d1 : m.d < 256
  e0 : 0 ≤ m.e
  e1 : m.e < 256
  f0 : 0 ≤ m.f
  f1 : m.f < 256
theorem mok_z : Mok zM := by constructor <;> simp [zM]
/-- An address as a number; a VLAN and an address as one. -/
def num (m : Mc) : Int := ((((m.a * 256 + m.b) * 256 + m.c) * 256 + m.d) * 256 + m.e) * 256 + m.f
theorem num_0 {m : Mc} (h : Mok m) : 0 ≤ num m := by obtain ⟨_, _, _, _, _, _, _, _, _, _, _, _⟩ := h; unfold num; omega
theorem num_1 {m : Mc} (h : Mok m) : num m < 281474976710656 := by obtain ⟨_, _, _, _, _, _, _, _, _, _, _, _⟩ := h; unfold num; omega
theorem num_inj {x y : Mc} (h : Mok x) (k : Mok y) (e : num x = num y) : x = y := by
  obtain ⟨_, _, _, _, _, _, _, _, _, _, _, _⟩ := h
  obtain ⟨_, _, _, _, _, _, _, _, _, _, _, _⟩ := k
  cases x; cases y
  simp only [num] at *
  simp only [Mc.mk.injEq]
  refine ⟨?_, ?_, ?_, ?_, ?_, ?_⟩ <;> omega
def kn (v : Int) (m : Mc) : Int := v * 281474976710656 + num m
theorem kn_inj {v v' : Int} {x y : Mc} (h : Mok x) (k : Mok y) (e : kn v x = kn v' y) : v = v' ∧ x = y := by
  have := num_0 h; have := num_1 h; have := num_0 k; have := num_1 k
  unfold kn at e
  have e1 : v = v' := by omega
  exact ⟨e1, num_inj h k (by omega)⟩
def ke (x : En) : Int := kn x.v x.m
/-- Is this the entry of the VLAN and the address? -/
def ky (x : En) (v : Int) (m : Mc) : Bool := x.v == v && eqM x.m m
theorem ky_iff (x : En) (v : Int) (m : Mc) : ky x v m = true ↔ x.v = v ∧ x.m = m := by simp [ky, eqM_iff]
theorem ky_ke {x : En} {v : Int} {m : Mc} (h : Mok x.m) (k : Mok m) : ky x v m = true ↔ ke x = kn v m := by
  rw [ky_iff]
  constructor
  · rintro ⟨e1, e2⟩; simp [ke, e1, e2]
  · intro e; exact kn_inj h k e
def fre (x : En) : Bool := eqE x zE
theorem fre_iff (x : En) : fre x = true ↔ x = zE := eqE_iff x zE
/-- May an entry be of these? -/
def isV (v : Int) : Bool := decide (1 ≤ v) && decide (v ≤ 4094)
def isP (p : Int) : Bool := decide (0 ≤ p) && decide (p ≤ 1000)
def grp (m : Mc) : Bool := m.a % 2 == 1
def rgt (v : Int) (m : Mc) (p : Int) : Bool := isV v && isP p && !grp m
def isT (t : Int) : Bool := decide (0 ≤ t) && decide (t ≤ 1099511627776)
/-- An entry that may be. -/
structure Gd (x : En) : Prop where
  ok : Mok x.m
  r : rgt x.v x.m x.p = true
  t : isT x.t = true
  s : x.s = true → x.t = 0
theorem rgt_v {v : Int} {m : Mc} {p : Int} (h : rgt v m p = true) : 1 ≤ v ∧ v ≤ 4094 ∧ 0 ≤ p ∧ p ≤ 1000 ∧ grp m = false := by
  simp [rgt, isV, isP] at h
  exact ⟨h.1.1.1, h.1.1.2, h.1.2.1, h.1.2.2, h.2⟩
theorem isT_iff {t : Int} : isT t = true ↔ 0 ≤ t ∧ t ≤ 1099511627776 := by simp [isT]
theorem Gd.v {x : En} (h : Gd x) : 1 ≤ x.v := (rgt_v h.r).1
theorem Gd.occ {x : En} (h : Gd x) : x ≠ zE := fun e => by have := h.v; rw [e] at this; simp [zE] at this
theorem Gd.fre {x : En} (h : Gd x) : fre x = false := by
  rw [Bool.eq_false_iff]; intro e; exact h.occ ((fre_iff x).1 e)

/-- In order. -/
def Srt (l : List En) : Prop := l.Pairwise (fun x y => ke x < ke y)
theorem Srt.ext : ∀ {a b : List En}, Srt a → Srt b → (∀ x, x ∈ a ↔ x ∈ b) → a = b
  | [], [], _, _, _ => rfl
  | [], y :: s, _, _, h => by have := (h y).2 (by simp); simp at this
  | x :: r, [], _, _, h => by have := (h x).1 (by simp); simp at this
  | x :: r, y :: s, ha, hb, h => by
    obtain ⟨a1, a2⟩ := List.pairwise_cons.1 ha
    obtain ⟨b1, b2⟩ := List.pairwise_cons.1 hb
    have e : x = y := by
      rcases List.mem_cons.1 ((h x).1 (by simp)) with e | e
      · exact e
      · rcases List.mem_cons.1 ((h y).2 (by simp)) with e' | e'
        · exact e'.symm
        · have := b1 x e; have := a1 y e'; omega
    subst e
    rw [Srt.ext a2 b2 (fun z => ?_)]
    constructor
    · intro hz
      rcases List.mem_cons.1 ((h z).1 (by simp [hz])) with e | e
      · subst e; have := a1 _ hz; omega
      · exact e
    · intro hz
      rcases List.mem_cons.1 ((h z).2 (by simp [hz])) with e | e
      · subst e; have := b1 _ hz; omega
      · exact e
theorem Srt.filter {l : List En} (h : Srt l) (f : En → Bool) : Srt (l.filter f) := List.Pairwise.filter f h
theorem Srt.one {l : List En} (h : Srt l) {x y : En} (hx : x ∈ l) (hy : y ∈ l) (e : ke x = ke y) : x = y := by
  induction l with
  | nil => simp at hx
  | cons z r ih =>
    obtain ⟨a1, a2⟩ := List.pairwise_cons.1 h
    rcases List.mem_cons.1 hx with h1 | h1 <;> rcases List.mem_cons.1 hy with h2 | h2
    · rw [h1, h2]
    · have := a1 y h2; rw [h1] at e; omega
    · have := a1 x h1; rw [h2] at e; omega
    · exact ih a2 h1 h2
/-- A table: its room, its entries in order. -/
structure Tb where
  n : Nat
  l : List En
structure Wf (T : Tb) : Prop where
  n1 : 1 ≤ T.n
  n2 : T.n ≤ 1024
  le : T.l.length ≤ T.n
  srt : Srt T.l
  gd : ∀ x ∈ T.l, Gd x
/-- Is there one of the VLAN and the address; which, and where. -/
def hs : List En → Int → Mc → Bool
  | [], _, _ => false
  | x :: r, v, m => ky x v m || hs r v m
def ix : List En → Int → Mc → Nat
  | [], _, _ => 0
  | x :: r, v, m => if ky x v m then 0 else ix r v m + 1
def lk : List En → Int → Mc → En
  | [], _, _ => zE
  | x :: r, v, m => if ky x v m then x else lk r v m
def fx (l : List En) (v : Int) (m : Mc) : Int := if hs l v m then (ix l v m : Int) else -1
theorem hs_ix : ∀ (l : List En) (v : Int) (m : Mc), hs l v m = true ↔ ix l v m < l.length
  | [], v, m => by simp [hs, ix]
  | x :: r, v, m => by
    have := hs_ix r v m
    unfold hs ix
    cases h : ky x v m
    · simp [this]
    · simp
theorem ix_le : ∀ (l : List En) (v : Int) (m : Mc), ix l v m ≤ l.length
  | [], v, m => by simp [ix]
  | x :: r, v, m => by
    have := ix_le r v m
    unfold ix
    split
    · simp
    · simp; omega
theorem ix_get : ∀ (l : List En) (v : Int) (m : Mc), hs l v m = true → l[ix l v m]? = some (lk l v m)
  | [], v, m, h => by simp [hs] at h
  | x :: r, v, m, h => by
    have ih := ix_get r v m
    unfold hs at h
    unfold ix lk
    cases hk : ky x v m
    · rw [hk] at h; simpa using ih (by simpa using h)
    · simp
theorem lk_ky : ∀ (l : List En) (v : Int) (m : Mc), hs l v m = true → ky (lk l v m) v m = true
  | [], v, m, h => by simp [hs] at h
  | x :: r, v, m, h => by
    have ih := lk_ky r v m
    unfold hs at h
    unfold lk
    cases hk : ky x v m
    · rw [hk] at h; simpa using ih (by simpa using h)
    · simp [hk]
theorem lk_no : ∀ (l : List En) (v : Int) (m : Mc), hs l v m = false → lk l v m = zE
  | [], v, m, _ => rfl
  | x :: r, v, m, h => by
    unfold hs at h
    simp only [Bool.or_eq_false_iff] at h
    unfold lk
    rw [h.1]
    simpa using lk_no r v m h.2
theorem ix_ahead : ∀ (l : List En) (v : Int) (m : Mc) (j : Nat) (x : En), j < ix l v m → l[j]? = some x → ky x v m = false
  | [], v, m, j, x, h, _ => by simp [ix] at h
  | y :: r, v, m, j, x, h, hx => by
    unfold ix at h
    cases hk : ky y v m
    · rw [hk] at h
      simp at h
      cases j with
      | zero => simp at hx; subst hx; exact hk
      | succ j => exact ix_ahead r v m j x (by omega) (by simpa using hx)
    · rw [hk] at h; simp at h
theorem hs_mem {l : List En} {v : Int} {m : Mc} : hs l v m = true ↔ ∃ x ∈ l, ky x v m = true := by
  induction l with
  | nil => simp [hs]
  | cons x r ih => simp [hs, ih]
theorem lk_mem {l : List En} {v : Int} {m : Mc} (h : hs l v m = true) : lk l v m ∈ l := List.mem_of_getElem? (ix_get l v m h)
theorem lk_of {T : Tb} (H : Wf T) {x : En} {v : Int} {m : Mc} (hx : x ∈ T.l) (hk : ky x v m = true) : hs T.l v m = true ∧ lk T.l v m = x := by
  have h1 : hs T.l v m = true := hs_mem.2 ⟨x, hx, hk⟩
  refine ⟨h1, H.srt.one (lk_mem h1) hx ?_⟩
  have a := (ky_iff _ _ _).1 (lk_ky T.l v m h1)
  have b := (ky_iff _ _ _).1 hk
  simp [ke, a.1, a.2, b.1, b.2]
theorem hs_no {l : List En} {v : Int} {m : Mc} (h : hs l v m = false) : ∀ x ∈ l, ky x v m = false := fun x hx => by
  rw [Bool.eq_false_iff]; intro hc
  have : hs l v m = true := hs_mem.2 ⟨x, hx, hc⟩
  rw [h] at this; cases this

/-- One entry more, or anew. -/
def up (l : List En) (x : En) : List En := l.filter (fun y => decide (ke y < ke x)) ++ x :: l.filter (fun y => decide (ke x < ke y))
theorem up_mem {l : List En} {x z : En} : z ∈ up l x ↔ z = x ∨ z ∈ l ∧ ke z ≠ ke x := by
  simp only [up, List.mem_append, List.mem_cons, List.mem_filter, decide_eq_true_eq]
  constructor
  · rintro (⟨h, k⟩ | h | ⟨h, k⟩)
    · exact Or.inr ⟨h, by omega⟩
    · exact Or.inl h
    · exact Or.inr ⟨h, by omega⟩
  · rintro (h | ⟨h, k⟩)
    · exact Or.inr (Or.inl h)
    · rcases Int.lt_or_gt_of_ne k with k | k
      · exact Or.inl ⟨h, k⟩
      · exact Or.inr (Or.inr ⟨h, k⟩)
theorem up_srt {l : List En} (h : Srt l) (x : En) : Srt (up l x) := by
  unfold Srt up
  rw [List.pairwise_append]
  refine ⟨h.filter _, ?_, ?_⟩
  · rw [List.pairwise_cons]
    refine ⟨fun y hy => ?_, h.filter _⟩
    simpa using (List.mem_filter.1 hy).2
  · intro a ha b hb
    have h1 : ke a < ke x := by simpa using (List.mem_filter.1 ha).2
    rcases List.mem_cons.1 hb with e | hb
    · rw [e]; exact h1
    · have h2 : ke x < ke b := by simpa using (List.mem_filter.1 hb).2
      omega
/-- One entry less. -/
def rm (l : List En) (v : Int) (m : Mc) : List En := l.filter (fun y => !ky y v m)
theorem rm_mem {l : List En} {v : Int} {m : Mc} {z : En} : z ∈ rm l v m ↔ z ∈ l ∧ ky z v m = false := by simp [rm]
theorem rm_srt {l : List En} (h : Srt l) (v : Int) (m : Mc) : Srt (rm l v m) := h.filter _
theorem rm_no {l : List En} {v : Int} {m : Mc} (h : hs l v m = false) : rm l v m = l := by
  unfold rm
  rw [List.filter_eq_self]
  intro x hx
  rw [hs_no h x hx]; rfl

/-- Put in at a place, taken out, or written anew. -/
theorem srt_get {l : List En} (h : Srt l) {i j : Nat} {x y : En} (hi : l[i]? = some x) (hj : l[j]? = some y) (hij : i < j) : ke x < ke y := by
  obtain ⟨h1, rfl⟩ := List.getElem?_eq_some_iff.1 hi
  obtain ⟨h2, rfl⟩ := List.getElem?_eq_some_iff.1 hj
  exact (List.pairwise_iff_getElem.1 h) i j h1 h2 hij
theorem up_ins {l : List En} (h : Srt l) {x : En} {k : Nat} (hk : k ≤ l.length) (h1 : ∀ j y, j < k → l[j]? = some y → ke y < ke x) (h2 : ∀ y, l[k]? = some y → ke x < ke y) : l.take k ++ (x :: l.drop k) = up l x := by
  have lo : ∀ y ∈ l.take k, ke y < ke x := fun y hy => by
    obtain ⟨j, hj⟩ := List.getElem?_of_mem hy
    rw [List.getElem?_take] at hj
    split at hj
    · exact h1 j y (by omega) hj
    · cases hj
  have hi : ∀ y ∈ l.drop k, ke x < ke y := fun y hy => by
    obtain ⟨j, hj⟩ := List.getElem?_of_mem hy
    rw [List.getElem?_drop] at hj
    have hlt : k < l.length := by have := (List.getElem?_eq_some_iff.1 hj).1; omega
    have h3 := h2 l[k] (by simp [hlt])
    by_cases e : j = 0
    · subst e
      rw [Nat.add_zero, List.getElem?_eq_getElem hlt] at hj
      rw [← Option.some.inj hj]; exact h3
    · have := srt_get h (List.getElem?_eq_getElem hlt) hj (by omega)
      omega
  have e := List.take_append_drop k l
  refine Srt.ext ?_ (up_srt h x) (fun z => ?_)
  · unfold Srt
    rw [List.pairwise_append]
    rw [← e] at h
    obtain ⟨p1, p2, p3⟩ := List.pairwise_append.1 h
    refine ⟨p1, List.pairwise_cons.2 ⟨hi, p2⟩, fun a ha b hb => ?_⟩
    rcases List.mem_cons.1 hb with e | hb
    · rw [e]; exact lo a ha
    · exact p3 a ha b hb
  · rw [up_mem, List.mem_append, List.mem_cons]
    conv => rhs; rw [← e, List.mem_append]
    constructor
    · rintro (h | h | h)
      · exact Or.inr ⟨Or.inl h, by have := lo z h; omega⟩
      · exact Or.inl h
      · exact Or.inr ⟨Or.inr h, by have := hi z h; omega⟩
    · rintro (h | ⟨h | h, _⟩)
      · exact Or.inr (Or.inl h)
      · exact Or.inl h
      · exact Or.inr (Or.inr h)
theorem len_parts (l : List En) (f : En → Bool) : (l.filter f).length + (l.filter (fun y => !f y)).length = l.length := by
  induction l with
  | nil => rfl
  | cons x r ih =>
    rw [List.filter_cons, List.filter_cons]
    cases f x <;> simp <;> omega
theorem up_len {l : List En} {x : En} (hn : ∀ y ∈ l, ke y ≠ ke x) : (up l x).length = l.length + 1 := by
  unfold up
  rw [List.length_append, List.length_cons]
  have : l.filter (fun y => decide (ke x < ke y)) = l.filter (fun y => !decide (ke y < ke x)) := List.filter_congr (fun y hy => by
    have := hn y hy
    by_cases c : ke x < ke y
    · simp [c]; omega
    · simp [c]; omega)
  rw [this, ← Nat.add_assoc]
  have := len_parts l (fun y => decide (ke y < ke x))
  omega
theorem up_set {l : List En} (h : Srt l) {x y : En} {k : Nat} (hk : l[k]? = some y) (e : ke y = ke x) : l.set k x = up l x := by
  obtain ⟨hlt, hy⟩ := List.getElem?_eq_some_iff.1 hk
  refine Srt.ext ?_ (up_srt h x) (fun z => ?_)
  · unfold Srt
    rw [List.pairwise_iff_getElem]
    intro i j hi hj hij
    rw [List.length_set] at hi hj
    have := (List.pairwise_iff_getElem.1 h) i j hi hj hij
    rw [List.getElem_set, List.getElem_set]
    by_cases c1 : k = i
    · subst c1
      rw [if_pos rfl, if_neg (by omega), ← e, ← hy]; exact this
    · rw [if_neg c1]
      by_cases c2 : k = j
      · subst c2
        rw [if_pos rfl, ← e, ← hy]; exact this
      · rw [if_neg c2]; exact this
  · rw [up_mem]
    constructor
    · intro hz
      obtain ⟨j, hj⟩ := List.getElem?_of_mem hz
      rw [List.getElem?_set] at hj
      split at hj
      · exact Or.inl (by first | exact (Option.some.inj hj).symm | (split at hj; exact (Option.some.inj hj).symm; cases hj))
      · refine Or.inr ⟨List.mem_of_getElem? hj, fun e2 => ?_⟩
        rcases Nat.lt_or_gt_of_ne (show k ≠ j from by assumption) with c | c
        · have := srt_get h hk hj c; omega
        · have := srt_get h hj hk c; omega
    · rintro (hz | ⟨hz, hne⟩)
      · subst hz
        exact List.mem_of_getElem? (i := k) (by simp [hlt])
      · obtain ⟨j, hj⟩ := List.getElem?_of_mem hz
        have hne2 : k ≠ j := fun c => by subst c; rw [hk] at hj; cases hj; exact hne e
        exact List.mem_of_getElem? (i := j) (by rw [List.getElem?_set_ne hne2]; exact hj)
theorem rm_cut {l : List En} (h : Srt l) {v : Int} {m : Mc} (hh : hs l v m = true) : l.take (ix l v m) ++ l.drop (ix l v m + 1) = rm l v m := by
  have hx := ix_get l v m hh
  have hlt := (hs_ix l v m).1 hh
  refine Srt.ext ?_ (rm_srt h v m) (fun z => ?_)
  · rw [← List.eraseIdx_eq_take_drop_succ]
    exact List.Pairwise.sublist (List.eraseIdx_sublist _ _) h
  · rw [rm_mem, List.mem_append]
    have hk := (ky_iff _ _ _).1 (lk_ky l v m hh)
    constructor
    · rintro (hz | hz)
      · obtain ⟨j, hj⟩ := List.getElem?_of_mem hz
        rw [List.getElem?_take] at hj
        split at hj
        · exact ⟨List.mem_of_getElem? hj, ix_ahead l v m j z (by omega) hj⟩
        · cases hj
      · obtain ⟨j, hj⟩ := List.getElem?_of_mem hz
        rw [List.getElem?_drop] at hj
        refine ⟨List.mem_of_getElem? hj, ?_⟩
        rw [Bool.eq_false_iff]
        intro hc
        have := srt_get h hx hj (by omega)
        have c := (ky_iff _ _ _).1 hc
        simp [ke, hk.1, hk.2, c.1, c.2] at this
    · rintro ⟨hz, hne⟩
      obtain ⟨j, hj⟩ := List.getElem?_of_mem hz
      rcases Nat.lt_trichotomy j (ix l v m) with c | c | c
      · exact Or.inl (List.mem_of_getElem? (i := j) (by rw [List.getElem?_take, if_pos c]; exact hj))
      · subst c
        rw [hx] at hj
        cases hj
        rw [lk_ky l v m hh] at hne; cases hne
      · exact Or.inr (List.mem_of_getElem? (i := j - (ix l v m + 1)) (by rw [List.getElem?_drop, show ix l v m + 1 + (j - (ix l v m + 1)) = j by omega]; exact hj))
theorem rm_len {l : List En} (h : Srt l) {v : Int} {m : Mc} (hh : hs l v m = true) : (rm l v m).length + 1 = l.length := by
  have hlt := (hs_ix l v m).1 hh
  rw [← rm_cut h hh, List.length_append, List.length_take, List.length_drop]
  omega
end Go.Proofs.Ytjlmheecefobaaa
