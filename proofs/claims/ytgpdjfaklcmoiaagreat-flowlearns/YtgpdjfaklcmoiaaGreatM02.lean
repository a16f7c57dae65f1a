/- Plain facts: entries, their keys, a list of them in order; places around a ring. Nothing of the program. · Plain facts: entries in places around a ring, each behind others that were put there ahead. Nothing of the program. -/
import Derived.WalkKit
import Derived.Handy
/- Plain facts: entries, their keys, a list of them in order; places around a ring. Nothing of the program. -/
namespace Go.Proofs.YtgpdjfaklcmoiaaGreat
open Go.RowKit

/-- An address, as six bytes. -/
structure Mc where
  a : Int
  b : Int
  c : Int
  d : Int
  e : Int
  f : Int
/-- An entry. -/
structure En where
  v : Int
  m : Mc
  p : Int
  t : Int
  s : Bool
def zM : Mc := ⟨0, 0, 0, 0, 0, 0⟩
def zE : En := ⟨0, zM, 0, 0, false⟩
def eqM (x y : Mc) : Bool := x.a == y.a && (x.b == y.b && (x.c == y.c && (x.d == y.d && (x.e == y.e && x.f == y.f))))
theorem eqM_iff (x y : Mc) : eqM x y = true ↔ x = y := by
  cases x; cases y; simp [eqM]
def eqE (x y : En) : Bool := x.v == y.v && (eqM x.m y.m && (x.p == y.p && (x.t == y.t && x.s == y.s)))
theorem eqE_iff (x y : En) : eqE x y = true ↔ x = y := by
  cases x; cases y; simp [eqE, eqM_iff]
/-- Six bytes. -/
structure Mok (m : Mc) : Prop where
  a0 : 0 ≤ m.a
  a1 : m.a < 256
  b0 : 0 ≤ m.b
  b1 : m.b < 256
  c0 : 0 ≤ m.c
  c1 : m.c < 256
  d0 : 0 ≤ m.d
  d1 : m.d < 256
  e0 : 0 ≤ m.e
  e1 : m.e < 256
  f0 : 0 ≤ m.f
  f1 : m.f < 256
theorem mok_z : Mok zM := by constructor <;> simp [zM]
/-- An address as a number; a VLAN and an address as one. -/
def num (m : Mc) : Int := ((((m.a * 256 + m.b) * 256 + m.c) * 256 + m.d) * 256 + m.e) * 256 + m.f
theorem num_0 {m : Mc} (h : Mok m) : 0 ≤ num m := by obtain ⟨_, _, _, _, _, _, _, _, _, _, _, _⟩ := h; unfold num; omega
theorem num_1 {m : Mc} (h : Mok m) : num m < 281474976710656 := by obtain ⟨_, _, _, _, _, _, _, _, _, _, _, _⟩ := h; unfold num; omega
theorem num_inj {x y : Mc} (h : Mok x) (k : Mok y) (e : num x = num y) : x = y := by
  obtain ⟨_, _, _, _, _, _, _, _, _, _, _, _⟩ := h
  obtain ⟨_, _, _, _, _, _, _, _, _, _, _, _⟩ := k
  cases x; cases y
  simp only [num] at *
  simp only [Mc.mk.injEq]
  refine ⟨?_, ?_, ?_, ?_, ?_, ?_⟩ <;> omega
def kn (v : Int) (m : Mc) : Int := v * 281474976710656 + num m
theorem kn_inj {v v' : Int} {x y : Mc} (h : Mok x) (k : Mok y) (e : kn v x = kn v' y) : v = v' ∧ x = y := by
  have := num_0 h; have := num_1 h; have := num_0 k; have := num_1 k
  unfold kn at e
  have e1 : v = v' := by omega
  exact ⟨e1, num_inj h k (by omega)⟩
def ke (x : En) : Int := kn x.v x.m
/-- Is this the entry of the VLAN and the address? -/
def ky (x : En) (v : Int) (m : Mc) : Bool := x.v == v && eqM x.m m
theorem ky_iff (x : En) (v : Int) (m : Mc) : ky x v m = true ↔ x.v = v ∧ x.m = m := by simp [ky, eqM_iff]
theorem ky_ke {x : En} {v : Int} {m : Mc} (h : Mok x.m) (k : Mok m) : ky x v m = true ↔ ke x = kn v m := by
  rw [ky_iff]
  constructor
  · rintro ⟨e1, e2⟩; simp [ke, e1, e2]
  · intro e; exact kn_inj h k e
def fre (x : En) : Bool := eqE x zE
theorem fre_iff (x : En) : fre x = true ↔ x = zE := eqE_iff x zE
/-- May an entry be of these? -/
def fisV (v : Int) : Bool := decide (1 ≤ v) && decide (v ≤ 4094)
def isP (p : Int) : Bool := decide (0 ≤ p) && decide (p ≤ 1000)
def grp (m : Mc) : Bool := m.a % 2 == 1
def rgt (v : Int) (m : Mc) (p : Int) : Bool := fisV v && isP p && !grp m
def isT (t : Int) : Bool := decide (0 ≤ t) && decide (t ≤ 1099511627776)
/-- An entry that may be. -/
structure Gd (x : En) : Prop where
  ok : Mok x.m
  r : rgt x.v x.m x.p = true
  t : isT x.t = true
  s : x.s = true → x.t = 0
theorem rgt_v {v : Int} {m : Mc} {p : Int} (h : rgt v m p = true) : 1 ≤ v ∧ v ≤ 4094 ∧ 0 ≤ p ∧ p ≤ 1000 ∧ grp m = false := by
  simp [rgt, fisV, isP] at h
  exact ⟨h.1.1.1, h.1.1.2, h.1.2.1, h.1.2.2, h.2⟩
theorem isT_iff {t : Int} : isT t = true ↔ 0 ≤ t ∧ t ≤ 1099511627776 := by simp [isT]
theorem Gd.v {x : En} (h : Gd x) : 1 ≤ x.v := (rgt_v h.r).1
theorem Gd.occ {x : En} (h : Gd x) : x ≠ zE := fun e => by have := h.v; rw [e] at this; simp [zE] at this
theorem Gd.fre {x : En} (h : Gd x) : fre x = false := by
  rw [Bool.eq_false_iff]; intro e; exact h.occ ((fre_iff x).1 e)

/-- In order. -/
def Srt (l : List En) : Prop := l.Pairwise (fun x y => ke x < ke y)
theorem Srt.ext : ∀ {a b : List En}, Srt a → Srt b → (∀ x, x ∈ a ↔ x ∈ b) → a = b
  | [], [], _, _, _ => rfl
  | [], y :: s, _, _, h => by have := (h y).2 (by simp); simp at this
  | x :: r, [], _, _, h => by have := (h x).1 (by simp); simp at this
  | x :: r, y :: s, ha, hb, h => by
    obtain ⟨a1, a2⟩ := List.pairwise_cons.1 ha
    obtain ⟨b1, b2⟩ := List.pairwise_cons.1 hb
    have e : x = y := by
      rcases List.mem_cons.1 ((h x).1 (by simp)) with e | e
      · exact e
      · rcases List.mem_cons.1 ((h y).2 (by simp)) with e' | e'
        · exact e'.symm
        · have := b1 x e; have := a1 y e'; omega
    subst e
    rw [Srt.ext a2 b2 (fun z => ?_)]
    constructor
    · intro hz
      rcases List.mem_cons.1 ((h z).1 (by simp [hz])) with e | e
      · subst e; have := a1 _ hz; omega
      · exact e
    · intro hz
      rcases List.mem_cons.1 ((h z).2 (by simp [hz])) with e | e
      · subst e; have := b1 _ hz; omega
      · exact e
theorem Srt.filter {l : List En} (h : Srt l) (f : En → Bool) : Srt (l.filter f) := List.Pairwise.filter f h
theorem Srt.one {l : List En} (h : Srt l) {x y : En} (hx : x ∈ l) (hy : y ∈ l) (e : ke x = ke y) : x = y := by
  induction l with
  | nil => simp at hx
  | cons z r ih =>
    obtain ⟨a1, a2⟩ := List.pairwise_cons.1 h
    rcases List.mem_cons.1 hx with h1 | h1 <;> rcases List.mem_cons.1 hy with h2 | h2
    · rw [h1, h2]
    · have := a1 y h2; rw [h1] at e; omega
    · have := a1 x h1; rw [h2] at e; omega
    · exact ih a2 h1 h2
/-- A table: its room, its entries in order. -/
structure FT where
  n : Nat
  l : List En
structure FW (T : FT) : Prop where
  n1 : 1 ≤ T.n
  n2 : T.n ≤ 1024
  le : T.l.length ≤ T.n
  srt : Srt T.l
  gd : ∀ x ∈ T.l, Gd x
/-- Is there one of the VLAN and the address; which, and where. -/
def fhs : List En → Int → Mc → Bool
  | [], _, _ => false
  | x :: r, v, m => ky x v m || fhs r v m
def fix : List En → Int → Mc → Nat
  | [], _, _ => 0
  | x :: r, v, m => if ky x v m then 0 else fix r v m + 1
def lk : List En → Int → Mc → En
  | [], _, _ => zE
  | x :: r, v, m => if ky x v m then x else lk r v m
def ffx (l : List En) (v : Int) (m : Mc) : Int := if fhs l v m then (fix l v m : Int) else -1
theorem fhs_ix : ∀ (l : List En) (v : Int) (m : Mc), fhs l v m = true ↔ fix l v m < l.length
  | [], v, m => by simp [fhs, fix]
  | x :: r, v, m => by
    have := fhs_ix r v m
    unfold fhs fix
    cases h : ky x v m
    · simp [this]
    · simp
theorem fix_le : ∀ (l : List En) (v : Int) (m : Mc), fix l v m ≤ l.length
  | [], v, m => by simp [fix]
  | x :: r, v, m => by
    have := fix_le r v m
    unfold fix
    split
    · simp
    · simp; omega
theorem fix_get : ∀ (l : List En) (v : Int) (m : Mc), fhs l v m = true → l[fix l v m]? = some (lk l v m)
  | [], v, m, h => by simp [fhs] at h
  | x :: r, v, m, h => by
    have ih := fix_get r v m
    unfold fhs at h
    unfold fix lk
    cases hk : ky x v m
    · rw [hk] at h; simpa using ih (by simpa using h)
    · simp
theorem lk_ky : ∀ (l : List En) (v : Int) (m : Mc), fhs l v m = true → ky (lk l v m) v m = true
  | [], v, m, h => by simp [fhs] at h
  | x :: r, v, m, h => by
    have ih := lk_ky r v m
    unfold fhs at h
    unfold lk
    cases hk : ky x v m
    · rw [hk] at h; simpa using ih (by simpa using h)
    · simp [hk]
theorem lk_no : ∀ (l : List En) (v : Int) (m : Mc), fhs l v m = false → lk l v m = zE
  | [], v, m, _ => rfl
  | x :: r, v, m, h => by
    unfold fhs at h
    simp only [Bool.or_eq_false_iff] at h
    unfold lk
    rw [h.1]
    simpa using lk_no r v m h.2
theorem ix_ahead : ∀ (l : List En) (v : Int) (m : Mc) (j : Nat) (x : En), j < fix l v m → l[j]? = some x → ky x v m = false
  | [], v, m, j, x, h, _ => by simp [fix] at h
  | y :: r, v, m, j, x, h, hx => by
    unfold fix at h
    cases hk : ky y v m
    · rw [hk] at h
      simp at h
      cases j with
      | zero => simp at hx; subst hx; exact hk
      | succ j => exact ix_ahead r v m j x (by omega) (by simpa using hx)
    · rw [hk] at h; simp at h
theorem fhs_mem {l : List En} {v : Int} {m : Mc} : fhs l v m = true ↔ ∃ x ∈ l, ky x v m = true := by
  induction l with
  | nil => simp [fhs]
  | cons x r ih => simp [fhs, ih]
theorem lk_mem {l : List En} {v : Int} {m : Mc} (h : fhs l v m = true) : lk l v m ∈ l := List.mem_of_getElem? (fix_get l v m h)
theorem lk_of {T : FT} (H : FW T) {x : En} {v : Int} {m : Mc} (hx : x ∈ T.l) (hk : ky x v m = true) : fhs T.l v m = true ∧ lk T.l v m = x := by
  have h1 : fhs T.l v m = true := fhs_mem.2 ⟨x, hx, hk⟩
  refine ⟨h1, H.srt.one (lk_mem h1) hx ?_⟩
  have a := (ky_iff _ _ _).1 (lk_ky T.l v m h1)
  have b := (ky_iff _ _ _).1 hk
  simp [ke, a.1, a.2, b.1, b.2]
theorem hs_no {l : List En} {v : Int} {m : Mc} (h : fhs l v m = false) : ∀ x ∈ l, ky x v m = false := fun x hx => by
  rw [Bool.eq_false_iff]; intro hc
  have : fhs l v m = true := fhs_mem.2 ⟨x, hx, hc⟩
  rw [h] at this; cases this

/-- One entry more, or anew. -/
def up (l : List En) (x : En) : List En := l.filter (fun y => decide (ke y < ke x)) ++ x :: l.filter (fun y => decide (ke x < ke y))
theorem up_mem {l : List En} {x z : En} : z ∈ up l x ↔ z = x ∨ z ∈ l ∧ ke z ≠ ke x := by
  simp only [up, List.mem_append, List.mem_cons, List.mem_filter, decide_eq_true_eq]
  constructor
  · rintro (⟨h, k⟩ | h | ⟨h, k⟩)
    · exact Or.inr ⟨h, by omega⟩
    · exact Or.inl h
    · exact Or.inr ⟨h, by omega⟩
  · rintro (h | ⟨h, k⟩)
    · exact Or.inr (Or.inl h)
    · rcases Int.lt_or_gt_of_ne k with k | k
      · exact Or.inl ⟨h, k⟩
      · exact Or.inr (Or.inr ⟨h, k⟩)
theorem up_srt {l : List En} (h : Srt l) (x : En) : Srt (up l x) := by
  unfold Srt up
  rw [List.pairwise_append]
  refine ⟨h.filter _, ?_, ?_⟩
  · rw [List.pairwise_cons]
    refine ⟨fun y hy => ?_, h.filter _⟩
    simpa using (List.mem_filter.1 hy).2
  · intro a ha b hb
    have h1 : ke a < ke x := by simpa using (List.mem_filter.1 ha).2
    rcases List.mem_cons.1 hb with e | hb
    · rw [e]; exact h1
    · have h2 : ke x < ke b := by simpa using (List.mem_filter.1 hb).2
      omega
/-- One entry less. -/
def frm (l : List En) (v : Int) (m : Mc) : List En := l.filter (fun y => !ky y v m)
theorem rm_mem {l : List En} {v : Int} {m : Mc} {z : En} : z ∈ frm l v m ↔ z ∈ l ∧ ky z v m = false := by simp [frm]
theorem rm_srt {l : List En} (h : Srt l) (v : Int) (m : Mc) : Srt (frm l v m) := h.filter _
theorem rm_no {l : List En} {v : Int} {m : Mc} (h : fhs l v m = false) : frm l v m = l := by
  unfold frm
  rw [List.filter_eq_self]
  intro x hx
  rw [hs_no h x hx]; rfl

/-- Put in at a place, taken out, or written anew. -/
theorem srt_get {l : List En} (h : Srt l) {i j : Nat} {x y : En} (hi : l[i]? = some x) (hj : l[j]? = some y) (hij : i < j) : ke x < ke y := by
  obtain ⟨h1, rfl⟩ := List.getElem?_eq_some_iff.1 hi
  obtain ⟨h2, rfl⟩ := List.getElem?_eq_some_iff.1 hj
  exact (List.pairwise_iff_getElem.1 h) i j h1 h2 hij
theorem up_ins {l : List En} (h : Srt l) {x : En} {k : Nat} (hk : k ≤ l.length) (h1 : ∀ j y, j < k → l[j]? = some y → ke y < ke x) (h2 : ∀ y, l[k]? = some y → ke x < ke y) : l.take k ++ (x :: l.drop k) = up l x := by
  have lo : ∀ y ∈ l.take k, ke y < ke x := fun y hy => by
    obtain ⟨j, hj⟩ := List.getElem?_of_mem hy
    rw [List.getElem?_take] at hj
    split at hj
    · exact h1 j y (by omega) hj
    · cases hj
  have hi : ∀ y ∈ l.drop k, ke x < ke y := fun y hy => by
    obtain ⟨j, hj⟩ := List.getElem?_of_mem hy
    rw [List.getElem?_drop] at hj
    have hlt : k < l.length := by have := (List.getElem?_eq_some_iff.1 hj).1; omega
    have h3 := h2 l[k] (by simp [hlt])
    by_cases e : j = 0
    · subst e
      rw [Nat.add_zero, List.getElem?_eq_getElem hlt] at hj
      rw [← Option.some.inj hj]; exact h3
    · have := srt_get h (List.getElem?_eq_getElem hlt) hj (by omega)
      omega
  have e := List.take_append_drop k l
  refine Srt.ext ?_ (up_srt h x) (fun z => ?_)
  · unfold Srt
    rw [List.pairwise_append]
    rw [← e] at h
    obtain ⟨p1, p2, p3⟩ := List.pairwise_append.1 h
    refine ⟨p1, List.pairwise_cons.2 ⟨hi, p2⟩, fun a ha b hb => ?_⟩
    rcases List.mem_cons.1 hb with e | hb
    · rw [e]; exact lo a ha
    · exact p3 a ha b hb
  · rw [up_mem, List.mem_append, List.mem_cons]
    conv => rhs; rw [← e, List.mem_append]
    constructor
    · rintro (h | h | h)
      · exact Or.inr ⟨Or.inl h, by have := lo z h; omega⟩
      · exact Or.inl h
      · exact Or.inr ⟨Or.inr h, by have := hi z h; omega⟩
    · rintro (h | ⟨h | h, _⟩)
      · exact Or.inr (Or.inl h)
      · exact Or.inl h
      · exact Or.inr (Or.inr h)
theorem len_parts (l : List En) (f : En → Bool) : (l.filter f).length + (l.filter (fun y => !f y)).length = l.length := by
  induction l with
  | nil => rfl
  | cons x r ih =>
    rw [List.filter_cons, List.filter_cons]
    cases f x <;> simp <;> omega
theorem up_len {l : List En} {x : En} (hn : ∀ y ∈ l, ke y ≠ ke x) : (up l x).length = l.length + 1 := by
  unfold up
  rw [List.length_append, List.length_cons]
  have : l.filter (fun y => decide (ke x < ke y)) = l.filter (fun y => !decide (ke y < ke x)) := List.filter_congr (fun y hy => by
    have := hn y hy
    by_cases c : ke x < ke y
    · simp [c]; omega
    · simp [c]; omega)
  rw [this, ← Nat.add_assoc]
  have := len_parts l (fun y => decide (ke y < ke x))
  omega
theorem up_set {l : List En} (h : Srt l) {x y : En} {k : Nat} (hk : l[k]? = some y) (e : ke y = ke x) : l.set k x = up l x := by
  obtain ⟨hlt, hy⟩ := List.getElem?_eq_some_iff.1 hk
  refine Srt.ext ?_ (up_srt h x) (fun z => ?_)
  · unfold Srt
    rw [List.pairwise_iff_getElem]
    intro i j hi hj hij
    rw [List.length_set] at hi hj
    have := (List.pairwise_iff_getElem.1 h) i j hi hj hij
    rw [List.getElem_set, List.getElem_set]
    by_cases c1 : k = i
    · subst c1
      rw [if_pos rfl, if_neg (by omega), ← e, ← hy]; exact this
    · rw [if_neg c1]
      by_cases c2 : k = j
      · subst c2
        rw [if_pos rfl, ← e, ← hy]; exact this
      · rw [if_neg c2]; exact this
  · rw [up_mem]
    constructor
    · intro hz
      obtain ⟨j, hj⟩ := List.getElem?_of_mem hz
      rw [List.getElem?_set] at hj
      split at hj
      · exact Or.inl (by first | exact (Option.some.inj hj).symm | (split at hj; exact (Option.some.inj hj).symm; cases hj))
      · refine Or.inr ⟨List.mem_of_getElem? hj, fun e2 => ?_⟩
        rcases Nat.lt_or_gt_of_ne (show k ≠ j from by assumption) with c | c
        · have := srt_get h hk hj c; omega
        · have := srt_get h hj hk c; omega
    · rintro (hz | ⟨hz, hne⟩)
      · subst hz
        exact List.mem_of_getElem? (i := k) (by simp [hlt])
      · obtain ⟨j, hj⟩ := List.getElem?_of_mem hz
        have hne2 : k ≠ j := fun c => by subst c; rw [hk] at hj; cases hj; exact hne e
        exact List.mem_of_getElem? (i := j) (by rw [List.getElem?_set_ne hne2]; exact hj)
theorem rm_cut {l : List En} (h : Srt l) {v : Int} {m : Mc} (hh : fhs l v m = true) : l.take (fix l v m) ++ l.drop (fix l v m + 1) = frm l v m := by
  have hx := fix_get l v m hh
  have hlt := (fhs_ix l v m).1 hh
  refine Srt.ext ?_ (rm_srt h v m) (fun z => ?_)
  · rw [← List.eraseIdx_eq_take_drop_succ]
    exact List.Pairwise.sublist (List.eraseIdx_sublist _ _) h
  · rw [rm_mem, List.mem_append]
    have hk := (ky_iff _ _ _).1 (lk_ky l v m hh)
    constructor
    · rintro (hz | hz)
      · obtain ⟨j, hj⟩ := List.getElem?_of_mem hz
        rw [List.getElem?_take] at hj
        split at hj
        · exact ⟨List.mem_of_getElem? hj, ix_ahead l v m j z (by omega) hj⟩
        · cases hj
      · obtain ⟨j, hj⟩ := List.getElem?_of_mem hz
        rw [List.getElem?_drop] at hj
        refine ⟨List.mem_of_getElem? hj, ?_⟩
        rw [Bool.eq_false_iff]
        intro hc
        have := srt_get h hx hj (by omega)
        have c := (ky_iff _ _ _).1 hc
        simp [ke, hk.1, hk.2, c.1, c.2] at this
    · rintro ⟨hz, hne⟩
      obtain ⟨j, hj⟩ := List.getElem?_of_mem hz
      rcases Nat.lt_trichotomy j (fix l v m) with c | c | c
      · exact Or.inl (List.mem_of_getElem? (i := j) (by rw [List.getElem?_take, if_pos c]; exact hj))
      · subst c
        rw [hx] at hj
        cases hj
        rw [lk_ky l v m hh] at hne; cases hne
      · exact Or.inr (List.mem_of_getElem? (i := j - (fix l v m + 1)) (by rw [List.getElem?_drop, show fix l v m + 1 + (j - (fix l v m + 1)) = j by omega]; exact hj))
theorem rm_len {l : List En} (h : Srt l) {v : Int} {m : Mc} (hh : fhs l v m = true) : (frm l v m).length + 1 = l.length := by
  have hlt := (fhs_ix l v m).1 hh
  rw [← rm_cut h hh, List.length_append, List.length_take, List.length_drop]
  omega
end Go.Proofs.YtgpdjfaklcmoiaaGreat
/- Plain facts: entries in places around a ring, each behind others that were put there ahead. Nothing of the program. -/
namespace Go.Proofs.YtgpdjfaklcmoiaaGreat
open Go.RowKit

/-- The steps from one place on to another; the next one. -/
def wy (n a b : Nat) : Nat := if a ≤ b then b - a else b + n - a
def nt (n a : Nat) : Nat := if a + 1 = n then 0 else a + 1
theorem nt_lt {n a : Nat} (h : a < n) : nt n a < n := by unfold nt; split <;> omega
theorem wy_lt {n a b : Nat} (ha : a < n) (hb : b < n) : wy n a b < n := by unfold wy; split <;> omega
theorem wy_self (n a : Nat) : wy n a a = 0 := by unfold wy; split <;> omega
theorem wy_inj {n a b c : Nat} (ha : a < n) (hb : b < n) (hc : c < n) (e : wy n a b = wy n a c) : b = c := by
  unfold wy at e; split at e <;> split at e <;> omega
theorem wy_zero {n a b : Nat} (ha : a < n) (_ : b < n) (e : wy n a b = 0) : a = b := by
  unfold wy at e; split at e <;> omega
theorem wy_nt {n a b : Nat} (ha : a < n) (hb : b < n) (h : wy n a b + 1 < n) : wy n a (nt n b) = wy n a b + 1 := by
  unfold wy nt at *
  split at h <;> split <;> split <;> omega
theorem wy_next {n a : Nat} (_ : a < n) (h2 : 2 ≤ n) : wy n a (nt n a) = 1 := by
  unfold wy nt; split <;> split <;> omega
/-- A place between: the way parts there. -/
theorem wy_part {n a b c : Nat} (ha : a < n) (hb : b < n) (hc : c < n) (h : wy n a b ≤ wy n a c) : wy n a c = wy n a b + wy n b c := by
  unfold wy at *
  split at h <;> split at h <;> (repeat' split) <;> omega
/-- What lies no farther behind than the way is between. -/
theorem wy_back {n a b c : Nat} (ha : a < n) (hb : b < n) (_ : c < n) (h : wy n b c ≤ wy n a c) : wy n a c = wy n a b + wy n b c := by
  unfold wy at *
  split at h <;> split at h <;> (repeat' split) <;> omega

def Oc (ps : List En) (q : Nat) : Prop := ∃ y, ps[q]? = some y ∧ y ≠ zE
structure Rp (n : Nat) (h : En → Nat) (ps l : List En) : Prop where
  len : ps.length = n
  hn : ∀ x, h x < n
  mem : ∀ x, x ≠ zE → (x ∈ ps ↔ x ∈ l)
  one : ∀ (i j : Nat) (x : En), ps[i]? = some x → ps[j]? = some x → x ≠ zE → i = j
  ch : ∀ (j : Nat) (x : En) (q : Nat), ps[j]? = some x → x ≠ zE → q < n → wy n (h x) q < wy n (h x) j → Oc ps q
theorem len_sub : ∀ (a : List En) (b : List En), (∀ (i j : Nat) (x : En), a[i]? = some x → a[j]? = some x → i = j) → (∀ x ∈ a, x ∈ b) → a.length ≤ b.length
  | [], b, _, _ => by simp
  | x :: r, b, h1, h2 => by
    obtain ⟨s, t, e⟩ := List.append_of_mem (h2 x (by simp))
    have ih := len_sub r (s ++ t) (fun i j y hi hj => by
      have := h1 (i + 1) (j + 1) y (by simpa using hi) (by simpa using hj)
      omega) (fun y hy => by
      obtain ⟨j, hj⟩ := List.getElem?_of_mem hy
      have h3 := h2 y (by simp [hy])
      rw [e] at h3
      rcases List.mem_append.1 h3 with h4 | h4
      · exact List.mem_append.2 (Or.inl h4)
      · rcases List.mem_cons.1 h4 with h5 | h5
        · subst h5
          have := h1 0 (j + 1) y (by simp) (by simpa using hj)
          omega
        · exact List.mem_append.2 (Or.inr h5))
    rw [e]
    simp at ih ⊢
    omega
theorem Rp.free {n : Nat} {h : En → Nat} {ps l : List En} (H : Rp n h ps l) (hl : l.length < n) : ∃ j : Nat, j < n ∧ ps[j]? = some zE := by
  by_cases c : ∃ j : Nat, j < n ∧ ps[j]? = some zE
  · exact c
  · exfalso
    have ho : ∀ x ∈ ps, x ≠ zE := fun x hx e => by
      obtain ⟨j, hj⟩ := List.getElem?_of_mem hx
      have := (List.getElem?_eq_some_iff.1 hj).1
      rw [H.len] at this
      exact c ⟨j, this, by rw [hj, e]⟩
    have := len_sub ps l (fun i j x hi hj => H.one i j x hi hj (ho x (List.mem_of_getElem? hi))) (fun x hx => (H.mem x (ho x hx)).1 hx)
    rw [H.len] at this
    omega
theorem rp_new (n : Nat) (h : En → Nat) (hn : ∀ x, h x < n) : Rp n h (List.replicate n zE) [] := by
  refine ⟨by simp, hn, fun x hx => ?_, fun i j x hi _ hx => ?_, fun j x q hj hx => ?_⟩
  · simp [List.mem_replicate, hx]
  · rw [List.getElem?_replicate] at hi
    split at hi
    · exact absurd (Option.some.inj hi).symm hx
    · cases hi
  · rw [List.getElem?_replicate] at hj
    split at hj
    · exact absurd (Option.some.inj hj).symm hx
    · cases hj

/-- The place of a VLAN and an address, whose first one is H. -/
structure Pl (n : Nat) (ps : List En) (H : Nat) (v : Int) (m : Mc) (at_ : Nat) : Prop where
  lt : at_ < n
  stop : ∃ x, ps[at_]? = some x ∧ (x = zE ∨ ky x v m = true)
  go : ∀ q, q < n → wy n H q < wy n H at_ → ∃ y, ps[q]? = some y ∧ y ≠ zE ∧ ky y v m = false
theorem Pl.lk {T : FT} {n : Nat} {h : En → Nat} {ps : List En} {v : Int} {m : Mc} {H at_ : Nat} (R : Rp n h ps T.l) (W : FW T) (_ : Mok m) (hH : H < n) (hh : ∀ x, ky x v m = true → h x = H) (P : Pl n ps H v m at_) : ps[at_]? = some (lk T.l v m) := by
  obtain ⟨x, hx, hs0⟩ := P.stop
  rcases Bool.eq_false_or_eq_true (fhs T.l v m) with c | c
  · have hk := lk_ky T.l v m c
    have ho := (W.gd _ (lk_mem c)).occ
    obtain ⟨j, hj⟩ := List.getElem?_of_mem ((R.mem _ ho).2 (lk_mem c))
    have hjn : j < n := by have := (List.getElem?_eq_some_iff.1 hj).1; rw [R.len] at this; exact this
    rcases Nat.lt_trichotomy (wy n H j) (wy n H at_) with d | d | d
    · obtain ⟨y, hy, _, hyk⟩ := P.go j hjn d
      rw [hj] at hy
      cases hy
      rw [hk] at hyk; cases hyk
    · rw [← wy_inj hH hjn P.lt d]; exact hj
    · obtain ⟨y, hy, hyo⟩ := R.ch j _ at_ hj ho P.lt (by rw [hh _ hk]; exact d)
      rw [hx] at hy
      cases hy
      rcases hs0 with e | e
      · exact absurd e hyo
      · have hxl := (R.mem x hyo).1 (List.mem_of_getElem? hx)
        rw [hx, (lk_of W hxl e).2]
  · rw [lk_no _ _ _ c]
    rcases hs0 with e | e
    · rw [hx, e]
    · by_cases hz : x = zE
      · rw [hx, hz]
      · have := hs_no c x ((R.mem x hz).1 (List.mem_of_getElem? hx))
        rw [e] at this; cases this
theorem Rp.set {T : FT} {n : Nat} {h : En → Nat} {ps : List En} {x : En} {at_ : Nat} (R : Rp n h ps T.l) (W : FW T) (hx : Gd x) (hh : ∀ y, ky y x.v x.m = true → h y = h x) (P : Pl n ps (h x) x.v x.m at_) : Rp n h (ps.set at_ x) (up T.l x) := by
  have hat := P.lk R W hx.ok (R.hn x) hh
  have hlen : at_ < ps.length := by rw [R.len]; exact P.lt
  have hget : (ps.set at_ x)[at_]? = some x := by rw [List.getElem?_set_self hlen]
  have hkx : ∀ z, z ∈ T.l → ke z = ke x → ps[at_]? = some z := fun z hz e => by
    rw [hat, (lk_of W hz ((ky_ke (W.gd z hz).ok hx.ok).2 e)).2]
  refine ⟨by simp [R.len], R.hn, fun z hz => ?_, fun i j z hi hj hz => ?_, fun j z q hj hz hq hw => ?_⟩
  · rw [up_mem]
    constructor
    · intro hm
      obtain ⟨j, hj⟩ := List.getElem?_of_mem hm
      by_cases e : at_ = j
      · subst e; rw [hget] at hj; exact Or.inl (Option.some.inj hj).symm
      · rw [List.getElem?_set_ne e] at hj
        have hzl := (R.mem z hz).1 (List.mem_of_getElem? hj)
        exact Or.inr ⟨hzl, fun e2 => e (R.one _ _ z (hkx z hzl e2) hj hz)⟩
    · rintro (e | ⟨hm, hne⟩)
      · subst e; exact List.mem_of_getElem? hget
      · obtain ⟨j, hj⟩ := List.getElem?_of_mem ((R.mem z hz).2 hm)
        have e : at_ ≠ j := fun e => by
          subst e
          rw [hat] at hj
          have e2 := Option.some.inj hj
          rcases Bool.eq_false_or_eq_true (fhs T.l x.v x.m) with c | c
          · have := lk_ky T.l x.v x.m c
            rw [e2] at this
            exact hne ((ky_ke (W.gd z hm).ok hx.ok).1 this)
          · rw [lk_no _ _ _ c] at e2
            exact hz e2.symm
        exact List.mem_of_getElem? (i := j) (by rw [List.getElem?_set_ne e]; exact hj)
  · have key : ∀ k, at_ ≠ k → (ps.set at_ x)[k]? = some x → False := fun k e hk => by
      rw [List.getElem?_set_ne e] at hk
      have hxl := (R.mem x hx.occ).1 (List.mem_of_getElem? hk)
      exact e (R.one _ _ x (hkx x hxl rfl) hk hx.occ)
    by_cases e1 : at_ = i <;> by_cases e2 : at_ = j
    · omega
    · subst e1; rw [hget] at hi; cases hi; exact (key j e2 hj).elim
    · subst e2; rw [hget] at hj; cases hj; exact (key i e1 hi).elim
    · rw [List.getElem?_set_ne e1] at hi
      rw [List.getElem?_set_ne e2] at hj
      exact R.one i j z hi hj hz
  · by_cases e : at_ = q
    · subst e; exact ⟨x, hget, hx.occ⟩
    · unfold Oc
      rw [List.getElem?_set_ne e]
      by_cases e2 : at_ = j
      · subst e2
        rw [hget] at hj
        cases hj
        obtain ⟨y, hy, hyo, _⟩ := P.go q hq hw
        exact ⟨y, hy, hyo⟩
      · rw [List.getElem?_set_ne e2] at hj
        exact R.ch j z q hj hz hq hw

/-- Taking out, under way: a hole, and how far it was looked behind it. -/
structure Tk (n : Nat) (h : En → Nat) (ps0 : List En) (a0 : Nat) (ps : List En) (ho at_ : Nat) : Prop where
  len : ps.length = n
  hn : ∀ x, h x < n
  la : a0 < n
  lh : ho < n
  lt : at_ < n
  mem : ∀ x : En, x ≠ zE → ((∃ j : Nat, j ≠ ho ∧ ps[j]? = some x) ↔ (∃ j : Nat, j ≠ a0 ∧ ps0[j]? = some x))
  one : ∀ (i j : Nat) (x : En), i ≠ ho → j ≠ ho → ps[i]? = some x → ps[j]? = some x → x ≠ zE → i = j
  ch : ∀ (j : Nat) (x : En) (q : Nat), j ≠ ho → ps[j]? = some x → x ≠ zE → q < n → wy n (h x) q < wy n (h x) j → Oc ps q
  st : ∀ (q : Nat) (x : En), q < n → 0 < wy n ho q → wy n ho q < wy n ho at_ → ps[q]? = some x → wy n (h x) q < wy n ho q
  hx : wy n a0 ho < wy n a0 at_
  al : ∀ q, q < n → wy n a0 q < wy n a0 at_ → Oc ps q
  fr : ∃ q : Nat, q < n ∧ ps[q]? = some zE
theorem tk_new {n : Nat} {h : En → Nat} {ps l : List En} {a : Nat} {x : En} (R : Rp n h ps l) (h2 : 2 ≤ n) (ha : a < n) (hx : ps[a]? = some x) (ho : x ≠ zE) (hl : l.length < n) : Tk n h ps a ps a (nt n a) := by
  have e1 := wy_next ha h2
  refine ⟨R.len, R.hn, ha, ha, nt_lt ha, fun _ _ => Iff.rfl, fun i j y _ _ hi hj hy => R.one i j y hi hj hy, fun j y q _ hj hy hq hw => R.ch j y q hj hy hq hw, fun q y hq h1 h2 => by omega, by rw [wy_self, e1]; omega, fun q hq hw => ?_, R.free hl⟩
  rw [e1] at hw
  rw [← wy_zero ha hq (by omega)]
  exact ⟨x, hx, ho⟩
theorem Tk.room {n : Nat} {h : En → Nat} {ps0 ps : List En} {a0 ho at_ : Nat} (K : Tk n h ps0 a0 ps ho at_) {x : En} (hx : ps[at_]? = some x) (hxo : x ≠ zE) : wy n a0 at_ + 1 < n := by
  have h1 := wy_lt K.la K.lt
  rcases Nat.lt_or_ge (wy n a0 at_ + 1) n with c | c
  · exact c
  · exfalso
    obtain ⟨q, hq, hz⟩ := K.fr
    have h2 := wy_lt K.la hq
    have ho : Oc ps q := by
      by_cases d : wy n a0 q < wy n a0 at_
      · exact K.al q hq d
      · rw [wy_inj K.la hq K.lt (by omega)]; exact ⟨x, hx, hxo⟩
    obtain ⟨y, hy, hyo⟩ := ho
    rw [hz] at hy
    cases hy
    exact hyo rfl
theorem Tk.ne {n : Nat} {h : En → Nat} {ps0 ps : List En} {a0 ho at_ : Nat} (K : Tk n h ps0 a0 ps ho at_) : ho ≠ at_ := fun e => by have := K.hx; rw [e] at this; omega
theorem Tk.al2 {n : Nat} {h : En → Nat} {ps0 ps : List En} {a0 ho at_ : Nat} (K : Tk n h ps0 a0 ps ho at_) {x : En} (hx : ps[at_]? = some x) (hxo : x ≠ zE) : ∀ q, q < n → wy n a0 q < wy n a0 (nt n at_) → Oc ps q := fun q hq hw => by
  rw [wy_nt K.la K.lt (K.room hx hxo)] at hw
  by_cases d : wy n a0 q < wy n a0 at_
  · exact K.al q hq d
  · rw [wy_inj K.la hq K.lt (by omega)]; exact ⟨x, hx, hxo⟩
theorem Tk.stay {n : Nat} {h : En → Nat} {ps0 ps : List En} {a0 ho at_ : Nat} (K : Tk n h ps0 a0 ps ho at_) {x : En} (hx : ps[at_]? = some x) (hxo : x ≠ zE) (hw : wy n (h x) at_ < wy n ho at_) : Tk n h ps0 a0 ps ho (nt n at_) := by
  have hr := K.room hx hxo
  have h3 := wy_lt K.lh K.lt
  have h4 : wy n ho at_ + 1 < n := by have := wy_part K.la K.lh K.lt (Nat.le_of_lt K.hx); omega
  refine ⟨K.len, K.hn, K.la, K.lh, nt_lt K.lt, K.mem, K.one, K.ch, fun q y hq h1 h2 hy => ?_, by rw [wy_nt K.la K.lt hr]; have := K.hx; omega, K.al2 hx hxo, K.fr⟩
  rw [wy_nt K.lh K.lt h4] at h2
  by_cases d : wy n ho q < wy n ho at_
  · exact K.st q y hq h1 d hy
  · obtain rfl := wy_inj K.lh hq K.lt (by omega)
    rw [hx] at hy
    cases hy
    exact hw
theorem oc_set {ps : List En} {i : Nat} {x : En} (hi : i < ps.length) (hx : x ≠ zE) {q : Nat} (h : Oc ps q) : Oc (ps.set i x) q := by
  by_cases e : i = q
  · subst e; exact ⟨x, by rw [List.getElem?_set_self hi], hx⟩
  · unfold Oc; rw [List.getElem?_set_ne e]; exact h
theorem Tk.move {n : Nat} {h : En → Nat} {ps0 ps : List En} {a0 ho at_ : Nat} (K : Tk n h ps0 a0 ps ho at_) {x : En} (hx : ps[at_]? = some x) (hxo : x ≠ zE) (hw : wy n ho at_ ≤ wy n (h x) at_) : Tk n h ps0 a0 (ps.set ho x) at_ (nt n at_) := by
  have hr := K.room hx hxo
  have hn := K.ne
  have hl : ho < ps.length := by rw [K.len]; exact K.lh
  have hg : (ps.set ho x)[ho]? = some x := by rw [List.getElem?_set_self hl]
  have h2 : 2 ≤ n := by have := K.lh; have := K.lt; omega
  have hg2 : ∀ k, k ≠ ho → (ps.set ho x)[k]? = ps[k]? := fun k e => by rw [List.getElem?_set_ne (Ne.symm e)]
  have hpart := wy_back (K.hn x) K.lh K.lt hw
  refine ⟨by simp [K.len], K.hn, K.la, K.lt, nt_lt K.lt, fun y hy => ?_, fun i j y hi hj h1 h2 hy => ?_, fun j y q hj h1 hy hq hw2 => ?_, fun q y hq h1 h3 => ?_, by rw [wy_nt K.la K.lt hr]; omega, fun q hq h1 => oc_set hl hxo (K.al2 hx hxo q hq h1), ?_⟩
  · rw [← K.mem y hy]
    constructor
    · rintro ⟨j, hj, e⟩
      by_cases c : j = ho
      · subst c; rw [hg] at e; cases e; exact ⟨at_, Ne.symm hn, hx⟩
      · rw [hg2 j c] at e; exact ⟨j, c, e⟩
    · rintro ⟨j, hj, e⟩
      by_cases c : j = at_
      · subst c; rw [hx] at e; cases e; exact ⟨ho, hn, hg⟩
      · exact ⟨j, c, by rw [hg2 j hj]; exact e⟩
  · have key : ∀ k, k ≠ ho → k ≠ at_ → (ps.set ho x)[k]? = some x → False := fun k c d e => by
      rw [hg2 k c] at e
      exact d (K.one _ _ x c (Ne.symm hn) e hx hxo)
    by_cases c1 : i = ho <;> by_cases c2 : j = ho
    · omega
    · subst c1; rw [hg] at h1; cases h1; exact (key j c2 hj h2).elim
    · subst c2; rw [hg] at h2; cases h2; exact (key i c1 hi h1).elim
    · rw [hg2 i c1] at h1; rw [hg2 j c2] at h2; exact K.one i j y c1 c2 h1 h2 hy
  · refine oc_set hl hxo ?_
    by_cases c : j = ho
    · subst c
      rw [hg] at h1
      cases h1
      exact K.ch at_ x q (Ne.symm hn) hx hxo hq (by omega)
    · rw [hg2 j c] at h1
      exact K.ch j y q c h1 hy hq hw2
  · rw [wy_next K.lt h2] at h3; omega
  · obtain ⟨q, hq, hz⟩ := K.fr
    refine ⟨q, hq, ?_⟩
    have c : q ≠ ho := fun e => by
      subst e
      obtain ⟨y, hy, hyo⟩ := K.al q hq (by rw [hz] at *; exact K.hx)
      rw [hz] at hy; cases hy; exact hyo rfl
    rw [hg2 q c]; exact hz
theorem Tk.done {n : Nat} {h : En → Nat} {ps0 ps l : List En} {a0 ho at_ : Nat} (K : Tk n h ps0 a0 ps ho at_) (R : Rp n h ps0 l) {x0 : En} (h0 : ps0[a0]? = some x0) (hz : ps[at_]? = some zE) : Rp n h (ps.set ho zE) (l.filter (fun y => !eqE y x0)) := by
  have hl : ho < ps.length := by rw [K.len]; exact K.lh
  have hg : (ps.set ho zE)[ho]? = some zE := by rw [List.getElem?_set_self hl]
  have hg2 : ∀ k, k ≠ ho → (ps.set ho zE)[k]? = ps[k]? := fun k e => by rw [List.getElem?_set_ne (Ne.symm e)]
  have hne : ∀ k y, y ≠ zE → (ps.set ho zE)[k]? = some y → k ≠ ho := fun k y hy e c => by subst c; rw [hg] at e; cases e; exact hy rfl
  refine ⟨by simp [K.len], K.hn, fun y hy => ?_, fun i j y hi hj hy => ?_, fun j y q hj hy hq hw => ?_⟩
  · simp only [List.mem_filter, Bool.not_eq_eq_eq_not, Bool.not_true]
    constructor
    · intro hm
      obtain ⟨j, hj⟩ := List.getElem?_of_mem hm
      have c := hne j y hy hj
      rw [hg2 j c] at hj
      obtain ⟨k, hk, e⟩ := (K.mem y hy).1 ⟨j, c, hj⟩
      refine ⟨(R.mem y hy).1 (List.mem_of_getElem? e), ?_⟩
      rw [Bool.eq_false_iff]
      intro e2
      obtain rfl := (eqE_iff _ _).1 e2
      exact hk (R.one _ _ _ e h0 hy)
    · rintro ⟨hm, he⟩
      obtain ⟨k, hk⟩ := List.getElem?_of_mem ((R.mem y hy).2 hm)
      have c : k ≠ a0 := fun e => by
        subst e
        rw [h0] at hk
        cases hk
        rw [(eqE_iff x0 x0).2 rfl] at he; cases he
      obtain ⟨j, hj, e⟩ := (K.mem y hy).2 ⟨k, c, hk⟩
      exact List.mem_of_getElem? (i := j) (by rw [hg2 j hj]; exact e)
  · have c1 := hne i y hy hi
    have c2 := hne j y hy hj
    rw [hg2 i c1] at hi
    rw [hg2 j c2] at hj
    exact K.one i j y c1 c2 hi hj hy
  · have c := hne j y hy hj
    rw [hg2 j c] at hj
    have hjn : j < n := by have := (List.getElem?_eq_some_iff.1 hj).1; rw [K.len] at this; exact this
    have hoq := K.ch j y q c hj hy hq hw
    by_cases cq : q = ho
    · exfalso
      subst cq
      have p1 := wy_part (K.hn y) hq hjn (Nat.le_of_lt hw)
      by_cases d : wy n q j < wy n q at_
      · have := K.st j y hjn (by
          rcases Nat.eq_zero_or_pos (wy n q j) with e | e
          · exact absurd (wy_zero hq hjn e).symm c
          · exact e) d hj
        omega
      · have p2 := wy_part hq K.lt hjn (by omega)
        have hat : Oc ps at_ := by
          by_cases e : at_ = j
          · rw [e]; exact ⟨y, hj, hy⟩
          · refine K.ch j y at_ c hj hy K.lt ?_
            have p3 : wy n at_ j ≠ 0 := fun e2 => e (wy_zero K.lt hjn e2)
            have p4 : wy n at_ j ≤ wy n (h y) j := by omega
            have := wy_back (K.hn y) K.lt hjn p4
            omega
        obtain ⟨z, h1, h2⟩ := hat
        rw [hz] at h1
        cases h1
        exact h2 rfl
    · unfold Oc
      rw [hg2 q cq]
      exact hoq
end Go.Proofs.YtgpdjfaklcmoiaaGreat
