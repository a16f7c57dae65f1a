/- Plain facts: changes, what they make of entries in order; a map's list of entries, in the order in which they were put in. Nothing of the program. -/
import Derived.Test.YtjlmheecefobaaaA1
namespace Go.Proofs.Ytjlmheecefobaaa
open Go.RowKit

/-- A change: its number, its entry, and whether it is gone. -/
structure Ch where
  q : Int
  x : En
  g : Bool
def eqC (a b : Ch) : Bool := a.q == b.q && (eqE a.x b.x && a.g == b.g)
theorem eqC_iff (a b : Ch) : eqC a b = true ↔ a = b := by
  cases a; cases b; simp [eqC, eqE_iff]
def zC : Ch := ⟨0, zE, false⟩
/-- An entry as it comes in. -/
structure Eok (x : En) : Prop where
  m : Mok x.m
  v : I64 x.v
theorem eok_z : Eok zE := ⟨mok_z, by simp [I64, zE]⟩
/-- What one change does; what all of them make of some entries. -/
def dn (l : List En) (c : Ch) : List En := if c.g then rm l c.x.v c.x.m else up l c.x
def srt (l : List En) : List En := l.foldl up []
def rep (l : List En) (cs : List Ch) : List En := cs.foldl dn (srt l)
theorem up_rm (l : List En) (x : En) (hx : Mok x.m) (hm : ∀ z ∈ l, Mok z.m) : up (rm l x.v x.m) x = up l x := by
  unfold up rm
  rw [List.filter_filter, List.filter_filter]
  have h : ∀ z ∈ l, (ky z x.v x.m = true ↔ ke z = ke x) := fun z hz => by rw [ky_ke (hm z hz) hx]; rfl
  congr 1
  · refine List.filter_congr (fun z hz => ?_)
    have := h z hz
    rcases Bool.eq_false_or_eq_true (ky z x.v x.m) with e | e
    · rw [e]
      have := this.1 e
      simp; omega
    · rw [e]; simp
  · congr 1
    refine List.filter_congr (fun z hz => ?_)
    have := h z hz
    rcases Bool.eq_false_or_eq_true (ky z x.v x.m) with e | e
    · rw [e]
      have := this.1 e
      simp; omega
    · rw [e]; simp
theorem dn_srt {l : List En} (h : Srt l) (c : Ch) : Srt (dn l c) := by
  unfold dn
  split
  · exact rm_srt h _ _
  · exact up_srt h _
theorem foldl_up_srt : ∀ (l : List En) {s : List En}, Srt s → Srt (l.foldl up s)
  | [], _, h => h
  | x :: r, _, h => foldl_up_srt r (up_srt h x)
theorem foldl_dn_srt : ∀ (cs : List Ch) {s : List En}, Srt s → Srt (cs.foldl dn s)
  | [], _, h => h
  | c :: r, _, h => foldl_dn_srt r (dn_srt h c)
theorem srt_nil : Srt [] := List.Pairwise.nil
theorem srt_srt (l : List En) : Srt (srt l) := foldl_up_srt l srt_nil
theorem rep_srt (l : List En) (cs : List Ch) : Srt (rep l cs) := foldl_dn_srt cs (srt_srt l)
/-- A list in order is what is put in, one by one. -/
theorem up_last {l : List En} {x : En} (h : ∀ y ∈ l, ke y < ke x) : up l x = l ++ [x] := by
  unfold up
  rw [List.filter_eq_self.2 (fun y hy => by simpa using h y hy)]
  rw [List.filter_eq_nil_iff.2 (fun y hy => by have := h y hy; simp; omega)]
theorem foldl_up_id : ∀ (l s : List En), Srt (s ++ l) → l.foldl up s = s ++ l
  | [], s, _ => by simp
  | x :: r, s, h => by
    rw [List.foldl_cons, up_last (fun y hy => (List.pairwise_append.1 h).2.2 y hy x (by simp)), foldl_up_id r _ (by simpa using h)]
    simp
theorem srt_id {l : List En} (h : Srt l) : srt l = l := by
  have := foldl_up_id l [] (by simpa using h)
  simpa [srt] using this
theorem rep_parts (l : List En) (a b : List Ch) : rep l (a ++ b) = rep (rep l a) b := by
  unfold rep
  rw [List.foldl_append]
  congr 1
  exact (srt_id (rep_srt l a)).symm
theorem rep_nil (l : List En) : rep l [] = srt l := rfl
theorem rep_one {l : List En} (h : Srt l) (c : Ch) : rep l [c] = dn l c := by
  unfold rep
  rw [srt_id h]; rfl
theorem rep_of_srt {l : List En} (h : Srt l) (cs : List Ch) : rep l cs = cs.foldl dn l := by
  unfold rep
  rw [srt_id h]
/-- All of them as they come in. -/
theorem up_all {p : En → Prop} {l : List En} {x : En} (h : ∀ z ∈ l, p z) (hx : p x) : ∀ z ∈ up l x, p z := fun z hz => by
  rcases up_mem.1 hz with rfl | ⟨h1, _⟩
  · exact hx
  · exact h z h1
theorem dn_all {p : En → Prop} {l : List En} {c : Ch} (h : ∀ z ∈ l, p z) (hx : p c.x) : ∀ z ∈ dn l c, p z := fun z hz => by
  unfold dn at hz
  split at hz
  · exact h z (rm_mem.1 hz).1
  · exact up_all h hx z hz
theorem foldl_up_all {p : En → Prop} : ∀ (l s : List En), (∀ z ∈ s, p z) → (∀ z ∈ l, p z) → ∀ z ∈ l.foldl up s, p z
  | [], _, h, _ => h
  | x :: r, _, h, g => foldl_up_all r _ (up_all h (g x (by simp))) (fun z hz => g z (by simp [hz]))
theorem foldl_dn_all {p : En → Prop} : ∀ (cs : List Ch) (s : List En), (∀ z ∈ s, p z) → (∀ c ∈ cs, p c.x) → ∀ z ∈ cs.foldl dn s, p z
  | [], _, h, _ => h
  | c :: r, _, h, g => foldl_dn_all r _ (dn_all h (g c (by simp))) (fun z hz => g z (by simp [hz]))
theorem rep_all {p : En → Prop} {l : List En} {cs : List Ch} (h : ∀ z ∈ l, p z) (g : ∀ c ∈ cs, p c.x) : ∀ z ∈ rep l cs, p z :=
  foldl_dn_all cs _ (foldl_up_all l [] (fun z hz => by simp at hz) h) g
theorem filter2_le (l : List En) (k : Int) : (l.filter (fun y => decide (ke y < k))).length + (l.filter (fun y => decide (k < ke y))).length ≤ l.length := by
  induction l with
  | nil => simp
  | cons y r ih =>
    rw [List.filter_cons, List.filter_cons]
    by_cases c1 : ke y < k
    · have c2 : ¬ k < ke y := by omega
      simp [c1, c2] at ih ⊢; omega
    · by_cases c2 : k < ke y
      · simp [c1, c2] at ih ⊢; omega
      · simp [c1, c2] at ih ⊢; omega
theorem up_le (l : List En) (x : En) : (up l x).length ≤ l.length + 1 := by
  unfold up
  rw [List.length_append, List.length_cons]
  have := filter2_le l (ke x)
  omega
theorem rm_le (l : List En) (v : Int) (m : Mc) : (rm l v m).length ≤ l.length := List.length_filter_le _ _
theorem dn_le (l : List En) (c : Ch) : (dn l c).length ≤ l.length + 1 := by
  unfold dn
  split
  · have := rm_le l c.x.v c.x.m; omega
  · exact up_le _ _
theorem foldl_up_le : ∀ (l s : List En), (l.foldl up s).length ≤ s.length + l.length
  | [], s => by simp
  | x :: r, s => by
    have := foldl_up_le r (up s x)
    have := up_le s x
    simp; omega
theorem foldl_dn_le : ∀ (cs : List Ch) (s : List En), (cs.foldl dn s).length ≤ s.length + cs.length
  | [], s => by simp
  | c :: r, s => by
    have := foldl_dn_le r (dn s c)
    have := dn_le s c
    simp; omega
theorem srt_le (l : List En) : (srt l).length ≤ l.length := by
  have := foldl_up_le l []
  simpa [srt] using this
theorem rep_le (l : List En) (cs : List Ch) : (rep l cs).length ≤ l.length + cs.length := by
  have := foldl_dn_le cs (srt l)
  have := srt_le l
  unfold rep; omega

/-- The map's list: put in anew, or behind the others. -/
def pt (l : List En) (x : En) : List En := if hs l x.v x.m then l.set (ix l x.v x.m) x else l ++ [x]
/-- No two of one key. -/
def Apt (l : List En) : Prop := l.Pairwise (fun x y => ke x ≠ ke y)
def Ok (l : List En) : Prop := ∀ x ∈ l, Eok x
theorem apt_srt {l : List En} (h : Srt l) : Apt l := List.Pairwise.imp (fun {x y} h => by omega) h
theorem apt_get {l : List En} (h : Apt l) {i j : Nat} {x y : En} (hi : l[i]? = some x) (hj : l[j]? = some y) (e : ke x = ke y) : i = j := by
  obtain ⟨h1, rfl⟩ := List.getElem?_eq_some_iff.1 hi
  obtain ⟨h2, rfl⟩ := List.getElem?_eq_some_iff.1 hj
  rcases Nat.lt_trichotomy i j with c | c | c
  · exact absurd e ((List.pairwise_iff_getElem.1 h) i j h1 h2 c)
  · exact c
  · exact absurd e.symm ((List.pairwise_iff_getElem.1 h) j i h2 h1 c)
theorem key_of {l : List En} (h : Ok l) {v : Int} {m : Mc} (hm : Mok m) {x : En} (hx : x ∈ l) : ky x v m = true ↔ ke x = kn v m := ky_ke (h x hx).m hm
theorem ix_of_get' {l : List En} (h : Apt l) (ho : Ok l) {v : Int} {m : Mc} (hm : Mok m) {j : Nat} {x : En} (hj : l[j]? = some x) (hk : ky x v m = true) : ix l v m = j ∧ hs l v m = true ∧ lk l v m = x := by
  have h1 : hs l v m = true := hs_mem.2 ⟨x, List.mem_of_getElem? hj, hk⟩
  have h2 := ix_get l v m h1
  have h3 := lk_ky l v m h1
  have e1 := (key_of ho hm (List.mem_of_getElem? hj)).1 hk
  have e2 := (key_of ho hm (List.mem_of_getElem? h2)).1 h3
  have e3 := apt_get h h2 hj (by omega)
  rw [e3, hj] at h2
  exact ⟨e3, h1, (Option.some.inj h2).symm⟩
theorem pt_mem {l : List En} (h : Apt l) (ho : Ok l) {x z : En} (hx : Mok x.m) : z ∈ pt l x ↔ z = x ∨ z ∈ l ∧ ke z ≠ ke x := by
  unfold pt
  split
  · next hh =>
    have h2 := ix_get l x.v x.m hh
    have h3 := (key_of ho hx (List.mem_of_getElem? h2)).1 (lk_ky l x.v x.m hh)
    have hlt := (hs_ix l x.v x.m).1 hh
    constructor
    · intro hz
      obtain ⟨j, hj⟩ := List.getElem?_of_mem hz
      rw [List.getElem?_set] at hj
      split at hj
      · exact Or.inl (by first | exact (Option.some.inj hj).symm | (split at hj; exact (Option.some.inj hj).symm; cases hj))
      · refine Or.inr ⟨List.mem_of_getElem? hj, fun e => ?_⟩
        have := apt_get h h2 hj (h3.trans e.symm)
        contradiction
    · rintro (rfl | ⟨hz, hne⟩)
      · exact List.mem_of_getElem? (i := ix l z.v z.m) (by simp [hlt])
      · obtain ⟨j, hj⟩ := List.getElem?_of_mem hz
        have hne2 : ix l x.v x.m ≠ j := fun c => by
          rw [c, hj] at h2
          rw [← Option.some.inj h2] at h3
          exact hne h3
        exact List.mem_of_getElem? (i := j) (by rw [List.getElem?_set_ne hne2]; exact hj)
  · next hh =>
    have hn := hs_no (by simpa using hh)
    simp only [List.mem_append, List.mem_singleton]
    constructor
    · rintro (hz | hz)
      · refine Or.inr ⟨hz, fun e => ?_⟩
        have := hn z hz
        rw [(key_of ho hx hz).2 e] at this
        cases this
      · exact Or.inl hz
    · rintro (hz | ⟨hz, _⟩)
      · exact Or.inr hz
      · exact Or.inl hz
theorem pt_apt {l : List En} (h : Apt l) (ho : Ok l) {x : En} (hx : Mok x.m) : Apt (pt l x) := by
  unfold pt
  split
  · next hh =>
    have h2 := ix_get l x.v x.m hh
    have h3 := (key_of ho hx (List.mem_of_getElem? h2)).1 (lk_ky l x.v x.m hh)
    unfold Apt
    rw [List.pairwise_iff_getElem]
    intro i j hi hj hij
    rw [List.length_set] at hi hj
    rw [List.getElem_set, List.getElem_set]
    have hl : ∀ k (hk : k < l.length), ix l x.v x.m ≠ k → ke l[k] ≠ ke x := fun k hk hne e => hne (apt_get h h2 (List.getElem?_eq_getElem hk) (h3.trans e.symm))
    split
    · next c1 =>
      rw [if_neg (by omega)]
      exact fun e => hl j hj (by omega) e.symm
    · next c1 =>
      split
      · exact hl i hi c1
      · exact (List.pairwise_iff_getElem.1 h) i j hi hj hij
  · next hh =>
    have hn := hs_no (by simpa using hh)
    unfold Apt
    rw [List.pairwise_append]
    refine ⟨h, by simp, fun a ha b hb => ?_⟩
    obtain rfl := List.mem_singleton.1 hb
    intro e
    have := hn a ha
    rw [(key_of ho hx ha).2 e] at this
    cases this
theorem pt_ok {l : List En} (ho : Ok l) {x : En} (hx : Eok x) : Ok (pt l x) := by
  unfold pt
  split
  · intro z hz
    rcases List.mem_or_eq_of_mem_set hz with h | h
    · exact ho z h
    · rw [h]; exact hx
  · intro z hz
    rcases List.mem_append.1 hz with h | h
    · exact ho z h
    · rw [List.mem_singleton.1 h]; exact hx
theorem rm_apt {l : List En} (h : Apt l) (v : Int) (m : Mc) : Apt (rm l v m) := List.Pairwise.filter _ h
theorem rm_ok {l : List En} (h : Ok l) (v : Int) (m : Mc) : Ok (rm l v m) := fun z hz => h z (rm_mem.1 hz).1
theorem rm_erase {l : List En} (h : Apt l) (ho : Ok l) {v : Int} {m : Mc} (hm : Mok m) : rm l v m = l.eraseIdx (ix l v m) := by
  induction l with
  | nil => simp [rm]
  | cons x r ih =>
    obtain ⟨h1, h2⟩ := List.pairwise_cons.1 h
    have ho2 : Ok r := fun z hz => ho z (by simp [hz])
    have i2 := ih h2 ho2
    unfold rm at i2 ⊢
    unfold ix
    rw [List.filter_cons]
    rcases Bool.eq_false_or_eq_true (ky x v m) with e | e
    · rw [e]
      simp
      intro y hy
      rw [Bool.eq_false_iff]
      intro hc
      have e1 := (key_of ho hm (by simp)).1 e
      have e2 := (key_of ho2 hm hy).1 hc
      exact h1 y hy (by omega)
    · rw [e]
      simp [i2]
/-- Two lists of the same entries. -/
def Eqv (l s : List En) : Prop := ∀ z, z ∈ l ↔ z ∈ s
theorem eqv_up {l s : List En} (h : Eqv l s) (ha : Apt l) (ho : Ok l) {x : En} (hx : Mok x.m) : Eqv (pt l x) (up s x) := fun z => by
  rw [pt_mem ha ho hx, up_mem, h z]
theorem eqv_rm {l s : List En} (h : Eqv l s) (v : Int) (m : Mc) : Eqv (rm l v m) (rm s v m) := fun z => by
  rw [rm_mem, rm_mem, h z]
theorem pt_le (l : List En) (x : En) : (pt l x).length ≤ l.length + 1 := by
  unfold pt
  split <;> simp
/-- What is sorted out of the map is what there is. -/
theorem sorted_eq {l s k : List En} (h : Eqv l s) (ha : Apt l) (hs : Srt s) (hp : k.Perm l) (hk : k.Pairwise (fun x y => ke x ≤ ke y)) : k = s := by
  have h1 : k.Pairwise (fun x y => ke x ≠ ke y) := (hp.pairwise_iff (fun {x y} h => Ne.symm h)).2 ha
  have h2 : Srt k := List.Pairwise.imp (fun {x y} h => by have := h.1; have := h.2; omega) (List.Pairwise.and hk h1)
  exact h2.ext hs (fun z => by rw [hp.mem_iff, h z])

/-- What the last of some changes told of a key. -/
def la : List Ch → Int → Option Ch
  | [], _ => none
  | c :: r, k => match la r k with
    | some d => some d
    | none => if ke c.x = k then some c else none
theorem fold_mem : ∀ (cs : List Ch) {s : List En}, Srt s → (∀ z ∈ s, Mok z.m) → (∀ c ∈ cs, Mok c.x.m) → ∀ z, z ∈ cs.foldl dn s ↔ (match la cs (ke z) with
    | some c => c.g = false ∧ z = c.x
    | none => z ∈ s)
  | [], s, _, _, _, z => by simp [la]
  | c :: r, s, hs, hm, hc, z => by
    rw [List.foldl_cons, fold_mem r (dn_srt hs c) (dn_all (p := fun z => Mok z.m) hm (hc c (by simp))) (fun d hd => hc d (by simp [hd])) z]
    rw [la]
    cases h : la r (ke z) with
    | some d => simp
    | none =>
      simp only
      by_cases e : ke c.x = ke z
      · rw [if_pos e]
        simp only
        unfold dn
        cases hg : c.g
        · simp only [Bool.false_eq_true, if_false, true_and]
          rw [up_mem]
          constructor
          · rintro (h1 | ⟨_, h2⟩)
            · exact h1
            · exact absurd e.symm h2
          · exact Or.inl
        · simp only [if_true, Bool.true_eq_false, false_and, iff_false]
          intro hz
          obtain ⟨h1, h2⟩ := rm_mem.1 hz
          rw [(ky_ke (hm z h1) (hc c (by simp))).2 e.symm] at h2
          cases h2
      · rw [if_neg e]
        simp only
        unfold dn
        cases hg : c.g
        · simp only [Bool.false_eq_true, if_false]
          rw [up_mem]
          constructor
          · rintro (h1 | ⟨h1, _⟩)
            · exact absurd (by rw [h1]) e
            · exact h1
          · intro h1; exact Or.inr ⟨h1, fun h2 => e h2.symm⟩
        · simp only [if_true]
          rw [rm_mem]
          constructor
          · exact And.left
          · intro h1
            refine ⟨h1, ?_⟩
            rw [Bool.eq_false_iff]
            intro h2
            exact e ((ky_ke (hm z h1) (hc c (by simp))).1 h2).symm
theorem la_some : ∀ {cs : List Ch} {k : Int}, (∃ c ∈ cs, ke c.x = k) → ∃ d, la cs k = some d
  | [], k, ⟨c, h, _⟩ => by simp at h
  | c :: r, k, ⟨d, h, e⟩ => by
    rw [la]
    cases hr : la r k with
    | some d => exact ⟨d, rfl⟩
    | none =>
      rcases List.mem_cons.1 h with rfl | h
      · exact ⟨d, by simp [e]⟩
      · obtain ⟨d2, h2⟩ := la_some ⟨d, h, e⟩
        rw [hr] at h2; cases h2
/-- Replayed twice they are as once. -/
theorem rep_again {l : List En} {cs : List Ch} (hl : ∀ z ∈ l, Mok z.m) (hc : ∀ c ∈ cs, Mok c.x.m) : rep (rep l cs) cs = rep l cs := by
  have hs := rep_srt l cs
  have hm := rep_all (p := fun z => Mok z.m) hl hc
  rw [rep_of_srt hs]
  refine (foldl_dn_srt cs hs).ext hs (fun z => ?_)
  rw [fold_mem cs hs hm hc z]
  cases h : la cs (ke z) with
  | none => simp
  | some d =>
    simp only
    unfold rep
    rw [fold_mem cs (srt_srt l) (foldl_up_all (p := fun z => Mok z.m) l [] (fun z hz => by simp at hz) hl) hc z, h]
/-- Wherever a change was both have the same. -/
theorem rep_same {a b : List En} {cs : List Ch} (ha : ∀ z ∈ a, Mok z.m) (hb : ∀ z ∈ b, Mok z.m) (hc : ∀ c ∈ cs, Mok c.x.m) {c : Ch} (h : c ∈ cs) :
    hs (rep a cs) c.x.v c.x.m = hs (rep b cs) c.x.v c.x.m ∧ lk (rep a cs) c.x.v c.x.m = lk (rep b cs) c.x.v c.x.m := by
  have hm := hc c h
  have key : ∀ z, ke z = ke c.x → (z ∈ rep a cs ↔ z ∈ rep b cs) := fun z hz => by
    obtain ⟨d, hd⟩ := la_some (cs := cs) (k := ke z) ⟨c, h, hz.symm⟩
    unfold rep
    rw [fold_mem cs (srt_srt a) (foldl_up_all (p := fun z => Mok z.m) a [] (fun z hz => by simp at hz) ha) hc z, fold_mem cs (srt_srt b) (foldl_up_all (p := fun z => Mok z.m) b [] (fun z hz => by simp at hz) hb) hc z, hd]
  have oa := rep_all (p := fun z => Mok z.m) ha hc
  have ob := rep_all (p := fun z => Mok z.m) hb hc
  have e1 : hs (rep a cs) c.x.v c.x.m = hs (rep b cs) c.x.v c.x.m := by
    rw [Bool.eq_iff_iff, hs_mem, hs_mem]
    constructor
    · rintro ⟨z, hz, hk⟩
      exact ⟨z, (key z ((ky_ke (oa z hz) hm).1 hk)).1 hz, hk⟩
    · rintro ⟨z, hz, hk⟩
      exact ⟨z, (key z ((ky_ke (ob z hz) hm).1 hk)).2 hz, hk⟩
  refine ⟨e1, ?_⟩
  rcases Bool.eq_false_or_eq_true (hs (rep a cs) c.x.v c.x.m) with h1 | h1
  · have h2 := h1
    rw [e1] at h2
    have m1 := lk_mem h1
    have k1 := (ky_ke (oa _ m1) hm).1 (lk_ky _ _ _ h1)
    have m2 := lk_mem h2
    have k2 := (ky_ke (ob _ m2) hm).1 (lk_ky _ _ _ h2)
    exact (rep_srt b cs).one ((key _ k1).1 m1) m2 (by omega)
  · rw [lk_no _ _ _ h1, lk_no _ _ _ (e1 ▸ h1)]
end Go.Proofs.Ytjlmheecefobaaa
