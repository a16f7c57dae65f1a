/- Plain facts: a table as a list of members and a list of native VLANs; a frame as numbers. Nothing of the program. -/
import Derived.WalkKit
import Derived.Handy
namespace Go.Proofs.Ytelinahpneikiaa
open Go.RowKit

/-- A member: of a VLAN a port, its frames tagged or not. -/
structure Mm where
  v : Int
  p : Int
  t : Bool
/-- A table: how many ports, the members, the native VLANs. -/
structure Tb where
  n : Nat
  l : List Mm
  ns : List Int
/-- Is this the member? -/
def mt (m : Mm) (v p : Int) : Bool := m.v == v && m.p == p
def hs : List Mm → Int → Int → Bool
  | [], _, _ => false
  | m :: r, v, p => mt m v p || hs r v p
def ix : List Mm → Int → Int → Nat
  | [], _, _ => 0
  | m :: r, v, p => if mt m v p then 0 else ix r v p + 1
def tgd : List Mm → Int → Int → Bool
  | [], _, _ => false
  | m :: r, v, p => if mt m v p then m.t else tgd r v p
def ad : List Mm → Int → Int → Bool → List Mm
  | [], v, p, t => [⟨v, p, t⟩]
  | m :: r, v, p, t => if mt m v p then ⟨v, p, t⟩ :: r else m :: ad r v p t
def rm : List Mm → Int → Int → List Mm
  | [], _, _ => []
  | m :: r, v, p => if mt m v p then r else m :: rm r v p
/-- What Find tells. -/
def fx (l : List Mm) (v p : Int) : Int := if hs l v p then (ix l v p : Int) else -1

theorem hs_cons (m : Mm) (r : List Mm) (v p : Int) : hs (m :: r) v p = (mt m v p || hs r v p) := rfl
theorem ix_cons (m : Mm) (r : List Mm) (v p : Int) : ix (m :: r) v p = if mt m v p then 0 else ix r v p + 1 := rfl
theorem mt_iff (m : Mm) (v p : Int) : mt m v p = true ↔ m.v = v ∧ m.p = p := by simp [mt]
theorem hs_ix : ∀ (l : List Mm) (v p : Int), hs l v p = true ↔ ix l v p < l.length
  | [], v, p => by simp [hs, ix]
  | m :: r, v, p => by
    have := hs_ix r v p
    unfold hs ix
    cases h : mt m v p
    · simp [this]
    · simp
theorem ix_le : ∀ (l : List Mm) (v p : Int), ix l v p ≤ l.length
  | [], v, p => by simp [ix]
  | m :: r, v, p => by
    have := ix_le r v p
    unfold ix
    split
    · simp
    · simp; omega
theorem ix_get : ∀ (l : List Mm) (v p : Int), hs l v p = true → l[ix l v p]? = some ⟨v, p, tgd l v p⟩
  | [], v, p, h => by simp [hs] at h
  | m :: r, v, p, h => by
    have ih := ix_get r v p
    unfold hs at h
    unfold ix tgd
    cases hm : mt m v p
    · rw [hm] at h
      simp at h
      simp [ih h]
    · have := (mt_iff m v p).1 hm
      obtain ⟨a, b, c⟩ := m
      simp at this
      simp [this.1, this.2]
theorem ad_set : ∀ (l : List Mm) (v p : Int) (t : Bool), hs l v p = true → ad l v p t = l.set (ix l v p) ⟨v, p, t⟩
  | [], v, p, t, h => by simp [hs] at h
  | m :: r, v, p, t, h => by
    have ih := ad_set r v p t
    unfold hs at h
    unfold ad ix
    cases hm : mt m v p
    · rw [hm] at h
      simp at h
      simp [ih h]
    · simp
theorem ad_push : ∀ (l : List Mm) (v p : Int) (t : Bool), hs l v p = false → ad l v p t = l ++ [⟨v, p, t⟩]
  | [], v, p, t, _ => rfl
  | m :: r, v, p, t, h => by
    have ih := ad_push r v p t
    unfold hs at h
    simp only [Bool.or_eq_false_iff] at h
    unfold ad
    rw [h.1]
    simp [ih h.2]
theorem rm_erase : ∀ (l : List Mm) (v p : Int), rm l v p = l.eraseIdx (ix l v p)
  | [], v, p => by simp [rm]
  | m :: r, v, p => by
    have ih := rm_erase r v p
    unfold rm ix
    cases hm : mt m v p
    · simp [ih]
    · simp
theorem rm_take (l : List Mm) (v p : Int) : rm l v p = l.take (ix l v p) ++ l.drop (ix l v p + 1) := by
  rw [rm_erase, List.eraseIdx_eq_take_drop_succ]
/-- All keys apart. -/
def Apart (l : List Mm) : Prop := l.Pairwise (fun a b => ¬ (a.v = b.v ∧ a.p = b.p))
theorem hs_mem : ∀ (l : List Mm) (v p : Int), hs l v p = true ↔ ∃ m ∈ l, m.v = v ∧ m.p = p
  | [], v, p => by simp [hs]
  | m :: r, v, p => by
    have := hs_mem r v p
    unfold hs
    simp [this, mt_iff]
theorem hs_ad : ∀ (l : List Mm) (v p : Int) (t : Bool) (v' p' : Int), hs (ad l v p t) v' p' = (mt ⟨v, p, t⟩ v' p' || hs l v' p')
  | [], v, p, t, v', p' => by simp [ad, hs]
  | m :: r, v, p, t, v', p' => by
    have ih := hs_ad r v p t v' p'
    unfold ad
    cases hm : mt m v p
    · simp only [Bool.false_eq_true, if_false]
      unfold hs
      rw [ih]
      cases mt m v' p' <;> cases mt ⟨v, p, t⟩ v' p' <;> rfl
    · have e := (mt_iff m v p).1 hm
      simp only [if_true]
      unfold hs
      have : mt m v' p' = mt ⟨v, p, t⟩ v' p' := by simp [mt, e.1, e.2]
      rw [this]
      cases mt ⟨v, p, t⟩ v' p' <;> rfl
theorem mem_rm {l : List Mm} {v p : Int} {m : Mm} (h : m ∈ rm l v p) : m ∈ l := by
  rw [rm_erase] at h
  exact (List.eraseIdx_sublist _ _).subset h
theorem hs_rm : ∀ (l : List Mm) (v p : Int), Apart l → ∀ v' p', hs (rm l v p) v' p' = (hs l v' p' && !mt ⟨v, p, false⟩ v' p')
  | [], v, p, _, v', p' => by simp [rm, hs]
  | m :: r, v, p, hA, v', p' => by
    obtain ⟨h1, h2⟩ := List.pairwise_cons.1 hA
    have ih := hs_rm r v p h2 v' p'
    unfold rm
    cases hm : mt m v p
    · simp only [Bool.false_eq_true, if_false]
      unfold hs
      rw [ih]
      cases hx : mt m v' p'
      · simp
      · have e := (mt_iff m v' p').1 hx
        have : mt ⟨v, p, false⟩ v' p' = false := by
          rw [Bool.eq_false_iff]
          intro hc
          have e2 := (mt_iff ⟨v, p, false⟩ v' p').1 hc
          simp at e2
          have : mt m v p = true := (mt_iff m v p).2 ⟨e.1.trans e2.1.symm, e.2.trans e2.2.symm⟩
          rw [hm] at this
          cases this
        simp [this]
    · have e := (mt_iff m v p).1 hm
      simp only [if_true]
      rw [hs_cons]
      have e3 : mt m v' p' = mt ⟨v, p, false⟩ v' p' := by simp [mt, e.1, e.2]
      rw [e3]
      cases hx : mt ⟨v, p, false⟩ v' p'
      · simp
      · simp only [Bool.true_or, Bool.not_true, Bool.and_false]
        rw [Bool.eq_false_iff]
        intro hc
        obtain ⟨m', hm', e4⟩ := (hs_mem r v' p').1 hc
        have e5 := (mt_iff ⟨v, p, false⟩ v' p').1 hx
        simp at e5
        exact h1 m' hm' ⟨e.1.trans (e5.1.trans e4.1.symm), e.2.trans (e5.2.trans e4.2.symm)⟩
theorem tgd_ad : ∀ (l : List Mm) (v p : Int) (t : Bool), tgd (ad l v p t) v p = t
  | [], v, p, t => by simp [ad, tgd, mt]
  | m :: r, v, p, t => by
    have ih := tgd_ad r v p t
    unfold ad
    cases hm : mt m v p
    · simp [tgd, hm, ih]
    · simp [tgd, mt]
theorem apart_ad {l : List Mm} {v p : Int} {t : Bool} (h : Apart l) : Apart (ad l v p t) := by
  induction l with
  | nil => simp [ad, Apart]
  | cons m r ih =>
    obtain ⟨h1, h2⟩ := List.pairwise_cons.1 h
    unfold ad
    cases hm : mt m v p
    · simp only [Bool.false_eq_true, if_false]
      refine List.pairwise_cons.2 ⟨fun b hb e => ?_, ih h2⟩
      have hb' : hs (ad r v p t) m.v m.p = true := (hs_mem _ _ _).2 ⟨b, hb, e.1.symm, e.2.symm⟩
      rw [hs_ad] at hb'
      simp only [Bool.or_eq_true] at hb'
      rcases hb' with hb' | hb'
      · have e2 := (mt_iff ⟨v, p, t⟩ _ _).1 hb'
        simp at e2
        have : mt m v p = true := (mt_iff m v p).2 ⟨e2.1.symm, e2.2.symm⟩
        rw [hm] at this
        cases this
      · obtain ⟨m', hm', e4⟩ := (hs_mem r _ _).1 hb'
        exact h1 m' hm' ⟨e4.1.symm, e4.2.symm⟩
    · simp only [if_true]
      have e := (mt_iff m v p).1 hm
      refine List.pairwise_cons.2 ⟨fun b hb e2 => h1 b hb ?_, h2⟩
      simp at e2
      exact ⟨e.1.trans e2.1, e.2.trans e2.2⟩
theorem apart_rm {l : List Mm} {v p : Int} (h : Apart l) : Apart (rm l v p) := by
  rw [rm_erase]
  exact List.Pairwise.sublist (List.eraseIdx_sublist _ _) h
theorem mem_ad : ∀ {l : List Mm} {v p : Int} {t : Bool} {m : Mm}, m ∈ ad l v p t → m ∈ l ∨ m = ⟨v, p, t⟩
  | [], v, p, t, m, h => by simp [ad] at h; exact Or.inr h
  | x :: r, v, p, t, m, h => by
    unfold ad at h
    split at h
    · rcases List.mem_cons.1 h with h | h
      · exact Or.inr h
      · exact Or.inl (by simp [h])
    · rcases List.mem_cons.1 h with h | h
      · exact Or.inl (by simp [h])
      · rcases mem_ad h with h | h
        · exact Or.inl (by simp [h])
        · exact Or.inr h
theorem len_ad : ∀ (l : List Mm) (v p : Int) (t : Bool), (ad l v p t).length ≤ l.length + 1
  | [], v, p, t => by simp [ad]
  | m :: r, v, p, t => by
    have := len_ad r v p t
    unfold ad
    split
    · simp
    · simp; omega
theorem len_rm (l : List Mm) (v p : Int) : (rm l v p).length ≤ l.length := by
  rw [rm_erase]
  exact (List.eraseIdx_sublist _ _).length_le
/-- What Find has yet to look at. -/
theorem ix_drop (l : List Mm) (v p : Int) {i : Nat} {m : Mm} (h : l[i]? = some m) (hi : ix l v p = i + ix (l.drop i) v p) :
    (mt m v p = true → ix l v p = i ∧ i < l.length) ∧ (mt m v p = false → ix l v p = (i + 1) + ix (l.drop (i + 1)) v p) := by
  have hl : i < l.length := (List.getElem?_eq_some_iff.1 h).1
  have e : l.drop i = m :: l.drop (i + 1) := by
    rw [List.drop_eq_getElem_cons hl]
    congr 1
    rw [List.getElem?_eq_getElem hl] at h
    exact Option.some.inj h
  rw [e, ix_cons] at hi
  constructor
  · intro hm
    rw [hm, if_pos rfl] at hi
    exact ⟨hi, hl⟩
  · intro hm
    rw [hm, if_neg (by simp)] at hi
    omega
theorem ix_end (l : List Mm) (v p : Int) {i : Nat} (h : l.length ≤ i) (hi : ix l v p = i + ix (l.drop i) v p) : hs l v p = false := by
  rw [Bool.eq_false_iff]
  intro hc
  have := (hs_ix l v p).1 hc
  omega
/-- A table that may be. -/
structure Wf (T : Tb) : Prop where
  n1 : 1 ≤ T.n
  n64 : T.n ≤ 64
  ns : T.ns.length = T.n
  ap : Apart T.l
  mem : ∀ m ∈ T.l, 1 ≤ m.v ∧ m.v ≤ 4094 ∧ 0 ≤ m.p ∧ m.p < T.n
  nat : ∀ x ∈ T.ns, 0 ≤ x ∧ x ≤ 4094
def isV (v : Int) : Bool := decide (1 ≤ v ∧ v ≤ 4094)
def hp (T : Tb) (p : Int) : Bool := decide (0 ≤ p ∧ p < T.n)
theorem isV_iff (v : Int) : isV v = true ↔ 1 ≤ v ∧ v ≤ 4094 := by simp [isV]
theorem hp_iff (T : Tb) (p : Int) : hp T p = true ↔ 0 ≤ p ∧ p < T.n := by simp [hp]
theorem Wf.has {T : Tb} (h : Wf T) {v p : Int} (hh : hs T.l v p = true) : isV v = true ∧ hp T p = true := by
  obtain ⟨m, hm, rfl, rfl⟩ := (hs_mem _ _ _).1 hh
  have := h.mem m hm
  exact ⟨(isV_iff _).2 ⟨this.1, this.2.1⟩, (hp_iff _ _).2 ⟨this.2.2.1, this.2.2.2⟩⟩
/-- The three deeds. -/
def tAdd (T : Tb) (v p : Int) (t : Bool) : Tb := if isV v && hp T p then ⟨T.n, ad T.l v p t, T.ns⟩ else T
def eAdd (T : Tb) (v p : Int) : Int := if isV v && hp T p then 0 else 1
def tRm (T : Tb) (v p : Int) : Tb := if isV v && hp T p then ⟨T.n, rm T.l v p, T.ns⟩ else T
def eRm (T : Tb) (v p : Int) : Int := if isV v && hp T p then (if hs T.l v p then 0 else 4) else 1
def tNat (T : Tb) (p v : Int) : Tb := if hp T p && (v == 0 || isV v) then ⟨T.n, T.l, T.ns.set p.toNat v⟩ else T
def eNat (T : Tb) (p v : Int) : Int := if hp T p && (v == 0 || isV v) then 0 else 1
theorem Wf.add {T : Tb} (h : Wf T) (v p : Int) (t : Bool) : Wf (tAdd T v p t) := by
  unfold tAdd
  split
  · rename_i hc
    simp only [Bool.and_eq_true] at hc
    have hv := (isV_iff v).1 hc.1
    have hp := (hp_iff T p).1 hc.2
    refine ⟨h.n1, h.n64, h.ns, apart_ad h.ap, fun m hm => ?_, h.nat⟩
    rcases mem_ad hm with hm | rfl
    · exact h.mem m hm
    · exact ⟨hv.1, hv.2, hp.1, hp.2⟩
  · exact h
theorem Wf.rem {T : Tb} (h : Wf T) (v p : Int) : Wf (tRm T v p) := by
  unfold tRm
  split
  · exact ⟨h.n1, h.n64, h.ns, apart_rm h.ap, fun m hm => h.mem m (mem_rm hm), h.nat⟩
  · exact h
theorem Wf.nati {T : Tb} (h : Wf T) (p v : Int) : Wf (tNat T p v) := by
  unfold tNat
  split
  · rename_i hc
    simp only [Bool.and_eq_true, Bool.or_eq_true, beq_iff_eq] at hc
    refine ⟨h.n1, h.n64, by simpa using h.ns, h.ap, h.mem, fun x hx => ?_⟩
    rcases List.mem_or_eq_of_mem_set hx with hx | rfl
    · exact h.nat x hx
    · rcases hc.2 with rfl | h2
      · omega
      · have := (isV_iff x).1 h2; omega
  · exact h
def tNew (n : Nat) : Tb := ⟨n, [], List.replicate n 0⟩
theorem wf_new {n : Nat} (h1 : 1 ≤ n) (h2 : n ≤ 64) : Wf (tNew n) :=
  ⟨h1, h2, by simp [tNew], by simp [tNew, Apart], by simp [tNew], by intro x hx; simp [tNew] at hx; omega⟩
/-- Members, VLANs. -/
def mbs (l : List Mm) (v : Int) : Nat → List Int
  | 0 => []
  | n + 1 => if hs l v n then mbs l v n ++ [(n : Int)] else mbs l v n
def anyv (l : List Mm) (v : Int) : Bool := l.any (fun m => m.v == v)
def vls (l : List Mm) : Nat → List Int
  | 0 => []
  | k + 1 => if anyv l ((k + 1 : Nat) : Int) then vls l k ++ [((k + 1 : Nat) : Int)] else vls l k
theorem mbs_len (l : List Mm) (v : Int) : ∀ n, (mbs l v n).length ≤ n
  | 0 => by simp [mbs]
  | n + 1 => by
    have := mbs_len l v n
    unfold mbs
    split
    · simp; omega
    · omega
theorem mem_mbs (l : List Mm) (v : Int) (x : Int) : ∀ n, x ∈ mbs l v n ↔ 0 ≤ x ∧ x < n ∧ hs l v x = true
  | 0 => by simp [mbs]; omega
  | n + 1 => by
    have ih := mem_mbs l v x n
    unfold mbs
    cases h : hs l v n
    · simp only [Bool.false_eq_true, if_false, ih]
      constructor
      · rintro ⟨a, b, c⟩; exact ⟨a, by omega, c⟩
      · rintro ⟨a, b, c⟩
        refine ⟨a, ?_, c⟩
        by_cases e : x = n
        · subst e; rw [h] at c; cases c
        · omega
    · simp only [if_true, List.mem_append, List.mem_singleton, ih]
      constructor
      · rintro (⟨a, b, c⟩ | rfl)
        · exact ⟨a, by omega, c⟩
        · exact ⟨by omega, by omega, h⟩
      · rintro ⟨a, b, c⟩
        by_cases e : x = n
        · exact Or.inr e
        · exact Or.inl ⟨a, by omega, c⟩
theorem mbs_congr {l l' : List Mm} {v : Int} : ∀ n : Nat, (∀ p : Int, 0 ≤ p → p < n → hs l v p = hs l' v p) → mbs l v n = mbs l' v n
  | 0, _ => rfl
  | n + 1, h => by
    have ih := mbs_congr n (fun p h1 h2 => h p h1 (by omega))
    unfold mbs
    rw [ih, h n (by omega) (by omega)]
theorem mbs_sorted (l : List Mm) (v : Int) : ∀ n, (mbs l v n).Pairwise (· < ·)
  | 0 => by simp [mbs]
  | n + 1 => by
    have ih := mbs_sorted l v n
    unfold mbs
    split
    · refine List.pairwise_append.2 ⟨ih, by simp, fun a ha b hb => ?_⟩
      have := (mem_mbs l v a n).1 ha
      simp at hb
      omega
    · exact ih
/-- A frame as numbers; its Body as a list. -/
structure Fd where
  d0 : Int
  d1 : Int
  d2 : Int
  d3 : Int
  d4 : Int
  d5 : Int
  s0 : Int
  s1 : Int
  s2 : Int
  s3 : Int
  s4 : Int
  s5 : Int
  tg : Bool
  vl : Int
  pr : Int
  ty : Int
  bs : List Int
/-- Numbers that are bytes. -/
def Rng (ns : List Int) : Prop := ∀ n ∈ ns, 0 ≤ n ∧ n ≤ 255
theorem rng_nil : Rng [] := fun n hn => by cases hn
theorem rng_cons {x : Int} {r : List Int} (h1 : 0 ≤ x) (h2 : x ≤ 255) (h : Rng r) : Rng (x :: r) := fun n hn => by
  rcases List.mem_cons.1 hn with rfl | hn
  · exact ⟨h1, h2⟩
  · exact h n hn
/-- May the tag be? May the frame? -/
def tok (f : Fd) : Bool := if f.tg then decide (0 ≤ f.vl) && decide (f.vl ≤ 4094) && decide (0 ≤ f.pr) && decide (f.pr ≤ 7) else f.vl == 0 && f.pr == 0
def rt (f : Fd) : Bool := decide (1536 ≤ f.ty) && decide (f.ty ≤ 65535) && !(f.ty == 33024) && decide ((f.bs.length : Int) ≤ 1500) && tok f
def zeroF : Fd := ⟨0, 0, 0, 0, 0, 0, 0, 0, 0, 0, 0, 0, false, 0, 0, 0, []⟩
def tagF (f : Fd) (v p : Int) : Fd := { f with tg := true, vl := v, pr := p }
def untF (f : Fd) : Fd := { f with tg := false, vl := 0, pr := 0 }
/-- In: of which VLAN. -/
def vOf (T : Tb) (p : Int) (f : Fd) : Int := if f.vl == 0 then T.ns.getD p.toNat 0 else f.vl
def inV (T : Tb) (p : Int) (f : Fd) : Int := if hp T p && rt f then (if hs T.l (vOf T p f) p then vOf T p f else 0) else 0
def inE (T : Tb) (p : Int) (f : Fd) : Int := if hp T p && rt f then (if hs T.l (vOf T p f) p then 0 else 4) else 1
/-- Out: how it goes out. -/
def ouF (T : Tb) (v p : Int) (f : Fd) : Fd := if isV v && hp T p && rt f then (if hs T.l v p then (if tgd T.l v p then tagF f v f.pr else untF f) else zeroF) else zeroF
def ouE (T : Tb) (v p : Int) (f : Fd) : Int := if isV v && hp T p && rt f then (if hs T.l v p then 0 else 4) else 1
theorem tok_tag {f : Fd} (h : tok f = true) {v : Int} (hv : isV v = true) : tok (tagF f v f.pr) = true := by
  have hv := (isV_iff v).1 hv
  have e : tok (tagF f v f.pr) = (decide (0 ≤ v) && decide (v ≤ 4094) && decide (0 ≤ f.pr) && decide (f.pr ≤ 7)) := rfl
  rw [e]
  unfold tok at h
  cases ht : f.tg
  · rw [ht] at h
    simp at h
    simp [h.2]
    omega
  · rw [ht] at h
    simp at h
    simp
    omega
theorem rt_tag {f : Fd} (h : rt f = true) {v : Int} (hv : isV v = true) : rt (tagF f v f.pr) = true := by
  unfold rt at h ⊢
  simp only [Bool.and_eq_true] at h
  have := tok_tag h.2 hv
  simp only [Bool.and_eq_true]
  exact ⟨h.1, this⟩
theorem rt_unt {f : Fd} (h : rt f = true) : rt (untF f) = true := by
  unfold rt at h ⊢
  simp only [Bool.and_eq_true] at h
  simp only [Bool.and_eq_true]
  exact ⟨h.1, by simp [tok, untF]⟩
theorem rt_pr {f : Fd} (h : rt f = true) : f.tg = false → f.vl = 0 ∧ f.pr = 0 := by
  intro ht
  unfold rt at h
  simp only [Bool.and_eq_true] at h
  have h2 := h.2
  unfold tok at h2
  rw [ht] at h2
  simpa using h2
theorem rt_vl {f : Fd} (h : rt f = true) : 0 ≤ f.vl ∧ f.vl ≤ 4094 := by
  unfold rt at h
  simp only [Bool.and_eq_true] at h
  have h2 := h.2
  unfold tok at h2
  split at h2
  · simp at h2; omega
  · simp at h2; omega
end Go.Proofs.Ytelinahpneikiaa
