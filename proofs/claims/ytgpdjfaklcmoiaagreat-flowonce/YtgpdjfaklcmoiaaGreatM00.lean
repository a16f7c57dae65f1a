/- Plain facts: a table as a list of members and a list of native VLANs; a frame as numbers. Nothing of the program. · Memory: bytes, numbers, cells in a row, a frame; how worlds grow. · Memory: the program's map; the program's table and the document's, and how they stay while others do something. · Contracts: isVlan, hasPort, isMember; the document's right, Find; New, of both. · Contracts: the document's Find; New, of both. · Contracts: Add, Remove, Native of the program. · Contracts: rightTag, Right, of both. · Contracts: Clone of bytes; Tag and Untag, of both. · Contracts: In, of both. · Contract of Out, of the program. -/
import Derived.WalkKit
import Derived.Handy
import Derived.Test.YtgpdjfaklcmoiaaGreatRows
import Derived.Deep.RegionHeld3
import Derived.ChangeKeysEq
import Derived.Laws.BytesArg
import Derived.BigQuiet
import Derived.Deep.MidRow
import Derived.Laws.AppendOwnNone
import Derived.OwnWalk
import Derived.WalkLawsBesides
import Derived.Maps.Keyed
import Derived.DeepKeys4
import Derived.Laws.OwnMore
import Derived.Laws.MakeOwn
import Derived.PlainAid
import Derived.Deep.OwnRows
import Derived.Laws.ResultCell
/- Plain facts: a table as a list of members and a list of native VLANs; a frame as numbers. Nothing of the program. -/
namespace Go.Proofs.YtgpdjfaklcmoiaaGreat
open Go.RowKit

/-- A member: of a VLAN a port, its frames tagged or not. -/
structure Mm where
  v : Int
  p : Int
  t : Bool
/-- A table: how many ports, the members, the native VLANs. -/
structure Tb where
  n : Nat
  l : List Mm
  ns : List Int
/-- Is this the member? -/
def mt (m : Mm) (v p : Int) : Bool := m.v == v && m.p == p
def hs : List Mm → Int → Int → Bool
  | [], _, _ => false
  | m :: r, v, p => mt m v p || hs r v p
def ix : List Mm → Int → Int → Nat
  | [], _, _ => 0
  | m :: r, v, p => if mt m v p then 0 else ix r v p + 1
def tgd : List Mm → Int → Int → Bool
  | [], _, _ => false
  | m :: r, v, p => if mt m v p then m.t else tgd r v p
def ad : List Mm → Int → Int → Bool → List Mm
  | [], v, p, t => [⟨v, p, t⟩]
  | m :: r, v, p, t => if mt m v p then ⟨v, p, t⟩ :: r else m :: ad r v p t
def rm : List Mm → Int → Int → List Mm
  | [], _, _ => []
  | m :: r, v, p => if mt m v p then r else m :: rm r v p
/-- What Find tells. -/
def fx (l : List Mm) (v p : Int) : Int := if hs l v p then (ix l v p : Int) else -1

theorem hs_cons (m : Mm) (r : List Mm) (v p : Int) : hs (m :: r) v p = (mt m v p || hs r v p) := rfl
theorem ix_cons (m : Mm) (r : List Mm) (v p : Int) : ix (m :: r) v p = if mt m v p then 0 else ix r v p + 1 := rfl
theorem mt_iff (m : Mm) (v p : Int) : mt m v p = true ↔ m.v = v ∧ m.p = p := by simp [mt]
theorem hs_ix : ∀ (l : List Mm) (v p : Int), hs l v p = true ↔ ix l v p < l.length
  | [], v, p => by simp [hs, ix]
  | m :: r, v, p => by
    have := hs_ix r v p
    unfold hs ix
    cases h : mt m v p
    · simp [this]
    · simp
theorem ix_le : ∀ (l : List Mm) (v p : Int), ix l v p ≤ l.length
  | [], v, p => by simp [ix]
  | m :: r, v, p => by
    have := ix_le r v p
    unfold ix
    split
    · simp
    · simp; omega
theorem ix_get : ∀ (l : List Mm) (v p : Int), hs l v p = true → l[ix l v p]? = some ⟨v, p, tgd l v p⟩
  | [], v, p, h => by simp [hs] at h
  | m :: r, v, p, h => by
    have ih := ix_get r v p
    unfold hs at h
    unfold ix tgd
    cases hm : mt m v p
    · rw [hm] at h
      simp at h
      simp [ih h]
    · have := (mt_iff m v p).1 hm
      obtain ⟨a, b, c⟩ := m
      simp at this
      simp [this.1, this.2]
theorem ad_set : ∀ (l : List Mm) (v p : Int) (t : Bool), hs l v p = true → ad l v p t = l.set (ix l v p) ⟨v, p, t⟩
  | [], v, p, t, h => by simp [hs] at h
  | m :: r, v, p, t, h => by
    have ih := ad_set r v p t
    unfold hs at h
    unfold ad ix
    cases hm : mt m v p
    · rw [hm] at h
      simp at h
      simp [ih h]
    · simp
theorem ad_push : ∀ (l : List Mm) (v p : Int) (t : Bool), hs l v p = false → ad l v p t = l ++ [⟨v, p, t⟩]
  | [], v, p, t, _ => rfl
  | m :: r, v, p, t, h => by
    have ih := ad_push r v p t
    unfold hs at h
    simp only [Bool.or_eq_false_iff] at h
    unfold ad
    rw [h.1]
    simp [ih h.2]
theorem rm_erase : ∀ (l : List Mm) (v p : Int), rm l v p = l.eraseIdx (ix l v p)
  | [], v, p => by simp [rm]
  | m :: r, v, p => by
    have ih := rm_erase r v p
    unfold rm ix
    cases hm : mt m v p
    · simp [ih]
    · simp
theorem rm_take (l : List Mm) (v p : Int) : rm l v p = l.take (ix l v p) ++ l.drop (ix l v p + 1) := by
  rw [rm_erase, List.eraseIdx_eq_take_drop_succ]
/-- All keys apart. -/
def Apart (l : List Mm) : Prop := l.Pairwise (fun a b => ¬ (a.v = b.v ∧ a.p = b.p))
theorem hs_mem : ∀ (l : List Mm) (v p : Int), hs l v p = true ↔ ∃ m ∈ l, m.v = v ∧ m.p = p
  | [], v, p => by simp [hs]
  | m :: r, v, p => by
    have := hs_mem r v p
    unfold hs
    simp [this, mt_iff]
theorem hs_ad : ∀ (l : List Mm) (v p : Int) (t : Bool) (v' p' : Int), hs (ad l v p t) v' p' = (mt ⟨v, p, t⟩ v' p' || hs l v' p')
  | [], v, p, t, v', p' => by simp [ad, hs]
  | m :: r, v, p, t, v', p' => by
    have ih := hs_ad r v p t v' p'
    unfold ad
    cases hm : mt m v p
    · simp only [Bool.false_eq_true, if_false]
      unfold hs
      rw [ih]
      cases mt m v' p' <;> cases mt ⟨v, p, t⟩ v' p' <;> rfl
    · have e := (mt_iff m v p).1 hm
      simp only [if_true]
      unfold hs
      have : mt m v' p' = mt ⟨v, p, t⟩ v' p' := by simp [mt, e.1, e.2]
      rw [this]
      cases mt ⟨v, p, t⟩ v' p' <;> rfl
theorem mem_rm {l : List Mm} {v p : Int} {m : Mm} (h : m ∈ rm l v p) : m ∈ l := by
  rw [rm_erase] at h
  exact (List.eraseIdx_sublist _ _).subset h
theorem hs_rm : ∀ (l : List Mm) (v p : Int), Apart l → ∀ v' p', hs (rm l v p) v' p' = (hs l v' p' && !mt ⟨v, p, false⟩ v' p')
  | [], v, p, _, v', p' => by simp [rm, hs]
  | m :: r, v, p, hA, v', p' => by
    obtain ⟨h1, h2⟩ := List.pairwise_cons.1 hA
    have ih := hs_rm r v p h2 v' p'
    unfold rm
    cases hm : mt m v p
    · simp only [Bool.false_eq_true, if_false]
      unfold hs
      rw [ih]
      cases hx : mt m v' p'
      · simp
      · have e := (mt_iff m v' p').1 hx
        have : mt ⟨v, p, false⟩ v' p' = false := by
          rw [Bool.eq_false_iff]
          intro hc
          have e2 := (mt_iff ⟨v, p, false⟩ v' p').1 hc
          simp at e2
          have : mt m v p = true := (mt_iff m v p).2 ⟨e.1.trans e2.1.symm, e.2.trans e2.2.symm⟩
          rw [hm] at this
          cases this
        simp [this]
    · have e := (mt_iff m v p).1 hm
      simp only [if_true]
      rw [hs_cons]
      have e3 : mt m v' p' = mt ⟨v, p, false⟩ v' p' := by simp [mt, e.1, e.2]
      rw [e3]
      cases hx : mt ⟨v, p, false⟩ v' p'
      · simp
      · simp only [Bool.true_or, Bool.not_true, Bool.and_false]
        rw [Bool.eq_false_iff]
        intro hc
        obtain ⟨m', hm', e4⟩ := (hs_mem r v' p').1 hc
        have e5 := (mt_iff ⟨v, p, false⟩ v' p').1 hx
        simp at e5
        exact h1 m' hm' ⟨e.1.trans (e5.1.trans e4.1.symm), e.2.trans (e5.2.trans e4.2.symm)⟩
theorem tgd_ad : ∀ (l : List Mm) (v p : Int) (t : Bool), tgd (ad l v p t) v p = t
  | [], v, p, t => by simp [ad, tgd, mt]
  | m :: r, v, p, t => by
    have ih := tgd_ad r v p t
    unfold ad
    cases hm : mt m v p
    · simp [tgd, hm, ih]
    · simp [tgd, mt]
theorem apart_ad {l : List Mm} {v p : Int} {t : Bool} (h : Apart l) : Apart (ad l v p t) := by
  induction l with
  | nil => simp [ad, Apart]
  | cons m r ih =>
    obtain ⟨h1, h2⟩ := List.pairwise_cons.1 h
    unfold ad
    cases hm : mt m v p
    · simp only [Bool.false_eq_true, if_false]
      refine List.pairwise_cons.2 ⟨fun b hb e => ?_, ih h2⟩
      have hb' : hs (ad r v p t) m.v m.p = true := (hs_mem _ _ _).2 ⟨b, hb, e.1.symm, e.2.symm⟩
      rw [hs_ad] at hb'
      simp only [Bool.or_eq_true] at hb'
      rcases hb' with hb' | hb'
      · have e2 := (mt_iff ⟨v, p, t⟩ _ _).1 hb'
        simp at e2
        have : mt m v p = true := (mt_iff m v p).2 ⟨e2.1.symm, e2.2.symm⟩
        rw [hm] at this
        cases this
      · obtain ⟨m', hm', e4⟩ := (hs_mem r _ _).1 hb'
        exact h1 m' hm' ⟨e4.1.symm, e4.2.symm⟩
    · simp only [if_true]
      have e := (mt_iff m v p).1 hm
      refine List.pairwise_cons.2 ⟨fun b hb e2 => h1 b hb ?_, h2⟩
      simp at e2
      exact ⟨e.1.trans e2.1, e.2.trans e2.2⟩
theorem apart_rm {l : List Mm} {v p : Int} (h : Apart l) : Apart (rm l v p) := by
  rw [rm_erase]
  exact List.Pairwise.sublist (List.eraseIdx_sublist _ _) h
theorem mem_ad : ∀ {l : List Mm} {v p : Int} {t : Bool} {m : Mm}, m ∈ ad l v p t → m ∈ l ∨ m = ⟨v, p, t⟩
  | [], v, p, t, m, h => by simp [ad] at h; exact Or.inr h
  | x :: r, v, p, t, m, h => by
    unfold ad at h
    split at h
    · rcases List.mem_cons.1 h with h | h
      · exact Or.inr h
      · exact Or.inl (by simp [h])
    · rcases List.mem_cons.1 h with h | h
      · exact Or.inl (by simp [h])
      · rcases mem_ad h with h | h
        · exact Or.inl (by simp [h])
        · exact Or.inr h
theorem len_ad : ∀ (l : List Mm) (v p : Int) (t : Bool), (ad l v p t).length ≤ l.length + 1
  | [], v, p, t => by simp [ad]
  | m :: r, v, p, t => by
    have := len_ad r v p t
    unfold ad
    split
    · simp
    · simp; omega
theorem len_rm (l : List Mm) (v p : Int) : (rm l v p).length ≤ l.length := by
  rw [rm_erase]
  exact (List.eraseIdx_sublist _ _).length_le
/-- What Find has yet to look at. -/
theorem ix_drop (l : List Mm) (v p : Int) {i : Nat} {m : Mm} (h : l[i]? = some m) (hi : ix l v p = i + ix (l.drop i) v p) :
    (mt m v p = true → ix l v p = i ∧ i < l.length) ∧ (mt m v p = false → ix l v p = (i + 1) + ix (l.drop (i + 1)) v p) := by
  have hl : i < l.length := (List.getElem?_eq_some_iff.1 h).1
  have e : l.drop i = m :: l.drop (i + 1) := by
    rw [List.drop_eq_getElem_cons hl]
    congr 1
    rw [List.getElem?_eq_getElem hl] at h
    exact Option.some.inj h
  rw [e, ix_cons] at hi
  constructor
  · intro hm
    rw [hm, if_pos rfl] at hi
    exact ⟨hi, hl⟩
  · intro hm
    rw [hm, if_neg (by simp)] at hi
    omega
theorem ix_end (l : List Mm) (v p : Int) {i : Nat} (h : l.length ≤ i) (hi : ix l v p = i + ix (l.drop i) v p) : hs l v p = false := by
  rw [Bool.eq_false_iff]
  intro hc
  have := (hs_ix l v p).1 hc
  omega
/-- A table that may be. -/
structure Wf (T : Tb) : Prop where
  n1 : 1 ≤ T.n
  n64 : T.n ≤ 64
  ns : T.ns.length = T.n
  ap : Apart T.l
  mem : ∀ m ∈ T.l, 1 ≤ m.v ∧ m.v ≤ 4094 ∧ 0 ≤ m.p ∧ m.p < T.n
  nat : ∀ x ∈ T.ns, 0 ≤ x ∧ x ≤ 4094
def isV (v : Int) : Bool := decide (1 ≤ v ∧ v ≤ 4094)
def hp (T : Tb) (p : Int) : Bool := decide (0 ≤ p ∧ p < T.n)
theorem isV_iff (v : Int) : isV v = true ↔ 1 ≤ v ∧ v ≤ 4094 := by simp [isV]
theorem hp_iff (T : Tb) (p : Int) : hp T p = true ↔ 0 ≤ p ∧ p < T.n := by simp [hp]
theorem Wf.has {T : Tb} (h : Wf T) {v p : Int} (hh : hs T.l v p = true) : isV v = true ∧ hp T p = true := by
  obtain ⟨m, hm, rfl, rfl⟩ := (hs_mem _ _ _).1 hh
  have := h.mem m hm
  exact ⟨(isV_iff _).2 ⟨this.1, this.2.1⟩, (hp_iff _ _).2 ⟨this.2.2.1, this.2.2.2⟩⟩
/-- The three deeds. -/
def tAdd (T : Tb) (v p : Int) (t : Bool) : Tb := if isV v && hp T p then ⟨T.n, ad T.l v p t, T.ns⟩ else T
def eAdd (T : Tb) (v p : Int) : Int := if isV v && hp T p then 0 else 1
def tRm (T : Tb) (v p : Int) : Tb := if isV v && hp T p then ⟨T.n, rm T.l v p, T.ns⟩ else T
def eRm (T : Tb) (v p : Int) : Int := if isV v && hp T p then (if hs T.l v p then 0 else 4) else 1
def tNat (T : Tb) (p v : Int) : Tb := if hp T p && (v == 0 || isV v) then ⟨T.n, T.l, T.ns.set p.toNat v⟩ else T
def eNat (T : Tb) (p v : Int) : Int := if hp T p && (v == 0 || isV v) then 0 else 1
theorem Wf.add {T : Tb} (h : Wf T) (v p : Int) (t : Bool) : Wf (tAdd T v p t) := by
  unfold tAdd
  split
  · rename_i hc
    simp only [Bool.and_eq_true] at hc
    have hv := (isV_iff v).1 hc.1
    have hp := (hp_iff T p).1 hc.2
    refine ⟨h.n1, h.n64, h.ns, apart_ad h.ap, fun m hm => ?_, h.nat⟩
    rcases mem_ad hm with hm | rfl
    · exact h.mem m hm
    · exact ⟨hv.1, hv.2, hp.1, hp.2⟩
  · exact h
theorem Wf.rem {T : Tb} (h : Wf T) (v p : Int) : Wf (tRm T v p) := by
  unfold tRm
  split
  · exact ⟨h.n1, h.n64, h.ns, apart_rm h.ap, fun m hm => h.mem m (mem_rm hm), h.nat⟩
  · exact h
theorem Wf.nati {T : Tb} (h : Wf T) (p v : Int) : Wf (tNat T p v) := by
  unfold tNat
  split
  · rename_i hc
    simp only [Bool.and_eq_true, Bool.or_eq_true, beq_iff_eq] at hc
    refine ⟨h.n1, h.n64, by simpa using h.ns, h.ap, h.mem, fun x hx => ?_⟩
    rcases List.mem_or_eq_of_mem_set hx with hx | rfl
    · exact h.nat x hx
    · rcases hc.2 with rfl | h2
      · omega
      · have := (isV_iff x).1 h2; omega
  · exact h
def tNew (n : Nat) : Tb := ⟨n, [], List.replicate n 0⟩
theorem wf_new {n : Nat} (h1 : 1 ≤ n) (h2 : n ≤ 64) : Wf (tNew n) :=
  ⟨h1, h2, by simp [tNew], by simp [tNew, Apart], by simp [tNew], by intro x hx; simp [tNew] at hx; omega⟩
/-- Members, VLANs. -/
def mbs (l : List Mm) (v : Int) : Nat → List Int
  | 0 => []
  | n + 1 => if hs l v n then mbs l v n ++ [(n : Int)] else mbs l v n
def anyv (l : List Mm) (v : Int) : Bool := l.any (fun m => m.v == v)
def vls (l : List Mm) : Nat → List Int
  | 0 => []
  | k + 1 => if anyv l ((k + 1 : Nat) : Int) then vls l k ++ [((k + 1 : Nat) : Int)] else vls l k
theorem mbs_len (l : List Mm) (v : Int) : ∀ n, (mbs l v n).length ≤ n
  | 0 => by simp [mbs]
  | n + 1 => by
    have := mbs_len l v n
    unfold mbs
    split
    · simp; omega
    · omega
theorem mem_mbs (l : List Mm) (v : Int) (x : Int) : ∀ n, x ∈ mbs l v n ↔ 0 ≤ x ∧ x < n ∧ hs l v x = true
  | 0 => by simp [mbs]; omega
  | n + 1 => by
    have ih := mem_mbs l v x n
    unfold mbs
    cases h : hs l v n
    · simp only [Bool.false_eq_true, if_false, ih]
      constructor
      · rintro ⟨a, b, c⟩; exact ⟨a, by omega, c⟩
      · rintro ⟨a, b, c⟩
        refine ⟨a, ?_, c⟩
        by_cases e : x = n
        · subst e; rw [h] at c; cases c
        · omega
    · simp only [if_true, List.mem_append, List.mem_singleton, ih]
      constructor
      · rintro (⟨a, b, c⟩ | rfl)
        · exact ⟨a, by omega, c⟩
        · exact ⟨by omega, by omega, h⟩
      · rintro ⟨a, b, c⟩
        by_cases e : x = n
        · exact Or.inr e
        · exact Or.inl ⟨a, by omega, c⟩
theorem mbs_congr {l l' : List Mm} {v : Int} : ∀ n : Nat, (∀ p : Int, 0 ≤ p → p < n → hs l v p = hs l' v p) → mbs l v n = mbs l' v n
  | 0, _ => rfl
  | n + 1, h => by
    have ih := mbs_congr n (fun p h1 h2 => h p h1 (by omega))
    unfold mbs
    rw [ih, h n (by omega) (by omega)]
theorem mbs_sorted (l : List Mm) (v : Int) : ∀ n, (mbs l v n).Pairwise (· < ·)
  | 0 => by simp [mbs]
  | n + 1 => by
    have ih := mbs_sorted l v n
    unfold mbs
    split
    · refine List.pairwise_append.2 ⟨ih, by simp, fun a ha b hb => ?_⟩
      have := (mem_mbs l v a n).1 ha
      simp at hb
      omega
    · exact ih
/-- A frame as numbers; its Body as a list. -/
structure Fd where
  d0 : Int
  d1 : Int
  d2 : Int
  d3 : Int
  d4 : Int
  d5 : Int
  s0 : Int
  s1 : Int
  s2 : Int
  s3 : Int
  s4 : Int
  s5 : Int
  tg : Bool
  vl : Int
  pr : Int
  ty : Int
  bs : List Int
/-- Numbers that are bytes. -/
def Rng (ns : List Int) : Prop := ∀ n ∈ ns, 0 ≤ n ∧ n ≤ 255
theorem rng_nil : Rng [] := fun n hn => by cases hn
theorem rng_cons {x : Int} {r : List Int} (h1 : 0 ≤ x) (h2 : x ≤ 255) (h : Rng r) : Rng (x :: r) := fun n hn => by
  rcases List.mem_cons.1 hn with rfl | hn
  · exact ⟨h1, h2⟩
  · exact h n hn
/-- May the tag be? May the frame? -/
def tok (f : Fd) : Bool := if f.tg then decide (0 ≤ f.vl) && decide (f.vl ≤ 4094) && decide (0 ≤ f.pr) && decide (f.pr ≤ 7) else f.vl == 0 && f.pr == 0
def rt (f : Fd) : Bool := decide (1536 ≤ f.ty) && decide (f.ty ≤ 65535) && !(f.ty == 33024) && decide ((f.bs.length : Int) ≤ 1500) && tok f
def zeroF : Fd := ⟨0, 0, 0, 0, 0, 0, 0, 0, 0, 0, 0, 0, false, 0, 0, 0, []⟩
def tagF (f : Fd) (v p : Int) : Fd := { f with tg := true, vl := v, pr := p }
def untF (f : Fd) : Fd := { f with tg := false, vl := 0, pr := 0 }
/-- In: of which VLAN. -/
def vOf (T : Tb) (p : Int) (f : Fd) : Int := if f.vl == 0 then T.ns.getD p.toNat 0 else f.vl
def inV (T : Tb) (p : Int) (f : Fd) : Int := if hp T p && rt f then (if hs T.l (vOf T p f) p then vOf T p f else 0) else 0
def inE (T : Tb) (p : Int) (f : Fd) : Int := if hp T p && rt f then (if hs T.l (vOf T p f) p then 0 else 4) else 1
/-- Out: how it goes out. -/
def ouF (T : Tb) (v p : Int) (f : Fd) : Fd := if isV v && hp T p && rt f then (if hs T.l v p then (if tgd T.l v p then tagF f v f.pr else untF f) else zeroF) else zeroF
def ouE (T : Tb) (v p : Int) (f : Fd) : Int := if isV v && hp T p && rt f then (if hs T.l v p then 0 else 4) else 1
theorem tok_tag {f : Fd} (h : tok f = true) {v : Int} (hv : isV v = true) : tok (tagF f v f.pr) = true := by
  have hv := (isV_iff v).1 hv
  have e : tok (tagF f v f.pr) = (decide (0 ≤ v) && decide (v ≤ 4094) && decide (0 ≤ f.pr) && decide (f.pr ≤ 7)) := rfl
  rw [e]
  unfold tok at h
  cases ht : f.tg
  · rw [ht] at h
    simp at h
    simp [h.2]
    omega
  · rw [ht] at h
    simp at h
    simp
    omega
theorem rt_tag {f : Fd} (h : rt f = true) {v : Int} (hv : isV v = true) : rt (tagF f v f.pr) = true := by
  unfold rt at h ⊢
  simp only [Bool.and_eq_true] at h
  have := tok_tag h.2 hv
  simp only [Bool.and_eq_true]
  exact ⟨h.1, this⟩
theorem rt_unt {f : Fd} (h : rt f = true) : rt (untF f) = true := by
  unfold rt at h ⊢
  simp only [Bool.and_eq_true] at h
  simp only [Bool.and_eq_true]
  exact ⟨h.1, by simp [tok, untF]⟩
theorem rt_pr {f : Fd} (h : rt f = true) : f.tg = false → f.vl = 0 ∧ f.pr = 0 := by
  intro ht
  unfold rt at h
  simp only [Bool.and_eq_true] at h
  have h2 := h.2
  unfold tok at h2
  rw [ht] at h2
  simpa using h2
theorem rt_vl {f : Fd} (h : rt f = true) : 0 ≤ f.vl ∧ f.vl ≤ 4094 := by
  unfold rt at h
  simp only [Bool.and_eq_true] at h
  have h2 := h.2
  unfold tok at h2
  split at h2
  · simp at h2; omega
  · simp at h2; omega
end Go.Proofs.YtgpdjfaklcmoiaaGreat
/- Memory: bytes, numbers, cells in a row, a frame; how worlds grow. -/
namespace Go.Proofs.YtgpdjfaklcmoiaaGreat
open Go.RowKit

theorem bcell {W w1 : World} (hb : Below W.heap.size W w1) : (∀ b o, b < W.heap.size → w1.cell? ⟨b, o, none⟩ = W.cell? ⟨b, o, none⟩) ∧ (∀ b o, b < W.heap.size → w1.frozen? ⟨b, o, none⟩ = W.frozen? ⟨b, o, none⟩) :=
  ⟨fun b o h => hb.cell (p := ⟨b, o, none⟩) h, fun b o h => hb.frozen (p := ⟨b, o, none⟩) h⟩
theorem hide {p : Prop} (h : p) : Hid p := h
theorem ret_bool {a b : Bool} (h : a = b) : Ending.returned (.bool a) = .returned (.bool b) := by rw [h]
theorem ret_int {k : IntKind} {a b : Int} (h : a = b) : Ending.returned (.int k a) = .returned (.int k b) := by rw [h]
theorem belowOn {w wr w1 : World} (hB : Below w.heap.size w wr) (hb : Below wr.heap.size wr w1) : Below w.heap.size w w1 := hB.trans (hb.mono hB.size)
theorem below_alloc (w : World) (o : Obj) : Below w.heap.size w (w.alloc o) := (Below.refl _ _).alloc (Nat.le_refl _) o
theorem Tryz.cells3 : Tryz.prog.cellsOf 3 = 1 := by kernel_rfl
theorem Tryz.cells4 : Tryz.prog.cellsOf 4 = 1 := by kernel_rfl
theorem Tryz.cells5 : Tryz.prog.cellsOf 5 = 1 := by kernel_rfl
theorem Tryz.cells35 : Tryz.prog.cellsOf 35 = 6 := by kernel_rfl
theorem Tryz.cells36 : Tryz.prog.cellsOf 36 = 1 := by kernel_rfl
theorem Tryz.cells38 : Tryz.prog.cellsOf 38 = 17 := by kernel_rfl
theorem Tryz.cells52 : Tryz.prog.cellsOf 52 = 1 := by kernel_rfl
theorem Tryz.cells100 : Tryz.prog.cellsOf 100 = 2 := by kernel_rfl
theorem Tryz.cells110 : Tryz.prog.cellsOf 110 = 1 := by kernel_rfl
theorem Tryz.cells112 : Tryz.prog.cellsOf 112 = 3 := by kernel_rfl
theorem Tryz.cells119 : Tryz.prog.cellsOf 119 = 3 := by kernel_rfl
theorem Tryz.cells114 : Tryz.prog.cellsOf 114 = 1 := by kernel_rfl
theorem Tryz.cells116 : Tryz.prog.cellsOf 116 = 2 := by kernel_rfl
theorem Tryz.cells98 : Tryz.prog.cellsOf 98 = 1 := by kernel_rfl
theorem Tryz.info5 : (Tryz.prog.info? 5).map (fun i => (i.zero, i.size, i.bytes)) = some (some (.int .u8 0), 1, 1) := by kernel_rfl
theorem Tryz.info3 : (Tryz.prog.info? 3).map (fun i => (i.zero, i.size, i.bytes)) = some (some (.int .i64 0), 1, 8) := by kernel_rfl
theorem Tryz.info119 : (Tryz.prog.info? 119).map (fun i => (i.zero, i.size, i.bytes)) = some (some (.agg #[.int .i64 0, .int .i64 0, .bool false]), 3, 24) := by kernel_rfl
theorem Tryz.size35 : (Tryz.prog.info? 35).map (·.size) = some 6 := by kernel_rfl
theorem Tryz.size38 : (Tryz.prog.info? 38).map (·.size) = some 17 := by kernel_rfl
/-- The cells of a frame; s is the Body's slice. -/
def dcl (x : Fd) : List Value := [.int .u8 x.d0, .int .u8 x.d1, .int .u8 x.d2, .int .u8 x.d3, .int .u8 x.d4, .int .u8 x.d5]
def scl (x : Fd) : List Value := [.int .u8 x.s0, .int .u8 x.s1, .int .u8 x.s2, .int .u8 x.s3, .int .u8 x.s4, .int .u8 x.s5]
def fcl (x : Fd) (s : Value) : List Value := dcl x ++ (scl x ++ [.bool x.tg, .int .i64 x.vl, .int .i64 x.pr, .int .i64 x.ty, s])
def FC (x : Fd) (s : Value) : Array Value := (fcl x s).toArray
theorem fcl_length (x : Fd) (s : Value) : (fcl x s).length = 17 := rfl
theorem FC_size (x : Fd) (s : Value) : (FC x s).size = 17 := rfl
theorem FC0 (x : Fd) (s : Value) : (FC x s)[0]? = some (.int .u8 x.d0) := rfl
theorem FC1 (x : Fd) (s : Value) : (FC x s)[1]? = some (.int .u8 x.d1) := rfl
theorem FC2 (x : Fd) (s : Value) : (FC x s)[2]? = some (.int .u8 x.d2) := rfl
theorem FC3 (x : Fd) (s : Value) : (FC x s)[3]? = some (.int .u8 x.d3) := rfl
theorem FC4 (x : Fd) (s : Value) : (FC x s)[4]? = some (.int .u8 x.d4) := rfl
theorem FC5 (x : Fd) (s : Value) : (FC x s)[5]? = some (.int .u8 x.d5) := rfl
theorem FC6 (x : Fd) (s : Value) : (FC x s)[6]? = some (.int .u8 x.s0) := rfl
theorem FC7 (x : Fd) (s : Value) : (FC x s)[7]? = some (.int .u8 x.s1) := rfl
theorem FC8 (x : Fd) (s : Value) : (FC x s)[8]? = some (.int .u8 x.s2) := rfl
theorem FC9 (x : Fd) (s : Value) : (FC x s)[9]? = some (.int .u8 x.s3) := rfl
theorem FC10 (x : Fd) (s : Value) : (FC x s)[10]? = some (.int .u8 x.s4) := rfl
theorem FC11 (x : Fd) (s : Value) : (FC x s)[11]? = some (.int .u8 x.s5) := rfl
theorem FC12 (x : Fd) (s : Value) : (FC x s)[12]? = some (.bool x.tg) := rfl
theorem FC13 (x : Fd) (s : Value) : (FC x s)[13]? = some (.int .i64 x.vl) := rfl
theorem FC14 (x : Fd) (s : Value) : (FC x s)[14]? = some (.int .i64 x.pr) := rfl
theorem FC15 (x : Fd) (s : Value) : (FC x s)[15]? = some (.int .i64 x.ty) := rfl
theorem FC16 (x : Fd) (s : Value) : (FC x s)[16]? = some s := rfl
theorem ZF : (#[.int .u8 0, .int .u8 0, .int .u8 0, .int .u8 0, .int .u8 0, .int .u8 0, .int .u8 0, .int .u8 0, .int .u8 0, .int .u8 0, .int .u8 0, .int .u8 0, .bool false, .int .i64 0, .int .i64 0, .int .i64 0, .slice none 0 0] : Array Value) = FC zeroF (.slice none 0 0) := rfl

/-- A slice's bytes. -/
structure Byt (w : World) (ao : Option Addr) (n c : Nat) (ns : List Int) : Prop where
  len : ns.length = n
  nil : ao = none → n = 0 ∧ c = 0
  cell : ∀ j, j < n → ∃ b o, ao = some ⟨b, o, none⟩ ∧ w.cell? ⟨b, o + j, none⟩ = some (.int .u8 (ns.getD j 0))
  le : n ≤ c
  mx : c ≤ maxLen
  rng : Rng ns

theorem Byt.on {w w1 : World} {ao : Option Addr} {n c : Nat} {ns : List Int} (h : Byt w ao n c ns) (hb : Below w.heap.size w w1) : Byt w1 ao n c ns :=
  ⟨h.len, h.nil, fun j hj => by
    obtain ⟨b, o, e, hc⟩ := h.cell j hj
    exact ⟨b, o, e, (hb.cell (p := ⟨b, o + j, none⟩) (World.block_lt_of_cell? w _ hc)).trans hc⟩, h.le, h.mx, h.rng⟩
theorem Byt.nothing (w : World) : Byt w none 0 0 [] := ⟨rfl, fun _ => ⟨rfl, rfl⟩, fun j hj => by omega, Nat.le_refl _, Nat.zero_le _, rng_nil⟩
theorem Byt.at {w : World} {ao : Option Addr} {n c : Nat} {ns : List Int} (h : Byt w ao n c ns) (hn : 0 < n) : ∃ b o, ao = some ⟨b, o, none⟩ ∧ (∀ j, j < n → w.cell? ⟨b, o + j, none⟩ = some (.int .u8 (ns.getD j 0))) ∧ b < w.heap.size := by
  obtain ⟨b, o, rfl, hc⟩ := h.cell 0 hn
  refine ⟨b, o, rfl, fun j hj => ?_, World.block_lt_of_cell? w _ hc⟩
  obtain ⟨b', o', e, hc'⟩ := h.cell j hj
  have e1 := Option.some.inj e
  injection e1 with e2 e3
  subst e2 e3
  exact hc'
theorem Byt.alloc {w : World} {ao : Option Addr} {n c : Nat} {ns : List Int} (h : Byt w ao n c ns) (o : Obj) : Byt (w.alloc o) ao n c ns := h.on (below_alloc w o)
theorem Byt.drew {w : World} {ao : Option Addr} {n c : Nat} {ns : List Int} (h : Byt w ao n c ns) : Byt w.drew ao n c ns := ⟨h.len, h.nil, h.cell, h.le, h.mx, h.rng⟩
theorem Byt.drewN {w : World} {ao : Option Addr} {n c : Nat} {ns : List Int} (h : Byt w ao n c ns) (m : Nat) : Byt (w.drewN m) ao n c ns := ⟨h.len, h.nil, h.cell, h.le, h.mx, h.rng⟩
theorem Byt.below {w w1 : World} {g : Nat} {ao : Option Addr} {n c : Nat} {ns : List Int} (h : Byt w ao n c ns) (hg : ∀ b o, ao = some ⟨b, o, none⟩ → 0 < n → b < g) (hb : Below g w w1) : Byt w1 ao n c ns :=
  ⟨h.len, h.nil, fun j hj => by
    obtain ⟨b, o, e, hc⟩ := h.cell j hj
    exact ⟨b, o, e, (hb.cell (p := ⟨b, o + j, none⟩) (hg b o e (by omega))).trans hc⟩, h.le, h.mx, h.rng⟩
theorem Byt.lt {w : World} {ao : Option Addr} {n c : Nat} {ns : List Int} (h : Byt w ao n c ns) : ∀ b o, ao = some ⟨b, o, none⟩ → 0 < n → b < w.heap.size := by
  intro b o e hn
  obtain ⟨b', o', e', hc⟩ := h.cell 0 hn
  rw [e] at e'
  injection Option.some.inj e' with e1 e2
  subst e1
  exact World.block_lt_of_cell? w _ hc
theorem Byt.kept {w w1 : World} {k : Nat} {ao : Option Addr} {n c : Nat} {ns : List Int} (h : Byt w ao n c ns) (hne : ∀ b o, ao = some ⟨b, o, none⟩ → 0 < n → b ≠ k) (hg : w.grownBy w1 (some k)) : Byt w1 ao n c ns :=
  ⟨h.len, h.nil, fun j hj => by
    obtain ⟨b, o, e, hc⟩ := h.cell j hj
    exact ⟨b, o, e, hg.cell hc (fun e2 => hne b o e (by omega) (Option.some.inj e2))⟩, h.le, h.mx, h.rng⟩
theorem Byt.src {w : World} {ad : Addr} {n c : Nat} {ns : List Int} (h : Byt w (some ad) n c ns) : ∀ j u, (ns.map (Value.int .u8))[j]? = some u → w.cell? (ad.add j) = some u := by
  intro j u hj
  rw [List.getElem?_map, Option.map_eq_some_iff] at hj
  obtain ⟨x, hx, rfl⟩ := hj
  have hl : j < ns.length := (List.getElem?_eq_some_iff.1 hx).1
  obtain ⟨b, o, e, hc⟩ := h.cell j (by rw [← h.len]; exact hl)
  obtain rfl := Option.some.inj e
  rw [List.getD_eq_getElem?_getD, hx] at hc
  rw [Addr.add_lit]
  exact hc
theorem Byt.srcAny {w : World} {ao : Option Addr} {n c : Nat} {ns : List Int} (h : Byt w ao n c ns) : ∀ ad, ao = some ad → ∀ j u, (ns.map (Value.int .u8))[j]? = some u → w.cell? (ad.add j) = some u := by
  intro ad e
  subst e
  exact h.src
theorem one_u8 (ns : List Int) : ∀ u ∈ ns.map (Value.int .u8), u.oneCell' = true := by
  intro u hu
  obtain ⟨x, _, rfl⟩ := List.mem_map.1 hu
  rfl
theorem byt_of_new (w : World) (cs : Array Value) (ns : List Int) (n : Nat) (hc : cs.toList = ns.map (Value.int .u8)) (hl : ns.length = n) (hn : n ≤ 100000) (hr : Rng ns) : Byt (w.alloc (.cells cs 5)) (some ⟨w.heap.size, 0, none⟩) n n ns :=
  ⟨hl, fun e => (by cases e), fun j hj => ⟨w.heap.size, 0, rfl, by
    rw [Nat.zero_add, World.cell?_alloc_at _ _ _ _ rfl, ← Array.getElem?_toList, hc, List.getElem?_map, List.getElem?_eq_getElem (by omega), List.getD_eq_getElem?_getD, List.getElem?_eq_getElem (by omega)]
    rfl⟩, Nat.le_refl _, by unfold maxLen; omega, hr⟩

/-- Cells in a row. -/
theorem rangeAt_left {w : World} {k o : Nat} {A B : List Value} (h : w.rangeAt k o (A ++ B)) : w.rangeAt k o A := fun j v hj => h j v (by
  rw [List.getElem?_append_left (List.getElem?_eq_some_iff.1 hj).1]; exact hj)
theorem rangeAt_right {w : World} {k o q : Nat} {A B : List Value} (h : w.rangeAt k o (A ++ B)) (hq : o + A.length = q) : w.rangeAt k q B := fun j v hj => by
  have := h (A.length + j) v (by rw [List.getElem?_append_right (by omega)]; simpa using hj)
  rw [← hq, Nat.add_assoc]; exact this
theorem rangeAt_join {w : World} {k o q : Nat} {A B : List Value} (h : w.rangeAt k o A) (g : w.rangeAt k q B) (hq : o + A.length = q) : w.rangeAt k o (A ++ B) := fun j v hj => by
  by_cases hl : j < A.length
  · rw [List.getElem?_append_left hl] at hj; exact h j v hj
  · rw [List.getElem?_append_right (by omega)] at hj
    have := g (j - A.length) v hj
    rw [← hq, Nat.add_assoc, show A.length + (j - A.length) = j by omega] at this
    exact this
/-- A variable of many cells. -/
structure Box (w : World) (k : Nat) (cs : List Value) : Prop where
  lt : k < w.heap.size
  at_ : w.rangeAt k 0 cs
  th : w.there k 0 cs.length
theorem Box.on {w w1 : World} {k : Nat} {cs : List Value} (h : Box w k cs) (hb : Below w.heap.size w w1) : Box w1 k cs :=
  ⟨Nat.lt_of_lt_of_le h.lt hb.size, fun j v hj => (hb.cell (p := ⟨k, 0 + j, none⟩) h.lt).trans (h.at_ j v hj), fun j hj => ⟨by rw [hb.cell (p := ⟨k, 0 + j, none⟩) h.lt]; exact (h.th j hj).1, by rw [hb.frozen (p := ⟨k, 0 + j, none⟩) h.lt]; exact (h.th j hj).2⟩⟩
theorem Box.below {w w1 : World} {k g : Nat} {cs : List Value} (h : Box w k cs) (hg : k < g) (hb : Below g w w1) : Box w1 k cs :=
  ⟨Nat.lt_of_lt_of_le h.lt hb.size, fun j v hj => (hb.cell (p := ⟨k, 0 + j, none⟩) hg).trans (h.at_ j v hj), fun j hj => ⟨by rw [hb.cell (p := ⟨k, 0 + j, none⟩) hg]; exact (h.th j hj).1, by rw [hb.frozen (p := ⟨k, 0 + j, none⟩) hg]; exact (h.th j hj).2⟩⟩
theorem Box.kept {w w1 : World} {k r : Nat} {cs : List Value} (h : Box w k cs) (hne : k ≠ r) (hg : w.grownBy w1 (some r)) : Box w1 k cs := by
  have hb : w1.heap[k]? = w.heap[k]? := hg.block k h.lt (fun e => hne (Option.some.inj e))
  exact ⟨Nat.lt_of_lt_of_le h.lt hg.size, fun j v hj => by rw [World.cell?_of_block (a := ⟨k, 0 + j, none⟩) hb]; exact h.at_ j v hj, fun j hj => ⟨by rw [World.cell?_of_block (a := ⟨k, 0 + j, none⟩) hb]; exact (h.th j hj).1, by rw [World.frozen?_of_block (a := ⟨k, 0 + j, none⟩) hb]; exact (h.th j hj).2⟩⟩
theorem Box.alloc {w : World} {k : Nat} {cs : List Value} (h : Box w k cs) (o : Obj) : Box (w.alloc o) k cs := h.on (below_alloc w o)
theorem Box.drewN {w : World} {k : Nat} {cs : List Value} (h : Box w k cs) (n : Nat) : Box (w.drewN n) k cs := ⟨h.lt, h.at_, h.th⟩
theorem Box.drew {w : World} {k : Nat} {cs : List Value} (h : Box w k cs) : Box w.drew k cs := ⟨h.lt, h.at_, h.th⟩
theorem Box.new (w : World) (cs : List Value) (e : TypeId) : Box (w.alloc (.cells cs.toArray e)) w.heap.size cs := by
  have hg : (w.alloc (.cells cs.toArray e)).heap[w.heap.size]? = some (.cells cs.toArray e (0, 0)) := heap_alloc_new w _
  refine ⟨by simp, fun j v hj => ?_, fun j hj => ⟨?_, ?_⟩⟩
  · rw [Nat.zero_add, cell_of_row _ _ j _ _ _ hg]; simpa using hj
  · rw [Nat.zero_add, cell_of_row _ _ j _ _ _ hg]; simp [hj]
  · rw [World.frozen?_alloc_at _ _ _ _ rfl]
theorem setCells_grown (b : Nat) : ∀ (vs : List Value) (o : Nat) (w : World), w.grownBy (w.setCells b o vs) (some b)
  | [], _, w => ⟨rfl, rfl, rfl, Nat.le_refl _, fun _ _ _ => rfl⟩
  | v :: r, o, w => by
    have h := setCells_grown b r (o + 1) (w.setCell ⟨b, o, none⟩ v)
    have hs : (w.setCell ⟨b, o, none⟩ v).heap.size = w.heap.size := by simp [World.setCell]
    refine ⟨h.os, h.tape, h.output, by have := h.size; rw [hs] at this; exact this, fun k hk hne => ?_⟩
    have e := h.block k (by rw [hs]; exact hk) hne
    rw [Below.heap_setCell _ _ _ _ (fun e => hne (by rw [e]))] at e
    exact e
theorem setCell_grown (w : World) (k i : Nat) (v : Value) : w.grownBy (w.setCell ⟨k, i, none⟩ v) (some k) := setCells_grown k [v] i w
theorem Box.put {w : World} {k o : Nat} {A B C B' : List Value} (h : Box w k (A ++ (B ++ C))) (hl : B'.length = B.length) (ho : A.length = o) : Box (w.setCells k o B') k (A ++ (B' ++ C)) := by
  have hG := setCells_grown k B' o w
  have hlen : (A ++ (B' ++ C)).length = (A ++ (B ++ C)).length := by simp [hl]
  have hth : w.there k o B'.length := fun j hj => by
    have := h.th (o + j) (by simp; omega)
    rw [Nat.zero_add] at this
    exact this
  refine ⟨Nat.lt_of_lt_of_le h.lt hG.size, ?_, ?_⟩
  · refine rangeAt_join (q := o) ?_ (rangeAt_join (q := o + B.length) ?_ ?_ (by rw [hl])) (by omega)
    · exact World.rangeAt_setCells_apart (rangeAt_left h.at_) k o B' (by omega)
    · exact World.rangeAt_setCells_same w k o B' hth
    · exact World.rangeAt_setCells_apart (rangeAt_right (rangeAt_right h.at_ (q := o) (by omega)) (q := o + B.length) rfl) k o B' (by omega)
  · rw [hlen]; exact World.there_setCells h.th k o B'
theorem Box.cell {w : World} {k : Nat} {cs : List Value} (h : Box w k cs) (j : Nat) (v : Value) (hj : cs[j]? = some v) : w.cell? ⟨k, j, none⟩ = some v := by
  have := h.at_ j v hj
  rwa [Nat.zero_add] at this
theorem Box.free {w : World} {k : Nat} {cs : List Value} (h : Box w k cs) (j : Nat) (hj : j < cs.length) : w.frozen? ⟨k, j, none⟩ = false := by
  have := (h.th j hj).2
  rwa [Nat.zero_add] at this

theorem grown_trans {w w1 w2 : World} {row : Option Nat} (h : w.grownBy w1 row) (k : w1.grownBy w2 row) : w.grownBy w2 row :=
  ⟨k.os.trans h.os, k.tape.trans h.tape, k.output.trans h.output, Nat.le_trans h.size k.size, fun i hi hne => (k.block i (Nat.lt_of_lt_of_le hi h.size) hne).trans (h.block i hi hne)⟩
theorem grown_new {w w1 w2 : World} {row : Option Nat} {k : Nat} (h : w.grownBy w1 row) (g : w1.grownBy w2 (some k)) (hk : w.heap.size ≤ k) : w.grownBy w2 row :=
  ⟨g.os.trans h.os, g.tape.trans h.tape, g.output.trans h.output, Nat.le_trans h.size g.size, fun i hi hne => (g.block i (Nat.lt_of_lt_of_le hi h.size) (fun e => by have := Option.some.inj e; omega)).trans (h.block i hi hne)⟩
theorem grown_alloc {w w1 : World} {row : Option Nat} (h : w.grownBy w1 row) (o : Obj) : w.grownBy (w1.alloc o) row := grown_trans h (World.grownBy_alloc w1 o row)
theorem grown_drew {w w1 : World} {row : Option Nat} (h : w.grownBy w1 row) : w.grownBy w1.drew row := ⟨h.os, h.tape, h.output, h.size, h.block⟩
theorem grown_drewN {w w1 : World} {row : Option Nat} (h : w.grownBy w1 row) (n : Nat) : w.grownBy (w1.drewN n) row := ⟨h.os, h.tape, h.output, h.size, h.block⟩
theorem grown_below {w w1 w2 : World} {row : Option Nat} (h : w.grownBy w1 row) (k : Below w1.heap.size w1 w2) : w.grownBy w2 row :=
  ⟨k.os.trans h.os, k.tape.trans h.tape, k.output.trans h.output, Nat.le_trans h.size k.size, fun i hi hne => (k.block i (Nat.lt_of_lt_of_le hi h.size)).trans (h.block i hi hne)⟩
theorem below_of_grown {B : Nat} {w w1 : World} {r : Nat} (h : w.grownBy w1 (some r)) (hr : B ≤ r) (hB : B ≤ w.heap.size) : Below B w w1 := (Below.refl _ _).grown h hB (fun k hk => by have := Option.some.inj hk; omega)
theorem below_grown {B : Nat} {w w1 w2 : World} {k : Nat} (hb : Below B w w1) (hg : w1.grownBy w2 (some k)) (hk : B ≤ k) (hs : B ≤ w1.heap.size) : Below B w w2 :=
  hb.grown hg hs (fun r hr => by have := Option.some.inj hr; omega)
/-- A load of many cells, as one step. -/
theorem wpl_load {P : Program} {ops : Array Oper} {rest : List Oper} {op : Oper} {a : Act} {w : World} {Q : Exit → Act → World → Prop} (ty : TypeId) (x : Operand) (ho : op.op = .load ty x) (b o : Nat) (cs : List Value) (d : TypeDesc) (hc : w.rangeAt b o cs)
    (hu : P.underlying ty = some d) (hd : d.isRow = true) (hi : (P.info? ty).map (·.size) = some cs.length) (hw : Region.wanted op (yielded ops a.tmps) = true) (hx : a.eval x = .pointer (some ⟨b, o, none⟩))
    (h : wpList P ops Q rest (a.put op.dst (.agg cs.toArray)) w) : wpList P ops Q (op :: rest) a w :=
  wpList_step fun K hK => by rw [if_pos hw]; exact wp_load_mid ty x ho b o hx cs d hc hu hd hi (hK _ _ h)
theorem wpl_frame {ops : Array Oper} {rest : List Oper} {op : Oper} {a : Act} {w : World} {Q : Exit → Act → World → Prop} {k : Nat} {p : Fd} {s : Value} (x : Operand) (ho : op.op = .load 38 x) (hA : Box w k (fcl p s)) (hw : Region.wanted op (yielded ops a.tmps) = true) (hx : a.eval x = .pointer (some ⟨k, 0, none⟩))
    (h : wpList Tryz.prog ops Q rest (a.put op.dst (.agg (FC p s))) w) : wpList Tryz.prog ops Q (op :: rest) a w :=
  wpl_load 38 x ho k 0 _ _ hA.at_ Tryz.underlying38 rfl Tryz.size38 hw hx h
theorem one_fcl (x : Fd) (s : Value) (hs : s.oneCell' = true) : (FC x s).all (·.oneCell') = true := all_oneCell_toArray (fun v hv => by
  simp only [fcl, dcl, scl, List.mem_cons, List.mem_append, List.not_mem_nil, or_false] at hv
  rcases hv with (rfl | rfl | rfl | rfl | rfl | rfl) | (rfl | rfl | rfl | rfl | rfl | rfl) | rfl | rfl | rfl | rfl | rfl <;> first | rfl | exact hs)
/-- One is stored into a variable of its own. -/
theorem wpl_putF {ops : Array Oper} {rest : List Oper} {op : Oper} {a : Act} {w : World} {Q : Exit → Act → World → Prop} {k : Nat} (p : Fd) (s : Value) (m : Fd) (s0 : Value) (hs : s.oneCell' = true) (x y : Operand) (ho : op.op = .store 38 x y) (ht : Box w k (fcl m s0)) (hw : Region.wanted op (yielded ops a.tmps) = true) (hx : a.eval x = .pointer (some ⟨k, 0, none⟩)) (hy : a.eval y = .agg (FC p s))
    (h : ∀ w', Box w' k (fcl p s) → w.grownBy w' (some k) → wpList Tryz.prog ops Q rest (a.put op.dst undef) w') : wpList Tryz.prog ops Q (op :: rest) a w :=
  wpList_step fun K hK => by
    rw [if_pos hw]
    refine wp_store_mid 38 x y ho k 0 (FC p s) hx hy ht.th Tryz.size38 (one_fcl p s hs) (hK _ _ (h _ ?_ (setCells_grown k _ 0 w)))
    have hb := Box.put (w := w) (k := k) (o := 0) (A := []) (B := fcl m s0) (C := []) (B' := fcl p s) (by simpa using ht) rfl rfl
    rw [List.append_nil, List.nil_append] at hb
    exact hb
/-- The bytes of a list of numbers, as a string has them. -/
def bs (ns : List Int) : ByteArray := ⟨(ns.map fun n => UInt8.ofNat n.toNat).toArray⟩
theorem bs_toList (ns : List Int) : (bs ns).toList = ns.map fun n => UInt8.ofNat n.toNat := by rw [ByteArray.toList_eq]; simp [bs]
theorem u8_inj {x y : Int} (hx : 0 ≤ x ∧ x ≤ 255) (hy : 0 ≤ y ∧ y ≤ 255) (h : UInt8.ofNat x.toNat = UInt8.ofNat y.toNat) : x = y := by
  have h1 := congrArg UInt8.toNat h
  simp at h1
  omega
theorem map_inj : ∀ {a b : List Int}, Rng a → Rng b → (a.map fun n => UInt8.ofNat n.toNat) = (b.map fun n => UInt8.ofNat n.toNat) → a = b
  | [], [], _, _, _ => rfl
  | [], _ :: _, _, _, h => by simp at h
  | _ :: _, [], _, _, h => by simp at h
  | x :: a, y :: b, ha, hb, h => by
    simp only [List.map_cons, List.cons.injEq] at h
    have e := u8_inj (ha x (by simp)) (hb y (by simp)) h.1
    have e2 := map_inj (fun n hn => ha n (by simp [hn])) (fun n hn => hb n (by simp [hn])) h.2
    rw [e, e2]
theorem bs_beq {a b : List Int} (ha : Rng a) (hb : Rng b) : ((bs a).toList == (bs b).toList) = decide (a = b) := by
  rw [bs_toList, bs_toList, Bool.eq_iff_iff]
  simp only [beq_iff_eq, decide_eq_true_eq]
  exact ⟨map_inj ha hb, fun h => by rw [h]⟩
theorem bs_beq_self (a : List Int) : ((bs a).toList == (bs a).toList) = true := by simp
/-- A []byte as a string. -/
theorem bytStr {w : World} {ao : Option Addr} {n c : Nat} {ns : List Int} (h : Byt w ao n c ns) :
    (convert 36 9 (.slice ao n c)).run Tryz.prog w = .ok (.string (bs ns)) w := by
  rw [run_convert_bytes_string w 36 9 5 _ _ _ Tryz.underlying36 Tryz.underlying5 Tryz.underlying9]
  cases ao with
  | none =>
    obtain ⟨rfl, rfl⟩ := h.nil rfl
    obtain rfl : ns = [] := List.eq_nil_of_length_eq_zero h.len
    rfl
  | some ad =>
    have hl := run_loadCells_list (P := Tryz.prog) w ad (ns.map (Value.int .u8)) h.src
    rw [List.length_map, h.len] at hl
    rw [run_bytesToString w _ _ _ ns (by simpa using hl), foldl_push_bytes]
    simp [bs]
theorem Box.set {w : World} {k o : Nat} {v v' : Value} {A C : List Value} (h : Box w k (A ++ (v :: C))) (ho : A.length = o) : Box (w.setCell ⟨k, o, none⟩ v') k (A ++ (v' :: C)) :=
  Box.put (B := [v]) (B' := [v']) (C := C) h rfl ho
theorem own_byt {w : World} {base : Nat} {v : Value} {n : Nat} {ns : List Int} (h : w.ownsRow base 5 1 v n (ns.map (Value.int .u8))) (hr : Rng ns) : ∃ ao c, v = .slice ao n c ∧ Byt w ao n c ns := by
  have hl : ns.length = n := by have := h.1; simpa using this
  rcases h.2 with ⟨rfl, rfl⟩ | ⟨g, cap, cur, rfl, hb, hg, hn, hm, hs, ht⟩
  · exact ⟨none, 0, rfl, ⟨hl, fun _ => ⟨rfl, rfl⟩, fun j hj => by omega, Nat.le_refl _, Nat.zero_le _, hr⟩⟩
  · refine ⟨_, _, rfl, ⟨hl, fun e => (by cases e), fun j hj => ⟨g, 0, rfl, ?_⟩, hn, hm, hr⟩⟩
    have hc := h.cells (g := g) rfl j (.int .u8 (ns.getD j 0)) (by
      rw [List.getElem?_map, List.getElem?_eq_getElem (by omega), List.getD_eq_getElem?_getD, List.getElem?_eq_getElem (by omega)]; rfl)
    rw [Addr.add_lit] at hc
    exact hc
/-- A slice of bytes of the call's own. -/
def Row (w : World) (base : Nat) (v : Value) (n : Nat) (ns : List Int) : Prop := w.ownsRow base 5 1 v n (ns.map (Value.int .u8))
theorem Row.nil (w : World) (base : Nat) : Row w base (.slice none 0 0) 0 [] := World.ownsRow_nil _ _ _ _
theorem Row.byt {w : World} {base : Nat} {v : Value} {n : Nat} {ns : List Int} (h : Row w base v n ns) (hr : Rng ns) : ∃ ao c, v = .slice ao n c ∧ Byt w ao n c ns := own_byt h hr
theorem Row.alloc {w : World} {base : Nat} {v : Value} {n : Nat} {ns : List Int} (h : Row w base v n ns) (o : Obj) : Row (w.alloc o) base v n ns := World.ownsRow.alloc h o
theorem Row.on {w w1 : World} {base : Nat} {v : Value} {n : Nat} {ns : List Int} (h : Row w base v n ns) (hb : Below w.heap.size w w1) : Row w1 base v n ns :=
  World.ownsRow.kept (row := none) h ⟨hb.os, hb.tape, hb.output, hb.size, fun k hk _ => hb.block k hk⟩ (by cases hv : v.ownBlock <;> simp)
theorem wpl_app {ops : Array Oper} {rest : List Oper} {o : Oper} {a : Act} {w : World} {Q : Exit → Act → World → Prop} (hgd : o.guard = none) (s x : Operand)
    (ho : o.op = .call { callee := .builtin .append, args := #[s, x], argTypes := #[36, 36] })
    (base : Nat) (v : Value) (n : Nat) (xs : List Int) (hs : a.eval s = v) (hown : Row w base v n xs) (ao : Option Addr) (m c : Nat) (ns : List Int) (hx : a.eval x = .slice ao m c) (hB : Byt w ao m c ns)
    (h1 : n + m ≤ 100000) (hbase : base ≤ w.heap.size)
    (h : ∀ v' w', Row w' base v' (n + m) (xs ++ ns) → Below base w w' → wpList Tryz.prog ops Q rest (a.put o.dst v') w') : wpList Tryz.prog ops Q (o :: rest) a w := by
  obtain ⟨i0, hi, hz0, hz1, hz2⟩ := info_parts Tryz.info5
  cases ao with
  | none =>
    obtain ⟨rfl, rfl⟩ := hB.nil rfl
    obtain rfl : ns = [] := List.eq_nil_of_length_eq_zero hB.len
    refine wpList_append_own_none hgd s x 36 ho base 5 i0 1 Tryz.underlying36 hi v n (xs.map (Value.int .u8)) hs hown hx ?_
    refine h v w ?_ (Below.refl _ _)
    rw [List.append_nil]
    exact hown
  | some ad =>
    refine wpList_append_own _ hgd s x 36 ho base 5 i0 (.int .u8 0) 1 1 Tryz.underlying36 hi hz0 hz1 hz2 rfl (by decide) v n (xs.map (Value.int .u8)) hs hown ad m c (ns.map (Value.int .u8)) hx (by simp [hB.len]) hB.src (one_u8 ns) (by unfold maxLen; omega) (by omega) hbase ?_
    intro v' w' h2 h3 _
    refine h v' w' ?_ ((Below.refl _ _).grown h3 hbase (fun k hk => (hown.lt k hk).1))
    unfold Row
    rw [List.map_append]
    exact h2

theorem Row.lit {w : World} {base : Nat} (cs : Array Value) (ns : List Int) (n : Nat) (hc : cs.toList = ns.map (Value.int .u8)) (hl : cs.size = n) (hn : n ≤ 1000) (hb : base ≤ w.heap.size) : Row (w.alloc (.cells cs 5)) base (.slice (some ⟨w.heap.size, 0, none⟩) n n) n ns := by
  unfold Row
  rw [← hc]
  exact World.ownsRow_lit w cs n hb (by unfold maxLen; omega) (by omega)
/-- What others' blocks are left as they were: those below N, and those from B on. -/
structure Mid (N B : Nat) (w w' : World) : Prop where
  os : w'.os = w.os
  tape : w'.tape = w.tape
  output : w'.output = w.output
  size : w.heap.size ≤ w'.heap.size
  block : ∀ i, i < w.heap.size → (i < N ∨ B ≤ i) → w'.heap[i]? = w.heap[i]?
theorem Mid.refl (N B : Nat) (w : World) : Mid N B w w := ⟨rfl, rfl, rfl, Nat.le_refl _, fun _ _ _ => rfl⟩
theorem Mid.trans {N B : Nat} {w w1 w2 : World} (h : Mid N B w w1) (k : Mid N B w1 w2) : Mid N B w w2 :=
  ⟨k.os.trans h.os, k.tape.trans h.tape, k.output.trans h.output, Nat.le_trans h.size k.size, fun i hi hb => (k.block i (Nat.lt_of_lt_of_le hi h.size) hb).trans (h.block i hi hb)⟩
theorem Mid.on {N B : Nat} {w w1 w2 : World} (h : Mid N B w w1) (k : Below w1.heap.size w1 w2) : Mid N B w w2 :=
  ⟨k.os.trans h.os, k.tape.trans h.tape, k.output.trans h.output, Nat.le_trans h.size k.size, fun i hi hb => (k.block i (Nat.lt_of_lt_of_le hi h.size)).trans (h.block i hi hb)⟩
theorem Mid.grown {N B k : Nat} {w w1 w2 : World} (h : Mid N B w w1) (g : w1.grownBy w2 (some k)) (hk : w.heap.size ≤ k ∨ (N ≤ k ∧ k < B)) : Mid N B w w2 :=
  ⟨g.os.trans h.os, g.tape.trans h.tape, g.output.trans h.output, Nat.le_trans h.size g.size, fun i hi hb => (g.block i (Nat.lt_of_lt_of_le hi h.size) (fun e => by have := Option.some.inj e; omega)).trans (h.block i hi hb)⟩
theorem Mid.below {N B : Nat} {w w1 : World} (h : Mid N B w w1) (hN : N ≤ w.heap.size) : Below N w w1 :=
  ⟨h.os, h.tape, h.output, h.size, fun i hi => h.block i (Nat.lt_of_lt_of_le hi hN) (Or.inl hi)⟩
/-- A slice of numbers, in blocks from B on. -/
structure Its (w : World) (B : Nat) (ao : Option Addr) (n c : Nat) (ns : List Int) : Prop where
  len : ns.length = n
  nil : ao = none → n = 0 ∧ c = 0
  cell : ∀ j, j < n → ∃ b o, ao = some ⟨b, o, none⟩ ∧ B ≤ b ∧ w.cell? ⟨b, o + j, none⟩ = some (.int .i64 (ns.getD j 0))
  le : n ≤ c
  mx : c ≤ maxLen
theorem Its.mid {w w1 : World} {N M B : Nat} {ao : Option Addr} {n c : Nat} {ns : List Int} (h : Its w B ao n c ns) (hb : Mid N M w w1) (hM : M ≤ B) : Its w1 B ao n c ns :=
  ⟨h.len, h.nil, fun j hj => by
    obtain ⟨b, o, e, hB, hc⟩ := h.cell j hj
    have hl := World.block_lt_of_cell? w _ hc
    refine ⟨b, o, e, hB, ?_⟩
    rw [World.cell?_of_block (a := ⟨b, o + j, none⟩) (hb.block b hl (Or.inr (by omega)))]
    exact hc, h.le, h.mx⟩
theorem Its.on {w w1 : World} {B : Nat} {ao : Option Addr} {n c : Nat} {ns : List Int} (h : Its w B ao n c ns) (hb : Below w.heap.size w w1) : Its w1 B ao n c ns :=
  ⟨h.len, h.nil, fun j hj => by
    obtain ⟨b, o, e, hB, hc⟩ := h.cell j hj
    exact ⟨b, o, e, hB, (hb.cell (p := ⟨b, o + j, none⟩) (World.block_lt_of_cell? w _ hc)).trans hc⟩, h.le, h.mx⟩
theorem Its.mono {w : World} {B B' : Nat} {ao : Option Addr} {n c : Nat} {ns : List Int} (h : Its w B ao n c ns) (hB : B' ≤ B) : Its w B' ao n c ns :=
  ⟨h.len, h.nil, fun j hj => by
    obtain ⟨b, o, e, hB', hc⟩ := h.cell j hj
    exact ⟨b, o, e, by omega, hc⟩, h.le, h.mx⟩
theorem Its.drew {w : World} {B : Nat} {ao : Option Addr} {n c : Nat} {ns : List Int} (h : Its w B ao n c ns) : Its w.drew B ao n c ns := ⟨h.len, h.nil, h.cell, h.le, h.mx⟩
theorem Its.at {w : World} {B : Nat} {ao : Option Addr} {n c : Nat} {ns : List Int} (h : Its w B ao n c ns) (hn : 0 < n) : ∃ b o, ao = some ⟨b, o, none⟩ ∧ (∀ j, j < n → w.cell? ⟨b, o + j, none⟩ = some (.int .i64 (ns.getD j 0))) ∧ b < w.heap.size := by
  obtain ⟨b, o, rfl, _, hc⟩ := h.cell 0 hn
  refine ⟨b, o, rfl, fun j hj => ?_, World.block_lt_of_cell? w _ hc⟩
  obtain ⟨b', o', e, _, hc'⟩ := h.cell j hj
  have e1 := Option.some.inj e
  injection e1 with e2 e3
  subst e2 e3
  exact hc'
/-- A slice of numbers of the call's own. -/
def IRow (w : World) (base : Nat) (v : Value) (n : Nat) (ns : List Int) : Prop := w.ownsRow base 3 1 v n (ns.map (Value.int .i64))
theorem IRow.nil (w : World) (base : Nat) : IRow w base (.slice none 0 0) 0 [] := World.ownsRow_nil _ _ _ _
theorem IRow.its {w : World} {base : Nat} {v : Value} {n : Nat} {ns : List Int} (h : IRow w base v n ns) : ∃ ao c, v = .slice ao n c ∧ Its w base ao n c ns := by
  have hl : ns.length = n := by have := h.1; simpa using this
  have h0 := h
  unfold IRow at h0
  rcases h.2 with ⟨rfl, rfl⟩ | ⟨g, cap, cur, rfl, hb, hg, hn, hm, hs, ht⟩
  · exact ⟨none, 0, rfl, ⟨hl, fun _ => ⟨rfl, rfl⟩, fun j hj => by omega, Nat.le_refl _, Nat.zero_le _⟩⟩
  · refine ⟨_, _, rfl, ⟨hl, fun e => (by cases e), fun j hj => ⟨g, 0, rfl, hb, ?_⟩, hn, hm⟩⟩
    have hc := h0.cells (g := g) rfl j (.int .i64 (ns.getD j 0)) (by
      rw [List.getElem?_map, List.getElem?_eq_getElem (by omega), List.getD_eq_getElem?_getD, List.getElem?_eq_getElem (by omega)]; rfl)
    rw [Addr.add_lit] at hc
    exact hc
theorem IRow.alloc {w : World} {base : Nat} {v : Value} {n : Nat} {ns : List Int} (h : IRow w base v n ns) (o : Obj) : IRow (w.alloc o) base v n ns := World.ownsRow.alloc h o
theorem IRow.on {w w1 : World} {base : Nat} {v : Value} {n : Nat} {ns : List Int} (h : IRow w base v n ns) (hb : Below w.heap.size w w1) : IRow w1 base v n ns :=
  World.ownsRow.kept (row := none) h ⟨hb.os, hb.tape, hb.output, hb.size, fun k hk _ => hb.block k hk⟩ (by cases hv : v.ownBlock <;> simp)
theorem one_i64 (ns : List Int) : ∀ u ∈ ns.map (Value.int .i64), u.oneCell' = true := by
  intro u hu
  obtain ⟨x, _, rfl⟩ := List.mem_map.1 hu
  rfl
/-- One number more. -/
theorem wpl_iapp {ops : Array Oper} {rest : List Oper} {o : Oper} {a : Act} {w : World} {Q : Exit → Act → World → Prop} (hgd : o.guard = none) (s x : Operand)
    (ho : o.op = .call { callee := .builtin .append, args := #[s, x], argTypes := #[52, 52] })
    (base : Nat) (v : Value) (n : Nat) (xs : List Int) (hs : a.eval s = v) (hown : IRow w base v n xs) (ad : Addr) (y : Int) (hx : a.eval x = .slice (some ad) 1 1) (hB : w.cell? ad = some (.int .i64 y))
    (h1 : n + 1 ≤ 100000) (hbase : base ≤ w.heap.size)
    (h : ∀ v' w', IRow w' base v' (n + 1) (xs ++ [y]) → Below base w w' → w.grownBy w' v.ownBlock → wpList Tryz.prog ops Q rest (a.put o.dst v') w') : wpList Tryz.prog ops Q (o :: rest) a w := by
  obtain ⟨i0, hi, hz0, hz1, hz2⟩ := info_parts Tryz.info3
  refine wpList_append_own _ hgd s x 52 ho base 3 i0 (.int .i64 0) 1 8 Tryz.underlying52 hi hz0 hz1 hz2 rfl (by decide) v n (xs.map (Value.int .i64)) hs hown ad 1 1 [.int .i64 y] hx (by simp) ?_ (by intro u hu; simp at hu; subst hu; rfl) (by unfold maxLen; omega) (by omega) hbase ?_
  · intro j u hj
    cases j with
    | zero =>
      simp at hj
      subst hj
      obtain ⟨b, o, sp⟩ := ad
      simpa [Addr.add] using hB
    | succ j => simp at hj
  · intro v' w' h2 h3 _
    refine h v' w' ?_ ((Below.refl _ _).grown h3 hbase (fun k hk => (hown.lt k hk).1)) h3
    unfold IRow
    rw [List.map_append]
    exact h2
end Go.Proofs.YtgpdjfaklcmoiaaGreat
/- Memory: the program's map; the program's table and the document's, and how they stay while others do something. -/
namespace Go.Proofs.YtgpdjfaklcmoiaaGreat
open Go.RowKit Go.MapKept
open Go.ChangeMaps (setBlock heap_setBlock_same heap_setBlock_other)

theorem Tryz.laidOut : laidOutB Tryz.prog = true := by kernel_rfl
theorem Tryz.row116 : (116 : TypeId) < Tryz.prog.types.size := of_decide_eq_true (by kernel_rfl)
theorem Tryz.wide116 : (match Tryz.prog.underlying 116 with | some (.array _ _) | some (.struct _) => true | _ => false) = true := by rw [Tryz.underlying116]
set_option maxRecDepth 100000 in
theorem Tryz.law116 : WideMaps.KeyLaw Tryz.prog 116 := deep_law_laid Tryz.laidOut (m := 2) (by omega) Tryz.row116 (by kernel_rfl) Tryz.wide116
theorem Tryz.keyed : Maps.Keyed Tryz.prog 116 := Maps.Keyed.of_law Tryz.law116
theorem Tryz.keyType116 : Tryz.prog.keyType 116 = true := by kernel_rfl
/-- A number that an int holds. -/
def I64 (x : Int) : Prop := -9223372036854775808 ≤ x ∧ x ≤ 9223372036854775807
def KV (v p : Int) : Value := .agg #[.int .i64 v, .int .i64 p]
def EV (t : Bool) : Value := .agg #[.bool t]
theorem wf_i64 {x : Int} (h : I64 x) : (Lit.int .i64 x).wf = true := by
  have := h.1; have := h.2
  simp [Lit.wf, IntKind.min, IntKind.max, IntKind.signed, IntKind.bits]
  omega
theorem keyLits80 {v p : Int} (hv : I64 v) (hp : I64 p) (m : Nat) : Tryz.prog.keyLits (m + 2) 116 [.int .i64 v, .int .i64 p] = some [.int .i64 v, .int .i64 p] := by
  simp [Program.keyLits, Tryz.underlying116, Tryz.underlying3, Tryz.cells116, Tryz.cells3, wf_i64 hv, wf_i64 hp]
theorem keyOf80 {v p : Int} (hv : I64 v) (hp : I64 p) : ∃ kl, keyOf Tryz.prog 116 (KV v p) = some kl := by
  have hr := Tryz.row116
  obtain ⟨m, hm⟩ : ∃ m, Tryz.prog.types.size + 1 = m + 2 := by
    generalize Tryz.prog.types.size = q at hr
    exact ⟨q - 1, by have : 116 < q := hr; omega⟩
  have hf : (KV v p).formed Tryz.prog 116 = true := by simp [KV, Value.formed, Tryz.underlying116, Tryz.cells116]
  refine ⟨.string (keyBytes [.int .i64 v, .int .i64 p]), ?_⟩
  simp only [keyOf, Tryz.underlying116, Tryz.keyType116, hf, hm]
  rw [show (KV v p).cells.toList = [.int .i64 v, .int .i64 p] from rfl, keyLits80 hv hp]
  rfl
/-- The program's map. -/
def Mp (w : World) (b : Nat) (l : List Mm) : Prop :=
  ∃ es clock, w.heap[b]? = some (.map es clock) ∧ Stamped es clock ∧ (es.toList.map fun e => (e.key, e.val)) = l.map fun m => (KV m.v m.p, EV m.t)
def Small (l : List Mm) : Prop := ∀ m ∈ l, I64 m.v ∧ I64 m.p
theorem Wf.small {T : Tb} (h : Wf T) : Small T.l := fun m hm => by
  have := h.mem m hm
  have := h.n64
  exact ⟨⟨by omega, by omega⟩, ⟨by omega, by omega⟩⟩
theorem KV_inj {v p v' p' : Int} (h : KV v p = KV v' p') : v = v' ∧ p = p' := by
  simp [KV] at h
  exact h
theorem mp_get {es : Array MapEntry} {l : List Mm} (h : (es.toList.map fun e => (e.key, e.val)) = l.map fun m => (KV m.v m.p, EV m.t)) {j : Nat} {e : MapEntry} (hj : es.toList[j]? = some e) : ∃ m, l[j]? = some m ∧ e.key = KV m.v m.p ∧ e.val = EV m.t := by
  have h1 := congrArg (fun x => x[j]?) h
  simp only [List.getElem?_map, hj, Option.map_some] at h1
  cases hm : l[j]? with
  | none => rw [hm] at h1; simp at h1
  | some m =>
    rw [hm] at h1
    simp at h1
    exact ⟨m, rfl, h1.1, h1.2⟩
theorem ix_of_get : ∀ {l : List Mm} {v p : Int} {j : Nat} {m : Mm}, Apart l → l[j]? = some m → mt m v p = true → ix l v p = j ∧ hs l v p = true ∧ tgd l v p = m.t
  | [], _, _, _, _, _, h, _ => by simp at h
  | x :: r, v, p, 0, m, _, h, hm => by
    simp at h
    subst h
    simp [ix, hs, tgd, hm]
  | x :: r, v, p, j + 1, m, hA, h, hm => by
    obtain ⟨h1, h2⟩ := List.pairwise_cons.1 hA
    simp at h
    obtain ⟨e1, e2, e3⟩ := ix_of_get h2 h hm
    have hx : mt x v p = false := by
      rw [Bool.eq_false_iff]
      intro hc
      have a := (mt_iff x v p).1 hc
      have b := (mt_iff m v p).1 hm
      exact h1 m (List.mem_of_getElem? h) ⟨a.1.trans b.1.symm, a.2.trans b.2.symm⟩
    simp [ix, hs, tgd, hx, e1, e2, e3]
theorem mp_keys {es : Array MapEntry} {l : List Mm} (h : (es.toList.map fun e => (e.key, e.val)) = l.map fun m => (KV m.v m.p, EV m.t)) (hS : Small l) : ∀ e ∈ es.toList, ∃ kl, keyOf Tryz.prog 116 e.key = some kl := by
  intro e he
  obtain ⟨j, hj⟩ := List.getElem?_of_mem he
  obtain ⟨m, hm, hk, _⟩ := mp_get h hj
  have := hS m (List.mem_of_getElem? hm)
  rw [hk]
  exact keyOf80 this.1 this.2
/-- Where the key stands, or that it does not. -/
theorem mp_find (w : World) {es : Array MapEntry} {l : List Mm} (h : (es.toList.map fun e => (e.key, e.val)) = l.map fun m => (KV m.v m.p, EV m.t)) (hS : Small l) (hA : Apart l) {v p : Int} (hv : I64 v) (hp : I64 p) :
    ((Instr.findKey 116 (KV v p) es.toList).run Tryz.prog w = .ok none w ∧ (∀ e ∈ es.toList, e.key ≠ KV v p) ∧ hs l v p = false ∧ tgd l v p = false) ∨
    ∃ e, (Instr.findKey 116 (KV v p) es.toList).run Tryz.prog w = .ok (some (ix l v p, e.val)) w ∧ es.toList[ix l v p]? = some e ∧ e.key = KV v p ∧ e.val = EV (tgd l v p) ∧ hs l v p = true := by
  obtain ⟨kl, hkl⟩ := keyOf80 hv hp
  rcases Tryz.keyed.find w hkl es.toList (mp_keys h hS) with ⟨h1, h2⟩ | ⟨j, e, h1, h2, h3⟩
  · refine Or.inl ⟨h1, h2, ?_⟩
    have hn : hs l v p = false := by
      rw [Bool.eq_false_iff]
      intro hc
      have hg := ix_get l v p hc
      have hh := congrArg (fun x => x[ix l v p]?) h
      simp only [List.getElem?_map, hg, Option.map_some] at hh
      cases he : es.toList[ix l v p]? with
      | none => rw [he] at hh; simp at hh
      | some e =>
        rw [he] at hh
        simp at hh
        exact h2 e (List.mem_of_getElem? he) hh.1
    refine ⟨hn, ?_⟩
    clear h h1 h2 hS hA
    induction l with
    | nil => rfl
    | cons m r ih =>
      rw [hs_cons] at hn
      simp only [Bool.or_eq_false_iff] at hn
      simp [tgd, hn.1, ih hn.2]
  · obtain ⟨m, hm, hk, hval⟩ := mp_get h h2
    have e1 := KV_inj (hk.symm.trans h3)
    obtain ⟨i1, i2, i3⟩ := ix_of_get hA hm ((mt_iff m v p).2 e1)
    subst i1
    exact Or.inr ⟨e, h1, h2, h3, by rw [hval, i3], i2⟩
theorem Mp.look {w : World} {b : Nat} {l : List Mm} (h : Mp w b l) (hS : Small l) (hA : Apart l) {v p : Int} (hv : I64 v) (hp : I64 p) :
    (Instr.lookup 98 (.map (some b)) (KV v p) true).run Tryz.prog w = .ok (.tuple #[EV (tgd l v p), .bool (hs l v p)]) w := by
  obtain ⟨es, clock, hb, hst, hl⟩ := h
  obtain ⟨kl, hkl⟩ := keyOf80 hv hp
  rcases mp_find w hl hS hA hv hp with ⟨h1, _, h3, h4⟩ | ⟨e, h1, h2, h3, h4, h5⟩
  · simp [Instr.lookup, run_underlying Tryz.underlying98, MapKept.run_getObj_map hb, Tryz.keyed.check w _ hkl, h1, Result.andThen, h3, h4]
    rfl
  · simp [Instr.lookup, run_underlying Tryz.underlying98, MapKept.run_getObj_map hb, Tryz.keyed.check w _ hkl, h1, Result.andThen, h4, h5]
theorem grown_setBlock {w : World} {b : Nat} {es : Array MapEntry} {clock : Nat} {o' : Obj} (hb : w.heap[b]? = some (.map es clock)) : w.grownBy (setBlock w b o') (some b) :=
  ⟨rfl, rfl, rfl, by simp [setBlock], fun i _ hi => heap_setBlock_other hb _ (fun e => hi (by rw [e]))⟩
theorem Mp.put {w : World} {b : Nat} {l : List Mm} (h : Mp w b l) (hS : Small l) (hA : Apart l) {v p : Int} (hv : I64 v) (hp : I64 p) (t : Bool) :
    ∃ w', (Instr.mapUpdate 98 (.map (some b)) (KV v p) (EV t)).run Tryz.prog w = .ok () w' ∧ Mp w' b (ad l v p t) ∧ w.grownBy w' (some b) := by
  obtain ⟨es, clock, hb, hst, hl⟩ := h
  obtain ⟨kl, hkl⟩ := keyOf80 hv hp
  rcases mp_find w hl hS hA hv hp with ⟨h1, h2, h3, h4⟩ | ⟨e0, h1, h2, h3, h4, h5⟩
  · refine ⟨setBlock w b (.map (es.push ⟨KV v p, EV t, clock⟩) (clock + 1)), ?_, ⟨_, _, heap_setBlock_same hb _, stamped_push hst h2, ?_⟩, grown_setBlock hb⟩
    · simp [Instr.mapUpdate, run_underlying Tryz.underlying98, MapKept.run_getObj_map hb, Tryz.keyed.check w false hkl, h1, MapKept.run_setObj_map _ hb, Result.andThen, setBlock]
    · rw [ad_push l v p t h3, Array.toList_push, List.map_append, List.map_append, hl]
      rfl
  · have hj : es[ix l v p]? = some e0 := by simpa using h2
    have hkeyf : ∀ e', es[ix l v p]? = some e' → ({ e' with key := KV v p, val := EV t } : MapEntry).key = e'.key := fun e' he' => by rw [hj] at he'; cases he'; exact h3.symm
    refine ⟨setBlock w b (.map (es.modify (ix l v p) (fun e' => { e' with key := KV v p, val := EV t })) clock), ?_, ⟨_, _, heap_setBlock_same hb _, stamped_modify hst _ _ (fun _ _ => rfl) (fun e' _ he' => hkeyf e' he'), ?_⟩, grown_setBlock hb⟩
    · simp [Instr.mapUpdate, run_underlying Tryz.underlying98, MapKept.run_getObj_map hb, Tryz.keyed.check w false hkl, h1, hj, h3, Tryz.keyed.stays w hkl, MapKept.run_setObj_map _ hb, Result.andThen, setBlock]
    · rw [ad_set l v p t h5, Array.toList_modify, ChangeMaps.modify_eq_set _ _ _ _ h2, List.map_set, List.map_set, hl]
theorem Mp.drop {w : World} {b : Nat} {l : List Mm} (h : Mp w b l) (hS : Small l) (hA : Apart l) {v p : Int} (hv : I64 v) (hp : I64 p) (ty : TypeId) :
    ∃ w', (Builtin.delete_ #[98, 116] ty #[.map (some b), KV v p]).run Tryz.prog w = .ok (.tuple #[]) w' ∧ Mp w' b (rm l v p) ∧ w.grownBy w' (some b) := by
  obtain ⟨es, clock, hb, hst, hl⟩ := h
  obtain ⟨kl, hkl⟩ := keyOf80 hv hp
  have hlen : es.toList.length = l.length := by have := congrArg List.length hl; simpa using this
  rcases mp_find w hl hS hA hv hp with ⟨h1, h2, h3, h4⟩ | ⟨e0, h1, h2, h3, h4, h5⟩
  · refine ⟨setBlock w b (.map es clock), ?_, ⟨_, _, heap_setBlock_same hb _, hst, ?_⟩, grown_setBlock hb⟩
    · simp [Builtin.delete_, run_underlying Tryz.underlying98, MapKept.run_getObj_map hb, Tryz.keyed.check w _ hkl, h1, MapKept.run_setObj_map _ hb, Result.andThen, setBlock]
    · rw [rm_erase, List.eraseIdx_of_length_le, hl]
      have h9 := hs_ix l v p
      rw [h3] at h9
      simp at h9
      exact h9
  · have hjs : ix l v p < es.size := by have := (List.getElem?_eq_some_iff.1 h2).1; simpa using this
    have hsub : (es.eraseIdxIfInBounds (ix l v p)).toList = es.toList.eraseIdx (ix l v p) := by
      unfold Array.eraseIdxIfInBounds
      rw [dif_pos hjs]
      simp
    refine ⟨setBlock w b (.map (es.eraseIdxIfInBounds (ix l v p)) clock), ?_, ⟨_, _, heap_setBlock_same hb _, stamped_erase hst _, ?_⟩, grown_setBlock hb⟩
    · simp [Builtin.delete_, run_underlying Tryz.underlying98, MapKept.run_getObj_map hb, Tryz.keyed.check w _ hkl, h1, MapKept.run_setObj_map _ hb, Result.andThen, setBlock]
    · rw [hsub, rm_erase, ChangeMaps.map_eraseIdx, ChangeMaps.map_eraseIdx, hl]
theorem Mp.block {w w1 : World} {b : Nat} {l : List Mm} (h : Mp w b l) (e : w1.heap[b]? = w.heap[b]?) : Mp w1 b l := by
  obtain ⟨es, clock, hb, r⟩ := h
  exact ⟨es, clock, e.trans hb, r⟩
theorem Mp.lt {w : World} {b : Nat} {l : List Mm} (h : Mp w b l) : b < w.heap.size := by
  obtain ⟨es, clock, hb, _⟩ := h
  exact (Array.getElem?_eq_some_iff.1 hb).1
theorem mp_new (w : World) : Mp (w.alloc (.map #[] 0)) w.heap.size [] := ⟨#[], 0, (MapKept.heap_alloc w _).1, stamped_empty 0, rfl⟩
theorem Box.block {w w1 : World} {k : Nat} {cs : List Value} (h : Box w k cs) (e : w1.heap[k]? = w.heap[k]?) : Box w1 k cs := by
  refine ⟨?_, fun j v hj => by rw [World.cell?_of_block (a := ⟨k, 0 + j, none⟩) e]; exact h.at_ j v hj, fun j hj => ⟨by rw [World.cell?_of_block (a := ⟨k, 0 + j, none⟩) e]; exact (h.th j hj).1, by rw [World.frozen?_of_block (a := ⟨k, 0 + j, none⟩) e]; exact (h.th j hj).2⟩⟩
  have hl := h.lt
  by_cases hk : k < w1.heap.size
  · exact hk
  · rw [Array.getElem?_eq_none (by omega), Array.getElem?_eq_getElem hl] at e
    cases e
/-- The program's table: its map in block h, its natives behind it, then itself. -/
def nsl (ns : List Int) : List Value := ns.map (Value.int .i64)
structure PT (w : World) (h : Nat) (T : Tb) : Prop where
  bx : Box w (h + 2) [.map (some h), .slice (some ⟨h + 1, 0, none⟩) T.n T.n]
  nt : Box w (h + 1) (nsl T.ns)
  mp : Mp w h T.l
  wf : Wf T
theorem PT.keep {w w1 : World} {h : Nat} {T : Tb} (H : PT w h T) (e : ∀ k, h ≤ k → k < h + 3 → w1.heap[k]? = w.heap[k]?) : PT w1 h T :=
  ⟨H.bx.block (e _ (by omega) (by omega)), H.nt.block (e _ (by omega) (by omega)), H.mp.block (e _ (by omega) (by omega)), H.wf⟩
theorem PT.lt {w : World} {h : Nat} {T : Tb} (H : PT w h T) : h + 3 ≤ w.heap.size := by have := H.bx.lt; omega
theorem PT.below {w w1 : World} {h g : Nat} {T : Tb} (H : PT w h T) (hb : Below g w w1) (hg : h + 3 ≤ g) : PT w1 h T := H.keep (fun k _ h2 => hb.block k (by omega))
theorem PT.on {w w1 : World} {h : Nat} {T : Tb} (H : PT w h T) (hb : Below w.heap.size w w1) : PT w1 h T := H.below hb H.lt
theorem PT.drew {w : World} {h : Nat} {T : Tb} (H : PT w h T) : PT w.drew h T := H.keep (fun _ _ _ => rfl)
/-- The document's table: its natives in block g, then itself; its members in a block behind. -/
def mml (l : List Mm) : List Value := l.flatMap fun m => [.int .i64 m.v, .int .i64 m.p, .bool m.t]
structure RT (w : World) (g : Nat) (lv : Value) (T : Tb) : Prop where
  bx : Box w (g + 1) [.int .i64 T.n, lv, .slice (some ⟨g, 0, none⟩) T.n T.n]
  nt : Box w g (nsl T.ns)
  row : w.ownsRow (g + 2) 119 3 lv T.l.length (mml T.l)
  wf : Wf T
theorem RT.lt {w : World} {g : Nat} {lv : Value} {T : Tb} (H : RT w g lv T) : g + 2 ≤ w.heap.size := by have := H.bx.lt; omega
theorem RT.mid {w w1 : World} {N M g : Nat} {lv : Value} {T : Tb} (H : RT w g lv T) (hb : Mid N M w w1) (hM : M ≤ g) : RT w1 g lv T := by
  have hl := H.lt
  refine ⟨H.bx.block (hb.block _ (by omega) (Or.inr (by omega))), H.nt.block (hb.block _ (by omega) (Or.inr (by omega))), ?_, H.wf⟩
  have hr := H.row
  refine ⟨hr.1, ?_⟩
  rcases hr.2 with h | ⟨b, cap, cur, rfl, hb', hc, r⟩
  · exact Or.inl h
  · have hbl : b < w.heap.size := (Array.getElem?_eq_some_iff.1 hc).1
    exact Or.inr ⟨b, cap, cur, rfl, hb', (hb.block b hbl (Or.inr (by omega))).trans hc, r⟩
theorem mid_of_below {w w1 : World} (hb : Below w.heap.size w w1) (N : Nat) : Mid N N w w1 := ⟨hb.os, hb.tape, hb.output, hb.size, fun k hk _ => hb.block k hk⟩
theorem RT.on {w w1 : World} {g : Nat} {lv : Value} {T : Tb} (H : RT w g lv T) (hb : Below w.heap.size w w1) : RT w1 g lv T := H.mid (mid_of_below hb g) (Nat.le_refl _)
theorem RT.drew {w : World} {g : Nat} {lv : Value} {T : Tb} (H : RT w g lv T) : RT w.drew g lv T := ⟨⟨H.bx.lt, H.bx.at_, H.bx.th⟩, ⟨H.nt.lt, H.nt.at_, H.nt.th⟩, H.row, H.wf⟩
theorem mml_length : ∀ l : List Mm, (mml l).length = l.length * 3
  | [] => rfl
  | m :: r => by
    have := mml_length r
    unfold mml at this ⊢
    simp at this ⊢
    omega
theorem mml_append (a b : List Mm) : mml (a ++ b) = mml a ++ mml b := by simp [mml]
theorem mml_get : ∀ (l : List Mm) (j : Nat) (m : Mm), l[j]? = some m → (mml l)[3 * j]? = some (.int .i64 m.v) ∧ (mml l)[3 * j + 1]? = some (.int .i64 m.p) ∧ (mml l)[3 * j + 2]? = some (.bool m.t)
  | [], j, m, h => by simp at h
  | x :: r, 0, m, h => by
    simp at h
    subst h
    exact ⟨rfl, rfl, rfl⟩
  | x :: r, j + 1, m, h => by
    have := mml_get r j m (by simpa using h)
    have e : mml (x :: r) = .int .i64 x.v :: .int .i64 x.p :: .bool x.t :: mml r := rfl
    rw [e, show 3 * (j + 1) = 3 * j + 3 by omega, show 3 * j + 3 + 1 = (3 * j + 1) + 3 by omega, show 3 * j + 3 + 2 = (3 * j + 2) + 3 by omega]
    simpa using this
theorem mml_set : ∀ (l : List Mm) (j : Nat) (m : Mm) (t : Bool), l[j]? = some m → (mml l).set (3 * j + 2) (.bool t) = mml (l.set j ⟨m.v, m.p, t⟩)
  | [], j, m, t, h => by simp at h
  | x :: r, 0, m, t, h => by
    simp at h
    subst h
    rfl
  | x :: r, j + 1, m, t, h => by
    have := mml_set r j m t (by simpa using h)
    have e : mml (x :: r) = .int .i64 x.v :: .int .i64 x.p :: .bool x.t :: mml r := rfl
    rw [e, show 3 * (j + 1) + 2 = (3 * j + 2) + 3 by omega]
    simp only [List.set_cons_succ, this]
    rfl
/-- What a deed at an object may change: the blocks K, the list's own block, and new ones; its list stays, or stands in a new block. -/
structure Fr (K : List Nat) (lv lv' : Value) (w w' : World) : Prop where
  os : w'.os = w.os
  tape : w'.tape = w.tape
  output : w'.output = w.output
  size : w.heap.size ≤ w'.heap.size
  block : ∀ i, i < w.heap.size → i ∉ K → lv.ownBlock ≠ some i → w'.heap[i]? = w.heap[i]?
  new : lv' = lv ∨ ∀ b, lv'.ownBlock = some b → w.heap.size ≤ b
theorem Fr.below {K : List Nat} {lv : Value} {w w' : World} (h : Below w.heap.size w w') : Fr K lv lv w w' := ⟨h.os, h.tape, h.output, h.size, fun i hi _ _ => h.block i hi, Or.inl rfl⟩
theorem Fr.refl (K : List Nat) (lv : Value) (w : World) : Fr K lv lv w w := Fr.below (Below.refl _ _)
theorem Fr.pre {K : List Nat} {lv lv' : Value} {w w1 w2 : World} (b : Below w.heap.size w w1) (h : Fr K lv lv' w1 w2) : Fr K lv lv' w w2 :=
  ⟨h.os.trans b.os, h.tape.trans b.tape, h.output.trans b.output, Nat.le_trans b.size h.size, fun i hi hk ho => (h.block i (Nat.lt_of_lt_of_le hi b.size) hk ho).trans (b.block i hi), h.new.imp id (fun g r e => Nat.le_trans b.size (g r e))⟩
theorem Fr.post {K : List Nat} {lv lv' : Value} {w w1 w2 : World} (h : Fr K lv lv' w w1) (b : Below w1.heap.size w1 w2) : Fr K lv lv' w w2 :=
  ⟨b.os.trans h.os, b.tape.trans h.tape, b.output.trans h.output, Nat.le_trans h.size b.size, fun i hi hk ho => (b.block i (Nat.lt_of_lt_of_le hi h.size)).trans (h.block i hi hk ho), h.new⟩
theorem Fr.grown {K : List Nat} {lv : Value} {w w1 : World} {r : Nat} (h : w.grownBy w1 (some r)) (e : lv.ownBlock = some r) : Fr K lv lv w w1 :=
  ⟨h.os, h.tape, h.output, h.size, fun i hi _ ho => h.block i hi (fun e2 => ho (e.trans e2.symm)), Or.inl rfl⟩
theorem Fr.set {K : List Nat} {lv : Value} {w : World} {r : Nat} (hr : r ∈ K) (j : Nat) (v : Value) : Fr K lv lv w (w.setCell ⟨r, j, none⟩ v) := by
  have h := setCell_grown w r j v
  exact ⟨h.os, h.tape, h.output, h.size, fun i hi hk _ => h.block i hi (fun e => hk (by have := Option.some.inj e; rw [this]; exact hr)), Or.inl rfl⟩
theorem Fr.fresh {K : List Nat} {lv lv' : Value} {w w1 : World} {r : Nat} (b : Below w.heap.size w w1) {e : TypeId} {z n : Nat} {xs : List Value} (R : w1.ownsRow w.heap.size e z lv' n xs) (hr : r ∈ K) (j : Nat) (v : Value) : Fr K lv lv' w (w1.setCell ⟨r, j, none⟩ v) := by
  have h := setCell_grown w1 r j v
  exact ⟨h.os.trans b.os, h.tape.trans b.tape, h.output.trans b.output, Nat.le_trans b.size h.size, fun i hi hk _ => (h.block i (Nat.lt_of_lt_of_le hi b.size) (fun e => hk (by have := Option.some.inj e; rw [this]; exact hr))).trans (b.block i hi), Or.inr (fun k hk => (R.lt k hk).1)⟩
theorem fr_pre {K : List Nat} {lv : Value} {P : Value → Prop} {w w1 w2 : World} (b : Below w.heap.size w w1) (h : ∃ lv', P lv' ∧ Fr K lv lv' w1 w2) : ∃ lv', P lv' ∧ Fr K lv lv' w w2 := by
  obtain ⟨lv', p, f⟩ := h
  exact ⟨lv', p, f.pre b⟩
theorem fr_post {K : List Nat} {lv : Value} {P : Value → Prop} {w w1 w2 : World} (h : ∃ lv', P lv' ∧ Fr K lv lv' w w1) (b : Below w1.heap.size w1 w2) : ∃ lv', P lv' ∧ Fr K lv lv' w w2 := by
  obtain ⟨lv', p, f⟩ := h
  exact ⟨lv', p, f.post b⟩
theorem row_low {w : World} {g g' : Nat} {e : TypeId} {z : Nat} {lv : Value} {n : Nat} {xs : List Value} (hg : g' ≤ g) (hr : w.ownsRow g e z lv n xs) : w.ownsRow g' e z lv n xs := by
  refine ⟨hr.1, ?_⟩
  rcases hr.2 with h | ⟨b, cap, cur, e, hb, r⟩
  · exact Or.inl h
  · exact Or.inr ⟨b, cap, cur, e, by omega, r⟩
end Go.Proofs.YtgpdjfaklcmoiaaGreat
/- Contracts: isVlan, hasPort, isMember; the document's right, Find; New, of both. -/
namespace Go.Proofs.YtgpdjfaklcmoiaaGreat
open Go.RowKit Go.PlainAid

set_option maxRecDepth 100000 in
set_option maxHeartbeats 1000000 in
theorem isVlan36 (v : Int) (w : World) : Calls Tryz.prog 65 #[.int .i64 v] w fun e w' => e = .returned (.bool (isV v)) ∧ w' = w := by
  by_cases h1 : 1 ≤ v
  · by_cases h2 : v ≤ 4094
    · have e : isV v = true := (isV_iff v).2 ⟨h1, h2⟩
      rw [e]
      go_enter Tryz.func65, Tryz.ntmps65
      go_wp2
      go_ret
      exact ⟨rfl, rfl⟩
    · have e : isV v = false := by simp [isV]; omega
      rw [e]
      go_enter Tryz.func65, Tryz.ntmps65
      go_wp2
      go_ret
      exact ⟨rfl, rfl⟩
  · have e : isV v = false := by simp [isV]; omega
    rw [e]
    go_enter Tryz.func65, Tryz.ntmps65
    go_wp2
    go_ret
    exact ⟨rfl, rfl⟩
set_option maxRecDepth 100000 in
set_option maxHeartbeats 1000000 in
theorem hasPort33 (h : Nat) (T : Tb) (p : Int) (w : World) (H : PT w h T) : Calls Tryz.prog 66 #[.pointer (some ⟨h + 2, 0, none⟩), .int .i64 p] w fun e w' => e = .returned (.bool (hp T p)) ∧ w' = w := by
  have c1 := H.bx.cell 1 _ rfl
  clear H
  by_cases h1 : 0 ≤ p
  · by_cases h2 : p < (T.n : Int)
    · have e : hp T p = true := (hp_iff T p).2 ⟨h1, h2⟩
      rw [e]
      go_enter Tryz.func66, Tryz.ntmps66
      go_wp2
      go_ret
      exact ⟨rfl, rfl⟩
    · have e : hp T p = false := by simp [hp]; omega
      rw [e]
      go_enter Tryz.func66, Tryz.ntmps66
      go_wp2
      go_ret
      exact ⟨rfl, rfl⟩
  · have e : hp T p = false := by simp [hp]; omega
    rw [e]
    go_enter Tryz.func66, Tryz.ntmps66
    go_wp2
    go_ret
    exact ⟨rfl, rfl⟩
set_option maxRecDepth 100000 in
set_option maxHeartbeats 1000000 in
theorem isMember28 (h : Nat) (T : Tb) (v p : Int) (w : World) (hv : I64 v) (hp : I64 p) (H : PT w h T) : Calls Tryz.prog 54 #[.pointer (some ⟨h + 2, 0, none⟩), .int .i64 v, .int .i64 p] w fun e w' => e = .returned (.bool (hs T.l v p)) ∧ Below w.heap.size w w' := by
  have c0 := H.bx.cell 0 _ rfl
  have hlk := H.mp.look H.wf.small H.wf.ap hv hp
  unfold KV EV at hlk
  clear H
  go_enter Tryz.func54, Tryz.ntmps54
  go_wp2
  go_ret
  exact ⟨rfl, by go_grown⟩
set_option maxRecDepth 100000 in
set_option maxHeartbeats 1000000 in
theorem right39 (g : Nat) (lv : Value) (T : Tb) (v p : Int) (w : World) (H : RT w g lv T) : Calls Tryz.prog 67 #[.pointer (some ⟨g + 1, 0, none⟩), .int .i64 v, .int .i64 p] w fun e w' => e = .returned (.bool (isV v && hp T p)) ∧ w' = w := by
  have c0 := H.bx.cell 0 _ rfl
  clear H
  by_cases h1 : 1 ≤ v
  · by_cases h2 : v ≤ 4094
    · have e : isV v = true := (isV_iff v).2 ⟨h1, h2⟩
      rw [e, Bool.true_and]
      clear e
      by_cases h3 : 0 ≤ p
      · by_cases h4 : p < (T.n : Int)
        · have e : hp T p = true := (hp_iff T p).2 ⟨h3, h4⟩
          rw [e]
          go_enter Tryz.func67, Tryz.ntmps67
          go_wp2
          go_ret
          exact ⟨rfl, rfl⟩
        · have e : hp T p = false := by simp [hp]; omega
          rw [e]
          go_enter Tryz.func67, Tryz.ntmps67
          go_wp2
          go_ret
          exact ⟨rfl, rfl⟩
      · have e : hp T p = false := by simp [hp]; omega
        rw [e]
        go_enter Tryz.func67, Tryz.ntmps67
        go_wp2
        go_ret
        exact ⟨rfl, rfl⟩
    · have e : isV v = false := by simp [isV]; omega
      rw [e, Bool.false_and]
      go_enter Tryz.func67, Tryz.ntmps67
      go_wp2
      go_ret
      exact ⟨rfl, rfl⟩
  · have e : isV v = false := by simp [isV]; omega
    rw [e, Bool.false_and]
    go_enter Tryz.func67, Tryz.ntmps67
    go_wp2
    go_ret
    exact ⟨rfl, rfl⟩
end Go.Proofs.YtgpdjfaklcmoiaaGreat
/- Contracts: the document's Find; New, of both. -/
namespace Go.Proofs.YtgpdjfaklcmoiaaGreat
open Go.RowKit Go.PlainAid

theorem RT.at {w : World} {g : Nat} {lv : Value} {T : Tb} (H : RT w g lv T) : (lv = .slice none 0 0 ∧ T.l = []) ∨ ∃ b cap, lv = .slice (some ⟨b, 0, none⟩) T.l.length cap ∧ g + 2 ≤ b ∧ T.l.length ≤ cap ∧ cap ≤ maxLen ∧
    ∀ j m, T.l[j]? = some m → w.cell? ⟨b, j * 3, none⟩ = some (.int .i64 m.v) ∧ w.cell? ⟨b, j * 3 + 1, none⟩ = some (.int .i64 m.p) ∧ w.cell? ⟨b, j * 3 + 2, none⟩ = some (.bool m.t) ∧ w.frozen? ⟨b, j * 3 + 2, none⟩ = false := by
  have hr := H.row
  rcases hr.2 with ⟨h1, h2⟩ | ⟨b, cap, cur, rfl, hb, hc, hn, hm, r⟩
  · exact Or.inl ⟨h1, List.eq_nil_of_length_eq_zero h2⟩
  · refine Or.inr ⟨b, cap, rfl, hb, hn, hm, fun j m hj => ?_⟩
    have hl : j < T.l.length := (List.getElem?_eq_some_iff.1 hj).1
    obtain ⟨e1, e2, e3⟩ := mml_get T.l j m hj
    rw [Nat.mul_comm 3 j] at e1 e2 e3
    refine ⟨?_, ?_, ?_, hr.frozenAt _⟩
    · rw [hr.cellAt _ (by omega), e1]
    · rw [hr.cellAt _ (by omega), e2]
    · rw [hr.cellAt _ (by omega), e3]
set_option maxRecDepth 100000 in
set_option maxHeartbeats 2000000 in
theorem find29 (g : Nat) (lv : Value) (T : Tb) (v p : Int) (w : World) (H : RT w g lv T) : Calls Tryz.prog 68 #[.pointer (some ⟨g + 1, 0, none⟩), .int .i64 v, .int .i64 p] w fun e w' => e = .returned (.int .i64 (fx T.l v p)) ∧ w' = w := by
  have c1 := H.bx.cell 1 _ rfl
  rcases H.at with ⟨rfl, hl⟩ | ⟨b, cap, rfl, hb, hn, hm, hc⟩
  · rw [hl]
    clear H
    have e : fx [] v p = -1 := rfl
    rw [e]
    go_enter Tryz.func68, Tryz.ntmps68
    go_wp2
    go_loopw [7] (fun i wr => i = .int .i64 0 ∧ wr = w) (fun i _ => 1 - (intOf i).toNat)
    case atStart => exact ⟨rfl, rfl⟩
    case round =>
      obtain ⟨rfl, rfl⟩ := hrel
      go_wp2
      go_ret
      exact ⟨rfl, rfl⟩
  · clear H
    unfold maxLen at hm
    go_enter Tryz.func68, Tryz.ntmps68
    go_wp2
    go_loopw [7] (fun i wr => ∃ k : Nat, k ≤ T.l.length ∧ i = .int .i64 k ∧ ix T.l v p = k + ix (T.l.drop k) v p ∧ wr = w) (fun i _ => T.l.length - (intOf i).toNat)
    case atStart => exact ⟨0, Nat.zero_le _, rfl, by simp, rfl⟩
    case round =>
      obtain ⟨k, hk, rfl, hi, rfl⟩ := hrel
      by_cases hlt : k < T.l.length
      · obtain ⟨m, hmk⟩ : ∃ m, T.l[k]? = some m := ⟨_, List.getElem?_eq_getElem hlt⟩
        obtain ⟨d0, d1, d2, d3⟩ := hc k m hmk
        obtain ⟨s1, s2⟩ := ix_drop T.l v p hmk hi
        clear hc
        have HE := hide (show mt m v p = (m.v == v && m.p == p) from rfl)
        rcases Bool.eq_false_or_eq_true (m.v == v) with h1 | h1
        · rcases Bool.eq_false_or_eq_true (m.p == p) with h2 | h2
          · rw [HE.out, h1, h2] at s1
            have S := hide (s1 rfl)
            clear s1 s2 hi
            go_wp2
            go_ret
            refine ⟨ret_int ?_, rfl⟩
            rw [fx, if_pos ((hs_ix _ _ _).2 (by have := S.out; omega)), S.out.1]
          · rw [HE.out, h1, h2] at s2
            have S := hide (s2 rfl)
            clear s1 s2 hi
            go_wp2
            go_roundw
            case rel => exact ⟨k + 1, by omega, by go_num, S.out, by first | rfl | trivial⟩
            case measure => simp [intOf]; omega
        · rw [HE.out, h1] at s2
          have S := hide (s2 rfl)
          clear s1 s2 hi
          go_wp2
          go_roundw
          case rel => exact ⟨k + 1, by omega, by go_num, S.out, by first | rfl | trivial⟩
          case measure => simp [intOf]; omega
      · have he := hide (ix_end T.l v p (by omega) hi)
        clear hi hc
        go_wp2
        go_ret
        refine ⟨ret_int ?_, rfl⟩
        rw [fx, he.out]
        rfl
theorem made_nsl (n : Nat) : (madeCells #[Value.int .i64 0] n).toList = nsl (List.replicate n 0) := by
  rw [toList_madeCells_one]
  simp [nsl]
theorem box_made (w : World) (n : Nat) : Box (w.alloc (.cells (madeCells #[.int .i64 0] n) 3)) w.heap.size (nsl (List.replicate n 0)) := by
  rw [← made_nsl]
  exact Box.new w _ 3
set_option maxRecDepth 100000 in
set_option maxHeartbeats 2000000 in
theorem new25 (n : Nat) (w : World) (h1 : 1 ≤ n) (h2 : n ≤ 64) : Calls Tryz.prog 34 #[.int .i64 n] w fun e w' => e = .returned (.tuple #[.pointer (some ⟨w.heap.size + 2, 0, none⟩), .int .i64 0]) ∧ PT w' w.heap.size (tNew n) ∧ Below w.heap.size w w' := by
  obtain ⟨i0, hi, hz0, hz1, hz2⟩ := info_parts Tryz.info3
  have hmm := @run_makeMap Tryz.prog
  have h1' : ¬ ((n : Int) < 1) := by omega
  have h2' : ¬ ((64 : Int) < n) := by omega
  go_enter Tryz.func34, Tryz.ntmps34
  go_wp2_with (at_make; refine wpList_make_row _ rfl _ _ 52 rfl 3 i0 (.int .i64 0) Tryz.underlying52 hi hz0 hz1 rfl .i64 .i64 n rfl rfl (by rw [hz2]; omega) (by omega) ?_)
  go_ret2
  refine ⟨rfl, ⟨?_, ?_, ?_, wf_new h1 h2⟩, by go_grown⟩
  · have b := Box.new ((w.alloc (.map #[] 0)).alloc (.cells (madeCells #[.int .i64 0] n) 3)) [.map (some w.heap.size), .slice (some ⟨w.heap.size + 1, 0, none⟩) n n] 100
    rw [World.size_alloc, World.size_alloc] at b
    exact b
  · have b := (box_made (w.alloc (.map #[] 0)) n).alloc (.cells #[.map (some w.heap.size), .slice (some ⟨w.heap.size + 1, 0, none⟩) n n] 100)
    rw [World.size_alloc] at b
    exact b
  · have b : Below (w.alloc (.map #[] 0)).heap.size (w.alloc (.map #[] 0)) (((w.alloc (.map #[] 0)).alloc (.cells (madeCells #[.int .i64 0] n) 3)).alloc (.cells #[.map (some w.heap.size), .slice (some ⟨w.heap.size + 1, 0, none⟩) n n] 100)) := by go_grown
    exact (mp_new w).block (b.block _ (by simp))
set_option maxRecDepth 100000 in
set_option maxHeartbeats 2000000 in
theorem new26 (n : Nat) (w : World) (h1 : 1 ≤ n) (h2 : n ≤ 64) : Calls Tryz.prog 37 #[.int .i64 n] w fun e w' => e = .returned (.tuple #[.pointer (some ⟨w.heap.size + 1, 0, none⟩), .int .i64 0]) ∧ RT w' w.heap.size (.slice none 0 0) (tNew n) ∧ Below w.heap.size w w' := by
  obtain ⟨i0, hi, hz0, hz1, hz2⟩ := info_parts Tryz.info3
  have h1' : ¬ ((n : Int) < 1) := by omega
  have h2' : ¬ ((64 : Int) < n) := by omega
  go_enter Tryz.func37, Tryz.ntmps37
  go_wp2_with (at_make; refine wpList_make_row _ rfl _ _ 52 rfl 3 i0 (.int .i64 0) Tryz.underlying52 hi hz0 hz1 rfl .i64 .i64 n rfl rfl (by rw [hz2]; omega) (by omega) ?_)
  go_ret2
  refine ⟨rfl, ⟨?_, ?_, ?_, wf_new h1 h2⟩, by go_grown⟩
  · have b := Box.new (w.alloc (.cells (madeCells #[.int .i64 0] n) 3)) [.int .i64 n, .slice none 0 0, .slice (some ⟨w.heap.size, 0, none⟩) n n] 112
    rw [World.size_alloc] at b
    exact b
  · exact (box_made w n).alloc _
  · exact World.ownsRow_nil _ _ _ _
set_option maxRecDepth 100000 in
set_option maxHeartbeats 2000000 in
theorem new25_no (n : Int) (w : World) (h : ¬ (1 ≤ n ∧ n ≤ 64)) : Calls Tryz.prog 34 #[.int .i64 n] w fun e w' => e = .returned (.tuple #[.pointer none, .int .i64 1]) ∧ w' = w := by
  by_cases h1 : n < 1
  · clear h
    go_enter Tryz.func34, Tryz.ntmps34
    go_wp2
    go_ret2
    exact ⟨rfl, rfl⟩
  · have h2 : 64 < n := by omega
    clear h
    go_enter Tryz.func34, Tryz.ntmps34
    go_wp2
    go_ret2
    exact ⟨rfl, rfl⟩
set_option maxRecDepth 100000 in
set_option maxHeartbeats 2000000 in
theorem new26_no (n : Int) (w : World) (h : ¬ (1 ≤ n ∧ n ≤ 64)) : Calls Tryz.prog 37 #[.int .i64 n] w fun e w' => e = .returned (.tuple #[.pointer none, .int .i64 1]) ∧ w' = w := by
  by_cases h1 : n < 1
  · clear h
    go_enter Tryz.func37, Tryz.ntmps37
    go_wp2
    go_ret2
    exact ⟨rfl, rfl⟩
  · have h2 : 64 < n := by omega
    clear h
    go_enter Tryz.func37, Tryz.ntmps37
    go_wp2
    go_ret2
    exact ⟨rfl, rfl⟩
end Go.Proofs.YtgpdjfaklcmoiaaGreat
/- Contracts: Add, Remove, Native of the program. -/
namespace Go.Proofs.YtgpdjfaklcmoiaaGreat
open Go.RowKit Go.PlainAid

theorem mid_grown {w w1 : World} {h k : Nat} (g : w.grownBy w1 (some k)) (h1 : h ≤ k) (h2 : k < h + 3) : Mid h (h + 3) w w1 :=
  ⟨g.os, g.tape, g.output, g.size, fun i hi ho => g.block i hi (fun e => by have := Option.some.inj e; omega)⟩
theorem mid_on {w w1 : World} {h : Nat} (g : Below w.heap.size w w1) : Mid h (h + 3) w w1 := ⟨g.os, g.tape, g.output, g.size, fun i hi _ => g.block i hi⟩
theorem PT.put {w w1 : World} {h : Nat} {T : Tb} (H : PT w h T) {v p : Int} {t : Bool} (hv : isV v = true) (hh : hp T p = true) (M : Mp w1 h (ad T.l v p t)) (g : w.grownBy w1 (some h)) : PT w1 h (tAdd T v p t) := by
  have e : tAdd T v p t = ⟨T.n, ad T.l v p t, T.ns⟩ := by rw [tAdd, hv, hh]; rfl
  have hw := H.wf.add v p t
  have hl := H.lt
  rw [e] at hw ⊢
  exact ⟨H.bx.block (g.block _ (by omega) (fun e => by have := Option.some.inj e; omega)), H.nt.block (g.block _ (by omega) (fun e => by have := Option.some.inj e; omega)), M, hw⟩
theorem PT.cut {w w1 : World} {h : Nat} {T : Tb} (H : PT w h T) {v p : Int} (hv : isV v = true) (hh : hp T p = true) (M : Mp w1 h (rm T.l v p)) (g : w.grownBy w1 (some h)) : PT w1 h (tRm T v p) := by
  have e : tRm T v p = ⟨T.n, rm T.l v p, T.ns⟩ := by rw [tRm, hv, hh]; rfl
  have hw := H.wf.rem v p
  have hl := H.lt
  rw [e] at hw ⊢
  exact ⟨H.bx.block (g.block _ (by omega) (fun e => by have := Option.some.inj e; omega)), H.nt.block (g.block _ (by omega) (fun e => by have := Option.some.inj e; omega)), M, hw⟩
theorem i64_v {v : Int} (h : isV v = true) : I64 v := by
  have := (isV_iff v).1 h
  exact ⟨by omega, by omega⟩
theorem i64_p {T : Tb} {p : Int} (hw : Wf T) (h : hp T p = true) : I64 p := by
  have := (hp_iff T p).1 h
  have := hw.n64
  exact ⟨by omega, by omega⟩
set_option maxRecDepth 100000 in
set_option maxHeartbeats 2000000 in
theorem add23 (h : Nat) (T : Tb) (v p : Int) (t : Bool) (w : World) (H : PT w h T) : Calls Tryz.prog 40 #[.pointer (some ⟨h + 2, 0, none⟩), .int .i64 v, .int .i64 p, .bool t] w
    fun e w' => e = .returned (.int .i64 (eAdd T v p)) ∧ PT w' h (tAdd T v p t) ∧ Mid h (h + 3) w w' := by
  have q1 := fun w => isVlan36 v w
  have q2 := fun w H => hasPort33 h T p w H
  rcases Bool.eq_false_or_eq_true (isV v) with hv | hv
  · rcases Bool.eq_false_or_eq_true (hp T p) with hh | hh
    · have e1 : eAdd T v p = 0 := by rw [eAdd, hv, hh]; rfl
      obtain ⟨w1, hrun, M, g⟩ := H.mp.put H.wf.small H.wf.ap (i64_v hv) (i64_p H.wf hh) t
      have P := hide (H.put hv hh M g)
      have MD := hide (mid_grown (h := h) g (Nat.le_refl _) (by omega))
      have c0 := H.bx.cell 0 _ rfl
      have HH := hide H
      unfold KV EV at hrun
      rw [hv] at q1
      rw [hh] at q2
      rw [e1]
      clear H M g
      go_enter Tryz.func40, Tryz.ntmps40
      go_wp2_with (first | (go_at_call 65; refine (q1 _).mono ?_; rintro e w' ⟨rfl, rfl⟩) | (go_at_call 66; refine (q2 _ HH.out).mono ?_; rintro e w' ⟨rfl, rfl⟩))
      go_ret
      exact ⟨rfl, P.out, MD.out⟩
    · have e1 : eAdd T v p = 1 := by rw [eAdd, hv, hh]; rfl
      have e2 : tAdd T v p t = T := by rw [tAdd, hv, hh]; rfl
      rw [hv] at q1
      rw [hh] at q2
      rw [e1, e2]
      have HH := hide H
      clear H
      go_enter Tryz.func40, Tryz.ntmps40
      go_wp2_with (first | (go_at_call 65; refine (q1 _).mono ?_; rintro e w' ⟨rfl, rfl⟩) | (go_at_call 66; refine (q2 _ HH.out).mono ?_; rintro e w' ⟨rfl, rfl⟩))
      go_ret
      exact ⟨rfl, HH.out, Mid.refl _ _ _⟩
  · have e1 : eAdd T v p = 1 := by rw [eAdd, hv]; rfl
    have e2 : tAdd T v p t = T := by rw [tAdd, hv]; rfl
    rw [hv] at q1
    rw [e1, e2]
    have HH := hide H
    clear H
    go_enter Tryz.func40, Tryz.ntmps40
    go_wp2_with (first | (go_at_call 65; refine (q1 _).mono ?_; rintro e w' ⟨rfl, rfl⟩))
    go_ret
    exact ⟨rfl, HH.out, Mid.refl _ _ _⟩
set_option maxRecDepth 100000 in
set_option maxHeartbeats 2000000 in
theorem remove24 (h : Nat) (T : Tb) (v p : Int) (w : World) (H : PT w h T) : Calls Tryz.prog 44 #[.pointer (some ⟨h + 2, 0, none⟩), .int .i64 v, .int .i64 p] w
    fun e w' => e = .returned (.int .i64 (eRm T v p)) ∧ PT w' h (tRm T v p) ∧ Mid h (h + 3) w w' := by
  have q1 := fun w => isVlan36 v w
  have q2 := fun w H => hasPort33 h T p w H
  rcases Bool.eq_false_or_eq_true (isV v) with hv | hv
  · rcases Bool.eq_false_or_eq_true (hp T p) with hh | hh
    · have q3 := fun w H => isMember28 h T v p w (i64_v hv) (i64_p H.wf hh) H
      rw [hv] at q1
      rw [hh] at q2
      have HH := hide H
      clear H
      rcases Bool.eq_false_or_eq_true (hs T.l v p) with hm | hm
      · have e1 : eRm T v p = 0 := by rw [eRm, hv, hh, hm]; rfl
        rw [hm] at q3
        rw [e1]
        go_enter Tryz.func44, Tryz.ntmps44
        go_wp2_with (first | (go_at_call 65; refine (q1 _).mono ?_; rintro e w' ⟨rfl, rfl⟩) | (go_at_call 66; refine (q2 _ HH.out).mono ?_; rintro e w' ⟨rfl, rfl⟩))
        refine (q3 _ HH.out).mono ?_
        rintro e w' ⟨rfl, hb⟩
        have H1 := hide (HH.out.on hb)
        obtain ⟨w1, hrun, M, g⟩ := H1.out.mp.drop H1.out.wf.small H1.out.wf.ap (i64_v hv) (i64_p H1.out.wf hh) 0
        have P := hide (H1.out.cut hv hh M g)
        have MD := hide ((mid_on (h := h) hb).trans (mid_grown (h := h) g (Nat.le_refl _) (by omega)))
        have c0 := H1.out.bx.cell 0 _ rfl
        unfold KV at hrun
        clear M g hb q1 q2 q3
        go_wp2
        go_ret
        exact ⟨rfl, P.out, MD.out⟩
      · have e1 : eRm T v p = 4 := by rw [eRm, hv, hh, hm]; rfl
        have e2 : tRm T v p = T := by
          rw [tRm, hv, hh, rm_erase, List.eraseIdx_of_length_le]
          · rfl
          · have h9 := hs_ix T.l v p
            rw [hm] at h9
            simp at h9
            exact h9
        rw [hm] at q3
        rw [e1, e2]
        go_enter Tryz.func44, Tryz.ntmps44
        go_wp2_with (first | (go_at_call 65; refine (q1 _).mono ?_; rintro e w' ⟨rfl, rfl⟩) | (go_at_call 66; refine (q2 _ HH.out).mono ?_; rintro e w' ⟨rfl, rfl⟩) | (go_at_call 54; refine (q3 _ HH.out).mono ?_; rintro e w' ⟨rfl, hb⟩))
        go_ret
        exact ⟨rfl, HH.out.on hb, mid_on hb⟩
    · have e1 : eRm T v p = 1 := by rw [eRm, hv, hh]; rfl
      have e2 : tRm T v p = T := by rw [tRm, hv, hh]; rfl
      rw [hv] at q1
      rw [hh] at q2
      rw [e1, e2]
      have HH := hide H
      clear H
      go_enter Tryz.func44, Tryz.ntmps44
      go_wp2_with (first | (go_at_call 65; refine (q1 _).mono ?_; rintro e w' ⟨rfl, rfl⟩) | (go_at_call 66; refine (q2 _ HH.out).mono ?_; rintro e w' ⟨rfl, rfl⟩))
      go_ret
      exact ⟨rfl, HH.out, Mid.refl _ _ _⟩
  · have e1 : eRm T v p = 1 := by rw [eRm, hv]; rfl
    have e2 : tRm T v p = T := by rw [tRm, hv]; rfl
    rw [hv] at q1
    rw [e1, e2]
    have HH := hide H
    clear H
    go_enter Tryz.func44, Tryz.ntmps44
    go_wp2_with (first | (go_at_call 65; refine (q1 _).mono ?_; rintro e w' ⟨rfl, rfl⟩))
    go_ret
    exact ⟨rfl, HH.out, Mid.refl _ _ _⟩
theorem nsl_get {ns : List Int} {j : Nat} (h : j < ns.length) : (nsl ns)[j]? = some (.int .i64 (ns.getD j 0)) := by
  simp [nsl, List.getElem?_eq_getElem h, List.getD_eq_getElem?_getD]
theorem nsl_set (ns : List Int) (j : Nat) (v : Int) : (nsl ns).set j (.int .i64 v) = nsl (ns.set j v) := by simp [nsl, List.map_set]
theorem Box.setAt {w : World} {k j : Nat} {cs : List Value} (h : Box w k cs) (hj : j < cs.length) (v : Value) : Box (w.setCell ⟨k, j, none⟩ v) k (cs.set j v) := by
  have e : cs = cs.take j ++ (cs[j] :: cs.drop (j + 1)) := by rw [← List.drop_eq_getElem_cons hj, List.take_append_drop]
  have e2 : cs.set j v = cs.take j ++ (v :: cs.drop (j + 1)) := by rw [List.set_eq_take_append_cons_drop, if_pos hj]
  rw [e2]
  rw [e] at h
  exact Box.set h (by simp; omega)
theorem nat_ok (v : Int) : (v == 0 || isV v) = decide (0 ≤ v ∧ v ≤ 4094) := by
  rw [Bool.eq_iff_iff]
  simp [isV]
  omega
theorem PT.nat {w : World} {h : Nat} {T : Tb} (H : PT w h T) {v p : Int} (hh : hp T p = true) (hv : (v == 0 || isV v) = true) : PT (w.setCell ⟨h + 1, p.toNat, none⟩ (.int .i64 v)) h (tNat T p v) := by
  have e : tNat T p v = ⟨T.n, T.l, T.ns.set p.toNat v⟩ := by rw [tNat, hh, hv]; rfl
  have hw := H.wf.nati p v
  have hl := H.lt
  have hb := (hp_iff T p).1 hh
  have hn := H.wf.ns
  have g := setCell_grown w (h + 1) p.toNat (.int .i64 v)
  rw [e] at hw ⊢
  refine ⟨H.bx.block (g.block _ (by omega) (fun e => by have := Option.some.inj e; omega)), ?_, H.mp.block (g.block _ (by omega) (fun e => by have := Option.some.inj e; omega)), hw⟩
  have := H.nt.setAt (j := p.toNat) (by simp [nsl]; omega) (.int .i64 v)
  rw [nsl_set] at this
  exact this
set_option maxRecDepth 100000 in
set_option maxHeartbeats 2000000 in
theorem native22 (h : Nat) (T : Tb) (p v : Int) (w : World) (H : PT w h T) : Calls Tryz.prog 42 #[.pointer (some ⟨h + 2, 0, none⟩), .int .i64 p, .int .i64 v] w
    fun e w' => e = .returned (.int .i64 (eNat T p v)) ∧ PT w' h (tNat T p v) ∧ Mid h (h + 3) w w' := by
  have q1 := fun w => isVlan36 v w
  have q2 := fun w H => hasPort33 h T p w H
  rcases Bool.eq_false_or_eq_true (hp T p) with hh | hh
  · have hb := (hp_iff T p).1 hh
    have hn := H.wf.ns
    obtain ⟨k, rfl⟩ := Int.eq_ofNat_of_zero_le hb.1
    have hk : k < T.n := by omega
    have c1 := H.bx.cell 1 _ rfl
    have n1 := H.nt.cell k _ (nsl_get (by omega))
    have f1 := H.nt.free k (by simp [nsl]; omega)
    rw [hh] at q2
    rcases Bool.eq_false_or_eq_true (v == 0 || isV v) with hv | hv
    · have e1 : eNat T k v = 0 := by rw [eNat, hh, hv]; rfl
      have P := hide (H.nat hh hv)
      have MD := hide (mid_grown (h := h) (setCell_grown w (h + 1) k (.int .i64 v)) (by omega) (by omega))
      have HH := hide H
      rw [Int.toNat_natCast] at P
      rw [e1]
      clear H hn hb
      rcases Bool.eq_false_or_eq_true (v == 0) with h0 | h0
      · have h9 : (v != 0) = false := by simp [bne, h0]
        clear h0 hv
        go_enter Tryz.func42, Tryz.ntmps42
        go_wp2_with (first | (go_at_call 66; refine (q2 _ HH.out).mono ?_; rintro e w' ⟨rfl, rfl⟩))
        go_ret
        exact ⟨rfl, P.out, MD.out⟩
      · rw [h0, Bool.false_or] at hv
        rw [hv] at q1
        have h9 : (v != 0) = true := by simp [bne, h0]
        clear h0 hv
        go_enter Tryz.func42, Tryz.ntmps42
        go_wp2_with (first | (go_at_call 65; refine (q1 _).mono ?_; rintro e w' ⟨rfl, rfl⟩) | (go_at_call 66; refine (q2 _ HH.out).mono ?_; rintro e w' ⟨rfl, rfl⟩))
        go_ret
        exact ⟨rfl, P.out, MD.out⟩
    · have e1 : eNat T k v = 1 := by rw [eNat, hh, hv]; rfl
      have e2 : tNat T k v = T := by rw [tNat, hh, hv]; rfl
      rw [e1, e2]
      simp only [Bool.or_eq_false_iff] at hv
      obtain ⟨h0, h1⟩ := hv
      rw [h1] at q1
      have h9 : (v != 0) = true := by simp [bne, h0]
      have HH := hide H
      clear H hn hb c1 n1 f1 h0
      go_enter Tryz.func42, Tryz.ntmps42
      go_wp2_with (first | (go_at_call 65; refine (q1 _).mono ?_; rintro e w' ⟨rfl, rfl⟩) | (go_at_call 66; refine (q2 _ HH.out).mono ?_; rintro e w' ⟨rfl, rfl⟩))
      go_ret
      exact ⟨rfl, HH.out, Mid.refl _ _ _⟩
  · have e1 : eNat T p v = 1 := by rw [eNat, hh]; rfl
    have e2 : tNat T p v = T := by rw [tNat, hh]; rfl
    rw [hh] at q2
    rw [e1, e2]
    have HH := hide H
    clear H
    go_enter Tryz.func42, Tryz.ntmps42
    go_wp2_with (first | (go_at_call 66; refine (q2 _ HH.out).mono ?_; rintro e w' ⟨rfl, rfl⟩))
    go_ret
    exact ⟨rfl, HH.out, Mid.refl _ _ _⟩
end Go.Proofs.YtgpdjfaklcmoiaaGreat
/- Contracts: rightTag, Right, of both. -/
namespace Go.Proofs.YtgpdjfaklcmoiaaGreat
open Go.RowKit

section
attribute [local go_sem] FC12 FC13 FC14 FC15 FC16 FC_size
set_option maxRecDepth 100000 in
set_option maxHeartbeats 4000000 in
theorem rightTag48 (f : Fd) (s : Value) (w : World) :
    Calls Tryz.prog 116 #[.agg (FC f s)] w fun e w' => e = .returned (.bool (tok f)) ∧ Below w.heap.size w w' := by
  have B0 := below_alloc w (.cells (FC f s) 38)
  have E := hide (show tok f = if f.tg then decide (0 ≤ f.vl) && decide (f.vl ≤ 4094) && decide (0 ≤ f.pr) && decide (f.pr ≤ 7) else f.vl == 0 && f.pr == 0 from rfl)
  rcases Bool.eq_false_or_eq_true f.tg with h | h
  · rw [h, if_pos rfl] at E
    by_cases h1 : 0 ≤ f.vl
    · by_cases h2 : f.vl ≤ 4094
      · by_cases h3 : 0 ≤ f.pr
        · by_cases h4 : f.pr ≤ 7
          · go_enter Tryz.func116, Tryz.ntmps116
            go_wp2
            go_ret
            exact ⟨ret_bool (by rw [E.out]; simp [h1, h2, h3, h4]), B0⟩
          · go_enter Tryz.func116, Tryz.ntmps116
            go_wp2
            go_ret
            exact ⟨ret_bool (by rw [E.out]; simp [h1, h2, h3]; omega), B0⟩
        · go_enter Tryz.func116, Tryz.ntmps116
          go_wp2
          go_ret
          exact ⟨ret_bool (by rw [E.out]; simp; omega), B0⟩
      · go_enter Tryz.func116, Tryz.ntmps116
        go_wp2
        go_ret
        exact ⟨ret_bool (by rw [E.out]; simp; omega), B0⟩
    · go_enter Tryz.func116, Tryz.ntmps116
      go_wp2
      go_ret
      exact ⟨ret_bool (by rw [E.out]; simp; omega), B0⟩
  · rw [h, if_neg (by simp)] at E
    rcases Bool.eq_false_or_eq_true (f.vl == 0) with h1 | h1
    · rcases Bool.eq_false_or_eq_true (f.pr == 0) with h2 | h2
      all_goals
        go_enter Tryz.func116, Tryz.ntmps116
        go_wp2
        go_ret
        exact ⟨ret_bool (by rw [E.out, h1, h2]; rfl), B0⟩
    · go_enter Tryz.func116, Tryz.ntmps116
      go_wp2
      go_ret
      exact ⟨ret_bool (by rw [E.out, h1]; rfl), B0⟩
set_option maxRecDepth 100000 in
set_option maxHeartbeats 4000000 in
theorem right34 (f : Fd) (a : Option Addr) (n c : Nat) (hl : f.bs.length = n) (w : World) :
    Calls Tryz.prog 102 #[.agg (FC f (.slice a n c))] w fun e w' => e = .returned (.bool (rt f)) ∧ Below w.heap.size w w' := by
  have B0 := below_alloc w (.cells (FC f (.slice a n c)) 38)
  have A0 : Box (w.alloc (.cells (FC f (.slice a n c)) 38)) w.heap.size (fcl f (.slice a n c)) := Box.new w _ 38
  have E := hide (show rt f = (decide (1536 ≤ f.ty) && decide (f.ty ≤ 65535) && !(f.ty == 33024) && decide ((f.bs.length : Int) ≤ 1500) && tok f) from rfl)
  rw [hl] at E
  by_cases h1 : 1536 ≤ f.ty
  · by_cases h2 : f.ty ≤ 65535
    · rcases Bool.eq_false_or_eq_true (f.ty == 33024) with h3 | h3
      · have h3' : (f.ty != 33024) = false := by simp [bne, h3]
        go_enter Tryz.func102, Tryz.ntmps102
        go_wp2
        go_ret
        exact ⟨ret_bool (by rw [E.out, h3]; simp), B0⟩
      · have h3' : (f.ty != 33024) = true := by simp [bne, h3]
        by_cases h4 : (n : Int) ≤ 1500
        · have tk1 : True := trivial
          have HH : Hid (rt f = tok f) := hide (by rw [E.out, h3]; simp [h1, h2]; intro _; omega)
          go_enter Tryz.func102, Tryz.ntmps102
          go_wp2_with (first | (have _t := tk1; refine wpl_frame (.tmp 1) rfl A0 ?_ ?_ ?_; rfl; rfl; clear tk1))
          refine (rightTag48 f _ _).mono ?_
          rintro e w1 ⟨rfl, B1⟩
          have BB := belowOn B0 B1
          clear B1 A0
          go_wp2
          go_ret
          exact ⟨ret_bool (by rw [HH.out]), BB⟩
        · go_enter Tryz.func102, Tryz.ntmps102
          go_wp2
          go_ret
          exact ⟨ret_bool (by rw [E.out, h3]; simp; omega), B0⟩
    · go_enter Tryz.func102, Tryz.ntmps102
      go_wp2
      go_ret
      exact ⟨ret_bool (by rw [E.out]; simp; omega), B0⟩
  · go_enter Tryz.func102, Tryz.ntmps102
    go_wp2
    go_ret
    exact ⟨ret_bool (by rw [E.out]; simp; omega), B0⟩
set_option maxRecDepth 100000 in
set_option maxHeartbeats 8000000 in
theorem right35 (f : Fd) (a : Option Addr) (n c : Nat) (hl : f.bs.length = n) (w : World) :
    Calls Tryz.prog 91 #[.agg (FC f (.slice a n c))] w fun e w' => e = .returned (.bool (rt f)) ∧ Below w.heap.size w w' := by
  have B0 := below_alloc w (.cells (FC f (.slice a n c)) 38)
  have E := hide (show rt f = (decide (1536 ≤ f.ty) && decide (f.ty ≤ 65535) && !(f.ty == 33024) && decide ((f.bs.length : Int) ≤ 1500) && tok f) from rfl)
  have E2 := hide (show tok f = if f.tg then decide (0 ≤ f.vl) && decide (f.vl ≤ 4094) && decide (0 ≤ f.pr) && decide (f.pr ≤ 7) else f.vl == 0 && f.pr == 0 from rfl)
  rw [hl] at E
  by_cases h1 : f.ty < 1536
  · go_enter Tryz.func91, Tryz.ntmps91
    go_wp2
    go_ret
    exact ⟨ret_bool (by rw [E.out]; simp; omega), B0⟩
  · by_cases h2 : 65535 < f.ty
    · go_enter Tryz.func91, Tryz.ntmps91
      go_wp2
      go_ret
      exact ⟨ret_bool (by rw [E.out]; simp; omega), B0⟩
    · rcases Bool.eq_false_or_eq_true (f.ty == 33024) with h3 | h3
      · go_enter Tryz.func91, Tryz.ntmps91
        go_wp2
        go_ret
        exact ⟨ret_bool (by rw [E.out, h3]; simp), B0⟩
      · by_cases h4 : (1500 : Int) < n
        · go_enter Tryz.func91, Tryz.ntmps91
          go_wp2
          go_ret
          exact ⟨ret_bool (by rw [E.out, h3]; simp; omega), B0⟩
        · have HH : Hid (rt f = tok f) := hide (by
            rw [E.out, h3]
            have a1 : 1536 ≤ f.ty := by omega
            have a2 : f.ty ≤ 65535 := by omega
            have a3 : (n : Int) ≤ 1500 := by omega
            rw [decide_eq_true a1, decide_eq_true a2, decide_eq_true a3]
            simp)
          rcases Bool.eq_false_or_eq_true f.tg with h | h
          · rw [h, if_pos rfl] at E2
            by_cases g1 : 0 ≤ f.vl
            · by_cases g2 : f.vl ≤ 4094
              · by_cases g3 : 0 ≤ f.pr
                · by_cases g4 : f.pr ≤ 7
                  · go_enter Tryz.func91, Tryz.ntmps91
                    go_wp2
                    go_ret
                    exact ⟨ret_bool (by rw [HH.out, E2.out]; simp [g1, g2, g3, g4]), B0⟩
                  · go_enter Tryz.func91, Tryz.ntmps91
                    go_wp2
                    go_ret
                    exact ⟨ret_bool (by rw [HH.out, E2.out]; simp [g1, g2, g3]; omega), B0⟩
                · go_enter Tryz.func91, Tryz.ntmps91
                  go_wp2
                  go_ret
                  exact ⟨ret_bool (by rw [HH.out, E2.out]; simp; omega), B0⟩
              · go_enter Tryz.func91, Tryz.ntmps91
                go_wp2
                go_ret
                exact ⟨ret_bool (by rw [HH.out, E2.out]; simp; omega), B0⟩
            · go_enter Tryz.func91, Tryz.ntmps91
              go_wp2
              go_ret
              exact ⟨ret_bool (by rw [HH.out, E2.out]; simp; omega), B0⟩
          · rw [h, if_neg (by simp)] at E2
            rcases Bool.eq_false_or_eq_true (f.vl == 0) with g1 | g1
            · rcases Bool.eq_false_or_eq_true (f.pr == 0) with g2 | g2
              all_goals
                go_enter Tryz.func91, Tryz.ntmps91
                go_wp2
                go_ret
                exact ⟨ret_bool (by rw [HH.out, E2.out, g1, g2]; rfl), B0⟩
            · go_enter Tryz.func91, Tryz.ntmps91
              go_wp2
              go_ret
              exact ⟨ret_bool (by rw [HH.out, E2.out, g1]; rfl), B0⟩
end
end Go.Proofs.YtgpdjfaklcmoiaaGreat
/- Contracts: Clone of bytes; Tag and Untag, of both. -/
namespace Go.Proofs.YtgpdjfaklcmoiaaGreat
open Go.RowKit

theorem own_byt2 {w : World} {base : Nat} {v : Value} {n : Nat} {ns : List Int} (h : Row w base v n ns) (hr : Rng ns) : ∃ ao c, v = .slice ao n c ∧ Byt w ao n c ns ∧ ∀ b o, ao = some ⟨b, o, none⟩ → base ≤ b := by
  obtain ⟨ao, c, hv, hb⟩ := h.byt hr
  refine ⟨ao, c, hv, hb, fun b o e => ?_⟩
  subst hv
  rcases h.2 with ⟨e1, -⟩ | ⟨g, cap, cur, e1, hg, -⟩
  · injection e1 with e2; rw [e2] at e; cases e
  · injection e1 with e2
    rw [e2] at e
    injection Option.some.inj e with e3
    omega
set_option maxRecDepth 100000 in
set_option maxHeartbeats 1000000 in
theorem clone49 (ao : Option Addr) (n c : Nat) (ns : List Int) (w : World) (h : Byt w ao n c ns) (hn : n ≤ 70000) :
    Calls Tryz.prog 117 #[.slice ao n c] w fun e w' => ∃ ao' c', e = .returned (.slice ao' n c') ∧ Byt w' ao' n c' ns ∧ (∀ b o, ao' = some ⟨b, o, none⟩ → w.heap.size ≤ b) ∧ Below w.heap.size w w' := by
  have q35 : ∀ (w : World) (a : Option Addr) (n c n' c' : Nat), (binOp .eql 36 (.slice a n c) (.slice none n' c')).run Tryz.prog w = .ok (.bool a.isNone) w := fun w a n c n' c' => Lib.run_eql_slice_nil w _ _ a n c n' c' Tryz.underlying36
  cases ao with
  | none =>
    obtain ⟨rfl, rfl⟩ := h.nil rfl
    go_enter Tryz.func117, Tryz.ntmps117
    go_wp2
    go_ret
    exact ⟨none, 0, rfl, h, fun b o e => (by cases e), Below.refl _ _⟩
  | some ad =>
    have hsrc := hide (h.alloc (.cells #[] 5))
    have HO : Hid (Row (w.alloc (.cells #[] 5)) w.heap.size (.slice (some ⟨w.heap.size, 0, none⟩) 0 0) 0 []) := hide (World.ownsRow_made w #[] 0 (Nat.le_refl _) (Nat.zero_le _) rfl)
    have HR := hide h.rng
    have HN := hide hn
    clear h hn
    go_enter Tryz.func117, Tryz.ntmps117
    go_wp2_with (at_builtin; refine wpl_app rfl (.tmp 5) (.tmp 6) rfl w.heap.size _ 0 [] rfl HO.out (some ad) n c ns rfl hsrc.out (by have := HN.out; omega) (by simp) ?_)
    intro v' w1 hR1 hB1
    have hB : Below w.heap.size w w1 := (below_alloc w _).trans hB1
    obtain ⟨ao', c', hv, hbyt, hnew⟩ := own_byt2 hR1 HR.out
    have HV := hide hv
    clear hsrc HO hv hB1 hR1
    go_wp2
    go_ret
    exact ⟨ao', c', by rw [HV.out]; simp, by simpa using hbyt, hnew, hB⟩

theorem res_frame {fn : Func} {p : Tmp} (h : fn.results = #[.cell p 38]) {tmps : Array Value} {w : World} {k : Nat} {f : Fd} {s : Value} (hp : tmps.getD p undef = .pointer (some ⟨k, 0, none⟩)) (hA : Box w k (fcl f s)) :
    (results fn tmps).run Tryz.prog w = .ok (.agg (FC f s)) w := by
  have hl := run_loadVar_mid (P := Tryz.prog) w k 0 38 _ _ hA.at_ Tryz.underlying38 rfl Tryz.size38
  have hp' : tmps[p]?.getD undef = .pointer (some ⟨k, 0, none⟩) := by simpa using hp
  simp only [results, h]
  simp [hp', asAddr, hl, FC]
theorem res_frame_tmp {fn : Func} {p u : Tmp} (h : fn.results = #[.cell p 38, .tmp u]) {tmps : Array Value} {w : World} {k : Nat} {f : Fd} {s : Value} (hp : tmps.getD p undef = .pointer (some ⟨k, 0, none⟩)) (hA : Box w k (fcl f s)) :
    (results fn tmps).run Tryz.prog w = .ok (.tuple #[.agg (FC f s), tmps.getD u undef]) w := by
  have hl := run_loadVar_mid (P := Tryz.prog) w k 0 38 _ _ hA.at_ Tryz.underlying38 rfl Tryz.size38
  have hp' : tmps[p]?.getD undef = .pointer (some ⟨k, 0, none⟩) := by simpa using hp
  simp only [results, h]
  simp [hp', asAddr, hl, FC]
def seT (f : Fd) (t : Bool) : Fd := { f with tg := t }
def seV (f : Fd) (v : Int) : Fd := { f with vl := v }
def seP (f : Fd) (p : Int) : Fd := { f with pr := p }
theorem FS12 (f : Fd) (s : Value) (t : Bool) : (FC f s).setIfInBounds 12 (.bool t) = FC (seT f t) s := rfl
theorem FS13 (f : Fd) (s : Value) (v : Int) : (FC f s).setIfInBounds 13 (.int .i64 v) = FC (seV f v) s := rfl
theorem FS14 (f : Fd) (s : Value) (p : Int) : (FC f s).setIfInBounds 14 (.int .i64 p) = FC (seP f p) s := rfl
theorem FS16 (f : Fd) (s : Value) (a : Option Addr) (n c : Nat) : (FC f s).setIfInBounds 16 (.slice a n c) = FC f (.slice a n c) := rfl
theorem box16 {W : World} {k : Nat} {f : Fd} {s : Value} (A : Box W k (fcl f s)) (s' : Value) : Box (W.setCell ⟨k, 16, none⟩ s') k (fcl f s') :=
  Box.set (v' := s') (A := dcl f ++ scl f ++ [.bool f.tg, .int .i64 f.vl, .int .i64 f.pr, .int .i64 f.ty]) (C := []) A rfl
/-- A frame in a variable of its own, and a result behind it. -/
theorem two_boxes (w : World) (f : Fd) (s : Value) : Box ((w.alloc (.cells (FC f s) 38)).alloc (.cells (FC zeroF (.slice none 0 0)) 38)) w.heap.size (fcl f s) ∧ Box ((w.alloc (.cells (FC f s) 38)).alloc (.cells (FC zeroF (.slice none 0 0)) 38)) (w.heap.size + 1) (fcl zeroF (.slice none 0 0)) ∧
    Below w.heap.size w ((w.alloc (.cells (FC f s) 38)).alloc (.cells (FC zeroF (.slice none 0 0)) 38)) ∧ w.heap.size + 2 ≤ ((w.alloc (.cells (FC f s) 38)).alloc (.cells (FC zeroF (.slice none 0 0)) 38)).heap.size := by
  refine ⟨(Box.new w (fcl f s) 38).alloc _, ?_, by go_grown, by simp⟩
  have h := Box.new (w.alloc (.cells (FC f s) 38)) (fcl zeroF (.slice none 0 0)) 38
  rw [World.size_alloc] at h
  exact h
section
attribute [local go_sem] FC12 FC13 FC14 FC15 FC16 FC_size ZF FS12 FS13 FS14 FS16
set_option maxRecDepth 100000 in
set_option maxHeartbeats 4000000 in
theorem untag41 (f : Fd) (s : Value) (hs : s.oneCell' = true) (w : World) :
    Calls Tryz.prog 101 #[.agg (FC f s)] w fun e w' => e = .returned (.agg (FC (untF f) s)) ∧ Below w.heap.size w w' := by
  obtain ⟨A0, Z0, W0, L0⟩ := two_boxes w (untF f) s
  have A1 := hide A0
  have Z1 := hide Z0
  have W1 := hide W0
  have HS := hide hs
  clear A0 Z0 W0
  have tk1 : True := trivial
  have tk2 : True := trivial
  go_enter Tryz.func101, Tryz.ntmps101
  go_wp2_with (first | (have _t := tk1; refine wpl_frame (.tmp 1) rfl A1.out ?_ ?_ ?_; rfl; rfl; clear tk1) | (have _t := tk2; refine wpl_putF (untF f) s _ _ HS.out (.tmp 2) (.tmp 6) rfl Z1.out ?_ ?_ ?_ ?_; rfl; rfl; rfl; clear tk2))
  intro w2 Z2 g2
  have W2 := hide (below_grown W1.out g2 (by omega) (by omega))
  have Z3 := hide Z2
  clear Z2 g2 A1 Z1 W1
  go_wp2
  exact bodyPost_ret (res_frame rfl rfl Z3.out) rfl ⟨rfl, W2.out⟩
set_option maxRecDepth 100000 in
set_option maxHeartbeats 4000000 in
theorem tag40 (f : Fd) (v p : Int) (a : Option Addr) (n c : Nat) (hl : f.bs.length = n) (w : World) (hr : rt (tagF f v p) = true) :
    Calls Tryz.prog 100 #[.agg (FC f (.slice a n c)), .int .i64 v, .int .i64 p] w fun e w' => e = .returned (.tuple #[.agg (FC (tagF f v p) (.slice a n c)), .int .i64 0]) ∧ Below w.heap.size w w' := by
  obtain ⟨A0, Z0, W0, L0⟩ := two_boxes w (tagF f v p) (.slice a n c)
  have q := fun W => right35 (tagF f v p) a n c hl W
  rw [hr] at q
  have Q := hide q
  have A1 := hide A0
  have Z1 := hide Z0
  have W1 := hide W0
  clear A0 Z0 W0 q
  have tk1 : True := trivial
  go_enter Tryz.func100, Tryz.ntmps100
  go_wp2_with (first | (have _t := tk1; refine wpl_frame (.tmp 3) rfl A1.out ?_ ?_ ?_; rfl; rfl; clear tk1))
  refine (Q.out _).mono ?_
  rintro e w1 ⟨rfl, B1⟩
  have A2 := hide (A1.out.on B1)
  have Z2 := hide (Z1.out.on B1)
  have W2 := hide (belowOn W1.out B1)
  have L1 := B1.size
  clear A1 Z1 W1 B1
  have tk2 : True := trivial
  have tk3 : True := trivial
  go_wp2_with (first | (have _t := tk2; refine wpl_frame (.tmp 3) rfl A2.out ?_ ?_ ?_; rfl; rfl; clear tk2) | (have _t := tk3; refine wpl_putF (tagF f v p) (.slice a n c) _ _ rfl (.tmp 6) (.tmp 19) rfl Z2.out ?_ ?_ ?_ ?_; rfl; rfl; rfl; clear tk3))
  intro w2 Z3 g2
  have W3 := hide (below_grown W2.out g2 (by omega) W2.out.size)
  have Z4 := hide Z3
  clear Z3 g2 A2 Z2 W2
  go_wp2
  exact bodyPost_ret (res_frame_tmp rfl rfl Z4.out) rfl ⟨rfl, W3.out⟩
set_option maxRecDepth 100000 in
set_option maxHeartbeats 4000000 in
theorem untag38 (f : Fd) (a : Option Addr) (n c : Nat) (w : World) (hY : Byt w a n c f.bs) (hn : n ≤ 5000) :
    Calls Tryz.prog 109 #[.agg (FC f (.slice a n c))] w fun e w' => ∃ a' c', e = .returned (.agg (FC (untF f) (.slice a' n c'))) ∧ Byt w' a' n c' f.bs ∧ (∀ b o, a' = some ⟨b, o, none⟩ → w.heap.size + 2 ≤ b) ∧ Below w.heap.size w w' := by
  obtain ⟨A0, Z0, W0, L0⟩ := two_boxes w (untF f) (.slice a n c)
  have Y0 := hide (hY.on W0)
  have A1 := hide A0
  have Z1 := hide Z0
  have W1 := hide W0
  clear A0 Z0 W0 hY
  go_enter Tryz.func109, Tryz.ntmps109
  go_wp2_with fail
  refine (clone49 a n c f.bs _ Y0.out (by omega)).mono ?_
  rintro e w1 ⟨a', c', rfl, Y1, hf, B1⟩
  have c16 := (A1.out.on B1).cell 16 _ rfl
  have f16 := (A1.out.on B1).free 16 (by simp [fcl, dcl, scl])
  have A2 := hide (box16 (A1.out.on B1) (.slice a' n c'))
  have g1 := setCell_grown w1 w.heap.size 16 (.slice a' n c')
  have Z2 := hide ((Z1.out.on B1).kept (by omega) g1)
  have W2 := hide (below_grown (belowOn W1.out B1) g1 (Nat.le_refl _) (by have := B1.size; omega))
  have Y2 := hide (Y1.kept (fun b o e _ => by have := hf b o e; omega) g1)
  have HF := hide hf
  have L1 := B1.size
  clear A1 Z1 W1 B1 Y1 Y0 g1 hf
  have tk2 : True := trivial
  have tk3 : True := trivial
  go_wp2_with (first | (have _t := tk2; refine wpl_frame (.tmp 1) rfl A2.out ?_ ?_ ?_; rfl; rfl; clear tk2) | (have _t := tk3; refine wpl_putF (untF f) (.slice a' n c') _ _ rfl (.tmp 2) (.tmp 10) rfl Z2.out ?_ ?_ ?_ ?_; rfl; rfl; rfl; clear tk3))
  intro w2 Z3 g2
  have W3 := hide (below_grown W2.out g2 (by omega) (by have := W2.out.size; omega))
  have Y3 := hide (Y2.out.kept (fun b o e _ => by have := HF.out b o e; omega) g2)
  have Z4 := hide Z3
  clear Z3 g2 A2 Z2 W2 Y2 c16 f16
  go_wp2
  exact bodyPost_ret (res_frame rfl rfl Z4.out) rfl ⟨a', c', rfl, Y3.out, fun b o e => by have := HF.out b o e; omega, W3.out⟩
set_option maxRecDepth 100000 in
set_option maxHeartbeats 4000000 in
theorem tag37 (f : Fd) (v p : Int) (a : Option Addr) (n c : Nat) (w : World) (hY : Byt w a n c f.bs) (hn : n ≤ 5000) (hr : rt (tagF f v p) = true) :
    Calls Tryz.prog 108 #[.agg (FC f (.slice a n c)), .int .i64 v, .int .i64 p] w fun e w' => ∃ a' c', e = .returned (.tuple #[.agg (FC (tagF f v p) (.slice a' n c')), .int .i64 0]) ∧ Byt w' a' n c' f.bs ∧ (∀ b o, a' = some ⟨b, o, none⟩ → w.heap.size + 2 ≤ b) ∧ Below w.heap.size w w' := by
  obtain ⟨A0, Z0, W0, L0⟩ := two_boxes w (tagF f v p) (.slice a n c)
  have q := fun W => right34 (tagF f v p) a n c hY.len W
  rw [hr] at q
  have Q := hide q
  have Y0 := hide (hY.on W0)
  have A1 := hide A0
  have Z1 := hide Z0
  have W1 := hide W0
  clear A0 Z0 W0 hY q
  have tk1 : True := trivial
  go_enter Tryz.func108, Tryz.ntmps108
  go_wp2_with (first | (have _t := tk1; refine wpl_frame (.tmp 3) rfl A1.out ?_ ?_ ?_; rfl; rfl; clear tk1))
  refine (Q.out _).mono ?_
  rintro e w0 ⟨rfl, B0⟩
  have A1b := hide (A1.out.on B0)
  have Z1b := hide (Z1.out.on B0)
  have W1b := hide (belowOn W1.out B0)
  have Y0b := hide (Y0.out.on B0)
  have L2 := B0.size
  have c16b := A1b.out.cell 16 _ rfl
  have lA := A1b.out.lt
  have lZ := Z1b.out.lt
  clear A1 Z1 W1 B0 Y0
  go_wp2_with fail
  refine (clone49 a n c f.bs _ Y0b.out (by omega)).mono ?_
  rintro e w1 ⟨a', c', rfl, Y1, hf, B1⟩
  have c16 := (A1b.out.on B1).cell 16 _ rfl
  have f16 := (A1b.out.on B1).free 16 (by simp [fcl, dcl, scl])
  have A2 := hide (box16 (A1b.out.on B1) (.slice a' n c'))
  have g1 := setCell_grown w1 w.heap.size 16 (.slice a' n c')
  have Z2 := hide ((Z1b.out.on B1).kept (by omega) g1)
  have W2 := hide (below_grown (belowOn W1b.out B1) g1 (Nat.le_refl _) (belowOn W1b.out B1).size)
  have Y2 := hide (Y1.kept (fun b o e _ => by have := hf b o e; omega) g1)
  have HF := hide hf
  have L1 := B1.size
  clear A1b Z1b W1b B1 Y1 Y0b g1 hf c16b
  have tk2 : True := trivial
  have tk3 : True := trivial
  go_wp2_with (first | (have _t := tk2; refine wpl_frame (.tmp 3) rfl A2.out ?_ ?_ ?_; rfl; rfl; clear tk2) | (have _t := tk3; refine wpl_putF (tagF f v p) (.slice a' n c') _ _ rfl (.tmp 6) (.tmp 21) rfl Z2.out ?_ ?_ ?_ ?_; rfl; rfl; rfl; clear tk3))
  intro w2 Z3 g2
  have W3 := hide (below_grown W2.out g2 (by omega) (by have := W2.out.size; omega))
  have Y3 := hide (Y2.out.kept (fun b o e _ => by have := HF.out b o e; omega) g2)
  have Z4 := hide Z3
  clear Z3 g2 A2 Z2 W2 Y2 c16 f16
  go_wp2
  exact bodyPost_ret (res_frame_tmp rfl rfl Z4.out) rfl ⟨a', c', rfl, Y3.out, fun b o e => by have := HF.out b o e; omega, W3.out⟩
end
end Go.Proofs.YtgpdjfaklcmoiaaGreat
/- Contracts: In, of both. -/
namespace Go.Proofs.YtgpdjfaklcmoiaaGreat
open Go.RowKit

theorem nat_rng {T : Tb} (h : Wf T) {k : Nat} : 0 ≤ T.ns.getD k 0 ∧ T.ns.getD k 0 ≤ 4094 := by
  rw [List.getD_eq_getElem?_getD]
  cases hk : T.ns[k]? with
  | none => simp
  | some x => exact h.nat x (List.mem_of_getElem? hk)
theorem vOf_rng {T : Tb} (h : Wf T) {p : Int} {f : Fd} (hr : rt f = true) : 0 ≤ vOf T p f ∧ vOf T p f ≤ 4094 := by
  unfold vOf
  split
  · exact nat_rng h
  · exact rt_vl hr
theorem hs_zero {T : Tb} (h : Wf T) (p : Int) : hs T.l 0 p = false := by
  rw [Bool.eq_false_iff]
  intro hc
  have := (isV_iff 0).1 (h.has hc).1
  omega
section
attribute [local go_sem] FC12 FC13 FC14 FC15 FC16 FC_size ZF
set_option maxRecDepth 100000 in
set_option maxHeartbeats 4000000 in
theorem in17 (h : Nat) (T : Tb) (p : Int) (f : Fd) (a : Option Addr) (n c : Nat) (hl : f.bs.length = n) (w : World) (P : PT w h T) :
    Calls Tryz.prog 104 #[.pointer (some ⟨h + 2, 0, none⟩), .int .i64 p, .agg (FC f (.slice a n c))] w fun e w' => e = .returned (.tuple #[.int .i64 (inV T p f), .int .i64 (inE T p f)]) ∧ Below w.heap.size w w' := by
  have B0 := below_alloc w (.cells (FC f (.slice a n c)) 38)
  have A0 := hide (Box.new w (fcl f (.slice a n c)) 38)
  have P0 := hide (P.on B0)
  have q1 := fun W H => hasPort33 h T p W H
  have q2 := fun W => right34 f a n c hl W
  have WF := hide P.wf
  clear P
  have BB := hide B0
  clear B0
  have tk1 : True := trivial
  rcases Bool.eq_false_or_eq_true (hp T p) with hh | hh
  · rw [hh] at q1
    rcases Bool.eq_false_or_eq_true (rt f) with hr | hr
    · rw [hr] at q2
      have hv := vOf_rng (p := p) WF.out hr
      have q3 := fun W H => isMember28 h T (vOf T p f) p W ⟨by omega, by omega⟩ (i64_p WF.out hh) H
      have hb := (hp_iff T p).1 hh
      have hn := WF.out.ns
      obtain ⟨k, rfl⟩ := Int.eq_ofNat_of_zero_le hb.1
      have hk : k < T.ns.length := by omega
      have hk' : (k : Int) < T.n := by omega
      have ev : inV T k f = if hs T.l (vOf T k f) k then vOf T k f else 0 := by rw [inV, hh, hr]; rfl
      have ee : inE T k f = if hs T.l (vOf T k f) k then 0 else 4 := by rw [inE, hh, hr]; rfl
      have eo : vOf T k f = if f.vl == 0 then T.ns.getD k 0 else f.vl := by rw [vOf, Int.toNat_natCast]
      have EV2 := hide ev
      have EE2 := hide ee
      have Q3 := hide q3
      clear hh hr hb ev ee hv q3
      go_enter Tryz.func104, Tryz.ntmps104
      go_wp2_with (first | (go_at_call 66; refine (q1 _ P0.out).mono ?_; rintro e w' ⟨rfl, rfl⟩) | (have _t := tk1; refine wpl_frame (.tmp 5) rfl A0.out ?_ ?_ ?_; rfl; rfl; clear tk1))
      refine (q2 _).mono ?_
      rintro e w1 ⟨rfl, B1⟩
      have P1 := hide (P0.out.on B1)
      have A1 := A0.out.on B1
      have c13 := A1.cell 13 _ rfl
      have c1 := P1.out.bx.cell 1 _ rfl
      have n1 := P1.out.nt.cell k _ (nsl_get hk)
      have B2 := hide (belowOn BB.out B1)
      clear A0 A1 B1 P0 BB q1 q2
      rcases Bool.eq_false_or_eq_true (f.vl == 0) with h0 | h0
      · have eo' : T.ns.getD k 0 = vOf T k f := by rw [eo, h0]; rfl
        rw [eo'] at n1
        have Q4 := hide (fun W H => Q3.out W H)
        generalize vOf T k f = x at *
        clear eo eo' Q3
        go_wp2_with fail
        refine (Q4.out _ P1.out).mono ?_
        rintro e w2 ⟨rfl, B3⟩
        have B4 := hide (belowOn B2.out B3)
        clear B3 B2 P1 c13 c1 n1 Q4
        rcases Bool.eq_false_or_eq_true (hs T.l x k) with hm | hm
        · rw [hm] at EV2 EE2 ⊢
          clear hm
          go_wp2
          go_ret2
          exact ⟨by rw [EV2.out, EE2.out]; rfl, B4.out⟩
        · rw [hm] at EV2 EE2 ⊢
          clear hm
          go_wp2
          go_ret2
          exact ⟨by rw [EV2.out, EE2.out]; rfl, B4.out⟩
      · have eo' : f.vl = vOf T k f := by rw [eo, h0]; rfl
        have Q4 : Hid (∀ W, PT W h T → Calls Tryz.prog 54 #[.pointer (some ⟨h + 2, 0, none⟩), .int .i64 f.vl, .int .i64 k] W fun e w' => e = .returned (.bool (hs T.l f.vl k)) ∧ Below W.heap.size W w') := hide (by rw [eo']; exact Q3.out)
        rw [← eo'] at EV2 EE2
        clear eo eo' Q3 n1 c1
        go_wp2_with fail
        refine (Q4.out _ P1.out).mono ?_
        rintro e w2 ⟨rfl, B3⟩
        have B4 := hide (belowOn B2.out B3)
        clear B3 B2 P1 c13 Q4
        rcases Bool.eq_false_or_eq_true (hs T.l f.vl k) with hm | hm
        · rw [hm] at EV2 EE2 ⊢
          clear hm
          go_wp2
          go_ret2
          exact ⟨by rw [EV2.out, EE2.out]; rfl, B4.out⟩
        · rw [hm] at EV2 EE2 ⊢
          clear hm
          go_wp2
          go_ret2
          exact ⟨by rw [EV2.out, EE2.out]; rfl, B4.out⟩
    · rw [hr] at q2
      have ev : inV T p f = 0 := by rw [inV, hh, hr]; rfl
      have ee : inE T p f = 1 := by rw [inE, hh, hr]; rfl
      rw [ev, ee]
      clear hh hr ev ee
      go_enter Tryz.func104, Tryz.ntmps104
      go_wp2_with (first | (go_at_call 66; refine (q1 _ P0.out).mono ?_; rintro e w' ⟨rfl, rfl⟩) | (have _t := tk1; refine wpl_frame (.tmp 5) rfl A0.out ?_ ?_ ?_; rfl; rfl; clear tk1))
      refine (q2 _).mono ?_
      rintro e w1 ⟨rfl, B1⟩
      have B2 := hide (belowOn BB.out B1)
      clear A0 B1 P0 BB q1 q2
      go_wp2
      go_ret2
      exact ⟨rfl, B2.out⟩
  · rw [hh] at q1
    have ev : inV T p f = 0 := by rw [inV, hh]; rfl
    have ee : inE T p f = 1 := by rw [inE, hh]; rfl
    rw [ev, ee]
    clear hh ev ee q2
    go_enter Tryz.func104, Tryz.ntmps104
    go_wp2_with (first | (go_at_call 66; refine (q1 _ P0.out).mono ?_; rintro e w' ⟨rfl, rfl⟩))
    go_ret2
    exact ⟨rfl, BB.out⟩
end
end Go.Proofs.YtgpdjfaklcmoiaaGreat
/- Contract of Out, of the program. -/
namespace Go.Proofs.YtgpdjfaklcmoiaaGreat
open Go.RowKit

/-- What Out tells. -/
def OuP (T : Tb) (v p : Int) (f : Fd) (w : World) (e : Ending) (w' : World) : Prop :=
  ∃ a m c, e = .returned (.tuple #[.agg (FC (ouF T v p f) (.slice a m c)), .int .i64 (ouE T v p f)]) ∧ Byt w' a m c (ouF T v p f).bs ∧ (∀ b o, a = some ⟨b, o, none⟩ → w.heap.size ≤ b) ∧ Below w.heap.size w w'
section
attribute [local go_sem] FC12 FC13 FC14 FC15 FC16 FC_size ZF
set_option maxRecDepth 100000 in
set_option maxHeartbeats 4000000 in
theorem out19_arg (h : Nat) (T : Tb) (v p : Int) (f : Fd) (a : Option Addr) (n c : Nat) (w : World) (P : PT w h T) (hl : f.bs.length = n) (hc : (isV v && hp T p && rt f) = false) :
    Calls Tryz.prog 85 #[.pointer (some ⟨h + 2, 0, none⟩), .int .i64 v, .int .i64 p, .agg (FC f (.slice a n c))] w (OuP T v p f w) := by
  have e1 : ouF T v p f = zeroF := by rw [ouF, hc]; rfl
  have e2 : ouE T v p f = 1 := by rw [ouE, hc]; rfl
  unfold OuP
  rw [e1, e2]
  obtain ⟨A0, Z0, W0, L0⟩ := two_boxes w f (.slice a n c)
  have P0 := hide (P.on W0)
  have A1 := hide A0
  have Z1 := hide Z0
  have W1 := hide W0
  have q0 := fun W => isVlan36 v W
  have q1 := fun W H => hasPort33 h T p W H
  have q2 := fun W => right34 f a n c hl W
  clear A0 Z0 W0 P e1 e2
  have tk1 : True := trivial
  have tk2 : True := trivial
  rcases Bool.eq_false_or_eq_true (isV v) with hv | hv
  · rw [hv] at q0 hc
    rcases Bool.eq_false_or_eq_true (hp T p) with hh | hh
    · rw [hh] at q1 hc
      rw [Bool.true_and, Bool.true_and] at hc
      rw [hc] at q2
      go_enter Tryz.func85, Tryz.ntmps85
      go_wp2_with (first | (go_at_call 65; refine (q0 _).mono ?_; rintro e w' ⟨rfl, rfl⟩) | (go_at_call 66; refine (q1 _ P0.out).mono ?_; rintro e w' ⟨rfl, rfl⟩) | (have _t := tk1; refine wpl_frame (.tmp 7) rfl A1.out ?_ ?_ ?_; rfl; rfl; clear tk1))
      refine (q2 _).mono ?_
      rintro e w1 ⟨rfl, B1⟩
      have Z2 := hide (Z1.out.on B1)
      have W2 := hide (belowOn W1.out B1)
      clear A1 B1 P0 Z1 W1 q0 q1 q2
      go_wp2_with (first | (have _t := tk2; refine wpl_putF zeroF (.slice none 0 0) _ _ rfl (.tmp 8) (.tmp 26) rfl Z2.out ?_ ?_ ?_ ?_; rfl; rfl; rfl; clear tk2))
      intro w2 Z3 g2
      have W3 := hide (below_grown W2.out g2 (by omega) W2.out.size)
      have Z4 := hide Z3
      clear Z3 g2 Z2 W2
      go_wp2
      exact bodyPost_ret (res_frame_tmp rfl rfl Z4.out) rfl ⟨none, 0, 0, rfl, Byt.nothing _, fun b o e => (by cases e), W3.out⟩
    · rw [hh] at q1
      clear q2
      go_enter Tryz.func85, Tryz.ntmps85
      go_wp2_with (first | (go_at_call 65; refine (q0 _).mono ?_; rintro e w' ⟨rfl, rfl⟩) | (go_at_call 66; refine (q1 _ P0.out).mono ?_; rintro e w' ⟨rfl, rfl⟩) | (have _t := tk2; refine wpl_putF zeroF (.slice none 0 0) _ _ rfl (.tmp 8) (.tmp 26) rfl Z1.out ?_ ?_ ?_ ?_; rfl; rfl; rfl; clear tk2))
      intro w2 Z3 g2
      have W3 := hide (below_grown W1.out g2 (by omega) W1.out.size)
      have Z4 := hide Z3
      clear Z3 g2 Z1 W1
      go_wp2
      exact bodyPost_ret (res_frame_tmp rfl rfl Z4.out) rfl ⟨none, 0, 0, rfl, Byt.nothing _, fun b o e => (by cases e), W3.out⟩
  · rw [hv] at q0
    clear q2 q1
    go_enter Tryz.func85, Tryz.ntmps85
    go_wp2_with (first | (go_at_call 65; refine (q0 _).mono ?_; rintro e w' ⟨rfl, rfl⟩) | (have _t := tk2; refine wpl_putF zeroF (.slice none 0 0) _ _ rfl (.tmp 8) (.tmp 26) rfl Z1.out ?_ ?_ ?_ ?_; rfl; rfl; rfl; clear tk2))
    intro w2 Z3 g2
    have W3 := hide (below_grown W1.out g2 (by omega) W1.out.size)
    have Z4 := hide Z3
    clear Z3 g2 Z1 W1
    go_wp2
    exact bodyPost_ret (res_frame_tmp rfl rfl Z4.out) rfl ⟨none, 0, 0, rfl, Byt.nothing _, fun b o e => (by cases e), W3.out⟩
set_option maxRecDepth 100000 in
set_option maxHeartbeats 4000000 in
theorem out19_yes (h : Nat) (T : Tb) (v p : Int) (f : Fd) (a : Option Addr) (n c : Nat) (w : World) (P : PT w h T) (hY : Byt w a n c f.bs) (hn : n ≤ 5000) (hv : isV v = true) (hh : hp T p = true) (hr : rt f = true) :
    Calls Tryz.prog 85 #[.pointer (some ⟨h + 2, 0, none⟩), .int .i64 v, .int .i64 p, .agg (FC f (.slice a n c))] w (OuP T v p f w) := by
  have e1 : ouF T v p f = if hs T.l v p then (if tgd T.l v p then tagF f v f.pr else untF f) else zeroF := by rw [ouF, hv, hh, hr]; rfl
  have e2 : ouE T v p f = if hs T.l v p then 0 else 4 := by rw [ouE, hv, hh, hr]; rfl
  unfold OuP
  generalize ouF T v p f = F at e1 ⊢
  generalize ouE T v p f = E0 at e2 ⊢
  obtain ⟨A0, Z0, W0, L0⟩ := two_boxes w f (.slice a n c)
  have P0 := hide (P.on W0)
  have Y0 := hide (hY.on W0)
  have A1 := hide A0
  have Z1 := hide Z0
  have W1 := hide W0
  have q0 := fun W => isVlan36 v W
  have q1 := fun W H => hasPort33 h T p W H
  have q2 := fun W => right34 f a n c hY.len W
  have iv := i64_v hv
  have ip := i64_p P.wf hh
  have hrt := hide (rt_tag hr hv)
  rw [hv] at q0
  rw [hh] at q1
  rw [hr] at q2
  clear A0 Z0 W0 P hY hv hh hr
  have tk1 : True := trivial
  have tk2 : True := trivial
  have tk3 : True := trivial
  go_enter Tryz.func85, Tryz.ntmps85
  go_wp2_with (first | (go_at_call 65; refine (q0 _).mono ?_; rintro e w' ⟨rfl, rfl⟩) | (go_at_call 66; refine (q1 _ P0.out).mono ?_; rintro e w' ⟨rfl, rfl⟩) | (have _t := tk1; refine wpl_frame (.tmp 7) rfl A1.out ?_ ?_ ?_; rfl; rfl; clear tk1))
  refine (q2 _).mono ?_
  rintro e w1 ⟨rfl, B1⟩
  have P2 := P0.out.on B1
  have hlk := P2.mp.look P2.wf.small P2.wf.ap iv ip
  unfold KV EV at hlk
  have c0 := P2.bx.cell 0 _ rfl
  have A2 := A1.out.on B1
  have Z2 := Z1.out.on B1
  have W2 := belowOn W1.out B1
  have Y2 := Y0.out.on B1
  clear A1 B1 P0 Z1 W1 q0 q1 q2 P2 Y0
  generalize tgd T.l v p = tg at *
  have ba := below_alloc w1 (.cells #[.bool tg] 114)
  have A3 := hide (A2.on ba)
  have Z3 := hide (Z2.on ba)
  have W3 := hide (belowOn W2 ba)
  have Y3 := hide (Y2.on ba)
  have c14 := (A2.on ba).cell 14 _ rfl
  have lZ := (Z2.on ba).lt
  clear A2 Z2 W2 Y2 ba
  rcases Bool.eq_false_or_eq_true (hs T.l v p) with hm | hm
  · rw [hm] at hlk e1 e2
    have HF := hide e1
    have HE := hide e2
    clear hm e1 e2
    cases tg
    · go_wp2_with (first | (have _t := tk2; refine wpl_frame (.tmp 7) rfl A3.out ?_ ?_ ?_; rfl; rfl; clear tk2))
      refine (untag38 f a n c _ Y3.out (by omega)).mono ?_
      rintro e w2 ⟨a', c', rfl, Y4, hf, B4⟩
      have YN := hide hf
      have YS := hide W3.out.size
      have Z4 := hide (Z3.out.on B4)
      have W4 := hide (belowOn W3.out B4)
      have Y5 := hide Y4
      clear Y4 B4 Z3 W3 Y3 A3 hlk c0 c14 hf
      go_wp2_with (first | (have _t := tk3; refine wpl_putF (untF f) (.slice a' n c') _ _ rfl (.tmp 8) (.tmp 51) rfl Z4.out ?_ ?_ ?_ ?_; rfl; rfl; rfl; clear tk3))
      intro w3 Z5 g2
      have W5 := hide (below_grown W4.out g2 (by omega) W4.out.size)
      have Y6 := hide (Y5.out.kept (fun b o e hp => by have := YN.out b o e; omega) g2)
      have Z6 := hide Z5
      clear Z5 g2 Z4 W4 Y5
      go_wp2
      exact bodyPost_ret (res_frame_tmp rfl rfl Z6.out) rfl ⟨a', n, c', by rw [HF.out, HE.out]; rfl, by rw [HF.out]; exact Y6.out, fun b o e => by have := YN.out b o e; have := YS.out; omega, W5.out⟩
    · go_wp2_with (first | (have _t := tk2; refine wpl_frame (.tmp 7) rfl A3.out ?_ ?_ ?_; rfl; rfl; clear tk2))
      refine (tag37 f v f.pr a n c _ Y3.out (by omega) hrt.out).mono ?_
      rintro e w2 ⟨a', c', rfl, Y4, hf, B4⟩
      have YN := hide hf
      have YS := hide W3.out.size
      have Z4 := hide (Z3.out.on B4)
      have W4 := hide (belowOn W3.out B4)
      have Y5 := hide Y4
      clear Y4 B4 Z3 W3 Y3 A3 hlk c0 c14 hf
      go_wp2_with (first | (have _t := tk3; refine wpl_putF (tagF f v f.pr) (.slice a' n c') _ _ rfl (.tmp 8) (.tmp 48) rfl Z4.out ?_ ?_ ?_ ?_; rfl; rfl; rfl; clear tk3))
      intro w3 Z5 g2
      have W5 := hide (below_grown W4.out g2 (by omega) W4.out.size)
      have Y6 := hide (Y5.out.kept (fun b o e hp => by have := YN.out b o e; omega) g2)
      have Z6 := hide Z5
      clear Z5 g2 Z4 W4 Y5
      go_wp2
      exact bodyPost_ret (res_frame_tmp rfl rfl Z6.out) rfl ⟨a', n, c', by rw [HF.out, HE.out]; rfl, by rw [HF.out]; exact Y6.out, fun b o e => by have := YN.out b o e; have := YS.out; omega, W5.out⟩
  · rw [hm] at hlk e1 e2
    have HF := hide e1
    have HE := hide e2
    clear hm e1 e2
    go_wp2_with (first | (have _t := tk3; refine wpl_putF zeroF (.slice none 0 0) _ _ rfl (.tmp 8) (.tmp 40) rfl Z3.out ?_ ?_ ?_ ?_; rfl; rfl; rfl; clear tk3))
    intro w2 Z4 g2
    have W4 := hide (below_grown W3.out g2 (by omega) W3.out.size)
    have Z5 := hide Z4
    clear Z4 g2 Z3 W3 A3 hlk c0 c14
    go_wp2
    exact bodyPost_ret (res_frame_tmp rfl rfl Z5.out) rfl ⟨none, 0, 0, by rw [HF.out, HE.out]; rfl, by rw [HF.out]; exact Byt.nothing _, fun b o e => (by cases e), W4.out⟩
end
theorem out19 (h : Nat) (T : Tb) (v p : Int) (f : Fd) (a : Option Addr) (n c : Nat) (w : World) (P : PT w h T) (hY : Byt w a n c f.bs) (hn : n ≤ 5000) :
    Calls Tryz.prog 85 #[.pointer (some ⟨h + 2, 0, none⟩), .int .i64 v, .int .i64 p, .agg (FC f (.slice a n c))] w (OuP T v p f w) := by
  rcases Bool.eq_false_or_eq_true (isV v && hp T p && rt f) with hc | hc
  · simp only [Bool.and_eq_true] at hc
    exact out19_yes h T v p f a n c w P hY hn hc.1.1 hc.1.2 hc.2
  · exact out19_arg h T v p f a n c w P hY.len hc
end Go.Proofs.YtgpdjfaklcmoiaaGreat
