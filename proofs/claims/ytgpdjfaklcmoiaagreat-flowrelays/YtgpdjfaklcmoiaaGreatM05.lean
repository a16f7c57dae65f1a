/- Plain: what the places hold, in order; a slice of entries. -/
import Derived.Test.YtgpdjfaklcmoiaaGreatM03
namespace Go.Proofs.YtgpdjfaklcmoiaaGreat
open Go.RowKit Go.PlainAid

theorem ps_apart {T : FT} {n : Nat} {h : En → Nat} {ps : List En} (R : Rp n h ps T.l) (W : FW T) (f : En → Bool) : (ps.filter (fun x => !fre x && f x)).Pairwise (fun x y => ke x ≠ ke y) := by
  have h1 : ps.Pairwise (fun x y => x ≠ zE → y ≠ zE → ke x ≠ ke y) := by
    rw [List.pairwise_iff_getElem]
    intro i j hi hj hij hx hy e
    have e2 := W.srt.one ((R.mem _ hx).1 (List.getElem_mem hi)) ((R.mem _ hy).1 (List.getElem_mem hj)) e
    have := R.one i j ps[i] (List.getElem?_eq_getElem hi) (by rw [e2]; exact List.getElem?_eq_getElem hj) hx
    omega
  have h2 := List.Pairwise.filter (fun x => !fre x && f x) h1
  refine List.Pairwise.imp_of_mem (fun {x y} hx hy hxy => ?_) h2
  have o : ∀ z, z ∈ ps.filter (fun x => !fre x && f x) → z ≠ zE := fun z hz e => by
    have := (List.mem_filter.1 hz).2
    rw [e] at this
    simp [show fre zE = true from rfl] at this
  exact hxy (o x hx) (o y hy)
theorem those_eq {T : FT} {n : Nat} {h : En → Nat} {ps : List En} (R : Rp n h ps T.l) (W : FW T) (f : En → Bool) {l : List En} (hp : l.Perm (ps.filter (fun x => !fre x && f x))) (fhs : l.Pairwise (fun x y => ke x ≤ ke y)) : l = T.l.filter f := by
  have h1 : l.Pairwise (fun x y => ke x ≠ ke y) := (hp.pairwise_iff (fun {x y} h => Ne.symm h)).2 (ps_apart R W f)
  have h2 : Srt l := List.Pairwise.imp (fun {x y} h => by have := h.1; have := h.2; omega) (List.Pairwise.and fhs h1)
  refine h2.ext (W.srt.filter f) (fun x => ?_)
  rw [hp.mem_iff]
  simp only [List.mem_filter, Bool.and_eq_true, Bool.not_eq_true']
  constructor
  · rintro ⟨a, b, c⟩
    have hx : x ≠ zE := fun e => by rw [(fre_iff x).2 e] at b; cases b
    exact ⟨(R.mem x hx).1 a, c⟩
  · rintro ⟨a, c⟩
    exact ⟨(R.mem x (W.gd x a).occ).2 a, (W.gd x a).fre, c⟩
theorem mok_those {T : FT} {n : Nat} {h : En → Nat} {ps : List En} (R : Rp n h ps T.l) (W : FW T) (f : En → Bool) : ∀ x ∈ ps.filter (fun x => !fre x && f x), Mok x.m := fun x hx => by
  obtain ⟨a, b⟩ := List.mem_filter.1 hx
  simp at b
  have hz : x ≠ zE := fun e => by rw [(fre_iff x).2 e] at b; cases b.1
  exact (W.gd x ((R.mem x hz).1 a)).ok
/-- A slice of entries, in a block from B on. -/
structure Ets (w : World) (B : Nat) (ao : Option Addr) (n c : Nat) (l : List En) : Prop where
  len : l.length = n
  nil : ao = none → n = 0
  bx : ∀ a, ao = some a → ∃ b, a = ⟨b, 0, none⟩ ∧ B ≤ b ∧ Box w b (es l)
  le : n ≤ c
  mx : c ≤ maxLen
theorem Ets.mid {w w1 : World} {N M B : Nat} {ao : Option Addr} {n c : Nat} {l : List En} (h : Ets w B ao n c l) (hb : Mid N M w w1) (hM : M ≤ B) : Ets w1 B ao n c l :=
  ⟨h.len, h.nil, fun a e => by
    obtain ⟨b, e1, e2, e3⟩ := h.bx a e
    exact ⟨b, e1, e2, e3.block (hb.block b e3.lt (Or.inr (by omega)))⟩, h.le, h.mx⟩
theorem Ets.on {w w1 : World} {B : Nat} {ao : Option Addr} {n c : Nat} {l : List En} (h : Ets w B ao n c l) (hb : Below w.heap.size w w1) : Ets w1 B ao n c l :=
  h.mid (mid_of_below hb B) (Nat.le_refl _)
theorem Ets.mono {w : World} {B B' : Nat} {ao : Option Addr} {n c : Nat} {l : List En} (h : Ets w B ao n c l) (hB : B' ≤ B) : Ets w B' ao n c l :=
  ⟨h.len, h.nil, fun a e => by obtain ⟨b, e1, e2, e3⟩ := h.bx a e; exact ⟨b, e1, by omega, e3⟩, h.le, h.mx⟩
theorem Ets.at {w : World} {B : Nat} {ao : Option Addr} {n c : Nat} {l : List En} (h : Ets w B ao n c l) {j : Nat} {x : En} (hj : l[j]? = some x) : ∃ b, ao = some ⟨b, 0, none⟩ ∧ B ≤ b ∧ b < w.heap.size ∧ w.rangeAt b (j * 10) (ecl x) := by
  cases ao with
  | none =>
    have := h.nil rfl
    have := h.len
    have := (List.getElem?_eq_some_iff.1 hj).1
    omega
  | some a =>
    obtain ⟨b, e1, e2, e3⟩ := h.bx a rfl
    exact ⟨b, by rw [e1], e2, e3.lt, e3.ent hj⟩
theorem row_ets {w : World} {B : Nat} {v : Value} {l : List En} (h : w.ownsRow B 61 10 v l.length (es l)) : ∃ ao c, v = .slice ao l.length c ∧ Ets w B ao l.length c l := by
  rcases h.2 with ⟨h1, h2⟩ | ⟨b, cap, cur, rfl, hb, hc, hn, hm, r⟩
  · refine ⟨none, 0, by rw [h1, h2], ⟨rfl, fun _ => h2, fun a e => (by cases e), by omega, by unfold maxLen; omega⟩⟩
  · obtain ⟨p1, p2, p3, p4, p5⟩ := box_of_row h (es_length _)
    exact ⟨_, cap, rfl, ⟨rfl, fun e => (by cases e), fun a e => ⟨b, (Option.some.inj e).symm, p2, p1⟩, p4, p5⟩⟩
theorem row_on {w w1 : World} {g : Nat} {lv : Value} {n : Nat} {xs : List Value} (hr : w.ownsRow g 61 10 lv n xs) (hb : Below w.heap.size w w1) : w1.ownsRow g 61 10 lv n xs := row_mid hr (mid_of_below hb g) (Nat.le_refl _)
end Go.Proofs.YtgpdjfaklcmoiaaGreat
