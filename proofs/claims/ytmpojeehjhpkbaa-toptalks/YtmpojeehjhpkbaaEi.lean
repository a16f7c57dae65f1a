/- Contracts of the reader: take, pair, mac. -/
import Derived.Test.YtmpojeehjhpkbaaEg
import Derived.Laws.CopyOwn
import Derived.Deep.QuietTactic
import Derived.BigQuiet
namespace Go.Proofs.Ytmpojeehjhpkbaa
open Go.RowKit

/-- A reader in memory, and what it has yet. -/
structure Rd (w : World) (r : Nat) (ao : Option Addr) (n c : Nat) (ns : List Int) : Prop where
  at_ : w.cell? ⟨r, 0, none⟩ = some (.slice ao n c)
  fr : w.frozen? ⟨r, 0, none⟩ = false
  byt : Byt w ao n c ns
  ne : ∀ b o, ao = some ⟨b, o, none⟩ → 0 < n → b ≠ r

theorem grown_trans {w w1 w2 : World} {row : Option Nat} (h : w.grownBy w1 row) (k : w1.grownBy w2 row) : w.grownBy w2 row :=
  ⟨k.os.trans h.os, k.tape.trans h.tape, k.output.trans h.output, Nat.le_trans h.size k.size, fun i hi hne => (k.block i (Nat.lt_of_lt_of_le hi h.size) hne).trans (h.block i hi hne)⟩
theorem grown_new {w w1 w2 : World} {row : Option Nat} {k : Nat} (h : w.grownBy w1 row) (g : w1.grownBy w2 (some k)) (hk : w.heap.size ≤ k) : w.grownBy w2 row :=
  ⟨g.os.trans h.os, g.tape.trans h.tape, g.output.trans h.output, Nat.le_trans h.size g.size, fun i hi hne => (g.block i (Nat.lt_of_lt_of_le hi h.size) (fun e => by have := Option.some.inj e; omega)).trans (h.block i hi hne)⟩
theorem grown_alloc {w w1 : World} {row : Option Nat} (h : w.grownBy w1 row) (o : Obj) : w.grownBy (w1.alloc o) row := grown_trans h (World.grownBy_alloc w1 o row)
theorem grown_drew {w w1 : World} {row : Option Nat} (h : w.grownBy w1 row) : w.grownBy w1.drew row := ⟨h.os, h.tape, h.output, h.size, h.block⟩
theorem below_of_grown {B : Nat} {w w1 : World} {r : Nat} (h : w.grownBy w1 (some r)) (hr : B ≤ r) (hB : B ≤ w.heap.size) : Below B w w1 := (Below.refl _ _).grown h hB (fun k hk => by have := Option.some.inj hk; omega)
theorem Rd.lt {w : World} {r : Nat} {ao : Option Addr} {n c : Nat} {ns : List Int} (h : Rd w r ao n c ns) : r < w.heap.size := World.block_lt_of_cell? w _ h.at_
theorem Rd.kept {w w1 : World} {r k : Nat} {ao : Option Addr} {n c : Nat} {ns : List Int} (h : Rd w r ao n c ns) (hk : r ≠ k) (hne : ∀ b o, ao = some ⟨b, o, none⟩ → b ≠ k) (hg : w.grownBy w1 (some k)) : Rd w1 r ao n c ns :=
  ⟨hg.cell h.at_ (fun e => hk (Option.some.inj e)), by rw [World.frozen?_of_block (a := ⟨r, 0, none⟩) (hg.block r h.lt (fun e => hk (Option.some.inj e)))]; exact h.fr, h.byt.kept hne hg, h.ne⟩
theorem Rd.on {w w1 : World} {r : Nat} {ao : Option Addr} {n c : Nat} {ns : List Int} (h : Rd w r ao n c ns) (hb : Below w.heap.size w w1) : Rd w1 r ao n c ns :=
  ⟨(hb.cell (p := ⟨r, 0, none⟩) h.lt).trans h.at_, (hb.frozen (p := ⟨r, 0, none⟩) h.lt).trans h.fr, h.byt.on hb, h.ne⟩
theorem Rd.drew {w : World} {r : Nat} {ao : Option Addr} {n c : Nat} {ns : List Int} (h : Rd w r ao n c ns) : Rd w.drew r ao n c ns := ⟨h.at_, h.fr, ⟨h.byt.len, h.byt.nil, h.byt.cell, h.byt.le, h.byt.mx, h.byt.rng⟩, h.ne⟩

theorem Rd.took {w : World} {r b o n c : Nat} {ns : List Int} (h : Rd w r (some ⟨b, o, none⟩) n c ns) {k : Nat} (hk : k ≤ n) {ao : Option Addr} (h1 : ¬ c = k → ao = some ⟨b, o + k, none⟩) (h2 : c = k → ao = some ⟨b, o, none⟩) :
    Rd (w.setCell ⟨r, 0, none⟩ (.slice ao (n - k) (c - k))) r ao (n - k) (c - k) (ns.drop k) := by
  have hG := setCell_grown w r 0 (.slice ao (n - k) (c - k))
  have hle := h.byt.le
  have hlen := h.byt.len
  refine ⟨World.cell?_setCell_same _ _ _ h.at_, by rw [World.frozen?_setCell]; exact h.fr, ⟨by simp; omega, fun e => ?_, fun j hj => ?_, by omega, by have := h.byt.mx; omega, rng_drop h.byt.rng k⟩, fun b' o' e hp => ?_⟩
  · by_cases hc : c = k
    · rw [h2 hc] at e; cases e
    · rw [h1 hc] at e; cases e
  · have hc : ¬ c = k := by omega
    refine ⟨b, o + k, h1 hc, ?_⟩
    obtain ⟨b2, o2, e2, hcell⟩ := h.byt.cell (k + j) (by omega)
    injection Option.some.inj e2 with e3 e4
    subst e3 e4
    rw [hG.cell (a := ⟨b, o + k + j, none⟩) (v := .int .u8 ((ns.drop k).getD j 0)) ?_ (fun e => h.ne b o rfl (by omega) (Option.some.inj e))]
    rw [Nat.add_assoc, hcell]
    simp [List.getD_eq_getElem?_getD]
  · by_cases hc : c = k
    · rw [h2 hc] at e; injection Option.some.inj e with e3 e4; subst e3; exact h.ne b o rfl (by omega)
    · rw [h1 hc] at e; injection Option.some.inj e with e3 e4; subst e3; exact h.ne b o rfl (by omega)

/-- What a reader panics with. -/
def pan : List PanicEntry := [{ v := .iface 40 (.int .i64 2), recovered := false }]

set_option maxRecDepth 100000 in
set_option maxHeartbeats 1000000 in
theorem take29_no (r : Nat) (ao : Option Addr) (n c : Nat) (ns : List Int) (k : Int) (w : World) (h : Rd w r ao n c ns) (hk : (n : Int) < k) :
    Calls Try.prog 37 #[.pointer (some ⟨r, 0, none⟩), .int .i64 k] w fun e w' => e = .panicked pan ∧ w' = w := by
  have p := h.at_
  clear h
  go_enter Try.func37, Try.ntmps37
  go_wp2
  exact ⟨rfl, rfl, rfl⟩

set_option maxRecDepth 100000 in
set_option maxHeartbeats 1000000 in
theorem take29_yes (r b o n c : Nat) (ns : List Int) (k : Nat) (w : World) (h : Rd w r (some ⟨b, o, none⟩) n c ns) (hk : k ≤ n) :
    Calls Try.prog 37 #[.pointer (some ⟨r, 0, none⟩), .int .i64 k] w fun e w' => e = .returned (.slice (some ⟨b, o, none⟩) k c) ∧ ∃ ao', Rd w' r ao' (n - k) (c - k) (ns.drop k) ∧ (∀ b' o', ao' = some ⟨b', o', none⟩ → b' = b) ∧ w.grownBy w' (some r) := by
  have p := h.at_
  have q := h.fr
  have hle := h.byt.le
  have hmx := h.byt.mx
  unfold maxLen at hmx
  have hk1 : (k : Int) ≤ n := by omega
  have hle1 : (n : Int) ≤ c := by omega
  have H := hide h
  clear h
  by_cases hc : c = k
  · subst hc
    go_enter Try.func37, Try.ntmps37
    go_wp2
    go_ret
    refine ⟨rfl, some ⟨b, o, none⟩, ?_, fun b' o' e => ?_, setCell_grown _ _ _ _⟩
    · have hh := H.out.took hk (ao := some ⟨b, o, none⟩) (fun e => absurd rfl e) (fun _ => rfl)
      have e0 : n - c = 0 := by omega
      rw [Nat.sub_self, e0] at hh ⊢
      exact hh
    · injection Option.some.inj e with e1 e2; exact e1.symm
  · go_enter Try.func37, Try.ntmps37
    go_wp2
    go_ret
    refine ⟨rfl, some ⟨b, o + k, none⟩, H.out.took hk (fun _ => rfl) (fun e => absurd e hc), fun b' o' e => ?_, setCell_grown _ _ _ _⟩
    injection Option.some.inj e with e1 e2; exact e1.symm

end Go.Proofs.Ytmpojeehjhpkbaa
