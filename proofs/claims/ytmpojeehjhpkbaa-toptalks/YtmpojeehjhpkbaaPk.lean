/- Plain: hashes, weights, the best of some. Nothing of the program. -/
import Derived.Test.YtmpojeehjhpkbaaA1
import Derived.PlainAid
import Derived.OwnWalk
import Derived.WalkLawsBesides
import Derived.Laws.AppendOwnNone
import Derived.Laws.OwnMore
namespace Go.Proofs.Ytmpojeehjhpkbaa

def stp (x b : Nat) : Nat := ((x ^^^ b) * 16777619) % 4294967296
theorem stp_lt (x b : Nat) : stp x b < 4294967296 := Nat.mod_lt _ (by omega)
def stps (x : Nat) (l : List Nat) : Nat := l.foldl stp x
theorem stps_lt : ∀ (l : List Nat) {x : Nat}, x < 4294967296 → stps x l < 4294967296
  | [], _, h => h
  | b :: r, x, _ => stps_lt r (stp_lt x b)
/-- The four bytes of a member, the lowest first. -/
def m4 (m : Int) : Nat := (m % 4294967296).toNat
def bys (m : Nat) : List Nat := [m % 256, m / 256 % 256, m / 65536 % 256, m / 16777216 % 256]
def mix (x : Nat) : Nat := ((x ^^^ x / 32768) * 739982445) % 4294967296
def fin (x : Nat) : Nat := x ^^^ x / 4096
def wgh (h : Nat) (m : Int) : Nat := fin (mix (stps h (bys (m4 m))))
/-- One is better than another one. -/
def btr (h : Nat) (a b : Int) : Bool := decide (wgh h b < wgh h a) || (wgh h a == wgh h b && decide (a < b))
theorem btr_iff {h : Nat} {a b : Int} : btr h a b = true ↔ wgh h b < wgh h a ∨ (wgh h a = wgh h b ∧ a < b) := by simp [btr]
theorem btr_no {h : Nat} {a b : Int} : btr h a b = false ↔ ¬ (wgh h b < wgh h a ∨ (wgh h a = wgh h b ∧ a < b)) := by rw [← btr_iff, Bool.eq_false_iff]
theorem btr_one {h : Nat} {a b : Int} (h1 : btr h a b = false) (h2 : btr h b a = false) : a = b := by
  rw [btr_no] at h1 h2
  omega
theorem btr_trans {h : Nat} {a b c : Int} (h1 : btr h a b = true) (h2 : btr h b c = true) : btr h a c = true := by
  rw [btr_iff] at h1 h2 ⊢
  omega
def nxt (h : Nat) (b m : Int) : Int := if btr h m b then m else b
def chf (h : Nat) (b : Int) (l : List Int) : Int := l.foldl (nxt h) b
/-- The best of some. -/
def chs (h : Nat) : List Int → Int
  | [] => 0
  | b :: r => chf h b r
theorem chf_spec (h : Nat) : ∀ (l : List Int) (b : Int), chf h b l ∈ b :: l ∧ ∀ x ∈ b :: l, btr h x (chf h b l) = false
  | [], b => ⟨by simp [chf], fun x hx => by
    obtain rfl : x = b := by simpa using hx
    show btr h x x = false
    rw [btr_no]; omega⟩
  | m :: r, b => by
    have ih := chf_spec h r (nxt h b m)
    have e : chf h b (m :: r) = chf h (nxt h b m) r := rfl
    rw [e]
    have hn : nxt h b m = m ∧ btr h m b = true ∨ nxt h b m = b ∧ btr h m b = false := by
      unfold nxt
      cases hb : btr h m b <;> simp
    have hi : btr h (nxt h b m) (chf h (nxt h b m) r) = false := ih.2 _ (by simp)
    refine ⟨?_, fun x hx => ?_⟩
    · rcases List.mem_cons.1 ih.1 with h1 | h1
      · rw [h1]
        rcases hn with ⟨e1, _⟩ | ⟨e1, _⟩ <;> simp [e1]
      · simp [h1]
    · rcases List.mem_cons.1 hx with rfl | hx
      · rcases hn with ⟨e1, e2⟩ | ⟨e1, e2⟩
        · rw [e1] at hi ⊢
          rw [Bool.eq_false_iff]
          intro h3
          rw [btr_no] at hi
          rw [btr_iff] at h3 e2
          omega
        · rw [e1] at hi ⊢; exact hi
      · rcases List.mem_cons.1 hx with rfl | hx
        · rcases hn with ⟨e1, e2⟩ | ⟨e1, e2⟩
          · rw [e1] at hi ⊢; exact hi
          · rw [e1] at hi ⊢
            rw [btr_no] at hi e2 ⊢
            omega
        · exact ih.2 x (by simp [hx])
theorem chs_spec (h : Nat) {l : List Int} (hl : l ≠ []) : chs h l ∈ l ∧ ∀ x ∈ l, btr h x (chs h l) = false := by
  cases l with
  | nil => exact absurd rfl hl
  | cons b r => exact chf_spec h r b
theorem chs_is {h : Nat} {l : List Int} {m : Int} (hm : m ∈ l) (hb : ∀ x ∈ l, btr h x m = false) : chs h l = m := by
  have hs := chs_spec h (l := l) (fun e => by rw [e] at hm; cases hm)
  exact btr_one (hb _ hs.1) (hs.2 _ hm)
theorem chs_same {h : Nat} {l s : List Int} (e : ∀ x, x ∈ l ↔ x ∈ s) (hl : l ≠ []) : chs h s = chs h l := by
  have hs := chs_spec h hl
  exact chs_is ((e _).1 hs.1) (fun x hx => hs.2 x ((e x).2 hx))
/-- Where one more comes. -/
theorem chs_more {h : Nat} {l : List Int} {o : Int} (_ : l ≠ []) : chs h (l ++ [o]) = chs h l ∨ chs h (l ++ [o]) = o := by
  have hs := chs_spec h (l := l ++ [o]) (by simp)
  rcases List.mem_append.1 hs.1 with h1 | h1
  · refine Or.inl (chs_is h1 (fun x hx => hs.2 x (by simp [hx]))).symm
  · exact Or.inr (by simpa using h1)
/-- Where another one goes. -/
theorem chs_less {h : Nat} {l : List Int} {o : Int} (hl : l ≠ []) (ho : o ≠ chs h l) : (l.filter (fun x => x != o)) ≠ [] ∧ chs h (l.filter (fun x => x != o)) = chs h l := by
  have hs := chs_spec h hl
  have hm : chs h l ∈ l.filter (fun x => x != o) := List.mem_filter.2 ⟨hs.1, by simp; exact fun e => ho e.symm⟩
  exact ⟨fun e => (by rw [e] at hm; cases hm), chs_is hm (fun x hx => hs.2 x (List.mem_filter.1 hx).1)⟩
theorem chs_two {h : Nat} {a b : Int} : chs h [a, b] = if btr h b a then b else a := by
  show chf h a [b] = _
  unfold chf
  rw [List.foldl_cons, List.foldl_nil]
  unfold nxt
  exact Eq.refl _
theorem chs_snoc {h : Nat} {l : List Int} (hl : l ≠ []) (m : Int) : chs h (l ++ [m]) = nxt h (chs h l) m := by
  cases l with
  | nil => exact absurd rfl hl
  | cons b r =>
    show chf h b (r ++ [m]) = nxt h (chf h b r) m
    unfold chf
    rw [List.foldl_append, List.foldl_cons, List.foldl_nil]
end Go.Proofs.Ytmpojeehjhpkbaa
