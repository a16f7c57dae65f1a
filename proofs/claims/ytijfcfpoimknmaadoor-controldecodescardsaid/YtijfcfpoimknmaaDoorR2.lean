/- Contract of Right, as the document has it. -/
import Derived.Test.YtijfcfpoimknmaaDoorB1
namespace Go.Proofs.YtijfcfpoimknmaaDoor
open Go.RowKit

/-- The order in which the document asks. -/
def hi (k : Int) : Int := if k = 8 then 250 else if k = 6 then 2 else if hst k then 1 else 0
def rr (n : Nt) (m : Nat) : Bool := wi n.k 0 8 && (!(hv n.k && !wi n.v 1 4094 || !hv n.k && n.v != 0) && (!(!hm n.k && !m0 n) && (!(hp n.k && !wi n.p 0 1000 || !hp n.k && n.p != 0) && (wi n.s 0 (hi n.k) && (hb n.k && decide ((m : Int) ≤ 1600) || ((m : Int) == 0))))))
theorem bool_pick (h a b : Bool) : (!(h && !a || !h && !b)) = (if h then a else b) := by cases h <;> cases a <;> cases b <;> rfl
theorem rr_rt (n : Nt) (m : Nat) (hl : n.b.length = m) : rr n m = rt n := by
  subst hl
  have e1 : ff n 1 = (if hv n.k then wi n.v 1 4094 else n.v == 0) := by rw [ff, hs_v]; rfl
  have e2 : ff n 2 = (if hm n.k then true else m0 n) := by rw [ff, hs_m]; rfl
  have e4 : ff n 4 = (if hp n.k then wi n.p 0 1000 else n.p == 0) := by rw [ff, hs_p]; rfl
  have e8 : ff n 8 = (if hst n.k then wi n.s 0 (ms n.k) else n.s == 0) := by rw [ff, hs_s]; rfl
  have e16 : ff n 16 = (if hb n.k then decide ((n.b.length : Int) ≤ 1600) else (n.b.length : Int) == 0) := by rw [ff, hs_b]; rfl
  rw [rr, rt, e1, e2, e4, e8, e16]
  have q1 : (!(hv n.k && !wi n.v 1 4094 || !hv n.k && n.v != 0)) = (if hv n.k then wi n.v 1 4094 else n.v == 0) := bool_pick _ _ _
  have q2 : (!(!hm n.k && !m0 n)) = (if hm n.k then true else m0 n) := by cases hm n.k <;> cases m0 n <;> rfl
  have q4 : (!(hp n.k && !wi n.p 0 1000 || !hp n.k && n.p != 0)) = (if hp n.k then wi n.p 0 1000 else n.p == 0) := bool_pick _ _ _
  have q8 : wi n.s 0 (hi n.k) = (if hst n.k then wi n.s 0 (ms n.k) else n.s == 0) := by
    cases hh : hst n.k
    · have h6 : ¬ n.k = 6 := fun e => by rw [e] at hh; cases hh
      have h8 : ¬ n.k = 8 := fun e => by rw [e] at hh; cases hh
      rw [hi, if_neg h8, if_neg h6, hh, Bool.eq_iff_iff]
      simp [wi]
      omega
    · have : hi n.k = ms n.k := by
        unfold hi ms
        rw [hh]
        by_cases h8 : n.k = 8
        · rw [if_pos h8, h8]; rfl
        · by_cases h6 : n.k = 6
          · rw [if_neg h8, if_pos h6, if_pos h6]
          · rw [if_neg h8, if_neg h6, if_neg h6, if_neg h8]; rfl
      rw [this]; rfl
  have q16 : (hb n.k && decide ((n.b.length : Int) ≤ 1600) || ((n.b.length : Int) == 0)) = (if hb n.k then decide ((n.b.length : Int) ≤ 1600) else (n.b.length : Int) == 0) := by
    cases hb n.k
    · rfl
    · rw [Bool.true_and, if_pos rfl, Bool.eq_iff_iff, Bool.or_eq_true, decide_eq_true_eq, beq_iff_eq]
      omega
  rw [q1, q2, q4, q8, q16]
/-- What a kind has, each by itself. -/
structure Pat (k : Int) (v m p s b x6 x8 : Bool) (h : Int) : Prop where
  v : hv k = v
  m : hm k = m
  p : hp k = p
  s : hst k = s
  b : hb k = b
  x6 : (k == 6) = x6
  x8 : (k == 8) = x8
  h : hi k = h
theorem pats {k : Int} (h : wi k 0 8 = true) : Pat k false false false false false false false 0 ∨ Pat k true true true false false false false 0 ∨ Pat k true true false false false false false 0 ∨ Pat k false false true true false false false 1 ∨ Pat k false false true false true false false 0 ∨ Pat k false false true true false true false 2 ∨ Pat k false false false true false false false 1 ∨ Pat k true false true true true false true 250 := by
  have := (wi_iff _ _ _).1 h
  rcases (show k = 0 ∨ k = 1 ∨ k = 2 ∨ k = 3 ∨ k = 4 ∨ k = 5 ∨ k = 6 ∨ k = 7 ∨ k = 8 by omega) with rfl | rfl | rfl | rfl | rfl | rfl | rfl | rfl | rfl
  · exact Or.inl ⟨rfl, rfl, rfl, rfl, rfl, rfl, rfl, rfl⟩
  · exact Or.inr (Or.inl ⟨rfl, rfl, rfl, rfl, rfl, rfl, rfl, rfl⟩)
  · exact Or.inr (Or.inr (Or.inl ⟨rfl, rfl, rfl, rfl, rfl, rfl, rfl, rfl⟩))
  · exact Or.inr (Or.inr (Or.inr (Or.inl ⟨rfl, rfl, rfl, rfl, rfl, rfl, rfl, rfl⟩)))
  · exact Or.inr (Or.inr (Or.inr (Or.inl ⟨rfl, rfl, rfl, rfl, rfl, rfl, rfl, rfl⟩)))
  · exact Or.inr (Or.inr (Or.inr (Or.inr (Or.inl ⟨rfl, rfl, rfl, rfl, rfl, rfl, rfl, rfl⟩))))
  · exact Or.inr (Or.inr (Or.inr (Or.inr (Or.inr (Or.inl ⟨rfl, rfl, rfl, rfl, rfl, rfl, rfl, rfl⟩)))))
  · exact Or.inr (Or.inr (Or.inr (Or.inr (Or.inr (Or.inr (Or.inl ⟨rfl, rfl, rfl, rfl, rfl, rfl, rfl, rfl⟩))))))
  · exact Or.inr (Or.inr (Or.inr (Or.inr (Or.inr (Or.inr (Or.inr ⟨rfl, rfl, rfl, rfl, rfl, rfl, rfl, rfl⟩))))))
end Go.Proofs.YtijfcfpoimknmaaDoor
