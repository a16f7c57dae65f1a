/- Plain facts of keepalives: their bytes, what bytes tell as one. -/
import Derived.Test.YtijfcfpoimknmaaDoorDec
namespace Go.Proofs.YtijfcfpoimknmaaDoor
open Go.RowKit

def af (pr : Bool) : Int := if pr then 1 else 0
def ab (e p : Int) (pr : Bool) : List Int := be 1 75 ++ (be 4 e ++ (be 2 p ++ be 1 (af pr)))
def ar (e p : Int) : Bool := sq e && wi p 0 65535
def alb (e p : Int) (pr : Bool) : List Int := if ar e p then ab e p pr else []
def alc (e p : Int) : Int := if ar e p then 0 else 1
theorem ab_length (e p : Int) (pr : Bool) : (ab e p pr).length = 8 := by simp [ab, be_length]
theorem ab_rng (e p : Int) (pr : Bool) : Rng (ab e p pr) := rng_append (be_rng _ _) (rng_append (be_rng _ _) (rng_append (be_rng _ _) (be_rng _ _)))
theorem alb_rng (e p : Int) (pr : Bool) : Rng (alb e p pr) := by
  unfold alb
  split
  · exact ab_rng _ _ _
  · exact rng_nil
def t1 (b : List Int) : Rs := tr ⟨b, false⟩ 1
def t2 (b : List Int) : Rs := tr (t1 b) 4
def t3 (b : List Int) : Rs := tr (t2 b) 2
def t4 (b : List Int) : Rs := tr (t3 b) 1
def tme (b : List Int) : Int := nr (t1 b) 4
def tmp (b : List Int) : Int := nr (t2 b) 2
def tmf (b : List Int) : Int := nr (t3 b) 1
def tok (b : List Int) : Bool := wh (t4 b) && (nr ⟨b, false⟩ 1 == 75 && (sq (tme b) && wi (tmf b) 0 1))
def te (b : List Int) : Int := if tok b then tme b else 0
def tp (b : List Int) : Int := if tok b then tmp b else 0
def tf (b : List Int) : Bool := if tok b then tmf b == 1 else false
def tc (b : List Int) : Int := if tok b then 0 else 2
def ue (b : List Int) : Int := nb ((b.drop 1).take 4)
def up (b : List Int) : Int := nb ((b.drop 5).take 2)
def uf (b : List Int) : Bool := b.getD 7 0 == 1
def uok (b : List Int) : Bool := decide (b.length = 8) && (ar (ue b) (up b) && decide (ab (ue b) (up b) (uf b) = b))
theorem wh_iff (r : Rs) : wh r = true ↔ r.sh = false ∧ r.ns = [] := by
  simp only [wh, Bool.and_eq_true, Bool.not_eq_true', beq_iff_eq]
  constructor
  · rintro ⟨h1, h2⟩
    exact ⟨h1, List.eq_nil_of_length_eq_zero (by omega)⟩
  · rintro ⟨h1, h2⟩
    rw [h2]
    exact ⟨h1, rfl⟩
theorem tok_len {b : List Int} (h : tok b = true) : b.length = 8 := by
  simp only [tok, Bool.and_eq_true] at h
  obtain ⟨h0, -⟩ := h
  obtain ⟨s4, n4⟩ := (wh_iff _).1 h0
  obtain ⟨s3, a4, l4⟩ := tr_ok (show (tr (t3 b) 1).sh = false from s4)
  obtain ⟨s2, a3, l3⟩ := tr_ok (show (tr (t2 b) 2).sh = false from s3)
  obtain ⟨s1, a2, l2⟩ := tr_ok (show (tr (t1 b) 4).sh = false from s2)
  obtain ⟨-, a1, l1⟩ := tr_ok (show (tr ⟨b, false⟩ 1).sh = false from s1)
  have e4 := congrArg List.length a4
  have e3 := congrArg List.length a3
  have e2 := congrArg List.length a2
  have e1 := congrArg List.length a1
  rw [List.length_append] at e1 e2 e3 e4
  have q1 : (t1 b).ns.length = (tr ⟨b, false⟩ 1).ns.length := rfl
  have q2 : (t2 b).ns.length = (tr (t1 b) 4).ns.length := rfl
  have q3 : (t3 b).ns.length = (tr (t2 b) 2).ns.length := rfl
  have q4 : (tr (t3 b) 1).ns.length = 0 := by rw [show tr (t3 b) 1 = t4 b from rfl, n4]; rfl
  have q5 : (⟨b, false⟩ : Rs).ns.length = b.length := rfl
  omega
theorem list8 (b : List Int) (h : b.length = 8) : ∃ b0 b1 b2 b3 b4 b5 b6 b7, b = [b0, b1, b2, b3, b4, b5, b6, b7] := by
  match b, h with
  | [b0, b1, b2, b3, b4, b5, b6, b7], _ => exact ⟨b0, b1, b2, b3, b4, b5, b6, b7, rfl⟩
theorem told_same {b : List Int} (hr : Rng b) : uok b = tok b ∧ (tok b = true → tme b = ue b ∧ tmp b = up b ∧ (tmf b == 1) = uf b) := by
  by_cases h8 : b.length = 8
  · obtain ⟨b0, b1, b2, b3, b4, b5, b6, b7, rfl⟩ := list8 b h8
    have r0 := hr b0 (by simp); have r1 := hr b1 (by simp); have r2 := hr b2 (by simp); have r3 := hr b3 (by simp); have r4 := hr b4 (by simp); have r5 := hr b5 (by simp); have r6 := hr b6 (by simp); have r7 := hr b7 (by simp)
    have em : nr ⟨[b0, b1, b2, b3, b4, b5, b6, b7], false⟩ 1 = b0 := by show 0 * 256 + b0 = b0; omega
    have ee : tme [b0, b1, b2, b3, b4, b5, b6, b7] = ue [b0, b1, b2, b3, b4, b5, b6, b7] := rfl
    have ep : tmp [b0, b1, b2, b3, b4, b5, b6, b7] = up [b0, b1, b2, b3, b4, b5, b6, b7] := rfl
    have ef : tmf [b0, b1, b2, b3, b4, b5, b6, b7] = b7 := by show 0 * 256 + b7 = b7; omega
    have ew : wh (t4 [b0, b1, b2, b3, b4, b5, b6, b7]) = true := rfl
    have eu : uf [b0, b1, b2, b3, b4, b5, b6, b7] = (b7 == 1) := rfl
    have k1 : be 4 (ue [b0, b1, b2, b3, b4, b5, b6, b7]) = [b1, b2, b3, b4] := be_nb 4 [b1, b2, b3, b4] rfl (rng_cons r1.1 r1.2 (rng_cons r2.1 r2.2 (rng_cons r3.1 r3.2 (rng_cons r4.1 r4.2 rng_nil))))
    have k2 : be 2 (up [b0, b1, b2, b3, b4, b5, b6, b7]) = [b5, b6] := be_nb 2 [b5, b6] rfl (rng_cons r5.1 r5.2 (rng_cons r6.1 r6.2 rng_nil))
    have k3 : wi (up [b0, b1, b2, b3, b4, b5, b6, b7]) 0 65535 = true := by
      have h2 : 0 ≤ nb [b5, b6] ∧ nb [b5, b6] < 256 ^ 2 := nb_fit 2 [b5, b6] rfl (rng_cons r5.1 r5.2 (rng_cons r6.1 r6.2 rng_nil))
      refine (wi_iff _ _ _).2 ⟨h2.1, ?_⟩
      have : nb [b5, b6] < 65536 := by simpa using h2.2
      show nb [b5, b6] ≤ 65535
      omega
    refine ⟨?_, fun _ => ⟨ee, ep, by rw [ef, eu]⟩⟩
    rw [Bool.eq_iff_iff]
    simp only [uok, tok, ar, em, ee, ef, ew, k3, eu, Bool.and_eq_true, Bool.true_and, Bool.and_true, decide_eq_true_eq, beq_iff_eq, wi_iff, ab, k1, k2]
    have e75 : be 1 75 = [75] := rfl
    rw [e75]
    constructor
    · rintro ⟨-, h1, h2⟩
      simp [be, af] at h2
      refine ⟨h2.1.symm, h1, ?_⟩
      split at h2 <;> omega
    · rintro ⟨h1, h2, h3⟩
      refine ⟨rfl, h2, ?_⟩
      simp [be, af]
      refine ⟨h1.symm, ?_⟩
      split <;> omega
  · have h1 : tok b = false := by
      cases h : tok b
      · rfl
      · exact absurd (tok_len h) h8
    have h2 : uok b = false := by simp [uok, h8]
    exact ⟨by rw [h1, h2], fun h => by rw [h1] at h; cases h⟩
theorem tok_ab {b : List Int} (hr : Rng b) (h : tok b = true) : ar (te b) (tp b) = true ∧ ab (te b) (tp b) (tf b) = b := by
  obtain ⟨h1, h2⟩ := told_same hr
  obtain ⟨e1, e2, e3⟩ := h2 h
  rw [h] at h1
  simp only [uok, Bool.and_eq_true, decide_eq_true_eq] at h1
  rw [te, tp, tf, h, if_pos rfl, if_pos rfl, if_pos rfl, e1, e2, e3]
  exact h1.2
theorem tok_dk {b : List Int} (hr : Rng b) (h : tok b = true) : dk b = false := by
  cases hd : dk b
  · rfl
  · obtain ⟨p, -, rfl⟩ := (dk_iff hr).1 hd
    have := enc_len p
    have := tok_len h
    omega
end Go.Proofs.YtijfcfpoimknmaaDoor
