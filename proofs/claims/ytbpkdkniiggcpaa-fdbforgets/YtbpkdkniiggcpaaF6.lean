/- Plain: a list parted in two by what is forgotten, walked once. -/
import Derived.Test.YtbpkdkniiggcpaaF5
namespace Go.Proofs.Ytbpkdkniiggcpaa
open Go.RowKit Go.PlainAid

theorem fil_at (p : En → Bool) {l : List En} {n : Nat} {x : En} (hx : l[n]? = some x) (h : p x = true) : (l.filter p)[((l.take n).filter p).length]? = some x := by
  obtain ⟨hl, e⟩ := List.getElem?_eq_some_iff.1 hx
  have e1 : l = l.take n ++ (x :: l.drop (n + 1)) := by rw [← e, ← List.drop_eq_getElem_cons hl, List.take_append_drop]
  have e2 : l.filter p = (l.take n).filter p ++ (x :: (l.drop (n + 1)).filter p) := by
    conv => lhs; rw [e1]
    rw [List.filter_append, List.filter_cons, if_pos h]
  rw [e2, List.getElem?_append_right (Nat.le_refl _), Nat.sub_self]
  rfl
theorem fil_next (p : En → Bool) {l : List En} {n : Nat} {x : En} (hx : l[n]? = some x) : ((l.take (n + 1)).filter p).length = ((l.take n).filter p).length + (if p x then 1 else 0) := by
  rw [List.take_add_one, hx, List.filter_append, List.length_append]
  show _ + (List.filter p [x]).length = _
  rw [List.filter_cons]
  cases p x <;> simp
/-- How far one is in both parts, behind n of the whole. -/
structure Fp (p : En → Bool) (l : List En) (n i k : Nat) : Prop where
  i : i = ((l.take n).filter p).length
  k : k = ((l.take n).filter (fun x => !p x)).length
theorem Fp.zero (p : En → Bool) (l : List En) : Fp p l 0 0 0 := ⟨by simp, by simp⟩
theorem Fp.end {p : En → Bool} {l : List En} {n i k : Nat} (F : Fp p l n i k) (h : l.length ≤ n) : i = (l.filter p).length ∧ k = (l.filter (fun x => !p x)).length := by
  rw [F.i, F.k, List.take_of_length_le h]
  exact ⟨rfl, rfl⟩
theorem Fp.yes {p : En → Bool} {l : List En} {n i k : Nat} (F : Fp p l n i k) {x : En} (hx : l[n]? = some x) (h : p x = true) : (l.filter p)[i]? = some x ∧ Fp p l (n + 1) (i + 1) k := by
  have h1 := fil_at p hx h
  have h2 := fil_next p hx
  have h3 := fil_next (fun x => !p x) hx
  rw [h] at h2 h3
  refine ⟨by rw [F.i]; exact h1, ⟨?_, ?_⟩⟩
  · rw [h2, F.i]; rfl
  · rw [h3, F.k]; rfl
theorem Fp.no {p : En → Bool} {l : List En} {n i k : Nat} (F : Fp p l n i k) {x : En} (hx : l[n]? = some x) (h : p x = false) : (l.filter (fun x => !p x))[k]? = some x ∧ (∀ y, (l.filter p)[i]? = some y → eqE y x = false) ∧ Fp p l (n + 1) i (k + 1) := by
  have h1 := fil_at (fun x => !p x) hx (by rw [h]; rfl)
  have h2 := fil_next p hx
  have h3 := fil_next (fun x => !p x) hx
  rw [h] at h2 h3
  refine ⟨by rw [F.k]; exact h1, fun y hy => ?_, ⟨?_, ?_⟩⟩
  · rw [Bool.eq_false_iff]
    intro e
    obtain rfl := (eqE_iff _ _).1 e
    have := (List.mem_filter.1 (List.mem_of_getElem? hy)).2
    rw [h] at this; cases this
  · rw [h2, F.i]; rfl
  · rw [h3, F.k]; rfl
/-- What is forgotten by Age. -/
def p3 (a b : Int) (x : En) : Bool := aOk a b && gof (gA a b) x
theorem aG_p3 (T : Tb) (a b : Int) : aG T a b = T.l.filter (p3 a b) := by
  unfold aG p3
  cases aOk a b <;> simp [gG]
theorem aT_p3 (T : Tb) (a b : Int) : aT T a b = ⟨T.n, T.l.filter (fun x => !p3 a b x)⟩ := by
  unfold aT p3
  cases aOk a b
  · show T = (⟨T.n, T.l.filter (fun _ => true)⟩ : Tb)
    rw [filter_true]
  · rfl
theorem gof_s {f : En → Bool} {x : En} (h : gof f x = true) : x.s = false ∧ f x = true := by simpa [gof] using h
theorem ec_def (x : En) : EC x = #[.int .i64 x.v, .int .u8 x.m.a, .int .u8 x.m.b, .int .u8 x.m.c, .int .u8 x.m.d, .int .u8 x.m.e, .int .u8 x.m.f, .int .i64 x.p, .int .i64 x.t, .bool x.s] := rfl
end Go.Proofs.Ytbpkdkniiggcpaa
