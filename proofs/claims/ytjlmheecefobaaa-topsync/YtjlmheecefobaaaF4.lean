/- Plain: what Learn answers and leaves. -/
import Derived.Test.YtjlmheecefobaaaB5
namespace Go.Proofs.Ytjlmheecefobaaa
open Go.RowKit Go.PlainAid

theorem lE_03 (T : Tb) (v : Int) (m : Mc) (p t : Int) : lE T v m p t = 0 ∨ lE T v m p t = 1 ∧ lOk v m p t = false ∨ lE T v m p t = 3 ∧ full T v m = true := by
  unfold lE
  cases h : lOk v m p t
  · simp
  · cases h2 : (lk T.l v m).s
    · unfold sE
      cases h3 : full T v m <;> simp
    · simp
theorem lrn_no {T : Tb} {v : Int} {m : Mc} {p t : Int} (e : lE T v m p t ≠ 0) : lT T v m p t = T ∧ lK T v m p t = 0 := by
  unfold lE at e
  unfold lT lK
  cases h : lOk v m p t
  · simp
  · rw [h] at e
    cases h2 : (lk T.l v m).s
    · rw [h2] at e
      unfold sE at e
      unfold sT
      cases h3 : full T v m
      · simp [h3] at e
      · simp
    · simp
theorem full_there {T : Tb} {v : Int} {m : Mc} (h : hs T.l v m = true) : full T v m = false := by simp [full, h]
theorem lk_s_hs {T : Tb} {v : Int} {m : Mc} (h : (lk T.l v m).s = true) : hs T.l v m = true := by
  rcases Bool.eq_false_or_eq_true (hs T.l v m) with c | c
  · exact c
  · rw [lk_no _ _ _ c] at h; cases h
theorem up_lk {T : Tb} (W : Wf T) {x : En} (hx : Gd x) (hl : (up T.l x).length ≤ T.n) : hs (up T.l x) x.v x.m = true ∧ lk (up T.l x) x.v x.m = x :=
  lk_of (up_wf W hx hl) (up_mem.2 (Or.inl rfl)) ((ky_iff _ _ _).2 ⟨rfl, rfl⟩)
theorem hs_ke {T : Tb} (W : Wf T) {v : Int} {m : Mc} (hm : Mok m) (h : hs T.l v m = false) : ∀ y ∈ T.l, ke y ≠ kn v m := fun y hy e => by
  have := hs_no h y hy
  rw [(ky_ke (W.gd y hy).ok hm).2 e] at this
  cases this
theorem up_length {T : Tb} (W : Wf T) {x : En} (hx : Gd x) (hf : full T x.v x.m = false) : (up T.l x).length ≤ T.n ∧ (hs T.l x.v x.m = true → (up T.l x).length = T.l.length) ∧ (hs T.l x.v x.m = false → (up T.l x).length = T.l.length + 1) := by
  rcases Bool.eq_false_or_eq_true (hs T.l x.v x.m) with h | h
  · have e := up_len_there W.srt h
    exact ⟨by rw [e]; exact W.le, fun _ => e, fun k => by rw [h] at k; cases k⟩
  · have e : (up T.l x).length = T.l.length + 1 := up_len (hs_ke W hx.ok h)
    have : T.l.length < T.n := by simpa [full, h] using hf
    exact ⟨by omega, fun k => (by rw [h] at k; cases k), fun _ => e⟩
theorem lrn_ok {T : Tb} (W : Wf T) {v : Int} {m : Mc} {p t : Int} (hm : Mok m) (e : lE T v m p t = 0) :
    lOk v m p t = true ∧ hs (lT T v m p t).l v m = true ∧
    ((lk T.l v m).s = true ∧ hs T.l v m = true ∧ lT T v m p t = T ∧ lK T v m p t = 0 ∨
     (lk T.l v m).s = false ∧ lT T v m p t = ⟨T.n, up T.l ⟨v, m, p, t, false⟩⟩ ∧ lk (lT T v m p t).l v m = ⟨v, m, p, t, false⟩ ∧
      (hs T.l v m = true ∧ (lT T v m p t).l.length = T.l.length ∧ lK T v m p t = (if (lk T.l v m).p = p then 0 else 2) ∨
       hs T.l v m = false ∧ (lT T v m p t).l.length = T.l.length + 1 ∧ lK T v m p t = 1)) := by
  cases h : lOk v m p t
  · simp [lE, h] at e
  · have hx := gd_learn hm h
    cases h2 : (lk T.l v m).s
    · cases h3 : full T v m
      · obtain ⟨u1, u2, u3⟩ := up_length W hx h3
        obtain ⟨k1, k2⟩ := up_lk W hx u1
        have eT : lT T v m p t = ⟨T.n, up T.l ⟨v, m, p, t, false⟩⟩ := by simp [lT, h, h2, sT, h3]
        rw [eT]
        refine ⟨rfl, k1, Or.inr ⟨rfl, rfl, k2, ?_⟩⟩
        rcases Bool.eq_false_or_eq_true (hs T.l v m) with c | c
        · exact Or.inl ⟨c, u2 c, by simp [lK, h, h2, h3, c]⟩
        · exact Or.inr ⟨c, u3 c, by simp [lK, h, h2, h3, c]⟩
      · simp [lE, h, h2, sE, h3] at e
    · have c := lk_s_hs h2
      have eT : lT T v m p t = T := by simp [lT, h, h2]
      rw [eT]
      exact ⟨rfl, c, Or.inl ⟨rfl, c, rfl, by simp [lK, h, h2]⟩⟩
theorem moves {T T1 T2 T3 : Tb} {v : Int} {m : Mc} {p q t K1 K2 K3 E1 E2 E3 : Int} (W : Wf T) (W1 : Wf T1) (W2 : Wf T2) (hm : Mok m)
    (hK1 : lK T v m p t = K1) (hE1 : lE T v m p t = E1) (hT1 : lT T v m p t = T1) (hK2 : lK T1 v m q t = K2) (hE2 : lE T1 v m q t = E2) (hT2 : lT T1 v m q t = T2) (hK3 : lK T2 v m q t = K3) (hE3 : lE T2 v m q t = E3) (hT3 : lT T2 v m q t = T3) :
    (E1 ≠ 0 ∧ K1 = 0) ∨ (E1 = 0 ∧ K1 ≤ 2 ∧ hs T3.l v m = true ∧ (E2 = 1 ∧ E3 = 1 ∨ E2 = 0 ∧ E3 = 0 ∧ K3 = 0 ∧ T3.l.length = T1.l.length ∧ ((lk T3.l v m).s = true ∧ K2 = 0 ∨ (lk T3.l v m).s = false ∧ (lk T3.l v m).p = q ∧ K2 = if q = p then 0 else 2))) := by
  by_cases e1 : E1 = 0
  · refine Or.inr ⟨e1, ?_⟩
    rw [← hE1] at e1
    obtain ⟨o1, h1, c1⟩ := lrn_ok W hm e1
    rw [hT1] at h1 c1
    have k1 : K1 ≤ 2 := by
      rcases c1 with ⟨_, _, _, k⟩ | ⟨_, _, _, ⟨_, _, k⟩ | ⟨_, _, k⟩⟩
      · omega
      · rw [← hK1, k]; split <;> omega
      · omega
    refine ⟨k1, ?_⟩
    have f1 := full_there h1
    rcases lE_03 T1 v m q t with e2 | ⟨e2, _⟩ | ⟨e2, f2⟩
    · obtain ⟨o2, h2, c2⟩ := lrn_ok W1 hm e2
      rw [hT2] at h2 c2
      have f2 := full_there h2
      have e3 : lE T2 v m q t = 0 := by
        rcases lE_03 T2 v m q t with e | ⟨_, o⟩ | ⟨_, f⟩
        · exact e
        · rw [o2] at o; cases o
        · rw [f2] at f; cases f
      obtain ⟨o3, h3, c3⟩ := lrn_ok W2 hm e3
      rw [hT3] at h3 c3
      refine ⟨h3, Or.inr ⟨by rw [← hE2]; exact e2, by rw [← hE3]; exact e3, ?_⟩⟩
      rcases c2 with ⟨s2, _, t2, k2⟩ | ⟨s2, t2, l2, d2⟩
      · subst t2
        rcases c3 with ⟨s3, _, t3, k3⟩ | ⟨s3, _⟩
        · subst t3
          exact ⟨by rw [← hK3]; exact k3, rfl, Or.inl ⟨s3, by rw [← hK2]; exact k2⟩⟩
        · rw [s2] at s3; cases s3
      · rcases d2 with ⟨_, n2, k2⟩ | ⟨g, _⟩
        · rcases c3 with ⟨s3, _⟩ | ⟨_, _, l3, ⟨_, n3, k3⟩ | ⟨g, _⟩⟩
          · rw [l2] at s3; cases s3
          · refine ⟨?_, by omega, Or.inr ?_⟩
            · rw [← hK3, k3, l2, if_pos rfl]
            · rw [l3]
              refine ⟨rfl, rfl, ?_⟩
              rw [← hK2, k2]
              rcases c1 with ⟨s1, _, t1, _⟩ | ⟨_, _, l1, _⟩
              · rw [t1] at s2; rw [s1] at s2; cases s2
              · rw [l1]
                show (if p = q then (0 : Int) else 2) = if q = p then 0 else 2
                by_cases c : p = q
                · rw [if_pos c, if_pos c.symm]
                · rw [if_neg c, if_neg (fun d => c d.symm)]
          · rw [h2] at g; cases g
        · rw [h1] at g; cases g
    · obtain ⟨t2, _⟩ := lrn_no (T := T1) (v := v) (m := m) (p := q) (t := t) (by rw [e2]; decide)
      rw [hT2] at t2
      subst t2
      have e3 := e2
      obtain ⟨t3, _⟩ := lrn_no (T := T2) (v := v) (m := m) (p := q) (t := t) (by rw [e2]; decide)
      rw [hT3] at t3
      subst t3
      exact ⟨h1, Or.inl ⟨by rw [← hE2]; exact e2, by rw [← hE3]; exact e3⟩⟩
    · rw [f1] at f2; cases f2
  · exact Or.inl ⟨e1, by rw [← hK1]; exact (lrn_no (by rw [hE1]; exact e1)).2⟩
end Go.Proofs.Ytjlmheecefobaaa
