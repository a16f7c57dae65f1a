/- Plain: what changes a table's work leaves, as the journal is told of it. -/
import Derived.Test.YtjlmheecefobaaaF4
import Derived.Test.YtjlmheecefobaaaD6
import Derived.Test.YtjlmheecefobaaaPj
namespace Go.Proofs.Ytjlmheecefobaaa
open Go.RowKit Go.PlainAid

theorem mem_gone : ∀ (cs : List Ch) (s : List En), (∀ c ∈ cs, c.g = true) → ∀ z, z ∈ cs.foldl dn s ↔ z ∈ s ∧ ∀ c ∈ cs, ky z c.x.v c.x.m = false
  | [], s, _, z => by simp
  | c :: cs, s, h, z => by
    have hc : c.g = true := h c (by simp)
    rw [List.foldl_cons, mem_gone cs (dn s c) (fun d hd => h d (by simp [hd])) z]
    unfold dn
    rw [if_pos hc, rm_mem]
    constructor
    · rintro ⟨⟨a, b⟩, e⟩
      refine ⟨a, fun d hd => ?_⟩
      rcases List.mem_cons.1 hd with rfl | hd
      · exact b
      · exact e d hd
    · rintro ⟨a, e⟩
      exact ⟨⟨a, e c (by simp)⟩, fun d hd => e d (by simp [hd])⟩
/-- The gone ones, told one by one, leave the others. -/
theorem gone_dn {T : Tb} (H : Wf T) (f : En → Bool) {cs : List Ch} (hx : cs.map (·.x) = T.l.filter f) (hg : ∀ c ∈ cs, c.g = true) :
    cs.foldl dn T.l = T.l.filter (fun x => !f x) := by
  have hS : Srt T.l := by first | exact H.srt | exact H.s | exact H.st
  refine Srt.ext (foldl_dn_srt cs hS) (hS.filter _) fun z => ?_
  rw [mem_gone cs T.l hg z, List.mem_filter]
  constructor
  · rintro ⟨a, e⟩
    refine ⟨a, ?_⟩
    cases hf : f z
    · rfl
    · have hz : z ∈ cs.map (·.x) := by rw [hx]; exact List.mem_filter.2 ⟨a, hf⟩
      obtain ⟨c, hc, rfl⟩ := List.mem_map.1 hz
      have := e c hc
      rw [(ky_iff _ _ _).2 ⟨rfl, rfl⟩] at this
      cases this
  · rintro ⟨a, e⟩
    refine ⟨a, fun c hc => ?_⟩
    cases hk : ky z c.x.v c.x.m
    · rfl
    · exfalso
      have hm : c.x ∈ T.l.filter f := by rw [← hx]; exact List.mem_map_of_mem hc
      obtain ⟨h1, h2⟩ := List.mem_filter.1 hm
      obtain ⟨k1, k2⟩ := (ky_iff _ _ _).1 hk
      have : z = c.x := hS.one a h1 (by unfold ke; rw [k1, k2])
      subst this
      rw [h2] at e
      cases e
theorem up_id {l : List En} (h : Srt l) {x : En} (hx : x ∈ l) : up l x = l := Srt.ext (up_srt h x) h fun z => by
  rw [up_mem]
  constructor
  · rintro (rfl | ⟨a, _⟩)
    · exact hx
    · exact a
  · intro hz
    by_cases e : ke z = ke x
    · exact Or.inl (h.one hz hx e)
    · exact Or.inr ⟨hz, e⟩
/-- What Learn leaves is what the entry looked up behind it tells. -/
theorem learn_dn {T : Tb} (W : Wf T) {v : Int} {m : Mc} {p t : Int} (hm : Mok m) (e : lE T v m p t = 0) (q : Int) :
    dn T.l ⟨q, lk (lT T v m p t).l v m, false⟩ = (lT T v m p t).l := by
  obtain ⟨_, hh, h | h⟩ := lrn_ok W hm e
  · obtain ⟨_, b, eT, _⟩ := h
    rw [eT]
    show up T.l (lk T.l v m) = T.l
    exact up_id W.srt (lk_mem b)
  · obtain ⟨_, eT, k, _⟩ := h
    rw [k, eT]
    rfl
/-- What Remove leaves, of one that is there. -/
theorem remove_dn (T : Tb) (v : Int) (m : Mc) (q p t : Int) (s : Bool) : dn T.l ⟨q, ⟨v, m, p, t, s⟩, true⟩ = rm T.l v m := rfl
end Go.Proofs.Ytjlmheecefobaaa
