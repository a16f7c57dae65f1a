/- Plain facts: bytes more, or fewer, are no packet; packets of one note have as many bytes. -/
import Derived.Test.YtijfcfpoimknmaaDoorDec
namespace Go.Proofs.YtijfcfpoimknmaaDoor
open Go.RowKit

theorem rn_more (x : Nt) (h : rt x = true) (l : List Int) : rn x.k ⟨tl x ++ l, false⟩ = (x, ⟨l, false⟩) := by
  simp only [rt, Bool.and_eq_true] at h
  obtain ⟨-, h1, h2, h4, h8, h16⟩ := h
  unfold rn evs tl
  simp only [List.append_assoc]
  rw [ev_rf 1 (by simp [J5]) x _ _ h1 rfl, ev_rf 2 (by simp [J5]) x _ _ h2 rfl, ev_rf 4 (by simp [J5]) x _ _ h4 rfl, ev_rf 8 (by simp [J5]) x _ _ h8 rfl]
  rw [ev_rf 16 (by simp [J5]) x (cp 8 x (cp 4 x (cp 2 x (cp 1 x (kn x.k))))) l h16 rfl, cp_all]
theorem dk_more {p : Pk} (h : rtp p = true) {l : List Int} (hl : l ≠ []) : dk (enc p ++ l) = false := by
  simp only [rtp, Bool.and_eq_true, sq_iff] at h
  obtain ⟨hr, he, hq, ha⟩ := h
  have hk := rt_k hr
  have e0 : enc p ++ l = be 4 p.e ++ (be 4 p.q ++ (be 4 p.a ++ (be 1 p.n.k ++ (tl p.n ++ l)))) := by simp [enc, hd]
  have f4 := fit1 hk.1 (by omega : p.n.k < 256)
  have e1 : rp1 (enc p ++ l) = ⟨be 4 p.q ++ (be 4 p.a ++ (be 1 p.n.k ++ (tl p.n ++ l))), false⟩ := by rw [rp1, e0, tr_app _ _ _ _ (be_length _ _)]
  have e2 : rp2 (enc p ++ l) = ⟨be 4 p.a ++ (be 1 p.n.k ++ (tl p.n ++ l)), false⟩ := by rw [rp2, e1, tr_app _ _ _ _ (be_length _ _)]
  have e3 : rp3 (enc p ++ l) = ⟨be 1 p.n.k ++ (tl p.n ++ l), false⟩ := by rw [rp3, e2, tr_app _ _ _ _ (be_length _ _)]
  have e4 : rp4 (enc p ++ l) = ⟨tl p.n ++ l, false⟩ := by rw [rp4, e3, tr_app _ _ _ _ (be_length _ _)]
  have ex : rpx (enc p ++ l) = (p.n, ⟨l, false⟩) := by rw [rpx, e3, e4, nr_app 1 _ _ _ f4, rn_more _ hr]
  have hw : wh (rpx (enc p ++ l)).2 = false := by
    rw [ex]
    have : l.length ≠ 0 := fun e => hl (List.eq_nil_of_length_eq_zero e)
    simp [wh, hl]
  rw [dk, hw]
  rfl
theorem dk_less {p : Pk} (hb : Rng (enc p)) (h : rtp p = true) : dk ((enc p).take ((enc p).length - 1)) = false := by
  cases hd : dk ((enc p).take ((enc p).length - 1))
  · rfl
  · obtain ⟨q, hq, e⟩ := (dk_iff (rng_take hb _)).1 hd
    have hlen := enc_len p
    have e2 : enc p = enc q ++ (enc p).drop ((enc p).length - 1) := by rw [e, List.take_append_drop]
    have h1 := dk_more hq (l := (enc p).drop ((enc p).length - 1)) (fun e => by have := congrArg List.length e; rw [List.length_drop] at this; simp at this; omega)
    rw [← e2] at h1
    rw [(dk_enc h).1] at h1
    cases h1
theorem enc_len_note (p q : Pk) (h : q.n = p.n) : (enc q).length = (enc p).length := by
  rw [enc, enc, List.length_append, List.length_append, hd_length, hd_length, h]
theorem enc_small {p : Pk} (h : rtp p = true) : (enc p).length ≤ 2000 := by
  obtain ⟨h0, -⟩ : rt p.n = true ∧ _ := by simpa only [rtp, Bool.and_eq_true] using h
  have L : ∀ j, J5 j → (fbs p.n j).length ≤ fz p.n j := fun j _ => by
    unfold fbs
    split
    · rw [fb_length]; exact Nat.le_refl _
    · exact Nat.zero_le _
  have l16 : (fbs p.n 16).length ≤ 1602 := by
    unfold fbs
    cases hh : hs (fo p.n.k) 16
    · simp
    · simp only [if_true]
      rw [fb_length]
      simp only [rt, Bool.and_eq_true] at h0
      have h16 := h0.2.2.2.2.2
      rw [ff, hh] at h16
      have := (ft_b (by simpa using h16)).2
      show 2 + p.n.b.length ≤ 1602
      omega
  have l1 : (fbs p.n 1).length ≤ 2 := L 1 (by simp [J5])
  have l2 : (fbs p.n 2).length ≤ 6 := L 2 (by simp [J5])
  have l4 : (fbs p.n 4).length ≤ 2 := L 4 (by simp [J5])
  have l8 : (fbs p.n 8).length ≤ 1 := L 8 (by simp [J5])
  rw [enc, List.length_append, hd_length, tl, List.length_append, List.length_append, List.length_append, List.length_append]
  omega
end Go.Proofs.YtijfcfpoimknmaaDoor
