/- Plain facts: a text that is parsed, and an address's text. -/
import Derived.Test.YtokmkgjjiloacaaAt
namespace Go.Proofs.Ytokmkgjjiloacaa
open Go.RowKit Go.PlainAid

theorem bs_size (ns : List Int) : (bs ns).size = ns.length := by simp [bs, ByteArray.size]
theorem bt_bs (ns : List Int) (hns : ∀ x ∈ ns, 0 ≤ x ∧ x ≤ 255) (j : Nat) (hj : j < ns.length) : bt (bs ns) j = ns[j] := by
  have h := hns ns[j] (List.getElem_mem hj)
  unfold bt
  rw [dif_pos (by rw [bs_size]; exact hj)]
  have e : (bs ns)[j]'(by rw [bs_size]; exact hj) = UInt8.ofNat (ns[j]).toNat := by simp [bs, ByteArray.getElem_eq_getElem_data]
  rw [e]
  simp
  omega
theorem textL_bytes {a0 a1 a2 a3 a4 a5 : Int} (h : B6 a0 a1 a2 a3 a4 a5) : ∀ x ∈ textL a0 a1 a2 a3 a4 a5, 0 ≤ x ∧ x ≤ 255 := by
  obtain ⟨l0, u0, l1, u1, l2, u2, l3, u3, l4, u4, l5, u5⟩ := h
  have H : ∀ n : Int, 0 ≤ n → n < 16 → 0 ≤ hex n ∧ hex n ≤ 255 := fun n h0 h1 => ⟨hex_lo h0, hex_hi h1⟩
  intro x hx
  simp only [textL, List.mem_cons, List.not_mem_nil, or_false] at hx
  rcases hx with rfl | rfl | rfl | rfl | rfl | rfl | rfl | rfl | rfl | rfl | rfl | rfl | rfl | rfl | rfl | rfl | rfl <;> first | (exact H _ (by omega) (by omega)) | omega

theorem bt_text {a0 a1 a2 a3 a4 a5 : Int} (h : B6 a0 a1 a2 a3 a4 a5) (j : Nat) (hj : j < 17) : bt (bs (textL a0 a1 a2 a3 a4 a5)) j = (textL a0 a1 a2 a3 a4 a5)[j] :=
  bt_bs _ (textL_bytes h) j hj

theorem text_at {a0 a1 a2 a3 a4 a5 : Int} (h : B6 a0 a1 a2 a3 a4 a5) : okAll (bs (textL a0 a1 a2 a3 a4 a5)) ∧ byteAt (bs (textL a0 a1 a2 a3 a4 a5)) 0 = a0 ∧ byteAt (bs (textL a0 a1 a2 a3 a4 a5)) 1 = a1 ∧ byteAt (bs (textL a0 a1 a2 a3 a4 a5)) 2 = a2 ∧ byteAt (bs (textL a0 a1 a2 a3 a4 a5)) 3 = a3 ∧ byteAt (bs (textL a0 a1 a2 a3 a4 a5)) 4 = a4 ∧ byteAt (bs (textL a0 a1 a2 a3 a4 a5)) 5 = a5 := by
  have t := fun j hj => bt_text h j hj
  obtain ⟨l0, u0, l1, u1, l2, u2, l3, u3, l4, u4, l5, u5⟩ := h
  have t0 : bt (bs (textL a0 a1 a2 a3 a4 a5)) 0 = hex (a0 / 16) := t 0 (by omega)
  have t1 : bt (bs (textL a0 a1 a2 a3 a4 a5)) 1 = hex (a0 % 16) := t 1 (by omega)
  have t2 : bt (bs (textL a0 a1 a2 a3 a4 a5)) 2 = 58 := t 2 (by omega)
  have t3 : bt (bs (textL a0 a1 a2 a3 a4 a5)) 3 = hex (a1 / 16) := t 3 (by omega)
  have t4 : bt (bs (textL a0 a1 a2 a3 a4 a5)) 4 = hex (a1 % 16) := t 4 (by omega)
  have t5 : bt (bs (textL a0 a1 a2 a3 a4 a5)) 5 = 58 := t 5 (by omega)
  have t6 : bt (bs (textL a0 a1 a2 a3 a4 a5)) 6 = hex (a2 / 16) := t 6 (by omega)
  have t7 : bt (bs (textL a0 a1 a2 a3 a4 a5)) 7 = hex (a2 % 16) := t 7 (by omega)
  have t8 : bt (bs (textL a0 a1 a2 a3 a4 a5)) 8 = 58 := t 8 (by omega)
  have t9 : bt (bs (textL a0 a1 a2 a3 a4 a5)) 9 = hex (a3 / 16) := t 9 (by omega)
  have t10 : bt (bs (textL a0 a1 a2 a3 a4 a5)) 10 = hex (a3 % 16) := t 10 (by omega)
  have t11 : bt (bs (textL a0 a1 a2 a3 a4 a5)) 11 = 58 := t 11 (by omega)
  have t12 : bt (bs (textL a0 a1 a2 a3 a4 a5)) 12 = hex (a4 / 16) := t 12 (by omega)
  have t13 : bt (bs (textL a0 a1 a2 a3 a4 a5)) 13 = hex (a4 % 16) := t 13 (by omega)
  have t14 : bt (bs (textL a0 a1 a2 a3 a4 a5)) 14 = 58 := t 14 (by omega)
  have t15 : bt (bs (textL a0 a1 a2 a3 a4 a5)) 15 = hex (a5 / 16) := t 15 (by omega)
  have t16 : bt (bs (textL a0 a1 a2 a3 a4 a5)) 16 = hex (a5 % 16) := t 16 (by omega)
  have V : ∀ a : Int, 0 ≤ a → a ≤ 255 → val (hex (a / 16)) = a / 16 ∧ val (hex (a % 16)) = a % 16 := fun a h0 h1 => ⟨val_hex (by omega) (by omega), val_hex (by omega) (by omega)⟩
  have v0 := V a0 l0 u0; have v1 := V a1 l1 u1; have v2 := V a2 l2 u2; have v3 := V a3 l3 u3; have v4 := V a4 l4 u4; have v5 := V a5 l5 u5
  generalize bs (textL a0 a1 a2 a3 a4 a5) = s at *
  simp only [okAll, okAt, byteAt, Nat.mul_zero, Nat.mul_one, Nat.zero_add, Nat.reduceMul, Nat.reduceAdd, Nat.reduceSub, t0, t1, t2, t3, t4, t5, t6, t7, t8, t9, t10, t11, t12, t13, t14, t15, t16, v0.1, v0.2, v1.1, v1.2, v2.1, v2.2, v3.1, v3.2, v4.1, v4.2, v5.1, v5.2, true_or, or_true, true_and]
  omega

theorem PaR.text {a0 a1 a2 a3 a4 a5 b0 b1 b2 b3 b4 b5 x : Int} (h : B6 a0 a1 a2 a3 a4 a5) (k : PaR (bs (textL a0 a1 a2 a3 a4 a5)) b0 b1 b2 b3 b4 b5 x) : x = 0 ∧ eq6 b0 b1 b2 b3 b4 b5 a0 a1 a2 a3 a4 a5 = true := by
  obtain ⟨ok, e0, e1, e2, e3, e4, e5⟩ := text_at h
  rcases k with ⟨h0, _, _, h1, h2, h3, h4, h5, h6⟩ | ⟨_, h1, _⟩
  · rw [h1, h2, h3, h4, h5, h6, e0, e1, e2, e3, e4, e5]
    exact ⟨h0, eq6_self _ _ _ _ _ _⟩
  · exact absurd ⟨by rw [bs_size]; rfl, ok⟩ h1

theorem bs_of (s : ByteArray) (hl : s.size = 17) : bs [bt s 0, bt s 1, bt s 2, bt s 3, bt s 4, bt s 5, bt s 6, bt s 7, bt s 8, bt s 9, bt s 10, bt s 11, bt s 12, bt s 13, bt s 14, bt s 15, bt s 16] = s := by
  apply ByteArray.ext
  apply Array.ext
  · simp [bs]; exact hl.symm
  · intro i h1 h2
    have hs : i < s.size := h2
    have e : ∀ j (hj : j < s.size), UInt8.ofNat (bt s j).toNat = s[j] := by
      intro j hj
      rw [← get_bt s j hj]
      simp
    have hk : i = 0 ∨ i = 1 ∨ i = 2 ∨ i = 3 ∨ i = 4 ∨ i = 5 ∨ i = 6 ∨ i = 7 ∨ i = 8 ∨ i = 9 ∨ i = 10 ∨ i = 11 ∨ i = 12 ∨ i = 13 ∨ i = 14 ∨ i = 15 ∨ i = 16 := by omega
    rcases hk with g | g | g | g | g | g | g | g | g | g | g | g | g | g | g | g | g <;> subst g <;> exact e _ hs

theorem text_of {s : ByteArray} (hl : s.size = 17) (h : okAll s) : bs (textL (byteAt s 0) (byteAt s 1) (byteAt s 2) (byteAt s 3) (byteAt s 4) (byteAt s 5)) = s := by
  have V : ∀ k, okAt s k → byteAt s k / 16 = val (bt s (3 * k)) ∧ byteAt s k % 16 = val (bt s (3 * k + 1)) ∧ hex (val (bt s (3 * k))) = bt s (3 * k) ∧ hex (val (bt s (3 * k + 1))) = bt s (3 * k + 1) := by
    intro k ⟨_, h1, h2⟩
    have := val_lt (bt s (3 * k)); have := val_lt (bt s (3 * k + 1))
    refine ⟨?_, ?_, hex_val h1, hex_val h2⟩ <;> (unfold byteAt; omega)
  obtain ⟨k0, k1, k2, k3, k4, k5⟩ := h
  obtain ⟨p0, q0, r0, s0⟩ := V 0 k0
  obtain ⟨p1, q1, r1, s1⟩ := V 1 k1
  obtain ⟨p2, q2, r2, s2⟩ := V 2 k2
  obtain ⟨p3, q3, r3, s3⟩ := V 3 k3
  obtain ⟨p4, q4, r4, s4⟩ := V 4 k4
  obtain ⟨p5, q5, r5, s5⟩ := V 5 k5
  have c1 := k1.1.resolve_left (by omega); have c2 := k2.1.resolve_left (by omega); have c3 := k3.1.resolve_left (by omega); have c4 := k4.1.resolve_left (by omega); have c5 := k5.1.resolve_left (by omega)
  unfold textL
  rw [p0, q0, r0, s0, p1, q1, r1, s1, p2, q2, r2, s2, p3, q3, r3, s3, p4, q4, r4, s4, p5, q5, r5, s5]
  have := bs_of s hl
  simp only [Nat.reduceMul, Nat.reduceSub] at c1 c2 c3 c4 c5
  rw [c1, c2, c3, c4, c5] at this
  exact this
end Go.Proofs.Ytokmkgjjiloacaa
