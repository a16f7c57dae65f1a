/- Plain: what the laws Once, Shut and Relays ask of a frame that was taken, and of those that go out. -/
import Derived.Test.YtgpdjfaklcmoiaaGreatLq
namespace Go.Proofs.YtgpdjfaklcmoiaaGreat
open Go.RowKit Go.PlainAid

theorem tk_out {B0 B1 : Br} {C V TT p t : Int} {oo : List Ot} {f : Fd} (hT : ((⟨C, V, TT, oo⟩, B1) : Wy × Br) = tk B0 p f t) :
    (C = 0 ∧ oo ≠ [] ∧ sta B0 p ≠ 1 ∧ preW B0 p f t = 0 ∧ ∃ u, oo = rly B1 V p u f B1.n) ∨ (1 ≤ C ∧ C ≤ 8 ∧ oo = [] ∧ (preW B0 p f t ≠ 0 → C = preW B0 p f t)) := by
  by_cases h : preW B0 p f t = 0
  · have h1 := tk_yes h
    have h2 := tk_v h
    rw [← hT] at h1 h2
    dsimp only at h1 h2
    obtain ⟨h1, hF, hV, hS, hN⟩ := h1
    by_cases h6 : sta B0 p = 1
    · rw [h6] at h1
      injection h1 with e1 e2 e3 e4
      exact Or.inr ⟨by omega, by omega, e4, fun hh => absurd h hh⟩
    · have h6' : (sta B0 p == 1) = false := by simpa using h6
      rw [h6', if_neg (by simp), ← h2] at h1
      obtain ⟨L, hL⟩ : ∃ L, L = lrn B0 V (mS f) p t := ⟨_, rfl⟩
      have l2 : L.V = B1.V := by rw [hV, hL]; rfl
      have l3 : L.st = B1.st := by rw [hS, hL]; rfl
      have l4 : L.n = B1.n := by rw [hN, hL]; rfl
      rw [← hL] at h1
      have hr : ∀ u k, rly L V p u f k = rly B1 V p u f k := fun u k => rly_same l4 l2 l3 V p u f k
      unfold outW at h1
      split at h1
      · injection h1 with e1 e2 e3 e4
        exact Or.inr ⟨by omega, by omega, e4, fun hh => absurd h hh⟩
      · split at h1
        · injection h1 with e1 e2 e3 e4
          exact Or.inr ⟨by omega, by omega, e4, fun hh => absurd h hh⟩
        · rename_i h9
          injection h1 with e1 e2 e3 e4
          rw [← e4, List.isEmpty_iff] at h9
          refine Or.inl ⟨e1, h9, h6, h, tgtOf L V f, ?_⟩
          rw [e4] at h9 ⊢
          unfold outL at h9 ⊢
          split
          · rw [l4, hr]
          · rename_i h10
            rw [if_neg h10] at h9
            exact absurd rfl h9
  · have h1 := tk_no h
    have h2 := pre_kind B0 p f t
    rw [← hT] at h1
    dsimp only at h1
    have h3 := h1.1
    injection h3 with e1 e2 e3 e4
    exact Or.inr ⟨by omega, by omega, e4, fun _ => e1⟩
theorem tk_same (B : Br) (p : Int) (f : Fd) (t : Int) : (tk B p f t).2.V = B.V ∧ (tk B p f t).2.st = B.st ∧ (tk B p f t).2.n = B.n := by
  by_cases h : preW B p f t = 0
  · have := tk_yes h
    exact ⟨this.2.2.1, this.2.2.2.1, this.2.2.2.2⟩
  · have := tk_no h
    exact ⟨this.2.2.1, this.2.2.2.1, this.2.2.2.2⟩
theorem tk_st (B : Br) (p : Int) (f : Fd) (t q : Int) : sta (tk B p f t).2 q = sta B q := by
  have h := tk_same B p f t
  unfold sta
  rw [h.2.1, h.2.2]
theorem tk_ct (B : Br) (p : Int) (f : Fd) (t : Int) : (tk B p f t).2.ct = inc B.ct (tk B p f t).1.c.toNat := by
  unfold tk
  dsimp only
  rw [wayP_ct]
theorem sum_set : ∀ (l : List Int) (j : Nat) (x : Int), j < l.length → sumL (l.set j x) = sumL l - l.getD j 0 + x
  | [], j, x, h => by simp at h
  | y :: r, 0, x, _ => by
    show x + sumL r = y + sumL r - y + x
    omega
  | y :: r, j + 1, x, h => by
    have := sum_set r j x (by simpa using h)
    show y + sumL (r.set j x) = y + sumL r - (y :: r).getD (j + 1) 0 + x
    rw [this]
    have e : (y :: r).getD (j + 1) 0 = r.getD j 0 := by simp
    rw [e]
    omega
theorem sum_inc {l : List Int} {j : Nat} (h : j < l.length) : sumL (inc l j) = sumL l + 1 := by
  unfold inc
  rw [sum_set _ _ _ h]
  omega
/-- What the law Once asks. -/
theorem once_plain {B0 B1 : Br} {C V TT p t : Int} {oo : List Ot} {f : Fd} (W0 : Bw B0) (W1 : Bw B1) (hT : ((⟨C, V, TT, oo⟩, B1) : Wy × Br) = tk B0 p f t) :
    sumL B1.ct = sumL B0.ct + 1 ∧ 0 ≤ C ∧ C ≤ 8 ∧ ((C == 0) = !oo.isEmpty) ∧ oo.Pairwise (fun a b => a.p < b.p) ∧ ∀ o ∈ oo, o.p ≠ p ∧ sta B1 o.p = 2 ∧ o.p ∈ mbs B1.V.l V B1.V.n ∧ 1 ≤ o.p ∧ o.p ≤ B1.n := by
  have h1 := tk_out hT
  have h2 := tk_ct B0 p f t
  rw [← hT] at h2
  dsimp only at h2
  have hC : 0 ≤ C ∧ C ≤ 8 := by omega
  refine ⟨?_, hC.1, hC.2, ?_, ?_, ?_⟩
  · rw [h2]
    exact sum_inc (by rw [W0.cl]; omega)
  · rcases h1 with ⟨rfl, h, -⟩ | ⟨h, h8, rfl, -⟩
    · have : oo.isEmpty = false := by simpa [List.isEmpty_iff] using h
      rw [this]; rfl
    · have : (C == 0) = false := by simp; omega
      rw [this]; rfl
  · rcases h1 with ⟨-, -, -, -, u, rfl⟩ | ⟨-, -, rfl, -⟩
    · exact rly_sorted _
    · exact List.Pairwise.nil
  · intro o ho
    rcases h1 with ⟨-, -, -, -, u, rfl⟩ | ⟨-, -, rfl, -⟩
    · have h3 := rly_all W1 ho
      refine ⟨h3.2.2.1, h3.2.2.2.1, (mem_mbs _ _ _ _).2 ⟨by omega, by rw [W1.vn]; omega, h3.2.2.2.2.1⟩, h3.1, h3.2.1⟩
    · cases ho
theorem mem_take_next {l : List Int} {k : Nat} {x : Int} (h : l[k]? = some x) (p : Int) : (l.take (k + 1)).contains p = ((l.take k).contains p || x == p) := by
  rw [List.take_add_one, h, Bool.eq_iff_iff]
  simp only [List.contains_iff_mem, Option.toList, List.mem_append, List.mem_singleton, Bool.or_eq_true, beq_iff_eq]
  exact or_congr Iff.rfl eq_comm
theorem mem_take_all {l : List Int} {k : Nat} (h : l.length ≤ k) (p : Int) : (l.take k).contains p = l.contains p := by
  rw [List.take_of_length_le h]
theorem srt_next {ys : List Ow} {i : Nat} {x y : Ow} (h : (ys.map Ow.o).Pairwise (fun a b => a.p < b.p)) (hx : ys[i]? = some x) (hy : ys[i + 1]? = some y) : x.o.p < y.o.p := by
  obtain ⟨h1, rfl⟩ := List.getElem?_eq_some_iff.1 hx
  obtain ⟨h2, rfl⟩ := List.getElem?_eq_some_iff.1 hy
  exact (List.pairwise_iff_getElem.1 (List.pairwise_map.1 h)) i (i + 1) h1 h2 (by omega)
/-- What the law Shut asks. -/
theorem shut_plain {B0 B1 : Br} {C V TT p q t : Int} {oo : List Ot} {f : Fd} (W1 : Bw B1) (hT : ((⟨C, V, TT, oo⟩, B1) : Wy × Br) = tk B0 q f t) (hs : sta B0 p ≠ 2) :
    sta B1 p = sta B0 p ∧ ∀ o ∈ oo, o.p ≠ p := by
  have h0 := tk_st B0 q f t p
  rw [← hT] at h0
  dsimp only at h0
  refine ⟨h0, fun o ho e => ?_⟩
  rcases tk_out hT with ⟨-, -, -, -, u, rfl⟩ | ⟨-, -, rfl, -⟩
  · have h3 := (rly_all W1 ho).2.2.2.1
    rw [e, h0] at h3
    exact hs h3
  · cases ho
theorem shut_in {B0 B1 : Br} {C V TT p t : Int} {oo : List Ot} {f : Fd} (hT : ((⟨C, V, TT, oo⟩, B1) : Wy × Br) = tk B0 p f t) (hs : sta B0 p = 0 ∨ sta B0 p = 1) :
    oo = [] ∧ 1 ≤ C ∧ C ≤ 8 ∧ (sta B0 p = 0 → C = 1 ∨ C = 2 ∨ C = 3) := by
  rcases tk_out hT with ⟨-, -, h1, h2, -⟩ | ⟨h1, h8, h2, h3⟩
  · have h4 : (sta B0 p == 0) = true := by simp; omega
    unfold preW at h2
    rw [h4] at h2
    (repeat' split at h2) <;> simp_all
  · refine ⟨h2, h1, h8, fun h0 => ?_⟩
    have h4 : preW B0 p f t = 1 ∨ preW B0 p f t = 2 ∨ preW B0 p f t = 3 := by
      unfold preW
      rw [h0]
      split
      · exact Or.inl rfl
      · split
        · exact Or.inr (Or.inl rfl)
        · exact Or.inr (Or.inr rfl)
    have h5 := h3 (by omega)
    rw [h5]
    exact h4
theorem tSet_sta {B : Br} (W : Bw B) {p s : Int} (hp : hasP B.n p = true) (hs : isS s = true) : sta (tSet B p s) p = s := by
  obtain ⟨k, rfl, hk, -⟩ := st_get W hp
  unfold tSet
  rw [hp, hs, Bool.true_and, if_pos rfl]
  unfold sta
  dsimp only
  rw [hp, if_pos rfl, Int.toNat_natCast, List.getD_eq_getElem?_getD, List.getElem?_set_self hk]
  rfl
theorem tSet_n (B : Br) (p s : Int) : (tSet B p s).n = B.n := by
  unfold tSet; split <;> rfl
theorem may_to (B : Br) (v u t : Int) (f : Fd) (p : Int) (h : t ≠ 0) : may B v u t f p = (may B v u 0 f p && p == t) := by
  have h1 : (t == 0) = false := by simpa using h
  have h2 : ((0 : Int) == 0) = true := rfl
  unfold may
  rw [h1, h2]
  cases (p == u) <;> cases (p == t) <;> simp
theorem rly_to (B : Br) (v u t : Int) (f : Fd) (h : t ≠ 0) : ∀ k, rly B v u t f k = (rly B v u 0 f k).filter (fun o => o.p == t)
  | 0 => rfl
  | k + 1 => by
    rw [rly, rly, List.filter_append, ← rly_to B v u t f h k, may_to B v u t f _ h]
    congr 1
    cases h1 : may B v u 0 f ((k + 1 : Nat) : Int) <;> cases h2 : (((k + 1 : Nat) : Int) == t) <;> simp_all
theorem rly_one {B : Br} {v u t : Int} {f : Fd} (h : t ≠ 0) {k i : Nat} {o : Ot} (hi : (rly B v u 0 f k)[i]? = some o) (ho : o.p = t) : rly B v u t f k = [o] := by
  rw [rly_to B v u t f h]
  have hs := rly_sorted (B := B) (v := v) (u := u) (t := 0) (f := f) k
  generalize rly B v u 0 f k = l at *
  induction l generalizing i with
  | nil => simp at hi
  | cons y r ih =>
    have h1 := List.pairwise_cons.1 hs
    cases i with
    | zero =>
      obtain rfl : y = o := by simpa using hi
      have e : r.filter (fun o => o.p == t) = [] := by
        rw [List.filter_eq_nil_iff]
        intro z hz
        have := h1.1 z hz
        simp; omega
      rw [List.filter_cons_of_pos (by simpa using ho), e]
    | succ i =>
      have hi' : r[i]? = some o := by simpa using hi
      have := h1.1 o (List.mem_of_getElem? hi')
      rw [List.filter_cons_of_neg (by simp; omega)]
      exact ih hi' h1.2
theorem rly_zero {B : Br} {v u t : Int} {f : Fd} (h : t ≠ 0) {k : Nat} (hn : ∀ o ∈ rly B v u 0 f k, o.p ≠ t) : rly B v u t f k = [] := by
  rw [rly_to B v u t f h, List.filter_eq_nil_iff]
  intro z hz
  have := hn z hz
  simpa using this
/-- Those of a VLAN that may send, but for one. -/
def wnt (B : Br) (u : Int) (l : List Int) : List Int := l.filter (fun x => x != u && sta B x == 2)
theorem wnt_next {B : Br} {u : Int} {l : List Int} {k : Nat} {x : Int} (h : l[k]? = some x) : wnt B u (l.take (k + 1)) = if x != u && sta B x == 2 then wnt B u (l.take k) ++ [x] else wnt B u (l.take k) := by
  unfold wnt
  rw [List.take_add_one, h, List.filter_append]
  cases h1 : (x != u && sta B x == 2) <;> simp [h1]
theorem rly_ports {B : Br} (W : Bw B) {v u : Int} {f : Fd} (hr : rt f = true) : ∀ k, k ≤ B.n → (rly B v u 0 f k).map Ot.p = wnt B u (mbs B.V.l v (k + 1))
  | 0, _ => by
    have h0 : sta B 0 = 0 := by unfold sta; rw [(hasP_no _ _).2 (by omega), if_neg (by simp)]
    unfold mbs mbs wnt
    split
    · rename_i hh
      have h1 : sta B ((0 : Nat) : Int) = 0 := h0
      simp [rly, h0]
    · rfl
  | k + 1, hk => by
    have ih := rly_ports W (v := v) (u := u) hr k (by omega)
    have hm := may_spec W (v := v) (u := u) (t := 0) (f := f) (p := ((k + 1 : Nat) : Int)) (by omega) (by omega)
    rw [rly, List.map_append, ih, hm]
    rcases Bool.eq_false_or_eq_true (hs B.V.l v ((k + 1 : Nat) : Int)) with hh | hh
    · rw [mbs_yes hh, ouE_yes W.vw hh hr]
      unfold wnt
      rw [List.filter_append]
      congr 1
      cases h1 : (((k + 1 : Nat) : Int) == u) <;> cases h2 : (sta B ((k + 1 : Nat) : Int) == 2) <;> simp_all [bne]
    · have ho : (ouE B.V v ((k + 1 : Nat) : Int) f == 0) = false := by
        cases h1 : (ouE B.V v ((k + 1 : Nat) : Int) f == 0)
        · rfl
        · have := (ouE_hs W.vw h1).1
          rw [hh] at this
          cases this
      rw [mbs_no hh, ho]
      simp
theorem rly_want {B : Br} (W : Bw B) {v u : Int} {f : Fd} (hn : rly B v u 0 f B.n ≠ []) : (rly B v u 0 f B.n).map Ot.p = wnt B u (mbs B.V.l v B.V.n) := by
  have hr : rt f = true := by
    cases h : rly B v u 0 f B.n with
    | nil => exact absurd h hn
    | cons o r =>
      have hm : o ∈ rly B v u 0 f B.n := by rw [h]; exact List.mem_cons_self ..
      have h1 := rly_mem _ hm
      have h2 := h1.2.2.1
      unfold may at h2
      simp only [Bool.and_eq_true] at h2
      exact (ouE_hs W.vw h2.2.2.2).2.2
  rw [W.vn]
  exact rly_ports W hr B.n (Nat.le_refl _)
end Go.Proofs.YtgpdjfaklcmoiaaGreat
