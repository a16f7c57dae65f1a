/- Plain: what the laws ask of a frame that was taken, and of learning. -/
import Derived.Test.YtgpdjfaklcmoiaaGreatM24
namespace Go.Proofs.YtgpdjfaklcmoiaaGreat
open Go.RowKit Go.PlainAid

theorem fhs_ke {T : FT} (W : FW T) {v : Int} {m : Mc} (hm : Mok m) (h : fhs T.l v m = false) : ∀ y ∈ T.l, ke y ≠ kn v m := fun y hy e => by
  have h2 : fhs T.l v m = true := fhs_mem.2 ⟨y, hy, (ky_ke (W.gd y hy).ok hm).2 e⟩
  rw [h] at h2
  cases h2
theorem up_fits {T : FT} (W : FW T) {x : En} (hx : Gd x) (hf : full T x.v x.m = false) : (up T.l x).length ≤ T.n := by
  rcases Bool.eq_false_or_eq_true (fhs T.l x.v x.m) with h | h
  · rw [up_len_there W.srt h]
    exact W.le
  · have e : (up T.l x).length = T.l.length + 1 := up_len (fhs_ke W hx.ok h)
    have : T.l.length < T.n := by simpa [full, h] using hf
    omega
/-- What is known of a station that was learned. -/
theorem learned {T : FT} (W : FW T) {v : Int} {m : Mc} {p t : Int} (hm : Mok m) (hok : lOk v m p t = true) :
    (fhs (lT T v m p t).l v m = false → T.l.length = T.n) ∧ (fhs (lT T v m p t).l v m = true → (lk (lT T v m p t).l v m).s = true ∨ ((lk (lT T v m p t).l v m).p = p ∧ (lk (lT T v m p t).l v m).t = t)) := by
  have e : lT T v m p t = if (lk T.l v m).s then T else sT T ⟨v, m, p, t, false⟩ := by unfold lT; rw [hok, if_pos rfl]
  rw [e]
  rcases Bool.eq_false_or_eq_true (lk T.l v m).s with hs | hs
  · rw [hs, if_pos rfl]
    exact ⟨fun h => (by rw [lk_static hs] at h; cases h), fun _ => Or.inl hs⟩
  · rw [hs, if_neg (by simp)]
    unfold sT
    rcases Bool.eq_false_or_eq_true (full T v m) with hf | hf
    · rw [hf, if_pos rfl]
      have hf2 := hf
      unfold full at hf2
      simp only [Bool.and_eq_true, Bool.not_eq_true', decide_eq_true_eq] at hf2
      exact ⟨fun _ => (by have := W.le; omega), fun h => (by rw [hf2.1] at h; cases h)⟩
    · rw [hf, if_neg (by simp)]
      have hx : Gd ⟨v, m, p, t, false⟩ := gd_learn hm hok
      have h := lk_of (up_wf W hx (up_fits W hx hf)) (x := ⟨v, m, p, t, false⟩) (v := v) (m := m) (up_mem.2 (Or.inl rfl)) ((ky_iff _ _ _).2 ⟨rfl, rfl⟩)
      refine ⟨fun h2 => ?_, fun _ => Or.inr ?_⟩
      · rw [h.1] at h2; cases h2
      · rw [h.2]; exact ⟨rfl, rfl⟩
theorem inE_ok {T : Tb} (W : Wf T) {p : Int} {f : Fd} (h : (inE T p f != 0) = false) : rt f = true ∧ hp T p = true ∧ isV (inV T p f) = true ∧ hs T.l (inV T p f) p = true := by
  have h0 : inE T p f = 0 := by simpa [bne] using h
  unfold inE at h0
  split at h0
  · rename_i h1
    split at h0
    · rename_i h2
      have e : inV T p f = vOf T p f := by unfold inV; rw [if_pos h1, if_pos h2]
      rw [Bool.and_eq_true] at h1
      rw [e]
      exact ⟨h1.2, h1.1, (W.has h2).1, h2⟩
    · cases h0
  · cases h0
/-- Where learning is come to. -/
theorem pre_zero {B : Br} (W : Bw B) {p : Int} {f : Fd} {t : Int} (h : preW B p f t = 0) : rt f = true ∧ hasP B.n p = true ∧ isT t = true ∧ hs B.V.l (inV B.V p f) p = true ∧ isV (inV B.V p f) = true ∧ grp (mS f) = false ∧ lOk (inV B.V p f) (mS f) p t = true ∧ (sta B p == 0) = false := by
  unfold preW at h
  split at h
  · cases h
  rename_i h1
  split at h
  · cases h
  split at h
  · cases h
  rename_i h3
  split at h
  · cases h
  rename_i h4
  split at h
  · cases h
  rename_i h5
  have h1' : rt f = true ∧ hasP B.n p = true ∧ isT t = true := by
    unfold badW at h1
    cases ha : rt f <;> cases hb : hasP B.n p <;> cases hc : isT t <;> simp_all
  have hi := inE_ok W.vw (by simpa using h4)
  have hg : grp (mS f) = false := by simpa using h5
  have hp := (hasP_iff _ _).1 h1'.2.1
  have hv := (isV_iff _).1 hi.2.2.1
  refine ⟨h1'.1, h1'.2.1, h1'.2.2, hi.2.2.2, hi.2.2.1, hg, ?_, by simpa using h3⟩
  unfold lOk rgt
  rw [hg, h1'.2.2]
  have n2 := W.n2
  simp [fisV, isP]
  omega
theorem pre_kind (B : Br) (p : Int) (f : Fd) (t : Int) : preW B p f t = 0 ∨ (1 ≤ preW B p f t ∧ preW B p f t ≤ 5) := by
  have := preW_le B p f t
  omega
/-- Behind a frame that was dropped ahead of learning. -/
theorem tk_no {B : Br} {p : Int} {f : Fd} {t : Int} (h : preW B p f t ≠ 0) : (tk B p f t).1 = ⟨preW B p f t, evl B p f t, 0, []⟩ ∧ (tk B p f t).2.F = B.F ∧ (tk B p f t).2.V = B.V ∧ (tk B p f t).2.st = B.st ∧ (tk B p f t).2.n = B.n := by
  unfold tk
  rw [wayP_no h]
  exact ⟨rfl, rfl, rfl, rfl, rfl⟩
theorem tk_yes {B : Br} {p : Int} {f : Fd} {t : Int} (h : preW B p f t = 0) : (tk B p f t).1 = (if sta B p == 1 then ⟨6, inV B.V p f, 0, []⟩ else outW (lrn B (inV B.V p f) (mS f) p t) (inV B.V p f) p f) ∧ (tk B p f t).2.F = lT B.F (inV B.V p f) (mS f) p t ∧ (tk B p f t).2.V = B.V ∧ (tk B p f t).2.st = B.st ∧ (tk B p f t).2.n = B.n := by
  unfold tk
  rw [wayP_yes h]
  split
  · exact ⟨rfl, rfl, rfl, rfl, rfl⟩
  · exact ⟨rfl, rfl, rfl, rfl, rfl⟩
theorem outW_v (B : Br) (v p : Int) (f : Fd) : (outW B v p f).v = v := by
  unfold outW
  split
  · rfl
  · split <;> rfl
theorem tk_v {B : Br} {p : Int} {f : Fd} {t : Int} (h : preW B p f t = 0) : (tk B p f t).1.v = inV B.V p f := by
  rw [(tk_yes h).1]
  split
  · rfl
  · exact outW_v _ _ _ _
theorem tk_i64 {B : Br} (W : Bw B) (p : Int) (f : Fd) (t : Int) : I64 (tk B p f t).1.v := by
  by_cases h : preW B p f t = 0
  · rw [tk_v h]
    exact i64_inV W.vw
  · rw [(tk_no h).1]
    unfold evl
    dsimp only
    split
    · exact i64_inV W.vw
    · exact ⟨by decide, by decide⟩
theorem tk_c {B : Br} {p : Int} {f : Fd} {t : Int} (h : preW B p f t = 0) : (tk B p f t).1.c = 6 ∨ (tk B p f t).1.c = 7 ∨ (tk B p f t).1.c = 8 ∨ (tk B p f t).1.c = 0 := by
  rw [(tk_yes h).1]
  split
  · exact Or.inl rfl
  · exact Or.inr (outW_c _ _ _ _)
theorem nxt_fn (B : Br) (x : Stp) : (nxt B x).F.n = B.F.n := by
  have hl : ∀ (T : FT) v m p t, (lT T v m p t).n = T.n := fun T v m p t => by unfold lT sT; (repeat' split) <;> rfl
  unfold nxt
  split
  · by_cases h : preW B x.p x.f x.t = 0
    · rw [(tk_yes h).2.1]; exact hl _ _ _ _ _
    · rw [(tk_no h).2.1]
  split
  · unfold tSet; split <;> rfl
  split
  · rfl
  split
  · rfl
  split
  · rfl
  split
  · exact aT_n _ _ _
  split
  · exact pT_n _ _ _ _
  · rfl
theorem runs_fn (l : List Stp) : ∀ B : Br, (runs B l).F.n = B.F.n := by
  induction l with
  | nil => exact fun _ => rfl
  | cons x r ih => exact fun B => by rw [runs, ih, nxt_fn]
theorem bPl_fn (n : Nat) : ∀ k, (bPl n k).F.n = 20
  | 0 => rfl
  | k + 1 => by
    have := bPl_fn n k
    unfold bPl tSet
    split
    · exact this
    · exact this
theorem mkB_fn (xs : List Stp) : (mkB xs).F.n = 20 := by rw [mkB, runs_fn, bPl_fn]
theorem nxt_n (B : Br) (x : Stp) : (nxt B x).n = B.n := by
  unfold nxt
  split
  · by_cases h : preW B x.p x.f x.t = 0
    · rw [(tk_yes h).2.2.2.2]
    · rw [(tk_no h).2.2.2.2]
  split
  · unfold tSet; split <;> rfl
  (repeat' split) <;> rfl
theorem runs_n (l : List Stp) : ∀ B : Br, (runs B l).n = B.n := by
  induction l with
  | nil => exact fun _ => rfl
  | cons x r ih => exact fun B => by rw [runs, ih, nxt_n]
theorem bPl_n (n : Nat) : ∀ k, (bPl n k).n = n
  | 0 => rfl
  | k + 1 => by
    have := bPl_n n k
    unfold bPl tSet
    split
    · exact this
    · exact this
theorem mkB_n (xs : List Stp) : (mkB xs).n = 4 := by rw [mkB, runs_n, bPl_n]
theorem rly_mem {B : Br} {v u t : Int} {f : Fd} : ∀ (k : Nat) {o : Ot}, o ∈ rly B v u t f k → 1 ≤ o.p ∧ o.p ≤ k ∧ may B v u t f o.p = true ∧ o = ⟨o.p, ouF B.V v o.p f⟩
  | 0, o, h => by cases h
  | k + 1, o, h => by
    rw [rly, List.mem_append] at h
    rcases h with h | h
    · have := rly_mem k h
      exact ⟨this.1, by omega, this.2.2⟩
    · split at h
      · rename_i hm
        obtain rfl := List.mem_singleton.1 h
        exact ⟨by dsimp only; omega, by dsimp only; omega, hm, rfl⟩
      · cases h
theorem rly_sorted {B : Br} {v u t : Int} {f : Fd} : ∀ k : Nat, (rly B v u t f k).Pairwise (fun a b => a.p < b.p)
  | 0 => List.Pairwise.nil
  | k + 1 => by
    rw [rly]
    refine List.pairwise_append.2 ⟨rly_sorted k, by split <;> simp, fun a ha b hb => ?_⟩
    have h1 := rly_mem k ha
    split at hb
    · obtain rfl := List.mem_singleton.1 hb
      dsimp only
      omega
    · cases hb
theorem may_spec {B : Br} (W : Bw B) {v u t p : Int} {f : Fd} (h1 : 1 ≤ p) (h2 : p ≤ B.n) : may B v u t f p = (!(p == u) && ((t == 0 || p == t) && (sta B p == 2 && ouE B.V v p f == 0))) := by
  obtain ⟨k, -, -, e⟩ := st_get W ((hasP_iff _ _).2 ⟨h1, h2⟩)
  unfold may sta
  rw [(hasP_iff _ _).2 ⟨h1, h2⟩, if_pos rfl]
theorem ouE_hs {T : Tb} (_W : Wf T) {v p : Int} {f : Fd} (h : (ouE T v p f == 0) = true) : hs T.l v p = true ∧ isV v = true ∧ rt f = true := by
  have h0 : ouE T v p f = 0 := by simpa using h
  unfold ouE at h0
  split at h0
  · rename_i h1
    split at h0
    · rename_i h2
      simp only [Bool.and_eq_true] at h1
      exact ⟨h2, h1.1.1, h1.2⟩
    · cases h0
  · cases h0
theorem ouE_yes {T : Tb} (W : Wf T) {v p : Int} {f : Fd} (h : hs T.l v p = true) (hr : rt f = true) : (ouE T v p f == 0) = true := by
  have := W.has h
  unfold ouE
  rw [this.1, this.2, hr, h]
  rfl
theorem rly_all {B : Br} (W : Bw B) {v u t : Int} {f : Fd} {o : Ot} (h : o ∈ rly B v u t f B.n) : 1 ≤ o.p ∧ o.p ≤ B.n ∧ o.p ≠ u ∧ sta B o.p = 2 ∧ hs B.V.l v o.p = true ∧ (t = 0 ∨ o.p = t) := by
  have h1 := rly_mem _ h
  rw [may_spec W h1.1 h1.2.1] at h1
  simp only [Bool.and_eq_true, Bool.not_eq_true', beq_eq_false_iff_ne, ne_eq, Bool.or_eq_true, beq_iff_eq] at h1
  exact ⟨h1.1, h1.2.1, h1.2.2.1.1, h1.2.2.1.2.2.1, (ouE_hs W.vw (by simpa using h1.2.2.1.2.2.2)).1, h1.2.2.1.2.1⟩
theorem rly_same {B C : Br} (hn : C.n = B.n) (hV : C.V = B.V) (hs : C.st = B.st) (v u t : Int) (f : Fd) : ∀ k, rly C v u t f k = rly B v u t f k
  | 0 => rfl
  | k + 1 => by
    rw [rly, rly, rly_same hn hV hs v u t f k]
    unfold may
    rw [hV, hs]
/-- What FlowKnown asks. -/
theorem known_plain {B0 B1 : Br} {C V TT p t : Int} {oo : List Ot} {f : Fd} {x : En} {is : Bool} (W1 : Bw B1) (hT : ((⟨C, V, TT, oo⟩, B1) : Wy × Br) = tk B0 p f t) (hx : x = lk B1.F.l V (mD f)) (hi : is = fhs B1.F.l V (mD f)) :
    (C ≠ 0 ∧ C ≠ 8 ∧ C ≠ 7 ∧ oo = [] ∧ TT = 0) ∨ ((C = 0 ∨ C = 8) ∧ is = false ∧ TT = 0 ∧ oo = rly B1 V p 0 f B1.n) ∨ (C = 7 ∧ is = true ∧ grp (mD f) = false ∧ x.p = p) ∨
    ((C = 0 ∨ C = 8) ∧ is = true ∧ grp (mD f) = false ∧ TT = x.p ∧ x.p ≠ p ∧ (oo = [] ∨ ∃ q, oo = [q] ∧ q.p = x.p)) := by
  have two : ∀ (l : List Ot), l.Pairwise (fun a b => a.p < b.p) → (∀ o ∈ l, o.p = x.p) → l = [] ∨ ∃ q, l = [q] ∧ q.p = x.p := fun l h1 h2 => by
    match l, h1, h2 with
    | [], _, _ => exact Or.inl rfl
    | [q], _, h2 => exact Or.inr ⟨q, rfl, h2 q (by simp)⟩
    | a :: b :: r, h1, h2 =>
      have h3 := (List.pairwise_cons.1 h1).1 b (by simp)
      have h4 := h2 a (by simp)
      have h5 := h2 b (by simp)
      omega
  by_cases h : preW B0 p f t = 0
  · have h1 := tk_yes h
    have h2 := tk_v h
    rw [← hT] at h1 h2
    dsimp only at h1 h2
    obtain ⟨h1, hF, hV, hS, hN⟩ := h1
    by_cases h6 : sta B0 p = 1
    · rw [h6] at h1
      injection h1 with e1 e2 e3 e4
      exact Or.inl ⟨by omega, by omega, by omega, e4, e3⟩
    · have h6' : (sta B0 p == 1) = false := by simpa using h6
      rw [h6', if_neg (by simp), ← h2] at h1
      obtain ⟨L, hL⟩ : ∃ L, L = lrn B0 V (mS f) p t := ⟨_, rfl⟩
      have l1 : L.F = B1.F := by rw [hF, hL, ← h2]; rfl
      have l2 : L.V = B1.V := by rw [hV, hL]; rfl
      have l3 : L.st = B1.st := by rw [hS, hL]; rfl
      have l4 : L.n = B1.n := by rw [hN, hL]; rfl
      rw [← hL] at h1
      have hr : ∀ u k, rly L V p u f k = rly B1 V p u f k := fun u k => rly_same l4 l2 l3 V p u f k
      unfold outW at h1
      have ht : tgtOf L V f = if is && !grp (mD f) then x.p else 0 := by unfold tgtOf; rw [l1, ← hi, ← hx]
      have ho : outL L V p f = if !is || decide (0 < tgtOf L V f) then rly B1 V p (tgtOf L V f) f B1.n else [] := by unfold outL; rw [l1, ← hi, l4, hr]
      rw [l1, ← hi, ← hx] at h1
      cases is
      · rw [if_neg (by simp)] at h1
        have ht0 : tgtOf L V f = 0 := by rw [ht]; rfl
        rw [ht0] at ho h1
        have ho' : outL L V p f = rly B1 V p 0 f B1.n := by rw [ho]; rfl
        refine Or.inr (Or.inl ?_)
        split at h1
        · rename_i h9
          injection h1 with e1 e2 e3 e4
          rw [ho'] at h9
          exact ⟨Or.inr e1, rfl, e3, by rw [e4]; exact (List.isEmpty_iff.1 h9).symm⟩
        · injection h1 with e1 e2 e3 e4
          exact ⟨Or.inl e1, rfl, e3, by rw [e4, ho']⟩
      · have hg := fw_grp W1.fw hi.symm
        rw [hg.1] at h1 ht
        rw [← hx] at hg
        have ht1 : tgtOf L V f = x.p := by rw [ht]; rfl
        rw [ht1] at ho h1
        by_cases hp : x.p = p
        · rw [if_pos (by simp [hp])] at h1
          injection h1 with e1 e2 e3 e4
          exact Or.inr (Or.inr (Or.inl ⟨e1, rfl, hg.1, hp⟩))
        · rw [if_neg (by simp [hp])] at h1
          have hq : outL L V p f = [] ∨ ∃ q, outL L V p f = [q] ∧ q.p = x.p := by
            rw [ho]
            by_cases h0 : 0 < x.p
            · rw [if_pos (by simp [h0])]
              exact two _ (rly_sorted _) (fun o hm => by
                rcases (rly_all W1 hm).2.2.2.2.2 with h | h
                · omega
                · exact h)
            · rw [if_neg (by simp [h0])]
              exact Or.inl rfl
          refine Or.inr (Or.inr (Or.inr ?_))
          split at h1
          · injection h1 with e1 e2 e3 e4
            exact ⟨Or.inr e1, rfl, hg.1, e3, hp, Or.inl e4⟩
          · injection h1 with e1 e2 e3 e4
            exact ⟨Or.inl e1, rfl, hg.1, e3, hp, by rw [e4]; exact hq⟩
  · refine Or.inl ?_
    have h1 := tk_no h
    have h2 := pre_kind B0 p f t
    rw [← hT] at h1
    dsimp only at h1
    have h3 := h1.1
    injection h3 with e1 e2 e3 e4
    exact ⟨by omega, by omega, by omega, e4, e3⟩
/-- What FlowLearns asks. -/
theorem learns_plain {B0 B1 : Br} {C V TT p t : Int} {oo : List Ot} {f : Fd} {x : En} {is : Bool} (W : Bw B0) (hT : ((⟨C, V, TT, oo⟩, B1) : Wy × Br) = tk B0 p f t) (hm : Mok (mS f)) (hx : x = lk B1.F.l V (mS f)) (hi : is = fhs B1.F.l V (mS f)) :
    (1 ≤ C ∧ C ≤ 5 ∧ B1.F = B0.F) ∨ ((C = 6 ∨ C = 7 ∨ C = 8 ∨ C = 0) ∧ (is = false → B0.F.l.length = B0.F.n) ∧ (is = true → x.s = true ∨ (x.p = p ∧ x.t = t))) := by
  by_cases h : preW B0 p f t = 0
  · refine Or.inr ?_
    have h1 := tk_c h
    have h2 := tk_v h
    have h3 := (tk_yes h).2.1
    rw [← hT] at h1 h2 h3
    dsimp only at h1 h2 h3
    have h4 := learned W.fw hm (pre_zero W h).2.2.2.2.2.2.1
    rw [← h3, ← h2, ← hx, ← hi] at h4
    exact ⟨h1, h4.1, h4.2⟩
  · refine Or.inl ?_
    have h1 := tk_no h
    have h2 := pre_kind B0 p f t
    rw [← hT] at h1
    dsimp only at h1
    have h3 : C = preW B0 p f t := by injection h1.1
    exact ⟨by omega, by omega, h1.2.1⟩
theorem one_ow {ys : List Ow} {q : Ot} (h : ys.map Ow.o = [q]) : ∃ y, ys = [y] ∧ y.o = q := List.map_eq_singleton_iff.1 h
theorem stc_dst {w : World} {k : Nat} {x : Stp} (h : Box w k (stc x)) : w.rangeAt k 5 (mcl (mD x.f)) :=
  rangeAt_left (B := mcl (mS x.f) ++ [.bool x.f.tg, .int .i64 x.f.vl, .int .i64 x.f.pr, .int .i64 x.f.ty, .slice x.a x.k x.c]) (stc_frame h)
theorem wpl_sd {ops : Array Oper} {rest : List Oper} {op : Oper} {a : Act} {w : World} {Q : Exit → Act → World → Prop} {k : Nat} {y : Stp} (x : Operand) (ho : op.op = .load 35 x) (hA : Box w k (stc y)) (hw : Region.wanted op (yielded ops a.tmps) = true) (hx : a.eval x = .pointer (some ⟨k, 5, none⟩))
    (h : wpList Tryz.prog ops Q rest (a.put op.dst (.agg (MC (mD y.f)))) w) : wpList Tryz.prog ops Q (op :: rest) a w :=
  wpl_load 35 x ho k 5 _ _ (stc_dst hA) Tryz.underlying35 rfl Tryz.size35 hw hx h
end Go.Proofs.YtgpdjfaklcmoiaaGreat
