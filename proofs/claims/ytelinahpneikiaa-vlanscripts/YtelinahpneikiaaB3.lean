/- Contracts: Add, Remove, Native of the program. -/
import Derived.Test.YtelinahpneikiaaB2
namespace Go.Proofs.Ytelinahpneikiaa
open Go.RowKit Go.PlainAid

theorem mid_grown {w w1 : World} {h k : Nat} (g : w.grownBy w1 (some k)) (h1 : h ≤ k) (h2 : k < h + 3) : Mid h (h + 3) w w1 :=
  ⟨g.os, g.tape, g.output, g.size, fun i hi ho => g.block i hi (fun e => by have := Option.some.inj e; omega)⟩
theorem mid_on {w w1 : World} {h : Nat} (g : Below w.heap.size w w1) : Mid h (h + 3) w w1 := ⟨g.os, g.tape, g.output, g.size, fun i hi _ => g.block i hi⟩
theorem PT.put {w w1 : World} {h : Nat} {T : Tb} (H : PT w h T) {v p : Int} {t : Bool} (hv : isV v = true) (hh : hp T p = true) (M : Mp w1 h (ad T.l v p t)) (g : w.grownBy w1 (some h)) : PT w1 h (tAdd T v p t) := by
  have e : tAdd T v p t = ⟨T.n, ad T.l v p t, T.ns⟩ := by rw [tAdd, hv, hh]; rfl
  have hw := H.wf.add v p t
  have hl := H.lt
  rw [e] at hw ⊢
  exact ⟨H.bx.block (g.block _ (by omega) (fun e => by have := Option.some.inj e; omega)), H.nt.block (g.block _ (by omega) (fun e => by have := Option.some.inj e; omega)), M, hw⟩
theorem PT.cut {w w1 : World} {h : Nat} {T : Tb} (H : PT w h T) {v p : Int} (hv : isV v = true) (hh : hp T p = true) (M : Mp w1 h (rm T.l v p)) (g : w.grownBy w1 (some h)) : PT w1 h (tRm T v p) := by
  have e : tRm T v p = ⟨T.n, rm T.l v p, T.ns⟩ := by rw [tRm, hv, hh]; rfl
  have hw := H.wf.rem v p
  have hl := H.lt
  rw [e] at hw ⊢
  exact ⟨H.bx.block (g.block _ (by omega) (fun e => by have := Option.some.inj e; omega)), H.nt.block (g.block _ (by omega) (fun e => by have := Option.some.inj e; omega)), M, hw⟩
theorem i64_v {v : Int} (h : isV v = true) : I64 v := by
  have := (isV_iff v).1 h
  exact ⟨by omega, by omega⟩
theorem i64_p {T : Tb} {p : Int} (hw : Wf T) (h : hp T p = true) : I64 p := by
  have := (hp_iff T p).1 h
  have := hw.n64
  exact ⟨by omega, by omega⟩
set_option maxRecDepth 100000 in
set_option maxHeartbeats 2000000 in
theorem add23 (h : Nat) (T : Tb) (v p : Int) (t : Bool) (w : World) (H : PT w h T) : Calls Try.prog 23 #[.pointer (some ⟨h + 2, 0, none⟩), .int .i64 v, .int .i64 p, .bool t] w
    fun e w' => e = .returned (.int .i64 (eAdd T v p)) ∧ PT w' h (tAdd T v p t) ∧ Mid h (h + 3) w w' := by
  have q1 := fun w => isVlan36 v w
  have q2 := fun w H => hasPort33 h T p w H
  rcases Bool.eq_false_or_eq_true (isV v) with hv | hv
  · rcases Bool.eq_false_or_eq_true (hp T p) with hh | hh
    · have e1 : eAdd T v p = 0 := by rw [eAdd, hv, hh]; rfl
      obtain ⟨w1, hrun, M, g⟩ := H.mp.put H.wf.small H.wf.ap (i64_v hv) (i64_p H.wf hh) t
      have P := hide (H.put hv hh M g)
      have MD := hide (mid_grown (h := h) g (Nat.le_refl _) (by omega))
      have c0 := H.bx.cell 0 _ rfl
      have HH := hide H
      unfold KV EV at hrun
      rw [hv] at q1
      rw [hh] at q2
      rw [e1]
      clear H M g
      go_enter Try.func23, Try.ntmps23
      go_wp2_with (first | (go_at_call 36; refine (q1 _).mono ?_; rintro e w' ⟨rfl, rfl⟩) | (go_at_call 33; refine (q2 _ HH.out).mono ?_; rintro e w' ⟨rfl, rfl⟩))
      go_ret
      exact ⟨rfl, P.out, MD.out⟩
    · have e1 : eAdd T v p = 1 := by rw [eAdd, hv, hh]; rfl
      have e2 : tAdd T v p t = T := by rw [tAdd, hv, hh]; rfl
      rw [hv] at q1
      rw [hh] at q2
      rw [e1, e2]
      have HH := hide H
      clear H
      go_enter Try.func23, Try.ntmps23
      go_wp2_with (first | (go_at_call 36; refine (q1 _).mono ?_; rintro e w' ⟨rfl, rfl⟩) | (go_at_call 33; refine (q2 _ HH.out).mono ?_; rintro e w' ⟨rfl, rfl⟩))
      go_ret
      exact ⟨rfl, HH.out, Mid.refl _ _ _⟩
  · have e1 : eAdd T v p = 1 := by rw [eAdd, hv]; rfl
    have e2 : tAdd T v p t = T := by rw [tAdd, hv]; rfl
    rw [hv] at q1
    rw [e1, e2]
    have HH := hide H
    clear H
    go_enter Try.func23, Try.ntmps23
    go_wp2_with (first | (go_at_call 36; refine (q1 _).mono ?_; rintro e w' ⟨rfl, rfl⟩))
    go_ret
    exact ⟨rfl, HH.out, Mid.refl _ _ _⟩
set_option maxRecDepth 100000 in
set_option maxHeartbeats 2000000 in
theorem remove24 (h : Nat) (T : Tb) (v p : Int) (w : World) (H : PT w h T) : Calls Try.prog 24 #[.pointer (some ⟨h + 2, 0, none⟩), .int .i64 v, .int .i64 p] w
    fun e w' => e = .returned (.int .i64 (eRm T v p)) ∧ PT w' h (tRm T v p) ∧ Mid h (h + 3) w w' := by
  have q1 := fun w => isVlan36 v w
  have q2 := fun w H => hasPort33 h T p w H
  rcases Bool.eq_false_or_eq_true (isV v) with hv | hv
  · rcases Bool.eq_false_or_eq_true (hp T p) with hh | hh
    · have q3 := fun w H => isMember28 h T v p w (i64_v hv) (i64_p H.wf hh) H
      rw [hv] at q1
      rw [hh] at q2
      have HH := hide H
      clear H
      rcases Bool.eq_false_or_eq_true (hs T.l v p) with hm | hm
      · have e1 : eRm T v p = 0 := by rw [eRm, hv, hh, hm]; rfl
        rw [hm] at q3
        rw [e1]
        go_enter Try.func24, Try.ntmps24
        go_wp2_with (first | (go_at_call 36; refine (q1 _).mono ?_; rintro e w' ⟨rfl, rfl⟩) | (go_at_call 33; refine (q2 _ HH.out).mono ?_; rintro e w' ⟨rfl, rfl⟩))
        refine (q3 _ HH.out).mono ?_
        rintro e w' ⟨rfl, hb⟩
        have H1 := hide (HH.out.on hb)
        obtain ⟨w1, hrun, M, g⟩ := H1.out.mp.drop H1.out.wf.small H1.out.wf.ap (i64_v hv) (i64_p H1.out.wf hh) 0
        have P := hide (H1.out.cut hv hh M g)
        have MD := hide ((mid_on (h := h) hb).trans (mid_grown (h := h) g (Nat.le_refl _) (by omega)))
        have c0 := H1.out.bx.cell 0 _ rfl
        unfold KV at hrun
        clear M g hb q1 q2 q3
        go_wp2
        go_ret
        exact ⟨rfl, P.out, MD.out⟩
      · have e1 : eRm T v p = 4 := by rw [eRm, hv, hh, hm]; rfl
        have e2 : tRm T v p = T := by
          rw [tRm, hv, hh, rm_erase, List.eraseIdx_of_length_le]
          · rfl
          · have h9 := hs_ix T.l v p
            rw [hm] at h9
            simp at h9
            exact h9
        rw [hm] at q3
        rw [e1, e2]
        go_enter Try.func24, Try.ntmps24
        go_wp2_with (first | (go_at_call 36; refine (q1 _).mono ?_; rintro e w' ⟨rfl, rfl⟩) | (go_at_call 33; refine (q2 _ HH.out).mono ?_; rintro e w' ⟨rfl, rfl⟩) | (go_at_call 28; refine (q3 _ HH.out).mono ?_; rintro e w' ⟨rfl, hb⟩))
        go_ret
        exact ⟨rfl, HH.out.on hb, mid_on hb⟩
    · have e1 : eRm T v p = 1 := by rw [eRm, hv, hh]; rfl
      have e2 : tRm T v p = T := by rw [tRm, hv, hh]; rfl
      rw [hv] at q1
      rw [hh] at q2
      rw [e1, e2]
      have HH := hide H
      clear H
      go_enter Try.func24, Try.ntmps24
      go_wp2_with (first | (go_at_call 36; refine (q1 _).mono ?_; rintro e w' ⟨rfl, rfl⟩) | (go_at_call 33; refine (q2 _ HH.out).mono ?_; rintro e w' ⟨rfl, rfl⟩))
      go_ret
      exact ⟨rfl, HH.out, Mid.refl _ _ _⟩
  · have e1 : eRm T v p = 1 := by rw [eRm, hv]; rfl
    have e2 : tRm T v p = T := by rw [tRm, hv]; rfl
    rw [hv] at q1
    rw [e1, e2]
    have HH := hide H
    clear H
    go_enter Try.func24, Try.ntmps24
    go_wp2_with (first | (go_at_call 36; refine (q1 _).mono ?_; rintro e w' ⟨rfl, rfl⟩))
    go_ret
    exact ⟨rfl, HH.out, Mid.refl _ _ _⟩
theorem nsl_get {ns : List Int} {j : Nat} (h : j < ns.length) : (nsl ns)[j]? = some (.int .i64 (ns.getD j 0)) := by
  simp [nsl, List.getElem?_eq_getElem h, List.getD_eq_getElem?_getD]
theorem nsl_set (ns : List Int) (j : Nat) (v : Int) : (nsl ns).set j (.int .i64 v) = nsl (ns.set j v) := by simp [nsl, List.map_set]
theorem Box.setAt {w : World} {k j : Nat} {cs : List Value} (h : Box w k cs) (hj : j < cs.length) (v : Value) : Box (w.setCell ⟨k, j, none⟩ v) k (cs.set j v) := by
  have e : cs = cs.take j ++ (cs[j] :: cs.drop (j + 1)) := by rw [← List.drop_eq_getElem_cons hj, List.take_append_drop]
  have e2 : cs.set j v = cs.take j ++ (v :: cs.drop (j + 1)) := by rw [List.set_eq_take_append_cons_drop, if_pos hj]
  rw [e2]
  rw [e] at h
  exact Box.set h (by simp; omega)
theorem nat_ok (v : Int) : (v == 0 || isV v) = decide (0 ≤ v ∧ v ≤ 4094) := by
  rw [Bool.eq_iff_iff]
  simp [isV]
  omega
theorem PT.nat {w : World} {h : Nat} {T : Tb} (H : PT w h T) {v p : Int} (hh : hp T p = true) (hv : (v == 0 || isV v) = true) : PT (w.setCell ⟨h + 1, p.toNat, none⟩ (.int .i64 v)) h (tNat T p v) := by
  have e : tNat T p v = ⟨T.n, T.l, T.ns.set p.toNat v⟩ := by rw [tNat, hh, hv]; rfl
  have hw := H.wf.nati p v
  have hl := H.lt
  have hb := (hp_iff T p).1 hh
  have hn := H.wf.ns
  have g := setCell_grown w (h + 1) p.toNat (.int .i64 v)
  rw [e] at hw ⊢
  refine ⟨H.bx.block (g.block _ (by omega) (fun e => by have := Option.some.inj e; omega)), ?_, H.mp.block (g.block _ (by omega) (fun e => by have := Option.some.inj e; omega)), hw⟩
  have := H.nt.setAt (j := p.toNat) (by simp [nsl]; omega) (.int .i64 v)
  rw [nsl_set] at this
  exact this
set_option maxRecDepth 100000 in
set_option maxHeartbeats 2000000 in
theorem native22 (h : Nat) (T : Tb) (p v : Int) (w : World) (H : PT w h T) : Calls Try.prog 22 #[.pointer (some ⟨h + 2, 0, none⟩), .int .i64 p, .int .i64 v] w
    fun e w' => e = .returned (.int .i64 (eNat T p v)) ∧ PT w' h (tNat T p v) ∧ Mid h (h + 3) w w' := by
  have q1 := fun w => isVlan36 v w
  have q2 := fun w H => hasPort33 h T p w H
  rcases Bool.eq_false_or_eq_true (hp T p) with hh | hh
  · have hb := (hp_iff T p).1 hh
    have hn := H.wf.ns
    obtain ⟨k, rfl⟩ := Int.eq_ofNat_of_zero_le hb.1
    have hk : k < T.n := by omega
    have c1 := H.bx.cell 1 _ rfl
    have n1 := H.nt.cell k _ (nsl_get (by omega))
    have f1 := H.nt.free k (by simp [nsl]; omega)
    rw [hh] at q2
    rcases Bool.eq_false_or_eq_true (v == 0 || isV v) with hv | hv
    · have e1 : eNat T k v = 0 := by rw [eNat, hh, hv]; rfl
      have P := hide (H.nat hh hv)
      have MD := hide (mid_grown (h := h) (setCell_grown w (h + 1) k (.int .i64 v)) (by omega) (by omega))
      have HH := hide H
      rw [Int.toNat_natCast] at P
      rw [e1]
      clear H hn hb
      rcases Bool.eq_false_or_eq_true (v == 0) with h0 | h0
      · have h9 : (v != 0) = false := by simp [bne, h0]
        clear h0 hv
        go_enter Try.func22, Try.ntmps22
        go_wp2_with (first | (go_at_call 33; refine (q2 _ HH.out).mono ?_; rintro e w' ⟨rfl, rfl⟩))
        go_ret
        exact ⟨rfl, P.out, MD.out⟩
      · rw [h0, Bool.false_or] at hv
        rw [hv] at q1
        have h9 : (v != 0) = true := by simp [bne, h0]
        clear h0 hv
        go_enter Try.func22, Try.ntmps22
        go_wp2_with (first | (go_at_call 36; refine (q1 _).mono ?_; rintro e w' ⟨rfl, rfl⟩) | (go_at_call 33; refine (q2 _ HH.out).mono ?_; rintro e w' ⟨rfl, rfl⟩))
        go_ret
        exact ⟨rfl, P.out, MD.out⟩
    · have e1 : eNat T k v = 1 := by rw [eNat, hh, hv]; rfl
      have e2 : tNat T k v = T := by rw [tNat, hh, hv]; rfl
      rw [e1, e2]
      simp only [Bool.or_eq_false_iff] at hv
      obtain ⟨h0, h1⟩ := hv
      rw [h1] at q1
      have h9 : (v != 0) = true := by simp [bne, h0]
      have HH := hide H
      clear H hn hb c1 n1 f1 h0
      go_enter Try.func22, Try.ntmps22
      go_wp2_with (first | (go_at_call 36; refine (q1 _).mono ?_; rintro e w' ⟨rfl, rfl⟩) | (go_at_call 33; refine (q2 _ HH.out).mono ?_; rintro e w' ⟨rfl, rfl⟩))
      go_ret
      exact ⟨rfl, HH.out, Mid.refl _ _ _⟩
  · have e1 : eNat T p v = 1 := by rw [eNat, hh]; rfl
    have e2 : tNat T p v = T := by rw [tNat, hh]; rfl
    rw [hh] at q2
    rw [e1, e2]
    have HH := hide H
    clear H
    go_enter Try.func22, Try.ntmps22
    go_wp2_with (first | (go_at_call 33; refine (q2 _ HH.out).mono ?_; rintro e w' ⟨rfl, rfl⟩))
    go_ret
    exact ⟨rfl, HH.out, Mid.refl _ _ _⟩
end Go.Proofs.Ytelinahpneikiaa
