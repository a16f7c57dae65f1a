/- The program's table; contract of place. -/
import Derived.Test.YtjlmheecefobaaaA5
import Derived.WalkMore
namespace Go.Proofs.Ytjlmheecefobaaa
open Go.RowKit Go.PlainAid

/-- The program's table: its places in block h, itself behind them. -/
structure PT (w : World) (h : Nat) (ps : List En) (T : Tb) : Prop where
  bx : Box w (h + 1) (tcl h T.n T.l.length)
  pl : Box w h (es ps)
  rp : Rp (2 * T.n) (hf T.n) ps T.l
  wf : Wf T
theorem PT.keep {w w1 : World} {h : Nat} {ps : List En} {T : Tb} (H : PT w h ps T) (e : ∀ k, h ≤ k → k < h + 2 → w1.heap[k]? = w.heap[k]?) : PT w1 h ps T :=
  ⟨H.bx.block (e _ (by omega) (by omega)), H.pl.block (e _ (by omega) (by omega)), H.rp, H.wf⟩
theorem PT.lt {w : World} {h : Nat} {ps : List En} {T : Tb} (H : PT w h ps T) : h + 2 ≤ w.heap.size := by have := H.bx.lt; omega
theorem PT.below {w w1 : World} {h g : Nat} {ps : List En} {T : Tb} (H : PT w h ps T) (hb : Below g w w1) (hg : h + 2 ≤ g) : PT w1 h ps T := H.keep (fun k _ h2 => hb.block k (by omega))
theorem PT.on {w w1 : World} {h : Nat} {ps : List En} {T : Tb} (H : PT w h ps T) (hb : Below w.heap.size w w1) : PT w1 h ps T := H.below hb H.lt
theorem PT.drew {w : World} {h : Nat} {ps : List En} {T : Tb} (H : PT w h ps T) : PT w.drew h ps T := H.keep (fun _ _ _ => rfl)
theorem PT.alloc {w : World} {h : Nat} {ps : List En} {T : Tb} (H : PT w h ps T) (o : Obj) : PT (w.alloc o) h ps T := H.on (below_alloc w o)
theorem PT.get {w : World} {h : Nat} {ps : List En} {T : Tb} (H : PT w h ps T) {j : Nat} (hj : j < 2 * T.n) : ∃ x, ps[j]? = some x ∧ w.rangeAt h (j * 10) (ecl x) := by
  obtain ⟨x, hx⟩ : ∃ x, ps[j]? = some x := ⟨_, List.getElem?_eq_getElem (by rw [H.rp.len]; exact hj)⟩
  exact ⟨x, hx, H.pl.ent hx⟩
theorem mac_of {w : World} {k : Nat} {x : En} (h : Box w k (ecl x)) : w.rangeAt k 1 (mcl x.m) := by
  have := ent_mac h.at_
  rwa [Nat.zero_add] at this
theorem PT.fr {w : World} {h : Nat} {ps : List En} {T : Tb} (H : PT w h ps T) : ∃ j : Nat, j < 2 * T.n ∧ ps[j]? = some zE := H.rp.free (by have := H.wf.le; have := H.wf.n1; omega)
/-- Not all places are gone past. -/
theorem go_room {n H a : Nat} {ps : List En} (hH : H < n) (ha : a < n) (hf : ∃ j : Nat, j < n ∧ ps[j]? = some zE) {x : En} (hx : ps[a]? = some x) (hxo : x ≠ zE) (hg : ∀ q, q < n → wy n H q < wy n H a → ∃ y, ps[q]? = some y ∧ y ≠ zE) : wy n H a + 1 < n := by
  obtain ⟨q, hq, hz⟩ := hf
  have h1 := wy_lt hH ha
  have h2 := wy_lt hH hq
  rcases Nat.lt_or_ge (wy n H a + 1) n with c | c
  · exact c
  · exfalso
    by_cases d : wy n H q < wy n H a
    · obtain ⟨y, hy, hyo⟩ := hg q hq d
      rw [hz] at hy; cases hy; exact hyo rfl
    · rw [wy_inj hH hq ha (by omega), hx] at hz
      cases hz; exact hxo rfl
theorem up3 {N : Nat} {w0 wr w2 w3 : World} {o : Obj} (hB : Below N w0 wr) (hg : (wr.alloc o).grownBy w2 (some wr.heap.size)) (hb : Below w2.heap.size w2 w3) (hN : N ≤ w0.heap.size := by simp) : Below N w0 w3 := by
  have h1 := hB.size
  have h2 : Below N w0 (wr.alloc o) := hB.alloc (by omega) o
  have h3 := below_grown h2 hg (by omega) (by simp; omega)
  exact h3.trans (hb.mono (by have := h3.size; omega))
attribute [local go_sem] ZE
set_option maxRecDepth 100000 in
set_option maxHeartbeats 2000000 in
theorem place42 (h : Nat) (ps : List En) (T : Tb) (v : Int) (m : Mc) (w : World) (hm : Mok m) (H : PT w h ps T) :
    Calls Try.prog 42 #[.pointer (some ⟨h + 1, 0, none⟩), .int .i64 v, .agg (MC m)] w fun e w' => ∃ a : Nat, e = .returned (.int .i64 a) ∧ Pl (2 * T.n) ps (fs T.n v m) v m a ∧ Below w.heap.size w w' := by
  have A0 := (box_m w m).at_
  have n1 := H.wf.n1
  have n2 := H.wf.n2
  have hfs := fs_lt T.n v m n1 n2
  have W0 : Hid (Below w.heap.size w (w.alloc (.cells (MC m) 34))) := hide (below_alloc w _)
  have HH := hide H
  have HA := hide (box_m w m)
  have q1 := fun w H => first57 h T.n T.l.length v m w hm n1 n2 H
  have tk1 : True := trivial
  have HM := hide hm
  clear H hm
  go_enter Try.func42, Try.ntmps42
  go_wp2
  go_step3
  go_wp2_with (first | (have _t := tk1; refine wpl_mac (.tmp 5) rfl A0 ?_ ?_ ?_; rfl; rfl; clear tk1) | (go_at_call 57; refine (q1 _ (HH.out.on W0.out).bx).mono ?_; rintro e w1 ⟨rfl, hb⟩))
  have B1 : Hid (Below (w.heap.size + 1) (w.alloc (.cells (MC m) 34)) w1) := hide (by rw [← World.size_alloc w (.cells (MC m) 34)]; exact hb)
  clear hb A0 q1
  go_step3
  go_wp2
  go_loopw [7, 8] (fun i _ wr => ∃ a : Nat, i = .int .i64 a ∧ a < 2 * T.n ∧ (∀ q, q < 2 * T.n → wy (2 * T.n) (fs T.n v m) q < wy (2 * T.n) (fs T.n v m) a → ∃ y, ps[q]? = some y ∧ y ≠ zE ∧ ky y v m = false) ∧ Below (w.heap.size + 1) (w.alloc (.cells (MC m) 34)) wr) (fun i _ _ => 2 * T.n - wy (2 * T.n) (fs T.n v m) (intOf i).toNat)
  case atStart => exact ⟨_, rfl, hfs, fun q hq h1 => by rw [wy_self] at h1; omega, B1.out⟩
  case round =>
    obtain ⟨a, rfl, ha, hg, hB⟩ := hrel
    have P1 := HH.out.on (W0.out)
    have P2 := P1.below hB (by have := HH.out.lt; omega)
    obtain ⟨x, hx, A1⟩ := P2.get ha
    have c0 := P2.bx.cell 0 _ rfl
    have ha0 : (a : Int) < 2 * (T.n : Int) := by omega
    have HP := hide P2
    have HB := hide hB
    have HG := hide hg
    have HX := hide hx
    clear P1 P2 hB hg hx
    have tk1 : True := trivial
    have tk2 : True := trivial
    have tk3 : True := trivial
    have q2 := fun w => free43 x w
    rcases Bool.eq_false_or_eq_true (fre x) with hfr | hfr
    · rw [hfr] at q2
      go_wp2_with (first | (have _t := tk1; refine wpl_ent (.tmp 18) rfl A1 ?_ ?_ ?_; rfl; rfl; clear tk1) | (have _t := tk2; refine wpl_putE x zE (.tmp 8) (.tmp 19) rfl (box_e _ zE) ?_ rfl rfl ?_; rfl; intro w2 X2 G2; have X3 := X2.at_; clear tk2) | (have _t := tk3; refine wpl_ent (.tmp 8) rfl X3 ?_ ?_ ?_; rfl; rfl; clear tk3) | (go_at_call 43; refine (q2 _).mono ?_; rintro e w3 ⟨rfl, hb3⟩; have B3 := hide (up3 HB.out G2 hb3); have X4 := X2.on hb3; have X5 := mac_of X4; have c3 := X4.cell 0 _ rfl; have M3 := (HA.out.below (Nat.lt_succ_self _) B3.out).at_; have HX4 := hide X4; clear hb3 G2 X2 X3 X4 A1))
      rw [Exit.noGoto_ret]
      go_ret
      exact ⟨a, rfl, ⟨ha, ⟨x, HX.out, Or.inl ((fre_iff x).1 hfr)⟩, HG.out⟩, W0.out.trans (B3.out.mono (Nat.le_succ _))⟩
    · have hxo : Hid (x ≠ zE) := hide (fun e => by rw [(fre_iff x).2 e] at hfr; cases hfr)
      rw [hfr] at q2
      have q3 := eqMac x.m m
      have tk4 : True := trivial
      have tk5 : True := trivial
      rcases Bool.eq_false_or_eq_true (ky x v m) with hk | hk
      · have hk2 := hk
        rw [ky, Bool.and_eq_true] at hk2
        obtain ⟨k1, k2⟩ := hk2
        rw [k2] at q3
        have HK := hide hk
        clear hk
        go_wp2_with (first | (have _t := tk1; refine wpl_ent (.tmp 18) rfl A1 ?_ ?_ ?_; rfl; rfl; clear tk1) | (have _t := tk2; refine wpl_putE x zE (.tmp 8) (.tmp 19) rfl (box_e _ zE) ?_ rfl rfl ?_; rfl; intro w2 X2 G2; have X3 := X2.at_; clear tk2) | (have _t := tk3; refine wpl_ent (.tmp 8) rfl X3 ?_ ?_ ?_; rfl; rfl; clear tk3) | (go_at_call 43; refine (q2 _).mono ?_; rintro e w3 ⟨rfl, hb3⟩; have B3 := hide (up3 HB.out G2 hb3); have X4 := X2.on hb3; have X5 := mac_of X4; have c3 := X4.cell 0 _ rfl; have M3 := (HA.out.below (Nat.lt_succ_self _) B3.out).at_; have HX4 := hide X4; clear hb3 G2 X2 X3 X4 A1) | (have _t := tk4; refine wpl_mac (.tmp 29) rfl X5 ?_ ?_ ?_; rfl; rfl; clear tk4) | (have _t := tk5; refine wpl_mac (.tmp 5) rfl M3 ?_ ?_ ?_; rfl; rfl; clear tk5))
        rw [Exit.noGoto_ret]
        go_ret
        exact ⟨a, rfl, ⟨ha, ⟨x, HX.out, Or.inr HK.out⟩, HG.out⟩, W0.out.trans (B3.out.mono (Nat.le_succ _))⟩
      · have q4 := fun w H => next58 h T.n T.l.length a w n1 n2 H ha
        have hgo : Hid (wy (2 * T.n) (fs T.n v m) a + 1 < 2 * T.n) := hide (go_room hfs ha HH.out.fr HX.out hxo.out (fun q hq hw => by obtain ⟨y, h1, h2, _⟩ := HG.out q hq hw; exact ⟨y, h1, h2⟩))
        have HK := hide hk
        have fin : Hid (∀ q, q < 2 * T.n → wy (2 * T.n) (fs T.n v m) q < wy (2 * T.n) (fs T.n v m) (nt (2 * T.n) a) → ∃ y, ps[q]? = some y ∧ y ≠ zE ∧ ky y v m = false) := hide (fun q hq hw => by
          rw [wy_nt hfs ha hgo.out] at hw
          by_cases d : wy (2 * T.n) (fs T.n v m) q < wy (2 * T.n) (fs T.n v m) a
          · exact HG.out q hq d
          · rw [wy_inj hfs hq ha (by omega)]; exact ⟨x, HX.out, hxo.out, hk⟩)
        have hm2 : Hid (2 * T.n - wy (2 * T.n) (fs T.n v m) (nt (2 * T.n) a) < 2 * T.n - wy (2 * T.n) (fs T.n v m) a) := hide (by rw [wy_nt hfs ha hgo.out]; have := hgo.out; omega)
        have hnt : Hid (nt (2 * T.n) a < 2 * T.n) := hide (nt_lt ha)
        rcases Bool.eq_false_or_eq_true (x.v == v) with k1 | k1
        · rw [ky, k1, Bool.true_and] at hk
          rw [hk] at q3
          clear hk
          go_wp2_with (first | (have _t := tk1; refine wpl_ent (.tmp 18) rfl A1 ?_ ?_ ?_; rfl; rfl; clear tk1) | (have _t := tk2; refine wpl_putE x zE (.tmp 8) (.tmp 19) rfl (box_e _ zE) ?_ rfl rfl ?_; rfl; intro w2 X2 G2; have X3 := X2.at_; clear tk2) | (have _t := tk3; refine wpl_ent (.tmp 8) rfl X3 ?_ ?_ ?_; rfl; rfl; clear tk3) | (go_at_call 43; refine (q2 _).mono ?_; rintro e w3 ⟨rfl, hb3⟩; have B3 := hide (up3 HB.out G2 hb3); have X4 := X2.on hb3; have X5 := mac_of X4; have c3 := X4.cell 0 _ rfl; have M3 := (HA.out.below (Nat.lt_succ_self _) B3.out).at_; have HX4 := hide X4; clear hb3 G2 X2 X3 X4 A1) | (have _t := tk4; refine wpl_mac (.tmp 29) rfl X5 ?_ ?_ ?_; rfl; rfl; clear tk4) | (have _t := tk5; refine wpl_mac (.tmp 5) rfl M3 ?_ ?_ ?_; rfl; rfl; clear tk5) | (go_at_call 58; refine (q4 _ ((HH.out.on W0.out).below B3.out (by have := HH.out.lt; omega)).bx).mono ?_; rintro e w5 ⟨rfl, rfl⟩))
          go_roundw
          case rel => exact ⟨_, rfl, hnt.out, fin.out, B3.out⟩
          case measure => simpa [intOf] using hm2.out
        · clear hk q3
          go_wp2_with (first | (have _t := tk1; refine wpl_ent (.tmp 18) rfl A1 ?_ ?_ ?_; rfl; rfl; clear tk1) | (have _t := tk2; refine wpl_putE x zE (.tmp 8) (.tmp 19) rfl (box_e _ zE) ?_ rfl rfl ?_; rfl; intro w2 X2 G2; have X3 := X2.at_; clear tk2) | (have _t := tk3; refine wpl_ent (.tmp 8) rfl X3 ?_ ?_ ?_; rfl; rfl; clear tk3) | (go_at_call 43; refine (q2 _).mono ?_; rintro e w3 ⟨rfl, hb3⟩; have B3 := hide (up3 HB.out G2 hb3); have X4 := X2.on hb3; have X5 := mac_of X4; have c3 := X4.cell 0 _ rfl; have M3 := (HA.out.below (Nat.lt_succ_self _) B3.out).at_; have HX4 := hide X4; clear hb3 G2 X2 X3 X4 A1) | (go_at_call 58; refine (q4 _ ((HH.out.on W0.out).below B3.out (by have := HH.out.lt; omega)).bx).mono ?_; rintro e w5 ⟨rfl, rfl⟩))
          go_roundw
          case rel => exact ⟨_, rfl, hnt.out, fin.out, B3.out⟩
          case measure => simpa [intOf] using hm2.out
end Go.Proofs.Ytjlmheecefobaaa
