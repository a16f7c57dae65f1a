/- FdbLast: for all steps and every step the law answers true, and both read behind the call as they read before. No condition. -/
import Derived.Test.YtbpkdkniiggcpaaOp
import Derived.Test.YtbpkdkniiggcpaaF2
import Derived.Test.YtbpkdkniiggcpaaF3
import Derived.Test.YtbpkdkniiggcpaaF5
import Derived.Deep.RegionHeld3
namespace Go.Proofs.Ytbpkdkniiggcpaa
open Go.ChangeShapes Go.WideShapes Go.ChangeAt Go.RowKit

theorem stp_cells {w : World} {k o : Nat} {s : St} (h : w.rangeAt k o (scl s)) : w.cell? ⟨k, o, none⟩ = some (.int .i64 s.d) ∧ w.cell? ⟨k, o + 1, none⟩ = some (.int .i64 s.v) ∧ w.cell? ⟨k, o + 2, none⟩ = some (.int .u8 s.m.a) ∧ w.cell? ⟨k, o + 3, none⟩ = some (.int .u8 s.m.b) ∧ w.cell? ⟨k, o + 4, none⟩ = some (.int .u8 s.m.c) ∧ w.cell? ⟨k, o + 5, none⟩ = some (.int .u8 s.m.d) ∧ w.cell? ⟨k, o + 6, none⟩ = some (.int .u8 s.m.e) ∧ w.cell? ⟨k, o + 7, none⟩ = some (.int .u8 s.m.f) ∧ w.cell? ⟨k, o + 8, none⟩ = some (.int .i64 s.p) ∧ w.cell? ⟨k, o + 9, none⟩ = some (.int .i64 s.t) :=
  ⟨h 0 _ rfl, h 1 _ rfl, h 2 _ rfl, h 3 _ rfl, h 4 _ rfl, h 5 _ rfl, h 6 _ rfl, h 7 _ rfl, h 8 _ rfl, h 9 _ rfl⟩
theorem last_keep {T : Tb} (W : Wf T) {v v' : Int} {m m' : Mc} {p t : Int} (hm : Mok m) (hm' : Mok m') (W' : Wf (lT T v' m' p t)) (hne : ¬ (v = v' ∧ m = m')) (h : hs T.l v m = true) :
    hs (lT T v' m' p t).l v m = true ∧ lk (lT T v' m' p t).l v m = lk T.l v m := by
  by_cases e : lE T v' m' p t = 0
  · obtain ⟨_, _, c⟩ := lrn_ok W hm' e
    rcases c with ⟨_, _, c, _⟩ | ⟨_, c, _⟩
    · rw [c]; exact ⟨h, rfl⟩
    · have hk := lk_ky _ _ _ h
      have hk2 := (ky_iff _ _ _).1 hk
      refine lk_of W' ?_ hk
      rw [c]
      refine up_mem.2 (Or.inr ⟨lk_mem h, fun e2 => hne ?_⟩)
      have e3 : kn v m = kn v' m' := by
        rw [← show ke (lk T.l v m) = kn v m by simp [ke, hk2.1, hk2.2]]
        exact e2
      exact kn_inj hm hm' e3
  · rw [(lrn_no e).1]; exact ⟨h, rfl⟩
theorem last_no {T : Tb} (W : Wf T) {v : Int} {m : Mc} {p t : Int} (e : lE T v m p t ≠ 0) : lK T v m p t = 0 ∧ (lE T v m p t = 1 ∨ lE T v m p t = 3 ∧ (lT T v m p t).l.length = T.n) := by
  obtain ⟨e1, e2⟩ := lrn_no e
  refine ⟨e2, ?_⟩
  rw [e1]
  rcases lE_03 T v m p t with c | ⟨c, _⟩ | ⟨c, f⟩
  · exact absurd c e
  · exact Or.inl c
  · refine Or.inr ⟨c, ?_⟩
    simp [full] at f
    have := W.le
    omega
theorem last_yes {T : Tb} (W : Wf T) {v : Int} {m : Mc} {p t : Int} (hm : Mok m) (e : lE T v m p t = 0) : hs (lT T v m p t).l v m = true ∧ ((lk (lT T v m p t).l v m).s = true ∧ lK T v m p t = 0 ∨ (lk (lT T v m p t).l v m).s = false ∧ (lk (lT T v m p t).l v m).p = p ∧ (lk (lT T v m p t).l v m).t = t) := by
  obtain ⟨_, h1, c⟩ := lrn_ok W hm e
  refine ⟨h1, ?_⟩
  rcases c with ⟨s, _, c, k⟩ | ⟨_, _, c, _⟩
  · rw [c]; exact Or.inl ⟨s, k⟩
  · rw [c]; exact Or.inr ⟨rfl, rfl, rfl⟩
section
attribute [local go_sem] SC0 SC1 SC8 SC9 SC10 SC_size ZE
set_option maxRecDepth 100000 in
set_option maxHeartbeats 8000000 in
theorem lastWalk (ao : Option Addr) (n c : Nat) (ss : List St) (s : St) (w : World) (hS : Sts w w.heap.size ao n c ss) (hm : Mok s.m) :
    Calls Try.prog 4 #[.slice ao n c, .agg (SC s)] w fun e w' => e = .returned (.bool true) ∧ Below w.heap.size w w' := by
  have HSS := hide hS
  have hlen := hS.len
  have hle := hS.le
  have hmx := hS.mx
  unfold maxLen at hmx
  have B0 := below_alloc w (.cells (SC s) 26)
  have S0 := box_s w s
  have HM := hide hm
  have HS := hide (hS.below B0)
  clear hS hm
  go_enter Try.func4, Try.ntmps4
  go_wp2_with fail
  refine (awake9 _).mono ?_
  rintro e w1 ⟨rfl, C1⟩
  have B1 := belowOn B0 C1
  have S1 := S0.on C1
  have lS := S1.lt
  have HS1 : Hid (Sts w1 w1.heap.size ao n c ss) := hide ((HS.out.below (C1.mono (by simp))).up (by have := B1.size; omega))
  clear B0 C1 S0 HS
  go_wp2_with fail
  refine (made10 8 ao n c ss _ (by omega) (by omega) HS1.out).mono ?_
  rintro e w2 ⟨h, g, ps, lv, T, rfl, M⟩
  have hw1 : Hid (w.heap.size ≤ h) := hide (Nat.le_trans B1.size M.hw)
  have hb1 : Hid (w.heap.size < h) := hide (Nat.lt_of_lt_of_le lS M.hw)
  have S2 := S1.on M.B
  have B2 := hide (B1.trans (M.B.mono B1.size))
  have P2 := hide M.P
  have R2 := hide M.R
  have TN := hide M.tn
  have hG2 := hide M.hg
  clear M B1 HS1 S1 lS
  clear R2 hG2
  have PP := P2
  have BB := B2
  have SS := hide S2
  clear S2
  clear P2 B2
  have tk1 : True := trivial
  have tk2 : True := trivial
  have tk3 : True := trivial
  have A := stp_mac SS.out.at_
  have c1 := SS.out.cell 1 _ rfl
  have c8 := SS.out.cell 8 _ rfl
  have c9 := SS.out.cell 9 _ rfl
  go_wp2_with (first | (have _t := tk1; refine wpl_mac (.tmp 39) rfl A ?_ ?_ ?_; rfl; rfl; clear tk1))
  refine (learn16 h ps T s.v s.m s.p s.t _ HM.out PP.out).mono ?_
  rintro e w3 ⟨rfl, ⟨ps1, Q⟩, M⟩
  have HWT := hide PP.out.wf
  have HL0 := hide (lT_n T s.v s.m s.p s.t)
  replace BB := hide (mid_on BB.out M hw1.out PP.out.size)
  replace SS := hide (SS.out.low M hb1.out)
  replace PP := hide Q
  clear Q M A c1 c8 c9
  by_cases he : lE T s.v s.m s.p s.t = 0
  · obtain ⟨h0, hx⟩ := last_yes HWT.out HM.out he
    rw [he]
    have HW1 := hide PP.out.wf
    generalize lK T s.v s.m s.p s.t = K at *
    generalize lT T s.v s.m s.p s.t = T1 at *
    generalize hX : lk T1.l s.v s.m = X at *
    have HX := hide hx
    have H0 := hide h0
    have HXX := hide hX
    clear he hx h0 hX HWT HL0 TN
    go_wp2
    go_loopw [11] (fun i wr => ∃ (k : Nat) (ps : List En) (T' : Tb), k ≤ n ∧ k ≤ 60 ∧ i = .int .i64 k ∧ PT wr h ps T' ∧ hs T'.l s.v s.m = true ∧ lk T'.l s.v s.m = X ∧ Box wr w.heap.size (scl s) ∧ Below w.heap.size w wr) (fun i _ => n - (intOf i).toNat)
    case atStart => exact ⟨0, ps1, T1, Nat.zero_le _, Nat.zero_le _, rfl, PP.out, H0.out, HXX.out, SS.out, BB.out⟩
    case round =>
      clear PP SS BB H0 HXX
      obtain ⟨k, rs, U, hk, hk1, rfl, PP, H0, HXX, SS, BB⟩ := hrel
      replace PP := hide PP
      replace H0 := hide H0
      replace HXX := hide HXX
      replace SS := hide SS
      replace BB := hide BB
      by_cases hc : k < n ∧ k < 60
      · obtain ⟨k1, k2⟩ := hc
        have d1 : (k : Int) < n := by omega
        have d2 : (k : Int) < 60 := by omega
        have e1 : IntKind.i64.wrap ((k : Int) + 1) = (k : Int) + 1 := IntWalk.i64_in _ (by omega)
        obtain ⟨r, hr⟩ : ∃ r, ss[k]? = some r := ⟨_, List.getElem?_eq_getElem (by omega)⟩
        have S := HSS.out.below BB.out
        obtain ⟨hmr, b, o, rfl, hb, hrg⟩ := S.cell k r hr
        clear S
        have HRG := hide hrg
        have HMR := hide hmr
        have HB := hide hb
        obtain ⟨d0, dv, da, db, dc, dd, de, df, dp, dt⟩ := stp_cells hrg
        obtain ⟨s0, sv, sa, sb, sc, sd, se, sf, sp, st⟩ := stp_cells SS.out.at_
        clear hrg hmr hb
        have q3 := eqMac r.m s.m
        rw [mc_def', mc_def'] at q3
        have hdr : Hid (∀ q, Below wr.heap.size wr (wr.drewN q)) := hide (fun q => ⟨rfl, rfl, rfl, Nat.le_refl _, fun _ _ => rfl⟩)
        rcases Bool.eq_false_or_eq_true (r.d == 0) with hd | hd
        · rcases Bool.eq_false_or_eq_true (r.v == s.v) with hv | hv
          · have hv2 : (r.v != s.v) = false := by rw [bne, hv]; rfl
            have hv3 : decide (r.v = s.v) = true := by simpa using hv
            rcases Bool.eq_false_or_eq_true (eqM r.m s.m) with hq | hq
            · rw [hq] at q3
              go_wp2_with fail
              go_quiet (fail)
              go_wp2
              go_roundw
              case rel => exact ⟨k + 1, rs, U, by omega, by omega, by go_num, PP.out.on (hdr.out _), H0.out, HXX.out, SS.out.on (hdr.out _), BB.out.trans ((hdr.out _).mono BB.out.size)⟩
              case measure => simp [intOf]; omega
            · rw [hq] at q3
              have HNE : Hid (¬ (s.v = r.v ∧ s.m = r.m)) := hide (fun hh => by rw [hh.2, (eqM_iff _ _).2 rfl] at hq; cases hq)
              go_wp2_with fail
              go_quiet (fail)
              go_wp2_with fail
              have P2 := hide (PP.out.on (hdr.out nq)).drew
              have S2 := hide (SS.out.on (hdr.out nq)).drew
              have B2 := hide (belowOn' (BB.out.trans ((hdr.out nq).mono BB.out.size)))
              have R2 : Hid ((wr.drewN nq).drew.rangeAt b (o + k * 11) (scl r)) := hide (fun i v hi => HRG.out i v hi)
              clear PP SS BB HRG d0 dv da db dc dd de df dp dt s0 sv sa sb sc sd se sf sp st q3 hdr
              refine wp_region_held_drew (S := fun w' => w'.rangeAt b (o + k * 11) (scl r)) (by kernel_rfl) R2.out (fun hHeld => ?_)
              clear R2
              generalize (wr.drewN nq).drew = u0 at *
              refine wpAnyH_take (i := 0) (v := .pointer (some ⟨h + 1, 0, none⟩)) rfl (by kernel_rfl) (by kernel_rfl) (by kernel_rfl) (fun _ _ _ h => h) (Or.inl ⟨by rfl, ?_⟩) hHeld ?_
              · intro W hW; (try dsimp only at hW); go_simp
              change wpAnyH _ _ _ _ _ _ _ ⟨#[.slice (some ⟨b, o, none⟩) n c, _, _, _, _, _, .pointer (some ⟨h + 1, 0, none⟩), _, _, _, _, .int .i64 (k : Int), _, _, _, _, _, _, _, _, _, _, _, _, _, _, _, _, _, _, _, _, _, _, _, _, _, _, _, _, _, _, _, _, _, _, _, _, _, _, _, _, _, _, _, _, _, _, _, _, _, _, _, _, _, _, _, _, _, _, _, _, _, _, _, _, _, _, _, _, _, _, _, _, _, _, _, _, _, _, _, _, _, _, _, _, _, _, _, _, _, .pointer (some ⟨h + 1, 0, none⟩), _, _, _, _, _, _, _, _, _, _, _, _, _, _, _, _, _, _, _, _, _, _, _, _, _, _, _, _, _, _, _, _, _, _, _, _, _, _, _, _, _, _, _, _, _, _, _, _, _, _, _, _, _], []⟩ _
              refine wpAnyH_take (i := 1) (v := .slice (some ⟨b, o, none⟩) n c) rfl (by kernel_rfl) (by kernel_rfl) (by kernel_rfl) (fun _ _ _ h => h) (Or.inl ⟨by rfl, ?_⟩) hHeld ?_
              · intro W hW; (try dsimp only at hW); go_simp
              change wpAnyH _ _ _ _ _ _ _ ⟨#[.slice (some ⟨b, o, none⟩) n c, _, _, _, _, _, .pointer (some ⟨h + 1, 0, none⟩), _, _, _, _, .int .i64 (k : Int), _, _, _, _, _, _, _, _, _, _, _, _, _, _, _, _, _, _, _, _, _, _, _, _, _, _, _, _, _, _, _, _, _, _, _, _, _, _, _, _, _, _, _, _, _, _, _, _, _, _, _, _, _, _, _, _, _, _, _, _, _, _, _, _, _, _, _, _, _, _, _, _, _, _, _, _, _, _, _, _, _, _, _, _, _, _, _, _, _, .pointer (some ⟨h + 1, 0, none⟩), .slice (some ⟨b, o, none⟩) n c, _, _, _, _, _, _, _, _, _, _, _, _, _, _, _, _, _, _, _, _, _, _, _, _, _, _, _, _, _, _, _, _, _, _, _, _, _, _, _, _, _, _, _, _, _, _, _, _, _, _, _, _], []⟩ _
              refine wpAnyH_take (i := 2) (v := .int .i64 (k : Int)) rfl (by kernel_rfl) (by kernel_rfl) (by kernel_rfl) (fun _ _ _ h => h) (Or.inl ⟨by rfl, ?_⟩) hHeld ?_
              · intro W hW; (try dsimp only at hW); go_simp
              change wpAnyH _ _ _ _ _ _ _ ⟨#[.slice (some ⟨b, o, none⟩) n c, _, _, _, _, _, .pointer (some ⟨h + 1, 0, none⟩), _, _, _, _, .int .i64 (k : Int), _, _, _, _, _, _, _, _, _, _, _, _, _, _, _, _, _, _, _, _, _, _, _, _, _, _, _, _, _, _, _, _, _, _, _, _, _, _, _, _, _, _, _, _, _, _, _, _, _, _, _, _, _, _, _, _, _, _, _, _, _, _, _, _, _, _, _, _, _, _, _, _, _, _, _, _, _, _, _, _, _, _, _, _, _, _, _, _, _, .pointer (some ⟨h + 1, 0, none⟩), .slice (some ⟨b, o, none⟩) n c, .int .i64 (k : Int), _, _, _, _, _, _, _, _, _, _, _, _, _, _, _, _, _, _, _, _, _, _, _, _, _, _, _, _, _, _, _, _, _, _, _, _, _, _, _, _, _, _, _, _, _, _, _, _, _, _, _], []⟩ _
              refine wpAnyH_take (i := 3) (v := .pointer (some ⟨b, o + k * 11, none⟩)) rfl (by kernel_rfl) (by kernel_rfl) (by kernel_rfl) (fun _ _ _ h => h) (Or.inl ⟨by rfl, ?_⟩) hHeld ?_
              · intro W hW; (try dsimp only at hW); go_simp
              change wpAnyH _ _ _ _ _ _ _ ⟨#[.slice (some ⟨b, o, none⟩) n c, _, _, _, _, _, .pointer (some ⟨h + 1, 0, none⟩), _, _, _, _, .int .i64 (k : Int), _, _, _, _, _, _, _, _, _, _, _, _, _, _, _, _, _, _, _, _, _, _, _, _, _, _, _, _, _, _, _, _, _, _, _, _, _, _, _, _, _, _, _, _, _, _, _, _, _, _, _, _, _, _, _, _, _, _, _, _, _, _, _, _, _, _, _, _, _, _, _, _, _, _, _, _, _, _, _, _, _, _, _, _, _, _, _, _, _, .pointer (some ⟨h + 1, 0, none⟩), .slice (some ⟨b, o, none⟩) n c, .int .i64 (k : Int), .pointer (some ⟨b, o + k * 11, none⟩), _, _, _, _, _, _, _, _, _, _, _, _, _, _, _, _, _, _, _, _, _, _, _, _, _, _, _, _, _, _, _, _, _, _, _, _, _, _, _, _, _, _, _, _, _, _, _, _, _, _], []⟩ _
              refine wpAnyH_take (i := 4) (v := .pointer (some ⟨b, o + k * 11 + 1, none⟩)) rfl (by kernel_rfl) (by kernel_rfl) (by kernel_rfl) (fun _ _ _ h => h) (Or.inl ⟨by rfl, ?_⟩) hHeld ?_
              · intro W hW; (try dsimp only at hW); go_simp
              change wpAnyH _ _ _ _ _ _ _ ⟨#[.slice (some ⟨b, o, none⟩) n c, _, _, _, _, _, .pointer (some ⟨h + 1, 0, none⟩), _, _, _, _, .int .i64 (k : Int), _, _, _, _, _, _, _, _, _, _, _, _, _, _, _, _, _, _, _, _, _, _, _, _, _, _, _, _, _, _, _, _, _, _, _, _, _, _, _, _, _, _, _, _, _, _, _, _, _, _, _, _, _, _, _, _, _, _, _, _, _, _, _, _, _, _, _, _, _, _, _, _, _, _, _, _, _, _, _, _, _, _, _, _, _, _, _, _, _, .pointer (some ⟨h + 1, 0, none⟩), .slice (some ⟨b, o, none⟩) n c, .int .i64 (k : Int), .pointer (some ⟨b, o + k * 11, none⟩), .pointer (some ⟨b, o + k * 11 + 1, none⟩), _, _, _, _, _, _, _, _, _, _, _, _, _, _, _, _, _, _, _, _, _, _, _, _, _, _, _, _, _, _, _, _, _, _, _, _, _, _, _, _, _, _, _, _, _, _, _, _, _], []⟩ _
              refine wpAnyH_take (i := 5) (v := .int .i64 r.v) rfl (by kernel_rfl) (by kernel_rfl) (by kernel_rfl) (fun _ _ _ h => h) (Or.inl ⟨by rfl, ?_⟩) hHeld ?_
              · intro W hW; (try dsimp only at hW); have hc := (stp_cells hW).2.1; clear hW; go_simp
              change wpAnyH _ _ _ _ _ _ _ ⟨#[.slice (some ⟨b, o, none⟩) n c, _, _, _, _, _, .pointer (some ⟨h + 1, 0, none⟩), _, _, _, _, .int .i64 (k : Int), _, _, _, _, _, _, _, _, _, _, _, _, _, _, _, _, _, _, _, _, _, _, _, _, _, _, _, _, _, _, _, _, _, _, _, _, _, _, _, _, _, _, _, _, _, _, _, _, _, _, _, _, _, _, _, _, _, _, _, _, _, _, _, _, _, _, _, _, _, _, _, _, _, _, _, _, _, _, _, _, _, _, _, _, _, _, _, _, _, .pointer (some ⟨h + 1, 0, none⟩), .slice (some ⟨b, o, none⟩) n c, .int .i64 (k : Int), .pointer (some ⟨b, o + k * 11, none⟩), .pointer (some ⟨b, o + k * 11 + 1, none⟩), .int .i64 r.v, _, _, _, _, _, _, _, _, _, _, _, _, _, _, _, _, _, _, _, _, _, _, _, _, _, _, _, _, _, _, _, _, _, _, _, _, _, _, _, _, _, _, _, _, _, _, _, _], []⟩ _
              refine wpAnyH_take (i := 6) (v := .slice (some ⟨b, o, none⟩) n c) rfl (by kernel_rfl) (by kernel_rfl) (by kernel_rfl) (fun _ _ _ h => h) (Or.inl ⟨by rfl, ?_⟩) hHeld ?_
              · intro W hW; (try dsimp only at hW); go_simp
              change wpAnyH _ _ _ _ _ _ _ ⟨#[.slice (some ⟨b, o, none⟩) n c, _, _, _, _, _, .pointer (some ⟨h + 1, 0, none⟩), _, _, _, _, .int .i64 (k : Int), _, _, _, _, _, _, _, _, _, _, _, _, _, _, _, _, _, _, _, _, _, _, _, _, _, _, _, _, _, _, _, _, _, _, _, _, _, _, _, _, _, _, _, _, _, _, _, _, _, _, _, _, _, _, _, _, _, _, _, _, _, _, _, _, _, _, _, _, _, _, _, _, _, _, _, _, _, _, _, _, _, _, _, _, _, _, _, _, _, .pointer (some ⟨h + 1, 0, none⟩), .slice (some ⟨b, o, none⟩) n c, .int .i64 (k : Int), .pointer (some ⟨b, o + k * 11, none⟩), .pointer (some ⟨b, o + k * 11 + 1, none⟩), .int .i64 r.v, .slice (some ⟨b, o, none⟩) n c, _, _, _, _, _, _, _, _, _, _, _, _, _, _, _, _, _, _, _, _, _, _, _, _, _, _, _, _, _, _, _, _, _, _, _, _, _, _, _, _, _, _, _, _, _, _, _], []⟩ _
              refine wpAnyH_take (i := 7) (v := .int .i64 (k : Int)) rfl (by kernel_rfl) (by kernel_rfl) (by kernel_rfl) (fun _ _ _ h => h) (Or.inl ⟨by rfl, ?_⟩) hHeld ?_
              · intro W hW; (try dsimp only at hW); go_simp
              change wpAnyH _ _ _ _ _ _ _ ⟨#[.slice (some ⟨b, o, none⟩) n c, _, _, _, _, _, .pointer (some ⟨h + 1, 0, none⟩), _, _, _, _, .int .i64 (k : Int), _, _, _, _, _, _, _, _, _, _, _, _, _, _, _, _, _, _, _, _, _, _, _, _, _, _, _, _, _, _, _, _, _, _, _, _, _, _, _, _, _, _, _, _, _, _, _, _, _, _, _, _, _, _, _, _, _, _, _, _, _, _, _, _, _, _, _, _, _, _, _, _, _, _, _, _, _, _, _, _, _, _, _, _, _, _, _, _, _, .pointer (some ⟨h + 1, 0, none⟩), .slice (some ⟨b, o, none⟩) n c, .int .i64 (k : Int), .pointer (some ⟨b, o + k * 11, none⟩), .pointer (some ⟨b, o + k * 11 + 1, none⟩), .int .i64 r.v, .slice (some ⟨b, o, none⟩) n c, .int .i64 (k : Int), _, _, _, _, _, _, _, _, _, _, _, _, _, _, _, _, _, _, _, _, _, _, _, _, _, _, _, _, _, _, _, _, _, _, _, _, _, _, _, _, _, _, _, _, _, _], []⟩ _
              refine wpAnyH_take (i := 8) (v := .pointer (some ⟨b, o + k * 11, none⟩)) rfl (by kernel_rfl) (by kernel_rfl) (by kernel_rfl) (fun _ _ _ h => h) (Or.inl ⟨by rfl, ?_⟩) hHeld ?_
              · intro W hW; (try dsimp only at hW); go_simp
              change wpAnyH _ _ _ _ _ _ _ ⟨#[.slice (some ⟨b, o, none⟩) n c, _, _, _, _, _, .pointer (some ⟨h + 1, 0, none⟩), _, _, _, _, .int .i64 (k : Int), _, _, _, _, _, _, _, _, _, _, _, _, _, _, _, _, _, _, _, _, _, _, _, _, _, _, _, _, _, _, _, _, _, _, _, _, _, _, _, _, _, _, _, _, _, _, _, _, _, _, _, _, _, _, _, _, _, _, _, _, _, _, _, _, _, _, _, _, _, _, _, _, _, _, _, _, _, _, _, _, _, _, _, _, _, _, _, _, _, .pointer (some ⟨h + 1, 0, none⟩), .slice (some ⟨b, o, none⟩) n c, .int .i64 (k : Int), .pointer (some ⟨b, o + k * 11, none⟩), .pointer (some ⟨b, o + k * 11 + 1, none⟩), .int .i64 r.v, .slice (some ⟨b, o, none⟩) n c, .int .i64 (k : Int), .pointer (some ⟨b, o + k * 11, none⟩), _, _, _, _, _, _, _, _, _, _, _, _, _, _, _, _, _, _, _, _, _, _, _, _, _, _, _, _, _, _, _, _, _, _, _, _, _, _, _, _, _, _, _, _, _], []⟩ _
              refine wpAnyH_take (i := 9) (v := .pointer (some ⟨b, o + k * 11 + 2, none⟩)) rfl (by kernel_rfl) (by kernel_rfl) (by kernel_rfl) (fun _ _ _ h => h) (Or.inl ⟨by rfl, ?_⟩) hHeld ?_
              · intro W hW; (try dsimp only at hW); go_simp
              change wpAnyH _ _ _ _ _ _ _ ⟨#[.slice (some ⟨b, o, none⟩) n c, _, _, _, _, _, .pointer (some ⟨h + 1, 0, none⟩), _, _, _, _, .int .i64 (k : Int), _, _, _, _, _, _, _, _, _, _, _, _, _, _, _, _, _, _, _, _, _, _, _, _, _, _, _, _, _, _, _, _, _, _, _, _, _, _, _, _, _, _, _, _, _, _, _, _, _, _, _, _, _, _, _, _, _, _, _, _, _, _, _, _, _, _, _, _, _, _, _, _, _, _, _, _, _, _, _, _, _, _, _, _, _, _, _, _, _, .pointer (some ⟨h + 1, 0, none⟩), .slice (some ⟨b, o, none⟩) n c, .int .i64 (k : Int), .pointer (some ⟨b, o + k * 11, none⟩), .pointer (some ⟨b, o + k * 11 + 1, none⟩), .int .i64 r.v, .slice (some ⟨b, o, none⟩) n c, .int .i64 (k : Int), .pointer (some ⟨b, o + k * 11, none⟩), .pointer (some ⟨b, o + k * 11 + 2, none⟩), _, _, _, _, _, _, _, _, _, _, _, _, _, _, _, _, _, _, _, _, _, _, _, _, _, _, _, _, _, _, _, _, _, _, _, _, _, _, _, _, _, _, _, _], []⟩ _
              refine wpAnyH_take (i := 10) (v := .agg (MC r.m)) rfl (by kernel_rfl) (by kernel_rfl) (by kernel_rfl) (fun _ _ _ h => h) (yieldsIf_load_mid (by rfl) 24 (.tmp 110) rfl b (o + k * 11 + 2) rfl ((mcl r.m)) _ (fun W hW => stp_mac hW) Try.underlying24 rfl Try.size24) hHeld ?_
              change wpAnyH _ _ _ _ _ _ _ ⟨#[.slice (some ⟨b, o, none⟩) n c, _, _, _, _, _, .pointer (some ⟨h + 1, 0, none⟩), _, _, _, _, .int .i64 (k : Int), _, _, _, _, _, _, _, _, _, _, _, _, _, _, _, _, _, _, _, _, _, _, _, _, _, _, _, _, _, _, _, _, _, _, _, _, _, _, _, _, _, _, _, _, _, _, _, _, _, _, _, _, _, _, _, _, _, _, _, _, _, _, _, _, _, _, _, _, _, _, _, _, _, _, _, _, _, _, _, _, _, _, _, _, _, _, _, _, _, .pointer (some ⟨h + 1, 0, none⟩), .slice (some ⟨b, o, none⟩) n c, .int .i64 (k : Int), .pointer (some ⟨b, o + k * 11, none⟩), .pointer (some ⟨b, o + k * 11 + 1, none⟩), .int .i64 r.v, .slice (some ⟨b, o, none⟩) n c, .int .i64 (k : Int), .pointer (some ⟨b, o + k * 11, none⟩), .pointer (some ⟨b, o + k * 11 + 2, none⟩), .agg (MC r.m), _, _, _, _, _, _, _, _, _, _, _, _, _, _, _, _, _, _, _, _, _, _, _, _, _, _, _, _, _, _, _, _, _, _, _, _, _, _, _, _, _, _, _], []⟩ _
              refine wpAnyH_take (i := 11) (v := .slice (some ⟨b, o, none⟩) n c) rfl (by kernel_rfl) (by kernel_rfl) (by kernel_rfl) (fun _ _ _ h => h) (Or.inl ⟨by rfl, ?_⟩) hHeld ?_
              · intro W hW; (try dsimp only at hW); go_simp
              change wpAnyH _ _ _ _ _ _ _ ⟨#[.slice (some ⟨b, o, none⟩) n c, _, _, _, _, _, .pointer (some ⟨h + 1, 0, none⟩), _, _, _, _, .int .i64 (k : Int), _, _, _, _, _, _, _, _, _, _, _, _, _, _, _, _, _, _, _, _, _, _, _, _, _, _, _, _, _, _, _, _, _, _, _, _, _, _, _, _, _, _, _, _, _, _, _, _, _, _, _, _, _, _, _, _, _, _, _, _, _, _, _, _, _, _, _, _, _, _, _, _, _, _, _, _, _, _, _, _, _, _, _, _, _, _, _, _, _, .pointer (some ⟨h + 1, 0, none⟩), .slice (some ⟨b, o, none⟩) n c, .int .i64 (k : Int), .pointer (some ⟨b, o + k * 11, none⟩), .pointer (some ⟨b, o + k * 11 + 1, none⟩), .int .i64 r.v, .slice (some ⟨b, o, none⟩) n c, .int .i64 (k : Int), .pointer (some ⟨b, o + k * 11, none⟩), .pointer (some ⟨b, o + k * 11 + 2, none⟩), .agg (MC r.m), .slice (some ⟨b, o, none⟩) n c, _, _, _, _, _, _, _, _, _, _, _, _, _, _, _, _, _, _, _, _, _, _, _, _, _, _, _, _, _, _, _, _, _, _, _, _, _, _, _, _, _, _], []⟩ _
              refine wpAnyH_take (i := 12) (v := .int .i64 (k : Int)) rfl (by kernel_rfl) (by kernel_rfl) (by kernel_rfl) (fun _ _ _ h => h) (Or.inl ⟨by rfl, ?_⟩) hHeld ?_
              · intro W hW; (try dsimp only at hW); go_simp
              change wpAnyH _ _ _ _ _ _ _ ⟨#[.slice (some ⟨b, o, none⟩) n c, _, _, _, _, _, .pointer (some ⟨h + 1, 0, none⟩), _, _, _, _, .int .i64 (k : Int), _, _, _, _, _, _, _, _, _, _, _, _, _, _, _, _, _, _, _, _, _, _, _, _, _, _, _, _, _, _, _, _, _, _, _, _, _, _, _, _, _, _, _, _, _, _, _, _, _, _, _, _, _, _, _, _, _, _, _, _, _, _, _, _, _, _, _, _, _, _, _, _, _, _, _, _, _, _, _, _, _, _, _, _, _, _, _, _, _, .pointer (some ⟨h + 1, 0, none⟩), .slice (some ⟨b, o, none⟩) n c, .int .i64 (k : Int), .pointer (some ⟨b, o + k * 11, none⟩), .pointer (some ⟨b, o + k * 11 + 1, none⟩), .int .i64 r.v, .slice (some ⟨b, o, none⟩) n c, .int .i64 (k : Int), .pointer (some ⟨b, o + k * 11, none⟩), .pointer (some ⟨b, o + k * 11 + 2, none⟩), .agg (MC r.m), .slice (some ⟨b, o, none⟩) n c, .int .i64 (k : Int), _, _, _, _, _, _, _, _, _, _, _, _, _, _, _, _, _, _, _, _, _, _, _, _, _, _, _, _, _, _, _, _, _, _, _, _, _, _, _, _, _], []⟩ _
              refine wpAnyH_take (i := 13) (v := .pointer (some ⟨b, o + k * 11, none⟩)) rfl (by kernel_rfl) (by kernel_rfl) (by kernel_rfl) (fun _ _ _ h => h) (Or.inl ⟨by rfl, ?_⟩) hHeld ?_
              · intro W hW; (try dsimp only at hW); go_simp
              change wpAnyH _ _ _ _ _ _ _ ⟨#[.slice (some ⟨b, o, none⟩) n c, _, _, _, _, _, .pointer (some ⟨h + 1, 0, none⟩), _, _, _, _, .int .i64 (k : Int), _, _, _, _, _, _, _, _, _, _, _, _, _, _, _, _, _, _, _, _, _, _, _, _, _, _, _, _, _, _, _, _, _, _, _, _, _, _, _, _, _, _, _, _, _, _, _, _, _, _, _, _, _, _, _, _, _, _, _, _, _, _, _, _, _, _, _, _, _, _, _, _, _, _, _, _, _, _, _, _, _, _, _, _, _, _, _, _, _, .pointer (some ⟨h + 1, 0, none⟩), .slice (some ⟨b, o, none⟩) n c, .int .i64 (k : Int), .pointer (some ⟨b, o + k * 11, none⟩), .pointer (some ⟨b, o + k * 11 + 1, none⟩), .int .i64 r.v, .slice (some ⟨b, o, none⟩) n c, .int .i64 (k : Int), .pointer (some ⟨b, o + k * 11, none⟩), .pointer (some ⟨b, o + k * 11 + 2, none⟩), .agg (MC r.m), .slice (some ⟨b, o, none⟩) n c, .int .i64 (k : Int), .pointer (some ⟨b, o + k * 11, none⟩), _, _, _, _, _, _, _, _, _, _, _, _, _, _, _, _, _, _, _, _, _, _, _, _, _, _, _, _, _, _, _, _, _, _, _, _, _, _, _, _], []⟩ _
              refine wpAnyH_take (i := 14) (v := .pointer (some ⟨b, o + k * 11 + 8, none⟩)) rfl (by kernel_rfl) (by kernel_rfl) (by kernel_rfl) (fun _ _ _ h => h) (Or.inl ⟨by rfl, ?_⟩) hHeld ?_
              · intro W hW; (try dsimp only at hW); go_simp
              change wpAnyH _ _ _ _ _ _ _ ⟨#[.slice (some ⟨b, o, none⟩) n c, _, _, _, _, _, .pointer (some ⟨h + 1, 0, none⟩), _, _, _, _, .int .i64 (k : Int), _, _, _, _, _, _, _, _, _, _, _, _, _, _, _, _, _, _, _, _, _, _, _, _, _, _, _, _, _, _, _, _, _, _, _, _, _, _, _, _, _, _, _, _, _, _, _, _, _, _, _, _, _, _, _, _, _, _, _, _, _, _, _, _, _, _, _, _, _, _, _, _, _, _, _, _, _, _, _, _, _, _, _, _, _, _, _, _, _, .pointer (some ⟨h + 1, 0, none⟩), .slice (some ⟨b, o, none⟩) n c, .int .i64 (k : Int), .pointer (some ⟨b, o + k * 11, none⟩), .pointer (some ⟨b, o + k * 11 + 1, none⟩), .int .i64 r.v, .slice (some ⟨b, o, none⟩) n c, .int .i64 (k : Int), .pointer (some ⟨b, o + k * 11, none⟩), .pointer (some ⟨b, o + k * 11 + 2, none⟩), .agg (MC r.m), .slice (some ⟨b, o, none⟩) n c, .int .i64 (k : Int), .pointer (some ⟨b, o + k * 11, none⟩), .pointer (some ⟨b, o + k * 11 + 8, none⟩), _, _, _, _, _, _, _, _, _, _, _, _, _, _, _, _, _, _, _, _, _, _, _, _, _, _, _, _, _, _, _, _, _, _, _, _, _, _, _], []⟩ _
              refine wpAnyH_take (i := 15) (v := .int .i64 r.p) rfl (by kernel_rfl) (by kernel_rfl) (by kernel_rfl) (fun _ _ _ h => h) (Or.inl ⟨by rfl, ?_⟩) hHeld ?_
              · intro W hW; (try dsimp only at hW); have hc := (stp_cells hW).2.2.2.2.2.2.2.2.1; clear hW; go_simp
              change wpAnyH _ _ _ _ _ _ _ ⟨#[.slice (some ⟨b, o, none⟩) n c, _, _, _, _, _, .pointer (some ⟨h + 1, 0, none⟩), _, _, _, _, .int .i64 (k : Int), _, _, _, _, _, _, _, _, _, _, _, _, _, _, _, _, _, _, _, _, _, _, _, _, _, _, _, _, _, _, _, _, _, _, _, _, _, _, _, _, _, _, _, _, _, _, _, _, _, _, _, _, _, _, _, _, _, _, _, _, _, _, _, _, _, _, _, _, _, _, _, _, _, _, _, _, _, _, _, _, _, _, _, _, _, _, _, _, _, .pointer (some ⟨h + 1, 0, none⟩), .slice (some ⟨b, o, none⟩) n c, .int .i64 (k : Int), .pointer (some ⟨b, o + k * 11, none⟩), .pointer (some ⟨b, o + k * 11 + 1, none⟩), .int .i64 r.v, .slice (some ⟨b, o, none⟩) n c, .int .i64 (k : Int), .pointer (some ⟨b, o + k * 11, none⟩), .pointer (some ⟨b, o + k * 11 + 2, none⟩), .agg (MC r.m), .slice (some ⟨b, o, none⟩) n c, .int .i64 (k : Int), .pointer (some ⟨b, o + k * 11, none⟩), .pointer (some ⟨b, o + k * 11 + 8, none⟩), .int .i64 r.p, _, _, _, _, _, _, _, _, _, _, _, _, _, _, _, _, _, _, _, _, _, _, _, _, _, _, _, _, _, _, _, _, _, _, _, _, _, _], []⟩ _
              refine wpAnyH_take (i := 16) (v := .slice (some ⟨b, o, none⟩) n c) rfl (by kernel_rfl) (by kernel_rfl) (by kernel_rfl) (fun _ _ _ h => h) (Or.inl ⟨by rfl, ?_⟩) hHeld ?_
              · intro W hW; (try dsimp only at hW); go_simp
              change wpAnyH _ _ _ _ _ _ _ ⟨#[.slice (some ⟨b, o, none⟩) n c, _, _, _, _, _, .pointer (some ⟨h + 1, 0, none⟩), _, _, _, _, .int .i64 (k : Int), _, _, _, _, _, _, _, _, _, _, _, _, _, _, _, _, _, _, _, _, _, _, _, _, _, _, _, _, _, _, _, _, _, _, _, _, _, _, _, _, _, _, _, _, _, _, _, _, _, _, _, _, _, _, _, _, _, _, _, _, _, _, _, _, _, _, _, _, _, _, _, _, _, _, _, _, _, _, _, _, _, _, _, _, _, _, _, _, _, .pointer (some ⟨h + 1, 0, none⟩), .slice (some ⟨b, o, none⟩) n c, .int .i64 (k : Int), .pointer (some ⟨b, o + k * 11, none⟩), .pointer (some ⟨b, o + k * 11 + 1, none⟩), .int .i64 r.v, .slice (some ⟨b, o, none⟩) n c, .int .i64 (k : Int), .pointer (some ⟨b, o + k * 11, none⟩), .pointer (some ⟨b, o + k * 11 + 2, none⟩), .agg (MC r.m), .slice (some ⟨b, o, none⟩) n c, .int .i64 (k : Int), .pointer (some ⟨b, o + k * 11, none⟩), .pointer (some ⟨b, o + k * 11 + 8, none⟩), .int .i64 r.p, .slice (some ⟨b, o, none⟩) n c, _, _, _, _, _, _, _, _, _, _, _, _, _, _, _, _, _, _, _, _, _, _, _, _, _, _, _, _, _, _, _, _, _, _, _, _, _], []⟩ _
              refine wpAnyH_take (i := 17) (v := .int .i64 (k : Int)) rfl (by kernel_rfl) (by kernel_rfl) (by kernel_rfl) (fun _ _ _ h => h) (Or.inl ⟨by rfl, ?_⟩) hHeld ?_
              · intro W hW; (try dsimp only at hW); go_simp
              change wpAnyH _ _ _ _ _ _ _ ⟨#[.slice (some ⟨b, o, none⟩) n c, _, _, _, _, _, .pointer (some ⟨h + 1, 0, none⟩), _, _, _, _, .int .i64 (k : Int), _, _, _, _, _, _, _, _, _, _, _, _, _, _, _, _, _, _, _, _, _, _, _, _, _, _, _, _, _, _, _, _, _, _, _, _, _, _, _, _, _, _, _, _, _, _, _, _, _, _, _, _, _, _, _, _, _, _, _, _, _, _, _, _, _, _, _, _, _, _, _, _, _, _, _, _, _, _, _, _, _, _, _, _, _, _, _, _, _, .pointer (some ⟨h + 1, 0, none⟩), .slice (some ⟨b, o, none⟩) n c, .int .i64 (k : Int), .pointer (some ⟨b, o + k * 11, none⟩), .pointer (some ⟨b, o + k * 11 + 1, none⟩), .int .i64 r.v, .slice (some ⟨b, o, none⟩) n c, .int .i64 (k : Int), .pointer (some ⟨b, o + k * 11, none⟩), .pointer (some ⟨b, o + k * 11 + 2, none⟩), .agg (MC r.m), .slice (some ⟨b, o, none⟩) n c, .int .i64 (k : Int), .pointer (some ⟨b, o + k * 11, none⟩), .pointer (some ⟨b, o + k * 11 + 8, none⟩), .int .i64 r.p, .slice (some ⟨b, o, none⟩) n c, .int .i64 (k : Int), _, _, _, _, _, _, _, _, _, _, _, _, _, _, _, _, _, _, _, _, _, _, _, _, _, _, _, _, _, _, _, _, _, _, _, _], []⟩ _
              refine wpAnyH_take (i := 18) (v := .pointer (some ⟨b, o + k * 11, none⟩)) rfl (by kernel_rfl) (by kernel_rfl) (by kernel_rfl) (fun _ _ _ h => h) (Or.inl ⟨by rfl, ?_⟩) hHeld ?_
              · intro W hW; (try dsimp only at hW); go_simp
              change wpAnyH _ _ _ _ _ _ _ ⟨#[.slice (some ⟨b, o, none⟩) n c, _, _, _, _, _, .pointer (some ⟨h + 1, 0, none⟩), _, _, _, _, .int .i64 (k : Int), _, _, _, _, _, _, _, _, _, _, _, _, _, _, _, _, _, _, _, _, _, _, _, _, _, _, _, _, _, _, _, _, _, _, _, _, _, _, _, _, _, _, _, _, _, _, _, _, _, _, _, _, _, _, _, _, _, _, _, _, _, _, _, _, _, _, _, _, _, _, _, _, _, _, _, _, _, _, _, _, _, _, _, _, _, _, _, _, _, .pointer (some ⟨h + 1, 0, none⟩), .slice (some ⟨b, o, none⟩) n c, .int .i64 (k : Int), .pointer (some ⟨b, o + k * 11, none⟩), .pointer (some ⟨b, o + k * 11 + 1, none⟩), .int .i64 r.v, .slice (some ⟨b, o, none⟩) n c, .int .i64 (k : Int), .pointer (some ⟨b, o + k * 11, none⟩), .pointer (some ⟨b, o + k * 11 + 2, none⟩), .agg (MC r.m), .slice (some ⟨b, o, none⟩) n c, .int .i64 (k : Int), .pointer (some ⟨b, o + k * 11, none⟩), .pointer (some ⟨b, o + k * 11 + 8, none⟩), .int .i64 r.p, .slice (some ⟨b, o, none⟩) n c, .int .i64 (k : Int), .pointer (some ⟨b, o + k * 11, none⟩), _, _, _, _, _, _, _, _, _, _, _, _, _, _, _, _, _, _, _, _, _, _, _, _, _, _, _, _, _, _, _, _, _, _, _], []⟩ _
              refine wpAnyH_take (i := 19) (v := .pointer (some ⟨b, o + k * 11 + 9, none⟩)) rfl (by kernel_rfl) (by kernel_rfl) (by kernel_rfl) (fun _ _ _ h => h) (Or.inl ⟨by rfl, ?_⟩) hHeld ?_
              · intro W hW; (try dsimp only at hW); go_simp
              change wpAnyH _ _ _ _ _ _ _ ⟨#[.slice (some ⟨b, o, none⟩) n c, _, _, _, _, _, .pointer (some ⟨h + 1, 0, none⟩), _, _, _, _, .int .i64 (k : Int), _, _, _, _, _, _, _, _, _, _, _, _, _, _, _, _, _, _, _, _, _, _, _, _, _, _, _, _, _, _, _, _, _, _, _, _, _, _, _, _, _, _, _, _, _, _, _, _, _, _, _, _, _, _, _, _, _, _, _, _, _, _, _, _, _, _, _, _, _, _, _, _, _, _, _, _, _, _, _, _, _, _, _, _, _, _, _, _, _, .pointer (some ⟨h + 1, 0, none⟩), .slice (some ⟨b, o, none⟩) n c, .int .i64 (k : Int), .pointer (some ⟨b, o + k * 11, none⟩), .pointer (some ⟨b, o + k * 11 + 1, none⟩), .int .i64 r.v, .slice (some ⟨b, o, none⟩) n c, .int .i64 (k : Int), .pointer (some ⟨b, o + k * 11, none⟩), .pointer (some ⟨b, o + k * 11 + 2, none⟩), .agg (MC r.m), .slice (some ⟨b, o, none⟩) n c, .int .i64 (k : Int), .pointer (some ⟨b, o + k * 11, none⟩), .pointer (some ⟨b, o + k * 11 + 8, none⟩), .int .i64 r.p, .slice (some ⟨b, o, none⟩) n c, .int .i64 (k : Int), .pointer (some ⟨b, o + k * 11, none⟩), .pointer (some ⟨b, o + k * 11 + 9, none⟩), _, _, _, _, _, _, _, _, _, _, _, _, _, _, _, _, _, _, _, _, _, _, _, _, _, _, _, _, _, _, _, _, _, _], []⟩ _
              refine wpAnyH_take (i := 20) (v := .int .i64 r.t) rfl (by kernel_rfl) (by kernel_rfl) (by kernel_rfl) (fun _ _ _ h => h) (Or.inl ⟨by rfl, ?_⟩) hHeld ?_
              · intro W hW; (try dsimp only at hW); have hc := (stp_cells hW).2.2.2.2.2.2.2.2.2; clear hW; go_simp
              change wpAnyH _ _ _ _ _ _ _ ⟨#[.slice (some ⟨b, o, none⟩) n c, _, _, _, _, _, .pointer (some ⟨h + 1, 0, none⟩), _, _, _, _, .int .i64 (k : Int), _, _, _, _, _, _, _, _, _, _, _, _, _, _, _, _, _, _, _, _, _, _, _, _, _, _, _, _, _, _, _, _, _, _, _, _, _, _, _, _, _, _, _, _, _, _, _, _, _, _, _, _, _, _, _, _, _, _, _, _, _, _, _, _, _, _, _, _, _, _, _, _, _, _, _, _, _, _, _, _, _, _, _, _, _, _, _, _, _, .pointer (some ⟨h + 1, 0, none⟩), .slice (some ⟨b, o, none⟩) n c, .int .i64 (k : Int), .pointer (some ⟨b, o + k * 11, none⟩), .pointer (some ⟨b, o + k * 11 + 1, none⟩), .int .i64 r.v, .slice (some ⟨b, o, none⟩) n c, .int .i64 (k : Int), .pointer (some ⟨b, o + k * 11, none⟩), .pointer (some ⟨b, o + k * 11 + 2, none⟩), .agg (MC r.m), .slice (some ⟨b, o, none⟩) n c, .int .i64 (k : Int), .pointer (some ⟨b, o + k * 11, none⟩), .pointer (some ⟨b, o + k * 11 + 8, none⟩), .int .i64 r.p, .slice (some ⟨b, o, none⟩) n c, .int .i64 (k : Int), .pointer (some ⟨b, o + k * 11, none⟩), .pointer (some ⟨b, o + k * 11 + 9, none⟩), .int .i64 r.t, _, _, _, _, _, _, _, _, _, _, _, _, _, _, _, _, _, _, _, _, _, _, _, _, _, _, _, _, _, _, _, _, _], []⟩ _
              refine wpAnyH_ready (rs := [21]) (by kernel_rfl) (by simp) ?_
              refine AllReadyH.cons rfl (fun K hK => ?_) AllReadyH.nil
              go_simp
              refine (learn16 h rs U r.v r.m r.p r.t _ HMR.out P2.out).mono ?_
              rintro e u1 ⟨rfl, ⟨rs2, Q⟩, M⟩
              have hkp := last_keep P2.out.wf HM.out HMR.out Q.wf HNE.out H0.out
              have S3 := hide (S2.out.low M hb1.out)
              have HKP := hide hkp
              have B3 := hide (mid_on B2.out M hw1.out P2.out.size)
              have P3 := hide Q
              have R3 : u1.rangeAt b (o + k * 11) (scl r) := fun i v hi => ((M.below P2.out.size).cell (p := ⟨b, o + k * 11 + i, none⟩) (Nat.lt_of_lt_of_le HB.out hw1.out)).trans (hHeld i v hi)
              clear hkp Q M P2 S2 B2
              refine hK.out _ _ R3 (fun hHeld => ?_)
              clear hK K R3 hHeld
              change wpAnyH _ _ _ _ _ _ _ ⟨#[.slice (some ⟨b, o, none⟩) n c, _, _, _, _, _, .pointer (some ⟨h + 1, 0, none⟩), _, _, _, _, .int .i64 (k : Int), _, _, _, _, _, _, _, _, _, _, _, _, _, _, _, _, _, _, _, _, _, _, _, _, _, _, _, _, _, _, _, _, _, _, _, _, _, _, _, _, _, _, _, _, _, _, _, _, _, _, _, _, _, _, _, _, _, _, _, _, _, _, _, _, _, _, _, _, _, _, _, _, _, _, _, _, _, _, _, _, _, _, _, _, _, _, _, _, _, .pointer (some ⟨h + 1, 0, none⟩), .slice (some ⟨b, o, none⟩) n c, .int .i64 (k : Int), .pointer (some ⟨b, o + k * 11, none⟩), .pointer (some ⟨b, o + k * 11 + 1, none⟩), .int .i64 r.v, .slice (some ⟨b, o, none⟩) n c, .int .i64 (k : Int), .pointer (some ⟨b, o + k * 11, none⟩), .pointer (some ⟨b, o + k * 11 + 2, none⟩), .agg (MC r.m), .slice (some ⟨b, o, none⟩) n c, .int .i64 (k : Int), .pointer (some ⟨b, o + k * 11, none⟩), .pointer (some ⟨b, o + k * 11 + 8, none⟩), .int .i64 r.p, .slice (some ⟨b, o, none⟩) n c, .int .i64 (k : Int), .pointer (some ⟨b, o + k * 11, none⟩), .pointer (some ⟨b, o + k * 11 + 9, none⟩), .int .i64 r.t, _, _, _, _, _, _, _, _, _, _, _, _, _, _, _, _, _, _, _, _, _, _, _, _, _, _, _, _, _, _, _, _, _], []⟩ _
              refine wpAnyH_done (by kernel_rfl) ?_ _
              go_wp2
              go_roundw
              case rel => exact ⟨k + 1, rs2, _, by omega, by omega, by go_num, P3.out, HKP.out.1, by rw [HKP.out.2]; exact HXX.out, S3.out, B3.out⟩
              case measure => simp [intOf]; omega
          · have hv2 : (r.v != s.v) = true := by rw [bne, hv]; rfl
            have hv3 : decide (r.v = s.v) = false := by simpa using hv
            clear q3
            have HNE : Hid (¬ (s.v = r.v ∧ s.m = r.m)) := hide (fun hh => by rw [hh.1] at hv; simp at hv)
            go_wp2_with fail
            go_quiet (fail)
            go_wp2_with fail
            have P2 := hide (PP.out.on (hdr.out nq)).drew
            have S2 := hide (SS.out.on (hdr.out nq)).drew
            have B2 := hide (belowOn' (BB.out.trans ((hdr.out nq).mono BB.out.size)))
            have R2 : Hid ((wr.drewN nq).drew.rangeAt b (o + k * 11) (scl r)) := hide (fun i v hi => HRG.out i v hi)
            clear PP SS BB HRG d0 dv da db dc dd de df dp dt s0 sv sa sb sc sd se sf sp st hdr
            refine wp_region_held_drew (S := fun w' => w'.rangeAt b (o + k * 11) (scl r)) (by kernel_rfl) R2.out (fun hHeld => ?_)
            clear R2
            generalize (wr.drewN nq).drew = u0 at *
            refine wpAnyH_take (i := 0) (v := .pointer (some ⟨h + 1, 0, none⟩)) rfl (by kernel_rfl) (by kernel_rfl) (by kernel_rfl) (fun _ _ _ h => h) (Or.inl ⟨by rfl, ?_⟩) hHeld ?_
            · intro W hW; (try dsimp only at hW); go_simp
            change wpAnyH _ _ _ _ _ _ _ ⟨#[.slice (some ⟨b, o, none⟩) n c, _, _, _, _, _, .pointer (some ⟨h + 1, 0, none⟩), _, _, _, _, .int .i64 (k : Int), _, _, _, _, _, _, _, _, _, _, _, _, _, _, _, _, _, _, _, _, _, _, _, _, _, _, _, _, _, _, _, _, _, _, _, _, _, _, _, _, _, _, _, _, _, _, _, _, _, _, _, _, _, _, _, _, _, _, _, _, _, _, _, _, _, _, _, _, _, _, _, _, _, _, _, _, _, _, _, _, _, _, _, _, _, _, _, _, _, .pointer (some ⟨h + 1, 0, none⟩), _, _, _, _, _, _, _, _, _, _, _, _, _, _, _, _, _, _, _, _, _, _, _, _, _, _, _, _, _, _, _, _, _, _, _, _, _, _, _, _, _, _, _, _, _, _, _, _, _, _, _, _, _], []⟩ _
            refine wpAnyH_take (i := 1) (v := .slice (some ⟨b, o, none⟩) n c) rfl (by kernel_rfl) (by kernel_rfl) (by kernel_rfl) (fun _ _ _ h => h) (Or.inl ⟨by rfl, ?_⟩) hHeld ?_
            · intro W hW; (try dsimp only at hW); go_simp
            change wpAnyH _ _ _ _ _ _ _ ⟨#[.slice (some ⟨b, o, none⟩) n c, _, _, _, _, _, .pointer (some ⟨h + 1, 0, none⟩), _, _, _, _, .int .i64 (k : Int), _, _, _, _, _, _, _, _, _, _, _, _, _, _, _, _, _, _, _, _, _, _, _, _, _, _, _, _, _, _, _, _, _, _, _, _, _, _, _, _, _, _, _, _, _, _, _, _, _, _, _, _, _, _, _, _, _, _, _, _, _, _, _, _, _, _, _, _, _, _, _, _, _, _, _, _, _, _, _, _, _, _, _, _, _, _, _, _, _, .pointer (some ⟨h + 1, 0, none⟩), .slice (some ⟨b, o, none⟩) n c, _, _, _, _, _, _, _, _, _, _, _, _, _, _, _, _, _, _, _, _, _, _, _, _, _, _, _, _, _, _, _, _, _, _, _, _, _, _, _, _, _, _, _, _, _, _, _, _, _, _, _, _], []⟩ _
            refine wpAnyH_take (i := 2) (v := .int .i64 (k : Int)) rfl (by kernel_rfl) (by kernel_rfl) (by kernel_rfl) (fun _ _ _ h => h) (Or.inl ⟨by rfl, ?_⟩) hHeld ?_
            · intro W hW; (try dsimp only at hW); go_simp
            change wpAnyH _ _ _ _ _ _ _ ⟨#[.slice (some ⟨b, o, none⟩) n c, _, _, _, _, _, .pointer (some ⟨h + 1, 0, none⟩), _, _, _, _, .int .i64 (k : Int), _, _, _, _, _, _, _, _, _, _, _, _, _, _, _, _, _, _, _, _, _, _, _, _, _, _, _, _, _, _, _, _, _, _, _, _, _, _, _, _, _, _, _, _, _, _, _, _, _, _, _, _, _, _, _, _, _, _, _, _, _, _, _, _, _, _, _, _, _, _, _, _, _, _, _, _, _, _, _, _, _, _, _, _, _, _, _, _, _, .pointer (some ⟨h + 1, 0, none⟩), .slice (some ⟨b, o, none⟩) n c, .int .i64 (k : Int), _, _, _, _, _, _, _, _, _, _, _, _, _, _, _, _, _, _, _, _, _, _, _, _, _, _, _, _, _, _, _, _, _, _, _, _, _, _, _, _, _, _, _, _, _, _, _, _, _, _, _], []⟩ _
            refine wpAnyH_take (i := 3) (v := .pointer (some ⟨b, o + k * 11, none⟩)) rfl (by kernel_rfl) (by kernel_rfl) (by kernel_rfl) (fun _ _ _ h => h) (Or.inl ⟨by rfl, ?_⟩) hHeld ?_
            · intro W hW; (try dsimp only at hW); go_simp
            change wpAnyH _ _ _ _ _ _ _ ⟨#[.slice (some ⟨b, o, none⟩) n c, _, _, _, _, _, .pointer (some ⟨h + 1, 0, none⟩), _, _, _, _, .int .i64 (k : Int), _, _, _, _, _, _, _, _, _, _, _, _, _, _, _, _, _, _, _, _, _, _, _, _, _, _, _, _, _, _, _, _, _, _, _, _, _, _, _, _, _, _, _, _, _, _, _, _, _, _, _, _, _, _, _, _, _, _, _, _, _, _, _, _, _, _, _, _, _, _, _, _, _, _, _, _, _, _, _, _, _, _, _, _, _, _, _, _, _, .pointer (some ⟨h + 1, 0, none⟩), .slice (some ⟨b, o, none⟩) n c, .int .i64 (k : Int), .pointer (some ⟨b, o + k * 11, none⟩), _, _, _, _, _, _, _, _, _, _, _, _, _, _, _, _, _, _, _, _, _, _, _, _, _, _, _, _, _, _, _, _, _, _, _, _, _, _, _, _, _, _, _, _, _, _, _, _, _, _], []⟩ _
            refine wpAnyH_take (i := 4) (v := .pointer (some ⟨b, o + k * 11 + 1, none⟩)) rfl (by kernel_rfl) (by kernel_rfl) (by kernel_rfl) (fun _ _ _ h => h) (Or.inl ⟨by rfl, ?_⟩) hHeld ?_
            · intro W hW; (try dsimp only at hW); go_simp
            change wpAnyH _ _ _ _ _ _ _ ⟨#[.slice (some ⟨b, o, none⟩) n c, _, _, _, _, _, .pointer (some ⟨h + 1, 0, none⟩), _, _, _, _, .int .i64 (k : Int), _, _, _, _, _, _, _, _, _, _, _, _, _, _, _, _, _, _, _, _, _, _, _, _, _, _, _, _, _, _, _, _, _, _, _, _, _, _, _, _, _, _, _, _, _, _, _, _, _, _, _, _, _, _, _, _, _, _, _, _, _, _, _, _, _, _, _, _, _, _, _, _, _, _, _, _, _, _, _, _, _, _, _, _, _, _, _, _, _, .pointer (some ⟨h + 1, 0, none⟩), .slice (some ⟨b, o, none⟩) n c, .int .i64 (k : Int), .pointer (some ⟨b, o + k * 11, none⟩), .pointer (some ⟨b, o + k * 11 + 1, none⟩), _, _, _, _, _, _, _, _, _, _, _, _, _, _, _, _, _, _, _, _, _, _, _, _, _, _, _, _, _, _, _, _, _, _, _, _, _, _, _, _, _, _, _, _, _, _, _, _, _], []⟩ _
            refine wpAnyH_take (i := 5) (v := .int .i64 r.v) rfl (by kernel_rfl) (by kernel_rfl) (by kernel_rfl) (fun _ _ _ h => h) (Or.inl ⟨by rfl, ?_⟩) hHeld ?_
            · intro W hW; (try dsimp only at hW); have hc := (stp_cells hW).2.1; clear hW; go_simp
            change wpAnyH _ _ _ _ _ _ _ ⟨#[.slice (some ⟨b, o, none⟩) n c, _, _, _, _, _, .pointer (some ⟨h + 1, 0, none⟩), _, _, _, _, .int .i64 (k : Int), _, _, _, _, _, _, _, _, _, _, _, _, _, _, _, _, _, _, _, _, _, _, _, _, _, _, _, _, _, _, _, _, _, _, _, _, _, _, _, _, _, _, _, _, _, _, _, _, _, _, _, _, _, _, _, _, _, _, _, _, _, _, _, _, _, _, _, _, _, _, _, _, _, _, _, _, _, _, _, _, _, _, _, _, _, _, _, _, _, .pointer (some ⟨h + 1, 0, none⟩), .slice (some ⟨b, o, none⟩) n c, .int .i64 (k : Int), .pointer (some ⟨b, o + k * 11, none⟩), .pointer (some ⟨b, o + k * 11 + 1, none⟩), .int .i64 r.v, _, _, _, _, _, _, _, _, _, _, _, _, _, _, _, _, _, _, _, _, _, _, _, _, _, _, _, _, _, _, _, _, _, _, _, _, _, _, _, _, _, _, _, _, _, _, _, _], []⟩ _
            refine wpAnyH_take (i := 6) (v := .slice (some ⟨b, o, none⟩) n c) rfl (by kernel_rfl) (by kernel_rfl) (by kernel_rfl) (fun _ _ _ h => h) (Or.inl ⟨by rfl, ?_⟩) hHeld ?_
            · intro W hW; (try dsimp only at hW); go_simp
            change wpAnyH _ _ _ _ _ _ _ ⟨#[.slice (some ⟨b, o, none⟩) n c, _, _, _, _, _, .pointer (some ⟨h + 1, 0, none⟩), _, _, _, _, .int .i64 (k : Int), _, _, _, _, _, _, _, _, _, _, _, _, _, _, _, _, _, _, _, _, _, _, _, _, _, _, _, _, _, _, _, _, _, _, _, _, _, _, _, _, _, _, _, _, _, _, _, _, _, _, _, _, _, _, _, _, _, _, _, _, _, _, _, _, _, _, _, _, _, _, _, _, _, _, _, _, _, _, _, _, _, _, _, _, _, _, _, _, _, .pointer (some ⟨h + 1, 0, none⟩), .slice (some ⟨b, o, none⟩) n c, .int .i64 (k : Int), .pointer (some ⟨b, o + k * 11, none⟩), .pointer (some ⟨b, o + k * 11 + 1, none⟩), .int .i64 r.v, .slice (some ⟨b, o, none⟩) n c, _, _, _, _, _, _, _, _, _, _, _, _, _, _, _, _, _, _, _, _, _, _, _, _, _, _, _, _, _, _, _, _, _, _, _, _, _, _, _, _, _, _, _, _, _, _, _], []⟩ _
            refine wpAnyH_take (i := 7) (v := .int .i64 (k : Int)) rfl (by kernel_rfl) (by kernel_rfl) (by kernel_rfl) (fun _ _ _ h => h) (Or.inl ⟨by rfl, ?_⟩) hHeld ?_
            · intro W hW; (try dsimp only at hW); go_simp
            change wpAnyH _ _ _ _ _ _ _ ⟨#[.slice (some ⟨b, o, none⟩) n c, _, _, _, _, _, .pointer (some ⟨h + 1, 0, none⟩), _, _, _, _, .int .i64 (k : Int), _, _, _, _, _, _, _, _, _, _, _, _, _, _, _, _, _, _, _, _, _, _, _, _, _, _, _, _, _, _, _, _, _, _, _, _, _, _, _, _, _, _, _, _, _, _, _, _, _, _, _, _, _, _, _, _, _, _, _, _, _, _, _, _, _, _, _, _, _, _, _, _, _, _, _, _, _, _, _, _, _, _, _, _, _, _, _, _, _, .pointer (some ⟨h + 1, 0, none⟩), .slice (some ⟨b, o, none⟩) n c, .int .i64 (k : Int), .pointer (some ⟨b, o + k * 11, none⟩), .pointer (some ⟨b, o + k * 11 + 1, none⟩), .int .i64 r.v, .slice (some ⟨b, o, none⟩) n c, .int .i64 (k : Int), _, _, _, _, _, _, _, _, _, _, _, _, _, _, _, _, _, _, _, _, _, _, _, _, _, _, _, _, _, _, _, _, _, _, _, _, _, _, _, _, _, _, _, _, _, _], []⟩ _
            refine wpAnyH_take (i := 8) (v := .pointer (some ⟨b, o + k * 11, none⟩)) rfl (by kernel_rfl) (by kernel_rfl) (by kernel_rfl) (fun _ _ _ h => h) (Or.inl ⟨by rfl, ?_⟩) hHeld ?_
            · intro W hW; (try dsimp only at hW); go_simp
            change wpAnyH _ _ _ _ _ _ _ ⟨#[.slice (some ⟨b, o, none⟩) n c, _, _, _, _, _, .pointer (some ⟨h + 1, 0, none⟩), _, _, _, _, .int .i64 (k : Int), _, _, _, _, _, _, _, _, _, _, _, _, _, _, _, _, _, _, _, _, _, _, _, _, _, _, _, _, _, _, _, _, _, _, _, _, _, _, _, _, _, _, _, _, _, _, _, _, _, _, _, _, _, _, _, _, _, _, _, _, _, _, _, _, _, _, _, _, _, _, _, _, _, _, _, _, _, _, _, _, _, _, _, _, _, _, _, _, _, .pointer (some ⟨h + 1, 0, none⟩), .slice (some ⟨b, o, none⟩) n c, .int .i64 (k : Int), .pointer (some ⟨b, o + k * 11, none⟩), .pointer (some ⟨b, o + k * 11 + 1, none⟩), .int .i64 r.v, .slice (some ⟨b, o, none⟩) n c, .int .i64 (k : Int), .pointer (some ⟨b, o + k * 11, none⟩), _, _, _, _, _, _, _, _, _, _, _, _, _, _, _, _, _, _, _, _, _, _, _, _, _, _, _, _, _, _, _, _, _, _, _, _, _, _, _, _, _, _, _, _, _], []⟩ _
            refine wpAnyH_take (i := 9) (v := .pointer (some ⟨b, o + k * 11 + 2, none⟩)) rfl (by kernel_rfl) (by kernel_rfl) (by kernel_rfl) (fun _ _ _ h => h) (Or.inl ⟨by rfl, ?_⟩) hHeld ?_
            · intro W hW; (try dsimp only at hW); go_simp
            change wpAnyH _ _ _ _ _ _ _ ⟨#[.slice (some ⟨b, o, none⟩) n c, _, _, _, _, _, .pointer (some ⟨h + 1, 0, none⟩), _, _, _, _, .int .i64 (k : Int), _, _, _, _, _, _, _, _, _, _, _, _, _, _, _, _, _, _, _, _, _, _, _, _, _, _, _, _, _, _, _, _, _, _, _, _, _, _, _, _, _, _, _, _, _, _, _, _, _, _, _, _, _, _, _, _, _, _, _, _, _, _, _, _, _, _, _, _, _, _, _, _, _, _, _, _, _, _, _, _, _, _, _, _, _, _, _, _, _, .pointer (some ⟨h + 1, 0, none⟩), .slice (some ⟨b, o, none⟩) n c, .int .i64 (k : Int), .pointer (some ⟨b, o + k * 11, none⟩), .pointer (some ⟨b, o + k * 11 + 1, none⟩), .int .i64 r.v, .slice (some ⟨b, o, none⟩) n c, .int .i64 (k : Int), .pointer (some ⟨b, o + k * 11, none⟩), .pointer (some ⟨b, o + k * 11 + 2, none⟩), _, _, _, _, _, _, _, _, _, _, _, _, _, _, _, _, _, _, _, _, _, _, _, _, _, _, _, _, _, _, _, _, _, _, _, _, _, _, _, _, _, _, _, _], []⟩ _
            refine wpAnyH_take (i := 10) (v := .agg (MC r.m)) rfl (by kernel_rfl) (by kernel_rfl) (by kernel_rfl) (fun _ _ _ h => h) (yieldsIf_load_mid (by rfl) 24 (.tmp 110) rfl b (o + k * 11 + 2) rfl ((mcl r.m)) _ (fun W hW => stp_mac hW) Try.underlying24 rfl Try.size24) hHeld ?_
            change wpAnyH _ _ _ _ _ _ _ ⟨#[.slice (some ⟨b, o, none⟩) n c, _, _, _, _, _, .pointer (some ⟨h + 1, 0, none⟩), _, _, _, _, .int .i64 (k : Int), _, _, _, _, _, _, _, _, _, _, _, _, _, _, _, _, _, _, _, _, _, _, _, _, _, _, _, _, _, _, _, _, _, _, _, _, _, _, _, _, _, _, _, _, _, _, _, _, _, _, _, _, _, _, _, _, _, _, _, _, _, _, _, _, _, _, _, _, _, _, _, _, _, _, _, _, _, _, _, _, _, _, _, _, _, _, _, _, _, .pointer (some ⟨h + 1, 0, none⟩), .slice (some ⟨b, o, none⟩) n c, .int .i64 (k : Int), .pointer (some ⟨b, o + k * 11, none⟩), .pointer (some ⟨b, o + k * 11 + 1, none⟩), .int .i64 r.v, .slice (some ⟨b, o, none⟩) n c, .int .i64 (k : Int), .pointer (some ⟨b, o + k * 11, none⟩), .pointer (some ⟨b, o + k * 11 + 2, none⟩), .agg (MC r.m), _, _, _, _, _, _, _, _, _, _, _, _, _, _, _, _, _, _, _, _, _, _, _, _, _, _, _, _, _, _, _, _, _, _, _, _, _, _, _, _, _, _, _], []⟩ _
            refine wpAnyH_take (i := 11) (v := .slice (some ⟨b, o, none⟩) n c) rfl (by kernel_rfl) (by kernel_rfl) (by kernel_rfl) (fun _ _ _ h => h) (Or.inl ⟨by rfl, ?_⟩) hHeld ?_
            · intro W hW; (try dsimp only at hW); go_simp
            change wpAnyH _ _ _ _ _ _ _ ⟨#[.slice (some ⟨b, o, none⟩) n c, _, _, _, _, _, .pointer (some ⟨h + 1, 0, none⟩), _, _, _, _, .int .i64 (k : Int), _, _, _, _, _, _, _, _, _, _, _, _, _, _, _, _, _, _, _, _, _, _, _, _, _, _, _, _, _, _, _, _, _, _, _, _, _, _, _, _, _, _, _, _, _, _, _, _, _, _, _, _, _, _, _, _, _, _, _, _, _, _, _, _, _, _, _, _, _, _, _, _, _, _, _, _, _, _, _, _, _, _, _, _, _, _, _, _, _, .pointer (some ⟨h + 1, 0, none⟩), .slice (some ⟨b, o, none⟩) n c, .int .i64 (k : Int), .pointer (some ⟨b, o + k * 11, none⟩), .pointer (some ⟨b, o + k * 11 + 1, none⟩), .int .i64 r.v, .slice (some ⟨b, o, none⟩) n c, .int .i64 (k : Int), .pointer (some ⟨b, o + k * 11, none⟩), .pointer (some ⟨b, o + k * 11 + 2, none⟩), .agg (MC r.m), .slice (some ⟨b, o, none⟩) n c, _, _, _, _, _, _, _, _, _, _, _, _, _, _, _, _, _, _, _, _, _, _, _, _, _, _, _, _, _, _, _, _, _, _, _, _, _, _, _, _, _, _], []⟩ _
            refine wpAnyH_take (i := 12) (v := .int .i64 (k : Int)) rfl (by kernel_rfl) (by kernel_rfl) (by kernel_rfl) (fun _ _ _ h => h) (Or.inl ⟨by rfl, ?_⟩) hHeld ?_
            · intro W hW; (try dsimp only at hW); go_simp
            change wpAnyH _ _ _ _ _ _ _ ⟨#[.slice (some ⟨b, o, none⟩) n c, _, _, _, _, _, .pointer (some ⟨h + 1, 0, none⟩), _, _, _, _, .int .i64 (k : Int), _, _, _, _, _, _, _, _, _, _, _, _, _, _, _, _, _, _, _, _, _, _, _, _, _, _, _, _, _, _, _, _, _, _, _, _, _, _, _, _, _, _, _, _, _, _, _, _, _, _, _, _, _, _, _, _, _, _, _, _, _, _, _, _, _, _, _, _, _, _, _, _, _, _, _, _, _, _, _, _, _, _, _, _, _, _, _, _, _, .pointer (some ⟨h + 1, 0, none⟩), .slice (some ⟨b, o, none⟩) n c, .int .i64 (k : Int), .pointer (some ⟨b, o + k * 11, none⟩), .pointer (some ⟨b, o + k * 11 + 1, none⟩), .int .i64 r.v, .slice (some ⟨b, o, none⟩) n c, .int .i64 (k : Int), .pointer (some ⟨b, o + k * 11, none⟩), .pointer (some ⟨b, o + k * 11 + 2, none⟩), .agg (MC r.m), .slice (some ⟨b, o, none⟩) n c, .int .i64 (k : Int), _, _, _, _, _, _, _, _, _, _, _, _, _, _, _, _, _, _, _, _, _, _, _, _, _, _, _, _, _, _, _, _, _, _, _, _, _, _, _, _, _], []⟩ _
            refine wpAnyH_take (i := 13) (v := .pointer (some ⟨b, o + k * 11, none⟩)) rfl (by kernel_rfl) (by kernel_rfl) (by kernel_rfl) (fun _ _ _ h => h) (Or.inl ⟨by rfl, ?_⟩) hHeld ?_
            · intro W hW; (try dsimp only at hW); go_simp
            change wpAnyH _ _ _ _ _ _ _ ⟨#[.slice (some ⟨b, o, none⟩) n c, _, _, _, _, _, .pointer (some ⟨h + 1, 0, none⟩), _, _, _, _, .int .i64 (k : Int), _, _, _, _, _, _, _, _, _, _, _, _, _, _, _, _, _, _, _, _, _, _, _, _, _, _, _, _, _, _, _, _, _, _, _, _, _, _, _, _, _, _, _, _, _, _, _, _, _, _, _, _, _, _, _, _, _, _, _, _, _, _, _, _, _, _, _, _, _, _, _, _, _, _, _, _, _, _, _, _, _, _, _, _, _, _, _, _, _, .pointer (some ⟨h + 1, 0, none⟩), .slice (some ⟨b, o, none⟩) n c, .int .i64 (k : Int), .pointer (some ⟨b, o + k * 11, none⟩), .pointer (some ⟨b, o + k * 11 + 1, none⟩), .int .i64 r.v, .slice (some ⟨b, o, none⟩) n c, .int .i64 (k : Int), .pointer (some ⟨b, o + k * 11, none⟩), .pointer (some ⟨b, o + k * 11 + 2, none⟩), .agg (MC r.m), .slice (some ⟨b, o, none⟩) n c, .int .i64 (k : Int), .pointer (some ⟨b, o + k * 11, none⟩), _, _, _, _, _, _, _, _, _, _, _, _, _, _, _, _, _, _, _, _, _, _, _, _, _, _, _, _, _, _, _, _, _, _, _, _, _, _, _, _], []⟩ _
            refine wpAnyH_take (i := 14) (v := .pointer (some ⟨b, o + k * 11 + 8, none⟩)) rfl (by kernel_rfl) (by kernel_rfl) (by kernel_rfl) (fun _ _ _ h => h) (Or.inl ⟨by rfl, ?_⟩) hHeld ?_
            · intro W hW; (try dsimp only at hW); go_simp
            change wpAnyH _ _ _ _ _ _ _ ⟨#[.slice (some ⟨b, o, none⟩) n c, _, _, _, _, _, .pointer (some ⟨h + 1, 0, none⟩), _, _, _, _, .int .i64 (k : Int), _, _, _, _, _, _, _, _, _, _, _, _, _, _, _, _, _, _, _, _, _, _, _, _, _, _, _, _, _, _, _, _, _, _, _, _, _, _, _, _, _, _, _, _, _, _, _, _, _, _, _, _, _, _, _, _, _, _, _, _, _, _, _, _, _, _, _, _, _, _, _, _, _, _, _, _, _, _, _, _, _, _, _, _, _, _, _, _, _, .pointer (some ⟨h + 1, 0, none⟩), .slice (some ⟨b, o, none⟩) n c, .int .i64 (k : Int), .pointer (some ⟨b, o + k * 11, none⟩), .pointer (some ⟨b, o + k * 11 + 1, none⟩), .int .i64 r.v, .slice (some ⟨b, o, none⟩) n c, .int .i64 (k : Int), .pointer (some ⟨b, o + k * 11, none⟩), .pointer (some ⟨b, o + k * 11 + 2, none⟩), .agg (MC r.m), .slice (some ⟨b, o, none⟩) n c, .int .i64 (k : Int), .pointer (some ⟨b, o + k * 11, none⟩), .pointer (some ⟨b, o + k * 11 + 8, none⟩), _, _, _, _, _, _, _, _, _, _, _, _, _, _, _, _, _, _, _, _, _, _, _, _, _, _, _, _, _, _, _, _, _, _, _, _, _, _, _], []⟩ _
            refine wpAnyH_take (i := 15) (v := .int .i64 r.p) rfl (by kernel_rfl) (by kernel_rfl) (by kernel_rfl) (fun _ _ _ h => h) (Or.inl ⟨by rfl, ?_⟩) hHeld ?_
            · intro W hW; (try dsimp only at hW); have hc := (stp_cells hW).2.2.2.2.2.2.2.2.1; clear hW; go_simp
            change wpAnyH _ _ _ _ _ _ _ ⟨#[.slice (some ⟨b, o, none⟩) n c, _, _, _, _, _, .pointer (some ⟨h + 1, 0, none⟩), _, _, _, _, .int .i64 (k : Int), _, _, _, _, _, _, _, _, _, _, _, _, _, _, _, _, _, _, _, _, _, _, _, _, _, _, _, _, _, _, _, _, _, _, _, _, _, _, _, _, _, _, _, _, _, _, _, _, _, _, _, _, _, _, _, _, _, _, _, _, _, _, _, _, _, _, _, _, _, _, _, _, _, _, _, _, _, _, _, _, _, _, _, _, _, _, _, _, _, .pointer (some ⟨h + 1, 0, none⟩), .slice (some ⟨b, o, none⟩) n c, .int .i64 (k : Int), .pointer (some ⟨b, o + k * 11, none⟩), .pointer (some ⟨b, o + k * 11 + 1, none⟩), .int .i64 r.v, .slice (some ⟨b, o, none⟩) n c, .int .i64 (k : Int), .pointer (some ⟨b, o + k * 11, none⟩), .pointer (some ⟨b, o + k * 11 + 2, none⟩), .agg (MC r.m), .slice (some ⟨b, o, none⟩) n c, .int .i64 (k : Int), .pointer (some ⟨b, o + k * 11, none⟩), .pointer (some ⟨b, o + k * 11 + 8, none⟩), .int .i64 r.p, _, _, _, _, _, _, _, _, _, _, _, _, _, _, _, _, _, _, _, _, _, _, _, _, _, _, _, _, _, _, _, _, _, _, _, _, _, _], []⟩ _
            refine wpAnyH_take (i := 16) (v := .slice (some ⟨b, o, none⟩) n c) rfl (by kernel_rfl) (by kernel_rfl) (by kernel_rfl) (fun _ _ _ h => h) (Or.inl ⟨by rfl, ?_⟩) hHeld ?_
            · intro W hW; (try dsimp only at hW); go_simp
            change wpAnyH _ _ _ _ _ _ _ ⟨#[.slice (some ⟨b, o, none⟩) n c, _, _, _, _, _, .pointer (some ⟨h + 1, 0, none⟩), _, _, _, _, .int .i64 (k : Int), _, _, _, _, _, _, _, _, _, _, _, _, _, _, _, _, _, _, _, _, _, _, _, _, _, _, _, _, _, _, _, _, _, _, _, _, _, _, _, _, _, _, _, _, _, _, _, _, _, _, _, _, _, _, _, _, _, _, _, _, _, _, _, _, _, _, _, _, _, _, _, _, _, _, _, _, _, _, _, _, _, _, _, _, _, _, _, _, _, .pointer (some ⟨h + 1, 0, none⟩), .slice (some ⟨b, o, none⟩) n c, .int .i64 (k : Int), .pointer (some ⟨b, o + k * 11, none⟩), .pointer (some ⟨b, o + k * 11 + 1, none⟩), .int .i64 r.v, .slice (some ⟨b, o, none⟩) n c, .int .i64 (k : Int), .pointer (some ⟨b, o + k * 11, none⟩), .pointer (some ⟨b, o + k * 11 + 2, none⟩), .agg (MC r.m), .slice (some ⟨b, o, none⟩) n c, .int .i64 (k : Int), .pointer (some ⟨b, o + k * 11, none⟩), .pointer (some ⟨b, o + k * 11 + 8, none⟩), .int .i64 r.p, .slice (some ⟨b, o, none⟩) n c, _, _, _, _, _, _, _, _, _, _, _, _, _, _, _, _, _, _, _, _, _, _, _, _, _, _, _, _, _, _, _, _, _, _, _, _, _], []⟩ _
            refine wpAnyH_take (i := 17) (v := .int .i64 (k : Int)) rfl (by kernel_rfl) (by kernel_rfl) (by kernel_rfl) (fun _ _ _ h => h) (Or.inl ⟨by rfl, ?_⟩) hHeld ?_
            · intro W hW; (try dsimp only at hW); go_simp
            change wpAnyH _ _ _ _ _ _ _ ⟨#[.slice (some ⟨b, o, none⟩) n c, _, _, _, _, _, .pointer (some ⟨h + 1, 0, none⟩), _, _, _, _, .int .i64 (k : Int), _, _, _, _, _, _, _, _, _, _, _, _, _, _, _, _, _, _, _, _, _, _, _, _, _, _, _, _, _, _, _, _, _, _, _, _, _, _, _, _, _, _, _, _, _, _, _, _, _, _, _, _, _, _, _, _, _, _, _, _, _, _, _, _, _, _, _, _, _, _, _, _, _, _, _, _, _, _, _, _, _, _, _, _, _, _, _, _, _, .pointer (some ⟨h + 1, 0, none⟩), .slice (some ⟨b, o, none⟩) n c, .int .i64 (k : Int), .pointer (some ⟨b, o + k * 11, none⟩), .pointer (some ⟨b, o + k * 11 + 1, none⟩), .int .i64 r.v, .slice (some ⟨b, o, none⟩) n c, .int .i64 (k : Int), .pointer (some ⟨b, o + k * 11, none⟩), .pointer (some ⟨b, o + k * 11 + 2, none⟩), .agg (MC r.m), .slice (some ⟨b, o, none⟩) n c, .int .i64 (k : Int), .pointer (some ⟨b, o + k * 11, none⟩), .pointer (some ⟨b, o + k * 11 + 8, none⟩), .int .i64 r.p, .slice (some ⟨b, o, none⟩) n c, .int .i64 (k : Int), _, _, _, _, _, _, _, _, _, _, _, _, _, _, _, _, _, _, _, _, _, _, _, _, _, _, _, _, _, _, _, _, _, _, _, _], []⟩ _
            refine wpAnyH_take (i := 18) (v := .pointer (some ⟨b, o + k * 11, none⟩)) rfl (by kernel_rfl) (by kernel_rfl) (by kernel_rfl) (fun _ _ _ h => h) (Or.inl ⟨by rfl, ?_⟩) hHeld ?_
            · intro W hW; (try dsimp only at hW); go_simp
            change wpAnyH _ _ _ _ _ _ _ ⟨#[.slice (some ⟨b, o, none⟩) n c, _, _, _, _, _, .pointer (some ⟨h + 1, 0, none⟩), _, _, _, _, .int .i64 (k : Int), _, _, _, _, _, _, _, _, _, _, _, _, _, _, _, _, _, _, _, _, _, _, _, _, _, _, _, _, _, _, _, _, _, _, _, _, _, _, _, _, _, _, _, _, _, _, _, _, _, _, _, _, _, _, _, _, _, _, _, _, _, _, _, _, _, _, _, _, _, _, _, _, _, _, _, _, _, _, _, _, _, _, _, _, _, _, _, _, _, .pointer (some ⟨h + 1, 0, none⟩), .slice (some ⟨b, o, none⟩) n c, .int .i64 (k : Int), .pointer (some ⟨b, o + k * 11, none⟩), .pointer (some ⟨b, o + k * 11 + 1, none⟩), .int .i64 r.v, .slice (some ⟨b, o, none⟩) n c, .int .i64 (k : Int), .pointer (some ⟨b, o + k * 11, none⟩), .pointer (some ⟨b, o + k * 11 + 2, none⟩), .agg (MC r.m), .slice (some ⟨b, o, none⟩) n c, .int .i64 (k : Int), .pointer (some ⟨b, o + k * 11, none⟩), .pointer (some ⟨b, o + k * 11 + 8, none⟩), .int .i64 r.p, .slice (some ⟨b, o, none⟩) n c, .int .i64 (k : Int), .pointer (some ⟨b, o + k * 11, none⟩), _, _, _, _, _, _, _, _, _, _, _, _, _, _, _, _, _, _, _, _, _, _, _, _, _, _, _, _, _, _, _, _, _, _, _], []⟩ _
            refine wpAnyH_take (i := 19) (v := .pointer (some ⟨b, o + k * 11 + 9, none⟩)) rfl (by kernel_rfl) (by kernel_rfl) (by kernel_rfl) (fun _ _ _ h => h) (Or.inl ⟨by rfl, ?_⟩) hHeld ?_
            · intro W hW; (try dsimp only at hW); go_simp
            change wpAnyH _ _ _ _ _ _ _ ⟨#[.slice (some ⟨b, o, none⟩) n c, _, _, _, _, _, .pointer (some ⟨h + 1, 0, none⟩), _, _, _, _, .int .i64 (k : Int), _, _, _, _, _, _, _, _, _, _, _, _, _, _, _, _, _, _, _, _, _, _, _, _, _, _, _, _, _, _, _, _, _, _, _, _, _, _, _, _, _, _, _, _, _, _, _, _, _, _, _, _, _, _, _, _, _, _, _, _, _, _, _, _, _, _, _, _, _, _, _, _, _, _, _, _, _, _, _, _, _, _, _, _, _, _, _, _, _, .pointer (some ⟨h + 1, 0, none⟩), .slice (some ⟨b, o, none⟩) n c, .int .i64 (k : Int), .pointer (some ⟨b, o + k * 11, none⟩), .pointer (some ⟨b, o + k * 11 + 1, none⟩), .int .i64 r.v, .slice (some ⟨b, o, none⟩) n c, .int .i64 (k : Int), .pointer (some ⟨b, o + k * 11, none⟩), .pointer (some ⟨b, o + k * 11 + 2, none⟩), .agg (MC r.m), .slice (some ⟨b, o, none⟩) n c, .int .i64 (k : Int), .pointer (some ⟨b, o + k * 11, none⟩), .pointer (some ⟨b, o + k * 11 + 8, none⟩), .int .i64 r.p, .slice (some ⟨b, o, none⟩) n c, .int .i64 (k : Int), .pointer (some ⟨b, o + k * 11, none⟩), .pointer (some ⟨b, o + k * 11 + 9, none⟩), _, _, _, _, _, _, _, _, _, _, _, _, _, _, _, _, _, _, _, _, _, _, _, _, _, _, _, _, _, _, _, _, _, _], []⟩ _
            refine wpAnyH_take (i := 20) (v := .int .i64 r.t) rfl (by kernel_rfl) (by kernel_rfl) (by kernel_rfl) (fun _ _ _ h => h) (Or.inl ⟨by rfl, ?_⟩) hHeld ?_
            · intro W hW; (try dsimp only at hW); have hc := (stp_cells hW).2.2.2.2.2.2.2.2.2; clear hW; go_simp
            change wpAnyH _ _ _ _ _ _ _ ⟨#[.slice (some ⟨b, o, none⟩) n c, _, _, _, _, _, .pointer (some ⟨h + 1, 0, none⟩), _, _, _, _, .int .i64 (k : Int), _, _, _, _, _, _, _, _, _, _, _, _, _, _, _, _, _, _, _, _, _, _, _, _, _, _, _, _, _, _, _, _, _, _, _, _, _, _, _, _, _, _, _, _, _, _, _, _, _, _, _, _, _, _, _, _, _, _, _, _, _, _, _, _, _, _, _, _, _, _, _, _, _, _, _, _, _, _, _, _, _, _, _, _, _, _, _, _, _, .pointer (some ⟨h + 1, 0, none⟩), .slice (some ⟨b, o, none⟩) n c, .int .i64 (k : Int), .pointer (some ⟨b, o + k * 11, none⟩), .pointer (some ⟨b, o + k * 11 + 1, none⟩), .int .i64 r.v, .slice (some ⟨b, o, none⟩) n c, .int .i64 (k : Int), .pointer (some ⟨b, o + k * 11, none⟩), .pointer (some ⟨b, o + k * 11 + 2, none⟩), .agg (MC r.m), .slice (some ⟨b, o, none⟩) n c, .int .i64 (k : Int), .pointer (some ⟨b, o + k * 11, none⟩), .pointer (some ⟨b, o + k * 11 + 8, none⟩), .int .i64 r.p, .slice (some ⟨b, o, none⟩) n c, .int .i64 (k : Int), .pointer (some ⟨b, o + k * 11, none⟩), .pointer (some ⟨b, o + k * 11 + 9, none⟩), .int .i64 r.t, _, _, _, _, _, _, _, _, _, _, _, _, _, _, _, _, _, _, _, _, _, _, _, _, _, _, _, _, _, _, _, _, _], []⟩ _
            refine wpAnyH_ready (rs := [21]) (by kernel_rfl) (by simp) ?_
            refine AllReadyH.cons rfl (fun K hK => ?_) AllReadyH.nil
            go_simp
            refine (learn16 h rs U r.v r.m r.p r.t _ HMR.out P2.out).mono ?_
            rintro e u1 ⟨rfl, ⟨rs2, Q⟩, M⟩
            have hkp := last_keep P2.out.wf HM.out HMR.out Q.wf HNE.out H0.out
            have S3 := hide (S2.out.low M hb1.out)
            have HKP := hide hkp
            have B3 := hide (mid_on B2.out M hw1.out P2.out.size)
            have P3 := hide Q
            have R3 : u1.rangeAt b (o + k * 11) (scl r) := fun i v hi => ((M.below P2.out.size).cell (p := ⟨b, o + k * 11 + i, none⟩) (Nat.lt_of_lt_of_le HB.out hw1.out)).trans (hHeld i v hi)
            clear hkp Q M P2 S2 B2
            refine hK.out _ _ R3 (fun hHeld => ?_)
            clear hK K R3 hHeld
            change wpAnyH _ _ _ _ _ _ _ ⟨#[.slice (some ⟨b, o, none⟩) n c, _, _, _, _, _, .pointer (some ⟨h + 1, 0, none⟩), _, _, _, _, .int .i64 (k : Int), _, _, _, _, _, _, _, _, _, _, _, _, _, _, _, _, _, _, _, _, _, _, _, _, _, _, _, _, _, _, _, _, _, _, _, _, _, _, _, _, _, _, _, _, _, _, _, _, _, _, _, _, _, _, _, _, _, _, _, _, _, _, _, _, _, _, _, _, _, _, _, _, _, _, _, _, _, _, _, _, _, _, _, _, _, _, _, _, _, .pointer (some ⟨h + 1, 0, none⟩), .slice (some ⟨b, o, none⟩) n c, .int .i64 (k : Int), .pointer (some ⟨b, o + k * 11, none⟩), .pointer (some ⟨b, o + k * 11 + 1, none⟩), .int .i64 r.v, .slice (some ⟨b, o, none⟩) n c, .int .i64 (k : Int), .pointer (some ⟨b, o + k * 11, none⟩), .pointer (some ⟨b, o + k * 11 + 2, none⟩), .agg (MC r.m), .slice (some ⟨b, o, none⟩) n c, .int .i64 (k : Int), .pointer (some ⟨b, o + k * 11, none⟩), .pointer (some ⟨b, o + k * 11 + 8, none⟩), .int .i64 r.p, .slice (some ⟨b, o, none⟩) n c, .int .i64 (k : Int), .pointer (some ⟨b, o + k * 11, none⟩), .pointer (some ⟨b, o + k * 11 + 9, none⟩), .int .i64 r.t, _, _, _, _, _, _, _, _, _, _, _, _, _, _, _, _, _, _, _, _, _, _, _, _, _, _, _, _, _, _, _, _, _], []⟩ _
            refine wpAnyH_done (by kernel_rfl) ?_ _
            go_wp2
            go_roundw
            case rel => exact ⟨k + 1, rs2, _, by omega, by omega, by go_num, P3.out, HKP.out.1, by rw [HKP.out.2]; exact HXX.out, S3.out, B3.out⟩
            case measure => simp [intOf]; omega
        · clear q3
          go_wp2_with fail
          go_quiet (fail)
          go_wp2
          go_roundw
          case rel => exact ⟨k + 1, rs, U, by omega, by omega, by go_num, PP.out.on (hdr.out _), H0.out, HXX.out, SS.out.on (hdr.out _), BB.out.trans ((hdr.out _).mono BB.out.size)⟩
          case measure => simp [intOf]; omega
      · have hcc : ¬ ((k : Int) < n) ∨ (k : Int) < n ∧ ¬ ((k : Int) < 60) := by omega
        clear hc
        have A := stp_mac SS.out.at_
        have c1 := SS.out.cell 1 _ rfl
        have c8 := SS.out.cell 8 _ rfl
        have c9 := SS.out.cell 9 _ rfl
        rcases hcc with hcc | ⟨hcc, hcd⟩
        · go_wp2_with (first | (have _t := tk2; refine wpl_mac (.tmp 127) rfl A ?_ ?_ ?_; rfl; rfl; clear tk2))
          refine (look11 h rs U s.v s.m _ HM.out PP.out).mono ?_
          rintro e w5 ⟨rfl, C⟩
          rw [H0.out, HXX.out]
          clear A c1 c8 c9
          replace PP := hide (PP.out.on C)
          replace SS := hide (SS.out.on C)
          replace BB := hide (BB.out.trans (C.mono BB.out.size))
          clear C
          have N0 := hide (box_e w5 zE)
          go_wp2_with (first | (have _t := tk3; refine wpl_putE X zE (.tmp 12) (.tmp 130) rfl N0.out ?_ rfl rfl ?_; rfl; clear tk3))
          intro w6 N g0
          have C := stored g0
          clear N0 g0
          replace SS := hide (SS.out.on C)
          replace BB := hide (BB.out.trans (C.mono BB.out.size))
          clear C PP
          have c8 := SS.out.cell 8 _ rfl
          have c9 := SS.out.cell 9 _ rfl
          have d7 := N.cell 7 _ rfl
          have d8 := N.cell 8 _ rfl
          have d9 := N.cell 9 _ rfl
          clear N
          rcases HX.out with ⟨x1, x2⟩ | ⟨x1, x2, x3⟩
          · rw [x1] at d9
            subst x2
            clear x1
            go_wp2
            go_ret
            exact ⟨rfl, BB.out⟩
          · rw [x1] at d9
            rw [x2] at d7
            rw [x3] at d8
            clear x1 x2 x3
            go_wp2
            go_ret
            exact ⟨rfl, BB.out⟩
        · go_wp2_with (first | (have _t := tk2; refine wpl_mac (.tmp 127) rfl A ?_ ?_ ?_; rfl; rfl; clear tk2))
          refine (look11 h rs U s.v s.m _ HM.out PP.out).mono ?_
          rintro e w5 ⟨rfl, C⟩
          rw [H0.out, HXX.out]
          clear A c1 c8 c9
          replace PP := hide (PP.out.on C)
          replace SS := hide (SS.out.on C)
          replace BB := hide (BB.out.trans (C.mono BB.out.size))
          clear C
          have N0 := hide (box_e w5 zE)
          go_wp2_with (first | (have _t := tk3; refine wpl_putE X zE (.tmp 12) (.tmp 130) rfl N0.out ?_ rfl rfl ?_; rfl; clear tk3))
          intro w6 N g0
          have C := stored g0
          clear N0 g0
          replace SS := hide (SS.out.on C)
          replace BB := hide (BB.out.trans (C.mono BB.out.size))
          clear C PP
          have c8 := SS.out.cell 8 _ rfl
          have c9 := SS.out.cell 9 _ rfl
          have d7 := N.cell 7 _ rfl
          have d8 := N.cell 8 _ rfl
          have d9 := N.cell 9 _ rfl
          clear N
          rcases HX.out with ⟨x1, x2⟩ | ⟨x1, x2, x3⟩
          · rw [x1] at d9
            subst x2
            clear x1
            go_wp2
            go_ret
            exact ⟨rfl, BB.out⟩
          · rw [x1] at d9
            rw [x2] at d7
            rw [x3] at d8
            clear x1 x2 x3
            go_wp2
            go_ret
            exact ⟨rfl, BB.out⟩
  · obtain ⟨k0, e0⟩ := last_no HWT.out he
    have ql := len15 h ps1 _ w3 PP.out
    rcases e0 with e0 | ⟨e0, e1⟩
    · rw [k0, e0]
      clear ql he e0 k0
      go_wp2
      go_ret
      exact ⟨rfl, BB.out⟩
    · rw [e1, TN.out] at ql
      rw [k0, e0]
      clear he e0 k0 e1
      go_wp2_with (go_at_call 15; refine ql.mono ?_; rintro e w9 ⟨rfl, rfl⟩)
      go_ret
      exact ⟨rfl, BB.out⟩
end
set_option maxRecDepth 100000 in
set_option maxHeartbeats 2000000 in
theorem fdbLastlifted (os : Os) (started : os.Started) (H : Type) (enc : TypeId × Value → H) :
    ReturnsInHanded {} Try.checked os 4 .any (Rows.fdbLastSpec.pre6 enc Try.prog Try.f4 Rows.fdbLastRow.domain false) (Rows.fdbLastSpec.post enc Try.prog Try.f4 false true false false) := by
  refine returnsInHanded_of_change (C := Try.checked) own started (by kernel_rfl) Try.func4
    (ChangeSpec.witness6 (enc := enc) (C := Try.checked) false ⟨#[], #[.slice none 0 0, .agg #[.int .i64 0, .int .i64 0, .int .u8 0, .int .u8 0, .int .u8 0, .int .u8 0, .int .u8 0, .int .u8 0, .int .i64 0, .int .i64 0, .int .i64 0]], []⟩ 8 (by kernel_rfl) (by kernel_rfl) (by kernel_rfl) (by kernel_rfl)) ?_
  intro W base args ds gs before hval0 hW _ _
  have hval : ∀ (j : Nat) t v, Try.f4.params[j]? = some t → args[j]? = some v → Value.okWide Try.prog W .any base t v := hval0
  have hW' := hW
  obtain ⟨p, q, hA0, hV, rfl, _, _⟩ := hW
  have hA : DataW.TrodAll enc Try.prog W 0 (fun _ => true) true Try.f4.params.toList args.toList ds p := hA0
  rw [Try.params4] at hA hval
  obtain ⟨v0, vs0, d0, ds0, p0, q0, hargs, rfl, rfl, h0, r0⟩ := trodAll_cons hA
  obtain ⟨v1, vs1, d1, ds1, p1, q1, rfl, rfl, rfl, h1, r1⟩ := trodAll_cons r0
  obtain ⟨rfl, rfl, rfl⟩ := trodAll_nil r1
  obtain rfl : args = #[v0, v1] := by cases args; simp_all
  obtain ⟨rfl, rfl⟩ := trodVars_none hV
  have h0k := h0
  obtain ⟨ao0, n0, c0, ss0, rfl, hs0⟩ := open_steps (hval 0 22 v0 rfl rfl) h0
  have h1k := h1
  obtain ⟨s1, rfl, hs1⟩ := open_step (hval 1 26 v1 rfl rfl) h1
  clear hA0 hval0
  simp only [List.append_nil] at hW'
  have hlt : ∀ x ∈ p0 ++ p1, x.block < W.heap.size := fun x hx => by simpa using hW'.lt x (by simpa using hx)
  refine (lastWalk ao0 n0 c0 ss0 s1 W hs0 hs1).mono fun e W' ⟨he, hbl⟩ => ?_
  subst he
  exact ⟨_, rfl, _, _, _, [], _, [], hW', (trodAll_cons_mk (shut_bool Try.underlying4 _) trodAll_mk0), (trodAll_cons_mk (Below.trod Try.laidOut (by kernel_rfl) (of_decide_eq_true (by kernel_rfl)) h0k hbl (fun x hx => hlt x (by simp [hx]))) (trodAll_cons_mk (Below.trod Try.laidOut (by kernel_rfl) (of_decide_eq_true (by kernel_rfl)) h1k hbl (fun x hx => hlt x (by simp [hx]))) trodAll_mk0)), rfl, hbl.frame _, fun h => by cases h⟩

theorem fdbLast_holds : Rows.FdbLastSaid :=
  OpenClaim.holds_of_wide 4 Try.f4 rfl rfl rfl rfl rfl rfl rfl ⟨rfl, rfl, rfl, rfl, rfl⟩ rfl rfl rfl rfl rfl (by kernel_rfl) Try.func4 (by kernel_rfl)
    (of_decide_eq_true (by kernel_rfl)) (by unfold Func.isWrapper; first | (rw [if_pos (by decide +kernel)]; kernel_rfl) | (rw [if_neg (by decide +kernel)]; exact ⟨rfl, rfl⟩))
    (fun os started H enc _ => fdbLastlifted os started H enc)

#print axioms fdbLast_holds
end Go.Proofs.Ytbpkdkniiggcpaa
