/- FdbForgets, the steps of kind 5: the walk. -/
import Derived.Test.YtbpkdkniiggcpaaF2
import Derived.Test.YtbpkdkniiggcpaaF3
import Derived.Test.YtbpkdkniiggcpaaF6
namespace Go.Proofs.Ytbpkdkniiggcpaa
open Go.RowKit Go.PlainAid

section
attribute [local go_sem] SC0 SC1 SC8 SC9 SC10 SC_size ZE
set_option maxRecDepth 100000 in
set_option maxHeartbeats 8000000 in
theorem forgetsWalk5 (ao : Option Addr) (n c : Nat) (ss : List St) (s : St) (w : World) (hS : Sts w w.heap.size ao n c ss) (hm : Mok s.m) (hd : s.d = 5) :
    Calls Try.prog 6 #[.slice ao n c, .agg (SC s)] w fun e w' => e = .returned (.bool true) ∧ Below w.heap.size w w' := by
  have HD := hide hd
  clear hd
  have B0 := below_alloc w (.cells (SC s) 26)
  have S0 := box_s w s
  have HM := hide hm
  have HS := hide (hS.below B0)
  clear hS hm
  go_enter Try.func6, Try.ntmps6
  go_wp2_with fail
  refine (awake9 _).mono ?_
  rintro e w1 ⟨rfl, C1⟩
  have B1 := belowOn B0 C1
  have S1 := S0.on C1
  have lS := S1.lt
  have HS1 : Hid (Sts w1 w1.heap.size ao n c ss) := hide ((HS.out.below (C1.mono (by simp))).up (by have := B1.size; omega))
  clear B0 C1 S0 HS
  go_wp2_with fail
  refine (made10 8 ao n c ss _ (by omega) (by omega) HS1.out).mono ?_
  rintro e w2 ⟨h, g, ps, lv, T, rfl, M⟩
  have hw1 : Hid (w.heap.size ≤ h) := hide (Nat.le_trans B1.size M.hw)
  have hb1 : Hid (w.heap.size < h) := hide (Nat.lt_of_lt_of_le lS M.hw)
  have S2 := S1.on M.B
  have B2 := hide (B1.trans (M.B.mono B1.size))
  have P2 := hide M.P
  have R2 := hide M.R
  have TN := hide M.tn
  have hG2 := hide M.hg
  clear M B1 HS1 S1 lS
  clear R2 hG2 TN HM
  have PP := P2
  have BB := B2
  have SS := hide S2
  clear P2 B2 S2
  have c0 := SS.out.cell 0 _ rfl
  rw [HD.out] at c0
  go_wp2_with fail
  refine (all14 h ps T _ PP.out).mono ?_
  rintro e w3 ⟨a0, q0, rfl, E0, C⟩
  have hE0 : Hid (h + 2 ≤ w2.heap.size) := hide PP.out.lt
  have HW := hide PP.out.wf
  replace PP := hide (PP.out.on C)
  replace SS := hide (SS.out.on C)
  replace BB := hide (BB.out.trans (C.mono BB.out.size))
  have H0 := hide (E0.mono hE0.out)
  clear C E0 hE0 c0
  have c0 := SS.out.cell 0 _ rfl
  rw [HD.out] at c0
  have c1 := SS.out.cell 1 _ rfl
  go_wp2_with fail
  refine (flushVlan21 h ps T s.v _ PP.out).mono ?_
  rintro e w4 ⟨a1, q1, rfl, E1, ⟨ps2, P4⟩, M⟩
  have P5 : PT w4 h ps2 ⟨T.n, T.l.filter (fun x => !(gof (gV s.v)) x)⟩ := P4
  clear P4
  have P4 := P5
  clear P5
  have hE1 : Hid (h + 2 ≤ w3.heap.size) := hide PP.out.lt
  replace H0 := hide (H0.out.mid M (Nat.le_refl _))
  replace BB := hide (mid_on BB.out M hw1.out PP.out.size)
  replace SS := hide (SS.out.low M hb1.out)
  have H1 : Hid (Ets w4 (h + 2) a1 (T.l.filter (gof (gV s.v))).length q1 (T.l.filter (gof (gV s.v)))) := hide (E1.mono hE1.out)
  replace PP := hide P4
  clear E1 P4 M hE1 c0 c1
  rw [show (gG T (gV s.v)) = T.l.filter (gof (gV s.v)) from rfl] at *
  go_wp2_with fail
  refine (all14 h ps2 _ _ PP.out).mono ?_
  rintro e w5 ⟨a2, q2, rfl, E2, C⟩
  have hE2 : Hid (h + 2 ≤ w4.heap.size) := hide PP.out.lt
  replace SS := hide (SS.out.on C)
  replace BB := hide (BB.out.trans (C.mono BB.out.size))
  replace H0 := hide (H0.out.on C)
  replace H1 := hide (H1.out.on C)
  have H2 : Hid (Ets w5 (h + 2) a2 (T.l.filter (fun x => !(gof (gV s.v)) x)).length q2 (T.l.filter (fun x => !(gof (gV s.v)) x))) := hide (E2.mono hE2.out)
  clear PP E2 C hE2
  rw [show (⟨T.n, T.l.filter (fun x => !(gof (gV s.v)) x)⟩ : Tb).l = T.l.filter (fun x => !(gof (gV s.v)) x) from rfl] at *
  have HP : Hid (∀ x, (gof (gV s.v)) x = true → x.s = false ∧ x.v = s.v) := hide (fun x hx => ⟨(gof_s hx).1, by simpa [gV] using (gof_s hx).2⟩)
  have hn0 := HW.out.le
  have hn1 := HW.out.n2
  have hg0 : Hid ((T.l.filter (gof (gV s.v))).length ≤ T.l.length) := hide (List.length_filter_le _ _)
  have hg1 : Hid ((T.l.filter (fun x => !(gof (gV s.v)) x)).length ≤ T.l.length) := hide (List.length_filter_le _ _)
  generalize (gof (gV s.v)) = p at *
  clear HW
  generalize hG : T.l.filter p = G at *
  generalize hA : T.l.filter (fun x => !p x) = A at *
  generalize T.l = l at *
  have HG := hide hG
  have HA := hide hA
  clear hG hA
  have s0 := SS.out.cell 0 _ rfl
  rw [HD.out] at s0
  have s1 := SS.out.cell 1 _ rfl
  have s8 := SS.out.cell 8 _ rfl
  clear SS
  go_wp2
  go_loopw [12, 13, 14] (fun iv kv nv wr => ∃ n i k q : Nat, n ≤ l.length ∧ iv = .int .i64 i ∧ kv = .int .i64 k ∧ nv = .int .i64 n ∧ Fp p l n i k ∧ wr = w5.drewN q) (fun _ _ nv _ => l.length - (intOf nv).toNat)
  case atStart => exact ⟨0, 0, 0, 0, Nat.zero_le _, rfl, rfl, rfl, Fp.zero _ _, rfl⟩
  case round =>
    obtain ⟨m, i, k, q, hm, rfl, rfl, rfl, F, rfl⟩ := hrel
    by_cases hlt : m < l.length
    · obtain ⟨x, hx⟩ : ∃ x, l[m]? = some x := ⟨_, List.getElem?_eq_getElem hlt⟩
      obtain ⟨b0, rfl, -, -, X0⟩ := H0.out.at hx
      obtain ⟨x0, xa, xb, xc, xd, xe, xf, x7, x8, x9⟩ := range_cells X0
      clear X0
      have m0 : (m : Int) < l.length := by omega
      have e1 : IntKind.i64.wrap ((m : Int) + 1) = (m : Int) + 1 := IntWalk.i64_in _ (by omega)
      have hc0 := H0.out.le
      have hc1 := H0.out.mx
      unfold maxLen at hc1
      rcases Bool.eq_false_or_eq_true (p x) with hp | hp
      · obtain ⟨f1, f2⟩ := F.yes hx hp
        rw [HG.out] at f1
        have hgl := (List.getElem?_eq_some_iff.1 f1).1
        obtain ⟨b1, rfl, -, -, X1⟩ := H1.out.at f1
        obtain ⟨y0, ya, yb, yc, yd, ye, yf, y7, y8, y9⟩ := range_cells X1
        clear X1
        have m1 : (i : Int) < G.length := by omega
        have hgg := hg0.out
        have hd0 := H1.out.le
        have hd1 := H1.out.mx
        unfold maxLen at hd1
        have e2 : IntKind.i64.wrap ((i : Int) + 1) = (i : Int) + 1 := IntWalk.i64_in _ (by omega)
        have q3 := eqEnt x x
        rw [(eqE_iff x x).2 rfl, ec_def] at q3
        have hs := HP.out x hp
        have HF := hide f2
        obtain ⟨hs, h8⟩ := hs
        rw [hs] at x9 y9 q3
        rw [h8] at x0 y0 q3
        clear hs h8
        clear f1 f2 F hx hp hlt hm hgl
        go_wp2_with fail
        go_quiet (fail)
        go_wp2_with fail
        go_quiet (fail)
        go_wp2
        go_roundw
        case rel => exact ⟨m + 1, i + 1, k, _, by omega, by go_num, rfl, by go_num, HF.out, rfl⟩
        case measure => simp [intOf]; omega
      · obtain ⟨f0, f1, f2⟩ := F.no hx hp
        rw [HA.out] at f0
        rw [HG.out] at f1
        have hal := (List.getElem?_eq_some_iff.1 f0).1
        obtain ⟨b2, rfl, -, -, X2⟩ := H2.out.at f0
        obtain ⟨z0, za, zb, zc, zd, ze, zf, z7, z8, z9⟩ := range_cells X2
        clear X2
        have m2 : (k : Int) < A.length := by omega
        have hgg := hg1.out
        have hk0 := H2.out.le
        have hk1 := H2.out.mx
        unfold maxLen at hk1
        have e2 : IntKind.i64.wrap ((k : Int) + 1) = (k : Int) + 1 := IntWalk.i64_in _ (by omega)
        have q3 := eqEnt x x
        rw [(eqE_iff x x).2 rfl, ec_def] at q3
        have HF := hide f2
        by_cases hi : i < G.length
        · obtain ⟨y, hy⟩ : ∃ y, G[i]? = some y := ⟨_, List.getElem?_eq_getElem hi⟩
          have hne := f1 y hy
          obtain ⟨b1, rfl, -, -, X1⟩ := H1.out.at hy
          obtain ⟨y0, ya, yb, yc, yd, ye, yf, y7, y8, y9⟩ := range_cells X1
          clear X1
          have m1 : (i : Int) < G.length := by omega
          have hd0 := H1.out.le
          have hd1 := H1.out.mx
          unfold maxLen at hd1
          have q4 := eqEnt y x
          rw [hne, ec_def, ec_def] at q4
          clear f0 f1 f2 F hx hp hlt hm hal hi hy hne
          go_wp2_with fail
          go_quiet (fail)
          go_wp2_with fail
          go_quiet (fail)
          go_wp2
          go_roundw
          case rel => exact ⟨m + 1, i, k + 1, _, by omega, rfl, by go_num, by go_num, HF.out, rfl⟩
          case measure => simp [intOf]; omega
        · have m3 : decide (i < G.length) = false := decide_eq_false hi
          clear f0 f1 f2 F hx hp hlt hm hal hi
          go_wp2_with fail
          go_quiet (fail)
          go_wp2_with fail
          go_quiet (fail)
          go_wp2
          go_roundw
          case rel => exact ⟨m + 1, i, k + 1, _, by omega, rfl, by go_num, by go_num, HF.out, rfl⟩
          case measure => simp [intOf]; omega
    · have m0 : ¬ (m : Int) < l.length := by omega
      obtain ⟨f1, f2⟩ := F.end (by omega)
      rw [HG.out] at f1
      rw [HA.out] at f2
      subst f1 f2
      clear F hlt hm
      go_wp2
      go_ret
      exact ⟨ret_bool (by simp), BB.out.trans ⟨rfl, rfl, rfl, Nat.le_refl _, fun _ _ => rfl⟩⟩
end
end Go.Proofs.Ytbpkdkniiggcpaa
