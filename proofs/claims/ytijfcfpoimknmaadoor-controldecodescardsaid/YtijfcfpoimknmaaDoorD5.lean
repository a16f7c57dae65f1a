/- Contract of the program's Decode. -/
import Derived.Test.YtijfcfpoimknmaaDoorD4
namespace Go.Proofs.YtijfcfpoimknmaaDoor
open Go.RowKit

theorem setm_B {n : Nt} {l : List Int} (h : NtB n) (hl : Rng l) : NtB (setm n l) := by
  unfold setm
  split
  · exact ⟨hl, h.b⟩
  · exact h
theorem rf_B (j : Nat) (s : Nt × Rs) (h : NtB s.1) (hr : Rng s.2.ns) : NtB (rf j s).1 := by
  unfold rf
  split
  · exact ⟨h.m, h.b⟩
  split
  · exact setm_B h (tk_rng _ hr)
  split
  · exact ⟨h.m, h.b⟩
  split
  · exact ⟨h.m, h.b⟩
  · exact ⟨h.m, tk_rng _ (tr_rng _ hr)⟩
theorem ev_B (F : Int) (j : Nat) (s : Nt × Rs) (h : NtB s.1) (hr : Rng s.2.ns) : NtB (ev F rf j s).1 := by
  unfold ev
  split
  · exact rf_B j s h hr
  · exact h
theorem rpx_B {b : List Int} (hr : Rng b) : NtB (rpx b).1 := by
  have R4 : Rng (rp4 b).ns := tr_rng 1 (tr_rng 4 (tr_rng 4 (tr_rng 4 (r := ⟨b, false⟩) hr)))
  unfold rpx rn evs
  have B0 : NtB (kn (nr (rp3 b) 1)) := ⟨zero_ml, rng_nil⟩
  have R1 := ev_rf_rng (fo (nr (rp3 b) 1)) 1 (kn (nr (rp3 b) 1), rp4 b) R4
  have R2 := ev_rf_rng (fo (nr (rp3 b) 1)) 2 _ R1
  have R3 := ev_rf_rng (fo (nr (rp3 b) 1)) 4 _ R2
  have R5 := ev_rf_rng (fo (nr (rp3 b) 1)) 8 _ R3
  exact ev_B _ 16 _ (ev_B _ 8 _ (ev_B _ 4 _ (ev_B _ 2 _ (ev_B _ 1 _ B0 R4) R1) R2) R3) R5
theorem dp_B {b : List Int} (hr : Rng b) : NtB (dp b).n := by
  unfold dp
  split
  · exact rpx_B hr
  · exact zeroN_B
theorem res_pkt_tmp {fn : Func} {p u : Tmp} (h : fn.results = #[.cell p 28, .tmp u]) {tmps : Array Value} {w : World} {k : Nat} {l : Pk} {s : Value} (hp : tmps.getD p undef = .pointer (some ⟨k, 0, none⟩)) (hA : Box w k (pcl l s)) :
    (results fn tmps).run Tryd.prog w = .ok (.tuple #[.agg (PC l s), tmps.getD u undef]) w := by
  have hl := run_loadVar_mid (P := Tryd.prog) w k 0 28 _ _ hA.at_ Tryd.underlying28 rfl Tryd.size28
  have hp' : tmps[p]?.getD undef = .pointer (some ⟨k, 0, none⟩) := by simpa using hp
  simp only [results, h]
  simp [hp', asAddr, hl, PC]
section
attribute [local go_sem] ZP
set_option maxRecDepth 100000 in
set_option maxHeartbeats 4000000 in
theorem decode15 (ao : Option Addr) (n c : Nat) (b : List Int) (w : World) (hT : KT w) (hY : Byt w ao n c b) :
    Calls Tryd.prog 15 #[.slice ao n c] w fun e w' => ∃ sa sm sc, e = .returned (.tuple #[.agg (PC (dp b) (.slice sa sm sc)), .int .i64 (dc b)]) ∧ Byt w' sa sm sc (dp b).n.b ∧ Below w.heap.size w w' := by
  have D0 : Box ((w.alloc (.cells (PC zeroP (.slice none 0 0)) 28)).alloc (.cells #[.slice ao n c, .bool false] 58)) w.heap.size (pcl zeroP (.slice none 0 0)) := (Box.new w (pcl zeroP (.slice none 0 0)) 28).alloc _
  have L0 : Below w.heap.size w ((w.alloc (.cells (PC zeroP (.slice none 0 0)) 28)).alloc (.cells #[.slice ao n c, .bool false] 58)) := by go_grown
  have R0 : RdE (w.heap.size + 1) ⟨b, false⟩ ((w.alloc (.cells (PC zeroP (.slice none 0 0)) 28)).alloc (.cells #[.slice ao n c, .bool false] 58)) := by
    have := Box.new (w.alloc (.cells (PC zeroP (.slice none 0 0)) 28)) [.slice ao n c, .bool false] 58
    rw [World.size_alloc] at this
    exact ⟨ao, n, c, this, hY.on L0, fun b o e hp => by have := hY.lt b o e hp; omega⟩
  have K0 := hT.on L0
  have HR := hide R0
  clear hT hY R0
  go_enter Tryd.func15, Tryd.ntmps15
  go_wp2_with fail
  refine (read39 (w.heap.size + 1) b _ K0 (by omega) HR.out).mono ?_
  rintro e w1 ⟨sa, sm, sc, rfl, Y1, nw, R1, g1⟩
  have D1 := D0.kept (by omega) g1
  have L1 := below_grown L0 g1 (by omega) L0.size
  have K1 := K0.kept (by omega) g1
  have hlt1 := D1.lt
  have hltR := R1.lt
  have NE : Hid (∀ b' o, sa = some ⟨b', o, none⟩ → 0 < sm → w.heap.size + 2 ≤ b') := hide (fun b' o e hp => by have := nw b' o e hp; simpa using this)
  have BX := Box.new w1 (pcl zeroP (.slice none 0 0)) 28
  have g2 := World.grownBy_alloc w1 (.cells (PC zeroP (.slice none 0 0)) 28) none
  have D2 := D1.alloc (.cells (PC zeroP (.slice none 0 0)) 28)
  have Y2 := Y1.alloc (.cells (PC zeroP (.slice none 0 0)) 28)
  have R2 := R1.on (below_alloc w1 (.cells (PC zeroP (.slice none 0 0)) 28))
  have K2 := K1.alloc (.cells (PC zeroP (.slice none 0 0)) 28)
  have L2 := belowOn L1 (below_alloc w1 (.cells (PC zeroP (.slice none 0 0)) 28))
  have hYl := Y1.lt
  clear D0 K0 HR L0 g1 Y1 R1 K1 D1 L1 nw g2
  have tk1 : True := trivial
  go_wp2_with (first | (have _t := tk1; refine wpl_putP (rpp b) (.slice sa sm sc) zeroP (.slice none 0 0) rfl (.tmp 5) (.tmp 8) rfl BX ?_ ?_ ?_ ?_; rfl; rfl; rfl; clear tk1; intro w2 B2 g2))
  replace D2 := D2.kept (by omega) g2
  replace Y2 := Y2.kept (fun b' o e hp => by have := hYl b' o e hp; omega) g2
  replace R2 := R2.kept (by omega) g2
  replace K2 := K2.kept (by omega) g2
  replace L2 := below_grown L2 g2 (by omega) (by simp; omega)
  have hlt2 := B2.lt
  clear g2 BX hYl
  generalize w1.heap.size = P at *
  have HD : dk b = (wh (rpx b).2 && rtp (rpp b)) := rfl
  have Z0 : Box w2 w.heap.size (pcl zeroP (.slice none 0 0)) := D2
  cases hw : wh (rpx b).2
  · have e0 : dk b = false := by rw [HD, hw]; rfl
    have HE := hide (And.intro (show dp b = zeroP by rw [dp, e0]; rfl) (show dc b = 2 by rw [dc, e0]; rfl))
    clear HD e0
    have tk2 : True := trivial
    go_wp2_with (first | (go_at_call 40; refine (whole40 _ _ _ R2).mono ?_; rw [hw]; rintro e w' ⟨rfl, rfl⟩) | (have _t := tk2; refine wpl_putP zeroP (.slice none 0 0) zeroP (.slice none 0 0) rfl (.tmp 2) (.tmp 16) rfl Z0 ?_ ?_ ?_ ?_; rfl; rfl; rfl; clear tk2; intro w3 Z3 g3))
    refine bodyPost_ret (res_pkt_tmp rfl rfl Z3) rfl ⟨none, 0, 0, ?_, ?_, below_grown L2 g3 (Nat.le_refl _) (by omega)⟩
    · rw [HE.out.1, HE.out.2]; rfl
    · rw [HE.out.1]; exact Byt.nothing _
  · cases hr : rtp (rpp b)
    · have e0 : dk b = false := by rw [HD, hr]; simp
      have HE := hide (And.intro (show dp b = zeroP by rw [dp, e0]; rfl) (show dc b = 2 by rw [dc, e0]; rfl))
      clear HD e0
      have tk3 : True := trivial
      go_wp2_with (first | (go_at_call 40; refine (whole40 _ _ _ R2).mono ?_; rw [hw]; rintro e w' ⟨rfl, rfl⟩) | (have _t := tk3; refine wpl_pkt (.tmp 5) rfl B2 ?_ ?_ ?_; rfl; rfl; clear tk3))
      refine (right22 (rpp b) sa sm sc Y2.len _ K2).mono ?_
      rw [hr]
      rintro e w3 ⟨rfl, hb3⟩
      replace Z0 := Z0.on hb3
      replace L2 := belowOn L2 hb3
      have hs3 := hb3.size
      clear hb3 B2 R2 K2 D2 Y2
      have tk2 : True := trivial
      go_wp2_with (have _t := tk2; refine wpl_putP zeroP (.slice none 0 0) zeroP (.slice none 0 0) rfl (.tmp 2) (.tmp 16) rfl Z0 ?_ ?_ ?_ ?_; rfl; rfl; rfl; clear tk2; intro w4 Z3 g3)
      refine bodyPost_ret (res_pkt_tmp rfl rfl Z3) rfl ⟨none, 0, 0, ?_, ?_, below_grown L2 g3 (Nat.le_refl _) (by omega)⟩
      · rw [HE.out.1, HE.out.2]; rfl
      · rw [HE.out.1]; exact Byt.nothing _
    · have e0 : dk b = true := by rw [HD, hw, hr]; rfl
      have HE := hide (And.intro (show dp b = rpp b by rw [dp, e0]; rfl) (show dc b = 0 by rw [dc, e0]; rfl))
      clear HD e0
      have tk3 : True := trivial
      go_wp2_with (first | (go_at_call 40; refine (whole40 _ _ _ R2).mono ?_; rw [hw]; rintro e w' ⟨rfl, rfl⟩) | (have _t := tk3; refine wpl_pkt (.tmp 5) rfl B2 ?_ ?_ ?_; rfl; rfl; clear tk3))
      refine (right22 (rpp b) sa sm sc Y2.len _ K2).mono ?_
      rw [hr]
      rintro e w3 ⟨rfl, hb3⟩
      replace Z0 := Z0.on hb3
      replace L2 := belowOn L2 hb3
      replace B2 := B2.on hb3
      have HY := hide (Y2.on hb3)
      have hs3 := hb3.size
      clear hb3 R2 K2 D2 Y2
      have tk2 : True := trivial
      have tk4 : True := trivial
      go_wp2_with (first | (have _t := tk4; refine wpl_pkt (.tmp 5) rfl B2 ?_ ?_ ?_; rfl; rfl; clear tk4) | (have _t := tk2; refine wpl_putP (rpp b) (.slice sa sm sc) zeroP (.slice none 0 0) rfl (.tmp 2) (.tmp 17) rfl Z0 ?_ ?_ ?_ ?_; rfl; rfl; rfl; clear tk2; intro w4 Z3 g3))
      refine bodyPost_ret (res_pkt_tmp rfl rfl Z3) rfl ⟨sa, sm, sc, ?_, ?_, below_grown L2 g3 (Nat.le_refl _) (by omega)⟩
      · rw [HE.out.1, HE.out.2]; rfl
      · rw [HE.out.1]; exact HY.out.kept (fun b' o e hp => by have := NE.out b' o e hp; omega) g3
end
end Go.Proofs.YtijfcfpoimknmaaDoor
