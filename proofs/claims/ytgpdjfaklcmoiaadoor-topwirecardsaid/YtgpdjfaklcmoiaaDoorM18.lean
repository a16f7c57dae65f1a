/- Contract of the program's Encode. -/
import Derived.Test.YtgpdjfaklcmoiaaDoorM17
import Derived.Laws.MakeOwn
namespace Go.Proofs.YtgpdjfaklcmoiaaDoor.Ctl
open Go.RowKit

theorem EnI.add {p : Pk} {a : Option Addr} {m c : Nat} {w0 : World} {N G V : Nat} {ns : List Int} {w : World} (h : EnI p a m c w0 N G V 1 ns w) {l : List Int} {w1 : World} (K : Nat) (O1 : Own w1 G (26 + m) K (ns ++ l)) (g1 : w.grownBy w1 (some G)) (hK : (ns ++ l).length = K) (h13 : K ≤ 13) :
    EnI p a m c w0 N G V 1 (ns ++ l) (w1.setCell ⟨V, 0, none⟩ (.slice (some ⟨G, 0, none⟩) K (26 + m))) ∧ w1.cell? ⟨V, 0, none⟩ = some (.slice (some ⟨G, 0, none⟩) ns.length (26 + m)) ∧ w1.frozen? ⟨V, 0, none⟩ = false := by
  have hnG := h.nG
  have hnV := h.nV
  have V1 := h.vr.kept (by omega) g1
  have P1 := h.pk.kept (by omega) g1
  have Y1 := h.byt.kept (fun b o e hp => by have := h.ne b o e hp; omega) g1
  have L1 := below_grown h.bl g1 (by omega) (Nat.le_of_lt h.pk.lt)
  have g2 := setCell_grown w1 V 0 (.slice (some ⟨G, 0, none⟩) K (26 + m))
  subst hK
  exact ⟨⟨P1.kept (by omega) g2, Box.set (A := []) (C := []) V1 rfl, ⟨World.ownsRow.kept O1.row g2 (by simp [Value.ownBlock]; omega), Nat.lt_of_lt_of_le O1.lt g2.size⟩, Y1.kept (fun b o e hp => by have := h.ne b o e hp; omega) g2, below_grown L1 g2 (by omega) (Nat.le_of_lt P1.lt), fun _ => h13, hnG, hnV, h.ne⟩, V1.cell 0 _ rfl, V1.free 0 (by simp)⟩
theorem ent26 (args : Array Value) (w : World) : (callFunc 29 args).run Tryd.prog w = .ok (.enter 29 args) w := by
  kernel_rfl
theorem stepEn (p : Pk) (hB : Rng (ml p.n)) (hr : rt p.n = true) (a : Option Addr) (m c : Nat) (w0 : World) (N G V : Nat) : StepC 29 #[.pointer (some ⟨V, 0, none⟩), .pointer (some ⟨N, 0, none⟩)] (fo p.n.k) (fun j ns w => EnI p a m c w0 N G V j ns w) (fun j ns => ns ++ fb p.n j) where
  run := fun j s w hj hx h => put26 p hB hr a m c w0 N G V j hj hx s w h
  skip := fun j s w hj _ h => ⟨h.pk, h.vr, h.own, h.byt, h.bl, fun h16 => Nat.le_trans (h.room (by rcases hj with e | e | e | e | e <;> omega)) (ahead_le j hj h16), h.nG, h.nV, h.ne⟩
  ent := ent26
theorem ev_fbs (n : Nt) (j : Nat) (ns : List Int) : ev (fo n.k) (fun j ns => ns ++ fb n j) j ns = ns ++ fbs n j := by
  unfold ev fbs
  cases hs (fo n.k) j <;> simp
theorem evs_tl (n : Nt) (ns : List Int) : evs (fo n.k) (fun j ns => ns ++ fb n j) ns = ns ++ tl n := by
  simp only [evs, ev_fbs, tl, List.append_assoc]
section
attribute [local go_sem] PC0 PC1 PC2 PC3 PC13
set_option maxRecDepth 100000 in
set_option maxHeartbeats 1000000 in
theorem encode11_no (p : Pk) (a : Option Addr) (m c : Nat) (hl : p.n.b.length = m) (w : World) (hT : KT w) (hr : rtp p = false) :
    Calls Tryd.prog 11 #[.agg (PC p (.slice a m c))] w fun e w' => e = .returned (.tuple #[.slice none 0 0, .int .i64 1]) ∧ Below w.heap.size w w' := by
  have A0 : Box (w.alloc (.cells (PC p (.slice a m c)) 48)) w.heap.size (pcl p (.slice a m c)) := Box.new w (pcl p (.slice a m c)) 48
  have K0 := hT.alloc (.cells (PC p (.slice a m c)) 48)
  have tk1 : True := trivial
  go_enter Tryd.func11, Tryd.ntmps11
  go_wp2_with (have _t := tk1; refine wpl_pkt (.tmp 1) rfl A0 ?_ ?_ ?_; rfl; rfl; clear tk1)
  refine (right22 p a m c hl _ K0).mono ?_
  rw [hr]
  rintro e w1 ⟨rfl, hb1⟩
  clear A0
  go_wp2
  go_ret2
  exact ⟨rfl, belowOn (below_alloc _ _) hb1⟩
set_option maxRecDepth 100000 in
set_option maxHeartbeats 4000000 in
theorem encode11_yes (p : Pk) (a : Option Addr) (m c : Nat) (w : World) (hT : KT w) (hB : NtB p.n) (hY : Byt w a m c p.n.b) (hr : rtp p = true) :
    Calls Tryd.prog 11 #[.agg (PC p (.slice a m c))] w fun e w' => ∃ g cap, e = .returned (.tuple #[.slice (some ⟨g, 0, none⟩) (enc p).length cap, .int .i64 0]) ∧ Byt w' (some ⟨g, 0, none⟩) (enc p).length cap (enc p) ∧ Below w.heap.size w w' := by
  have hl := hY.len
  have HR := hide (enc_rng hB)
  simp only [rtp, Bool.and_eq_true, sq_iff] at hr
  obtain ⟨hrt, he, hq, ha⟩ := hr
  have hrp : rtp p = true := by simp only [rtp, Bool.and_eq_true, sq_iff]; exact ⟨hrt, he, hq, ha⟩
  have hk : wi p.n.k 0 8 = true := by simp only [rt, Bool.and_eq_true] at hrt; exact hrt.1
  have hkb := (wi_iff _ _ _).1 hk
  have hm6 : m ≤ 1600 := by
    have h16 := rt_ff hrt 16 (by simp [J5])
    unfold ff at h16
    rw [← hl]
    split at h16
    · exact (ft_b h16).2
    · have : ((p.n.b.length : Int) == 0) = true := h16
      have h0 := beq_iff_eq.1 this
      omega
  have hmi : (m : Int) ≤ 1600 := by omega
  have F1 := hide (fun G C K ns W h1 h2 => put23_4 p.e (fit4 he.1 (by omega)) G C K ns W h1 h2)
  have F2 := hide (fun G C K ns W h1 h2 => put23_4 p.q (fit4 hq.1 (by omega)) G C K ns W h1 h2)
  have F3 := hide (fun G C K ns W h1 h2 => put23_4 p.a (fit4 ha.1 (by omega)) G C K ns W h1 h2)
  have F4 := hide (fun G C K ns W h1 h2 => put23_1 p.n.k (fit1 hkb.1 (by omega)) G C K ns W h1 h2)
  have FS := hide (fun N G V => stepEn p hB.m hrt a m c w N G V)
  have hmf : ∀ (fn : Fn) (first cap : Array Value) (w : World), (Instr.makeFunc fn first cap).run Tryd.prog w = .ok (.func fn first cap) w := fun _ _ _ _ => rfl
  obtain ⟨i0, hi, hz0, hz1, hz2⟩ := info_parts Tryd.info5
  have A0 : Box (w.alloc (.cells (PC p (.slice a m c)) 48)) w.heap.size (pcl p (.slice a m c)) := Box.new w (pcl p (.slice a m c)) 48
  have W0 := below_alloc w (.cells (PC p (.slice a m c)) 48)
  have K0 := hT.alloc (.cells (PC p (.slice a m c)) 48)
  have Y0 := hY.alloc (.cells (PC p (.slice a m c)) 48)
  have HLT := hide hY.lt
  have h26 : ((26 + m : Nat) : Int) = 26 + (m : Int) := by omega
  clear hT hY hB he hq ha hk hkb hrt
  have tk1 : True := trivial
  go_enter Tryd.func11, Tryd.ntmps11
  go_wp2_with (have _t := tk1; refine wpl_pkt (.tmp 1) rfl A0 ?_ ?_ ?_; rfl; rfl; clear tk1)
  refine (right22 p a m c hl _ K0).mono ?_
  rw [hrp]
  rintro e w1 ⟨rfl, hb1⟩
  replace A0 := A0.on hb1
  replace W0 := belowOn W0 hb1
  replace K0 := K0.on hb1
  replace Y0 := Y0.on hb1
  have c13 := A0.cell 13 _ rfl
  clear hb1 hrp hl
  go_wp2_with (at_make; refine wpList_make_own _ rfl _ _ 24 rfl w1.heap.size 5 i0 (.int .u8 0) 1 Tryd.underlying24 hi hz0 hz1 .i64 .i64 (26 + (m : Int)) (26 + m) rfl rfl h26.symm (by rw [hz2]; omega) (by unfold maxLen; omega) (Nat.le_refl _) ?_)
  intro w2 hown hgrow
  have B2 : Below w1.heap.size w1 w2 := (Below.refl _ _).grown hgrow (Nat.le_refl _) (fun k hk => by cases hk)
  have hO : Own w2 w1.heap.size (26 + m) 0 [] := ⟨hown, (hown.lt _ rfl).2⟩
  have LG : w.heap.size < w1.heap.size := A0.lt
  have I0 : EnI p a m c w w.heap.size w1.heap.size w2.heap.size 1 [] (w2.alloc (.cells #[.slice (some ⟨w1.heap.size, 0, none⟩) 0 (26 + m)] 24)) :=
    ⟨(A0.on B2).alloc _, Box.new w2 [.slice (some ⟨w1.heap.size, 0, none⟩) 0 (26 + m)] 24, hO.alloc _, (Y0.on B2).alloc _, belowOn (belowOn W0 B2) (below_alloc _ _), fun _ => by simp [ahead], LG, hO.lt, HLT.out⟩
  have K1 := (K0.on B2).alloc (.cells #[.slice (some ⟨w1.heap.size, 0, none⟩) 0 (26 + m)] 24)
  have O0 := hide I0.own
  have cv := I0.vr.cell 0 (.slice (some ⟨w1.heap.size, 0, none⟩) 0 (26 + m)) rfl
  have ce := I0.pk.cell 0 (.int .i64 p.e) rfl
  have HI := hide I0
  generalize w1.heap.size = G at *
  clear hgrow B2 hown hO hi hz0 hz1 hz2 I0 A0 W0 K0 Y0 HLT LG c13 h26
  go_wp2_with fail
  refine (F1.out G (26 + m) 0 [] _ O0.out (by omega)).mono ?_
  rintro e w3 ⟨rfl, O1, g1⟩
  generalize w2.heap.size = V at *
  replace K1 := K1.kept (by have := HI.out.nG; omega) g1
  obtain ⟨I1, v0, z0⟩ := HI.out.add 4 O1 g1 (by simp [be_length]) (by omega)
  replace HI := hide I1
  replace K1 := K1.kept (by have := HI.out.nG; have := HI.out.nV; omega) (setCell_grown w3 V 0 (.slice (some ⟨G, 0, none⟩) 4 (26 + m)))
  replace O0 := hide O1
  have cv1 : World.cell? (w3.setCell ⟨V, 0, none⟩ (.slice (some ⟨G, 0, none⟩) 4 (26 + m))) ⟨V, 0, none⟩ = some (.slice (some ⟨G, 0, none⟩) 4 (26 + m)) := I1.vr.cell 0 _ (by simp [be_length])
  have ce1 := I1.pk.cell 1 (.int .i64 p.q) rfl
  have OO := hide I1.own
  clear O1 g1 I1 cv ce F1
  go_wp2_with fail
  refine (F2.out G (26 + m) 4 _ _ OO.out (by omega)).mono ?_
  rintro e w4 ⟨rfl, O1, g1⟩
  replace K1 := K1.kept (by have := HI.out.nG; omega) g1
  obtain ⟨I1, v1, z1⟩ := HI.out.add 8 O1 g1 (by simp [be_length]) (by omega)
  replace HI := hide I1
  replace K1 := K1.kept (by have := HI.out.nG; have := HI.out.nV; omega) (setCell_grown w4 V 0 (.slice (some ⟨G, 0, none⟩) 8 (26 + m)))
  have cv2 : World.cell? (w4.setCell ⟨V, 0, none⟩ (.slice (some ⟨G, 0, none⟩) 8 (26 + m))) ⟨V, 0, none⟩ = some (.slice (some ⟨G, 0, none⟩) 8 (26 + m)) := I1.vr.cell 0 _ (by simp [be_length])
  have ce2 := I1.pk.cell 2 (.int .i64 p.a) rfl
  replace OO := hide (show Own _ G (26 + m) 8 _ by have := I1.own; simpa [be_length] using this)
  clear O1 g1 I1 cv1 ce1 F2 v0 z0 O0
  go_wp2_with fail
  refine (F3.out G (26 + m) 8 _ _ OO.out (by omega)).mono ?_
  rintro e w5 ⟨rfl, O1, g1⟩
  replace K1 := K1.kept (by have := HI.out.nG; omega) g1
  obtain ⟨I1, v0, z0⟩ := HI.out.add 12 (by simpa using O1) g1 (by simp [be_length]) (by omega)
  replace HI := hide I1
  replace K1 := K1.kept (by have := HI.out.nG; have := HI.out.nV; omega) (setCell_grown w5 V 0 (.slice (some ⟨G, 0, none⟩) 12 (26 + m)))
  have cv1 : World.cell? (w5.setCell ⟨V, 0, none⟩ (.slice (some ⟨G, 0, none⟩) 12 (26 + m))) ⟨V, 0, none⟩ = some (.slice (some ⟨G, 0, none⟩) 12 (26 + m)) := I1.vr.cell 0 _ (by simp [be_length])
  have ce3 := I1.pk.cell 3 (.int .i64 p.n.k) rfl
  replace OO := hide (show Own _ G (26 + m) 12 _ by have := I1.own; simpa [be_length] using this)
  clear O1 g1 I1 cv2 ce2 F3 v1 z1
  go_wp2_with fail
  refine (F4.out G (26 + m) 12 _ _ OO.out (by omega)).mono ?_
  rintro e w6 ⟨rfl, O1, g1⟩
  replace K1 := K1.kept (by have := HI.out.nG; omega) g1
  obtain ⟨I1, v1, z1⟩ := HI.out.add 13 (by simpa using O1) g1 (by simp [be_length]) (by omega)
  replace HI := hide I1
  replace K1 := K1.kept (by have := HI.out.nG; have := HI.out.nV; omega) (setCell_grown w6 V 0 (.slice (some ⟨G, 0, none⟩) 13 (26 + m)))
  have ce4 := I1.pk.cell 3 (.int .i64 p.n.k) rfl
  clear O1 g1 I1 cv1 ce3 F4 v0 z0 OO
  go_wp2_with (go_at_call 28; refine (fields25 _ _ K1).mono ?_; rintro e w' ⟨rfl, rfl⟩)
  refine (each24 (FS.out w.heap.size G V) _ _ HI.out).mono ?_
  rw [evs_tl]
  rintro e w7 ⟨rfl, I2⟩
  have e13 : (((([] ++ be 4 p.e) ++ be 4 p.q) ++ be 4 p.a) ++ be 1 p.n.k) ++ tl p.n = enc p := by simp [enc, hd]
  rw [e13] at I2
  have cv := I2.vr.cell 0 _ rfl
  have HP := hide I2
  clear I2 HI K1 FS ce4 v1 z1 e13
  go_wp2
  go_ret2
  obtain ⟨ao, c', e, hb⟩ := own_byt HP.out.own.row HR.out
  injection e with e1 e2 e3
  subst e1 e3
  exact ⟨_, _, rfl, hb, HP.out.bl⟩
end
theorem encode11 (p : Pk) (a : Option Addr) (m c : Nat) (w : World) (hT : KT w) (hB : NtB p.n) (hY : Byt w a m c p.n.b) :
    Calls Tryd.prog 11 #[.agg (PC p (.slice a m c))] w fun e w' => ∃ ao n c', e = .returned (.tuple #[.slice ao n c', .int .i64 (ec p)]) ∧ Byt w' ao n c' (eb p) ∧ Below w.heap.size w w' := by
  cases hr : rtp p
  · have e1 : eb p = [] := by simp [eb, hr]
    have e2 : ec p = 1 := by simp [ec, hr]
    rw [e1, e2]
    exact (encode11_no p a m c hY.len w hT hr).mono fun e w' ⟨he, hB⟩ => ⟨none, 0, 0, he, Byt.nothing w', hB⟩
  · have e1 : eb p = enc p := by simp [eb, hr]
    have e2 : ec p = 0 := by simp [ec, hr]
    rw [e1, e2]
    exact (encode11_yes p a m c w hT hB hY hr).mono fun e w' ⟨g, cap, he, hb, hB⟩ => ⟨some ⟨g, 0, none⟩, _, cap, he, hb, hB⟩
end Go.Proofs.YtgpdjfaklcmoiaaDoor.Ctl
