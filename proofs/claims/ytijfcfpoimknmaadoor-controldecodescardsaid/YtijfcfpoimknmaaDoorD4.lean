/- The step that reads; contracts of readPacket and of the program's Decode. -/
import Derived.Test.YtijfcfpoimknmaaDoorB3
import Derived.Test.YtijfcfpoimknmaaDoorD3
namespace Go.Proofs.YtijfcfpoimknmaaDoor
open Go.RowKit

structure RdI (w0 : World) (R N : Nat) (p : Pk) (r : Rs) (sa : Option Addr) (sm sc : Nat) (w : World) : Prop where
  rv : Box w N [.pointer (some ⟨R, 0, none⟩)]
  rs : Box w (N + 1) (pcl zeroP (.slice none 0 0))
  pk : Box w (N + 2) (pcl p (.slice sa sm sc))
  byt : Byt w sa sm sc p.n.b
  ne : ∀ b o, sa = some ⟨b, o, none⟩ → 0 < sm → N + 3 ≤ b
  rd : RdE R r w
  gr : w0.grownBy w (some R)
  lt : R < N
  n0 : N = w0.heap.size
theorem RdI.num {w0 : World} {R N : Nat} {p : Pk} {r : Rs} {sa : Option Addr} {sm sc : Nat} {w w1 : World} (h : RdI w0 R N p r sa sm sc w) {r' : Rs} (hr : RdE R r' w1) (hg : w.grownBy w1 (some R)) : RdI w0 R N p r' sa sm sc w1 := by
  have hlt := h.lt
  exact ⟨h.rv.kept (by omega) hg, h.rs.kept (by omega) hg, h.pk.kept (by omega) hg, h.byt.kept (fun b o e hp => by have := h.ne b o e hp; omega) hg, h.ne, hr, grown_trans h.gr hg, hlt, h.n0⟩
theorem RdI.put {w0 : World} {R N : Nat} {p p' : Pk} {r : Rs} {sa : Option Addr} {sm sc : Nat} {w w1 : World} (h : RdI w0 R N p r sa sm sc w) (hp : Box w1 (N + 2) (pcl p' (.slice sa sm sc))) (hb : p'.n.b = p.n.b) (hg : w.grownBy w1 (some (N + 2))) : RdI w0 R N p' r sa sm sc w1 := by
  have hlt := h.lt
  have hn := h.n0
  exact ⟨h.rv.kept (by omega) hg, h.rs.kept (by omega) hg, hp, by rw [hb]; exact h.byt.kept (fun b o e hp => by have := h.ne b o e hp; omega) hg, h.ne, h.rd.kept (by omega) hg, grown_new h.gr hg (by omega), hlt, h.n0⟩
set_option maxRecDepth 100000 in
set_option maxHeartbeats 2000000 in
theorem read47 (w0 : World) (R N : Nat) (e q a : Int) (j : Nat) (hj : J5 j) (x : Nt × Rs) (w : World) (h : ∃ sa sm sc, RdI w0 R N ⟨e, q, a, x.1⟩ x.2 sa sm sc w) :
    Calls Tryd.prog 47 #[.int .i64 j, .pointer (some ⟨N, 0, none⟩), .pointer (some ⟨N + 2, 0, none⟩)] w fun e' w' => e' = .returned (.tuple #[]) ∧ ∃ sa sm sc, RdI w0 R N ⟨e, q, a, (rf j x).1⟩ (rf j x).2 sa sm sc w' := by
  obtain ⟨sa, sm, sc, h⟩ := h
  obtain ⟨n, r⟩ := x
  have c0 := h.rv.cell 0 _ rfl
  have NA : w.rangeAt (N + 2) 3 (ncl n (.slice sa sm sc)) := h.pk.note
  have H := hide h
  have hlt := h.lt
  have hN0 := hide h.n0
  have hsz := h.pk.lt
  have F := hide (read48 n sa sm sc R r j hj w h.byt (fun b o e hp => by have := h.ne b o e hp; omega) h.rd)
  clear h hj
  have tk1 : True := trivial
  go_enter Tryd.func47, Tryd.ntmps47
  go_wp2_with (have _t := tk1; refine wpl_note (.tmp 5) rfl NA ?_ ?_ ?_; rfl; rfl; clear tk1)
  refine F.out.mono ?_
  rintro e' w1 ⟨sa', sm', sc', rfl, T⟩
  have hg1 := T.gr
  have A1 : Box w1 (N + 2) ([.int .i64 e, .int .i64 q, .int .i64 a] ++ ncl n (.slice sa sm sc)) := H.out.pk.kept (by omega) hg1
  have V1 := H.out.rv.kept (by omega) hg1
  have S1 := H.out.rs.kept (by omega) hg1
  have NE : Hid (∀ b o, sa' = some ⟨b, o, none⟩ → 0 < sm' → N + 3 ≤ b) := hide (fun b o e hp => by
    rcases T.nw b o e hp with ⟨e1, e2⟩ | h1
    · exact H.out.ne b o (by rw [← e1]; exact e) (by omega)
    · omega)
  have HT := hide T
  clear NA F T c0
  have tk2 : True := trivial
  go_wp2_with (have _t := tk2; refine wpl_putN (rf j (n, r)).1 (.slice sa' sm' sc') [.int .i64 e, .int .i64 q, .int .i64 a] n (.slice sa sm sc) rfl (.tmp 9) (.tmp 8) rfl A1 rfl ?_ ?_ ?_ ?_; rfl; rfl; rfl; clear tk2; intro w2 A2 g2)
  go_end0
  refine ⟨rfl, sa', sm', sc', ⟨V1.kept (by omega) g2, S1.kept (by omega) g2, A2, HT.out.byt.kept (fun b o e hp => by have := NE.out b o e hp; omega) g2, NE.out, HT.out.rd.kept (by omega) g2, grown_new (grown_trans H.out.gr HT.out.gr) g2 (by have := hN0.out; omega), hlt, hN0.out⟩⟩
theorem ent47 (args : Array Value) (w : World) : (callFunc 47 args).run Tryd.prog w = .ok (.enter 47 args) w := by
  kernel_rfl
theorem stepRd (w0 : World) (R N : Nat) (e q a F : Int) : StepC 47 #[.pointer (some ⟨N, 0, none⟩), .pointer (some ⟨N + 2, 0, none⟩)] F (fun _ x w => ∃ sa sm sc, RdI w0 R N ⟨e, q, a, x.1⟩ x.2 sa sm sc w) rf where
  run := fun j s w hj _ h => read47 w0 R N e q a j hj s w h
  skip := fun _ _ _ _ _ h => h
  ent := ent47
theorem res_pkt_cell {fn : Func} {p : Tmp} (h : fn.results = #[.cell p 28]) {tmps : Array Value} {w : World} {k : Nat} {x : Pk} {s : Value} (hp : tmps.getD p undef = .pointer (some ⟨k, 0, none⟩)) (hA : Box w k (pcl x s)) :
    (results fn tmps).run Tryd.prog w = .ok (.agg (PC x s)) w := by
  have hl := run_loadVar_mid (P := Tryd.prog) w k 0 28 _ _ hA.at_ Tryd.underlying28 rfl Tryd.size28
  have hp' : tmps[p]?.getD undef = .pointer (some ⟨k, 0, none⟩) := by simpa using hp
  simp only [results, h]
  simp [hp', asAddr, hl, PC]
section
attribute [local go_sem] ZP
set_option maxRecDepth 100000 in
set_option maxHeartbeats 4000000 in
theorem read39 (R : Nat) (b : List Int) (w : World) (hT : KT w) (hR0 : R ≠ 0) (hR : RdE R ⟨b, false⟩ w) :
    Calls Tryd.prog 39 #[.pointer (some ⟨R, 0, none⟩)] w fun e w' => ∃ sa sm sc, e = .returned (.agg (PC (rpp b) (.slice sa sm sc))) ∧ Byt w' sa sm sc (rpp b).n.b ∧ (∀ b' o, sa = some ⟨b', o, none⟩ → 0 < sm → w.heap.size ≤ b') ∧ RdE R (rpx b).2 w' ∧ w.grownBy w' (some R) := by
  have hmf : ∀ (fn : Fn) (first cap : Array Value) (w : World), (Instr.makeFunc fn first cap).run Tryd.prog w = .ok (.func fn first cap) w := fun _ _ _ _ => rfl
  have V0 : Box (((w.alloc (.cells #[.pointer (some ⟨R, 0, none⟩)] 60)).alloc (.cells (PC zeroP (.slice none 0 0)) 28)).alloc (.cells (PC zeroP (.slice none 0 0)) 28)) w.heap.size [.pointer (some ⟨R, 0, none⟩)] := ((Box.new w [.pointer (some ⟨R, 0, none⟩)] 60).alloc _).alloc _
  have S0 : Box (((w.alloc (.cells #[.pointer (some ⟨R, 0, none⟩)] 60)).alloc (.cells (PC zeroP (.slice none 0 0)) 28)).alloc (.cells (PC zeroP (.slice none 0 0)) 28)) (w.heap.size + 1) (pcl zeroP (.slice none 0 0)) := by
    have := (Box.new (w.alloc (.cells #[.pointer (some ⟨R, 0, none⟩)] 60)) (pcl zeroP (.slice none 0 0)) 28).alloc (.cells (PC zeroP (.slice none 0 0)) 28)
    rwa [World.size_alloc] at this
  have P0 : Box (((w.alloc (.cells #[.pointer (some ⟨R, 0, none⟩)] 60)).alloc (.cells (PC zeroP (.slice none 0 0)) 28)).alloc (.cells (PC zeroP (.slice none 0 0)) 28)) (w.heap.size + 2) (pcl zeroP (.slice none 0 0)) := by
    have := Box.new ((w.alloc (.cells #[.pointer (some ⟨R, 0, none⟩)] 60)).alloc (.cells (PC zeroP (.slice none 0 0)) 28)) (pcl zeroP (.slice none 0 0)) 28
    rwa [World.size_alloc, World.size_alloc] at this
  have L0 : Below w.heap.size w (((w.alloc (.cells #[.pointer (some ⟨R, 0, none⟩)] 60)).alloc (.cells (PC zeroP (.slice none 0 0)) 28)).alloc (.cells (PC zeroP (.slice none 0 0)) 28)) := by go_grown
  have I0 : RdI w R w.heap.size zeroP ⟨b, false⟩ none 0 0 (((w.alloc (.cells #[.pointer (some ⟨R, 0, none⟩)] 60)).alloc (.cells (PC zeroP (.slice none 0 0)) 28)).alloc (.cells (PC zeroP (.slice none 0 0)) 28)) :=
    ⟨V0, S0, P0, Byt.nothing _, fun b o e => (by cases e), hR.on L0, grown_alloc (grown_alloc (grown_alloc (World.grownBy.refl _ _) _) _) _, hR.lt, rfl⟩
  have K0 := hT.on L0
  have HI := hide I0
  have R0 := hide I0.rd
  have hlt := hR.lt
  have v0 := V0.cell 0 _ rfl
  clear hT hR V0 S0 P0 L0 I0
  go_enter Tryd.func39, Tryd.ntmps39
  go_wp2_with fail
  refine (number45 R 4 _ _ R0.out (by omega)).mono ?_
  rintro e w1 ⟨rfl, R1, g1⟩
  replace HI := hide (HI.out.num R1 g1)
  replace K0 := K0.kept hR0 g1
  have P1 := HI.out.pk
  have c1 := P1.cell 0 _ rfl
  have f1 := P1.free 0 (by rw [pcl_length]; omega)
  have g2 := setCell_grown w1 (w.heap.size + 2) 0 (.int .i64 (nr ⟨b, false⟩ 4))
  have P2 : Box (w1.setCell ⟨w.heap.size + 2, 0, none⟩ (.int .i64 (nr ⟨b, false⟩ 4))) (w.heap.size + 2) (pcl ⟨nr ⟨b, false⟩ 4, 0, 0, zeroN⟩ (.slice none 0 0)) := Box.set (A := []) (C := .int .i64 0 :: .int .i64 0 :: ncl zeroN (.slice none 0 0)) P1 rfl
  have HI2 := hide (HI.out.put P2 rfl g2)
  have v1 := HI2.out.rv.cell 0 _ rfl
  have R2 := hide HI2.out.rd
  replace K0 := K0.kept (by omega) g2
  clear v0 R0 R1 g1 P1 g2 P2 HI
  go_wp2_with fail
  refine (number45 R 4 _ _ R2.out (by omega)).mono ?_
  rintro e w2 ⟨rfl, R1, g1⟩
  have HI := hide (HI2.out.num R1 g1)
  replace K0 := K0.kept hR0 g1
  have P1 := HI.out.pk
  have c2 := P1.cell 1 _ rfl
  have f2 := P1.free 1 (by rw [pcl_length]; omega)
  have g2 := setCell_grown w2 (w.heap.size + 2) 1 (.int .i64 (nr (rp1 b) 4))
  have P2 : Box (w2.setCell ⟨w.heap.size + 2, 1, none⟩ (.int .i64 (nr (rp1 b) 4))) (w.heap.size + 2) (pcl ⟨nr ⟨b, false⟩ 4, nr (rp1 b) 4, 0, zeroN⟩ (.slice none 0 0)) := Box.set (A := [.int .i64 (nr ⟨b, false⟩ 4)]) (C := .int .i64 0 :: ncl zeroN (.slice none 0 0)) P1 rfl
  have HI3 := hide (HI.out.put P2 rfl g2)
  have v2 := HI3.out.rv.cell 0 _ rfl
  have R3 := hide HI3.out.rd
  replace K0 := K0.kept (by omega) g2
  rw [show nr (tr ⟨b, false⟩ 4) 4 = nr (rp1 b) 4 from rfl]
  clear v1 R2 R1 g1 P1 g2 P2 HI HI2 c1 f1
  go_wp2_with fail
  refine (number45 R 4 _ _ R3.out (by omega)).mono ?_
  rintro e w3 ⟨rfl, R1, g1⟩
  have HI := hide (HI3.out.num R1 g1)
  replace K0 := K0.kept hR0 g1
  have P1 := HI.out.pk
  have c1 := P1.cell 2 _ rfl
  have f1 := P1.free 2 (by rw [pcl_length]; omega)
  have g2 := setCell_grown w3 (w.heap.size + 2) 2 (.int .i64 (nr (rp2 b) 4))
  have P2 : Box (w3.setCell ⟨w.heap.size + 2, 2, none⟩ (.int .i64 (nr (rp2 b) 4))) (w.heap.size + 2) (pcl ⟨nr ⟨b, false⟩ 4, nr (rp1 b) 4, nr (rp2 b) 4, zeroN⟩ (.slice none 0 0)) := Box.set (A := [.int .i64 (nr ⟨b, false⟩ 4), .int .i64 (nr (rp1 b) 4)]) (C := ncl zeroN (.slice none 0 0)) P1 rfl
  have HI2 := hide (HI.out.put P2 rfl g2)
  have v1 := HI2.out.rv.cell 0 _ rfl
  have R2 := hide HI2.out.rd
  replace K0 := K0.kept (by omega) g2
  rw [show nr (tr (tr ⟨b, false⟩ 4) 4) 4 = nr (rp2 b) 4 from rfl]
  clear v2 R3 R1 g1 P1 g2 P2 HI HI3 c2 f2
  go_wp2_with fail
  refine (number45 R 1 _ _ R2.out (by omega)).mono ?_
  rintro e w4 ⟨rfl, R1, g1⟩
  have HI := hide (HI2.out.num R1 g1)
  replace K0 := K0.kept hR0 g1
  have P1 := HI.out.pk
  have c2 := P1.cell 3 _ rfl
  have f2 := P1.free 3 (by rw [pcl_length]; omega)
  have g2 := setCell_grown w4 (w.heap.size + 2) 3 (.int .i64 (nr (rp3 b) 1))
  have P2 : Box (w4.setCell ⟨w.heap.size + 2, 3, none⟩ (.int .i64 (nr (rp3 b) 1))) (w.heap.size + 2) (pcl ⟨nr ⟨b, false⟩ 4, nr (rp1 b) 4, nr (rp2 b) 4, kn (nr (rp3 b) 1)⟩ (.slice none 0 0)) := Box.set (A := [.int .i64 (nr ⟨b, false⟩ 4), .int .i64 (nr (rp1 b) 4), .int .i64 (nr (rp2 b) 4)]) (C := .int .i64 0 :: (mcl zeroN ++ [.int .i64 0, .int .i64 0, .slice none 0 0])) P1 rfl
  have k3 := P2.cell 3 (.int .i64 (nr (rp3 b) 1)) rfl
  have HI3 := hide (HI.out.put P2 rfl g2)
  replace K0 := K0.kept (by omega) g2
  rw [show nr (tr (tr (tr ⟨b, false⟩ 4) 4) 4) 1 = nr (rp3 b) 1 from rfl]
  clear v1 R2 R1 g1 P1 g2 P2 HI HI2 c1 f1
  go_wp2_with (go_at_call 25; refine (fields25 _ _ K0).mono ?_; rintro e w' ⟨rfl, rfl⟩)
  refine (each24 (stepRd w R w.heap.size (nr ⟨b, false⟩ 4) (nr (rp1 b) 4) (nr (rp2 b) 4) (fo (nr (rp3 b) 1))) (kn (nr (rp3 b) 1), rp4 b) _ ⟨none, 0, 0, HI3.out⟩).mono ?_
  rintro e w5 ⟨rfl, sa, sm, sc, I5⟩
  have P5 : Box w5 (w.heap.size + 2) (pcl (rpp b) (.slice sa sm sc)) := I5.pk
  have S5 := I5.rs
  have H5 := hide I5
  clear HI3 I5 K0 k3 c2 f2
  have tk1 : True := trivial
  have tk2 : True := trivial
  go_wp2_with (first | (have _t := tk1; refine wpl_pkt (.tmp 3) rfl P5 ?_ ?_ ?_; rfl; rfl; clear tk1) | (have _t := tk2; refine wpl_putP (rpp b) (.slice sa sm sc) zeroP (.slice none 0 0) rfl (.tmp 2) (.tmp 23) rfl S5 ?_ ?_ ?_ ?_; rfl; rfl; rfl; clear tk2; intro w6 S6 g6))
  have Y6 : Byt w6 sa sm sc (rpp b).n.b := H5.out.byt.kept (fun b o e hp => by have := H5.out.ne b o e hp; omega) g6
  have R6 : RdE R (rpx b).2 w6 := H5.out.rd.kept (by omega) g6
  exact bodyPost_ret (v := .agg (PC (rpp b) (.slice sa sm sc))) (res_pkt_cell rfl rfl S6) rfl ⟨sa, sm, sc, rfl, Y6, fun b' o e hp => by have := H5.out.ne b' o e hp; omega, R6, grown_new H5.out.gr g6 (by omega)⟩
end
end Go.Proofs.YtijfcfpoimknmaaDoor
