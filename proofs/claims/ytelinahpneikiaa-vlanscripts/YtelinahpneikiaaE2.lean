/- Contracts: Clone of bytes; Tag and Untag, of both. -/
import Derived.Test.YtelinahpneikiaaE1
import Derived.Laws.ResultCell
namespace Go.Proofs.Ytelinahpneikiaa
open Go.RowKit

theorem own_byt2 {w : World} {base : Nat} {v : Value} {n : Nat} {ns : List Int} (h : Row w base v n ns) (hr : Rng ns) : ∃ ao c, v = .slice ao n c ∧ Byt w ao n c ns ∧ ∀ b o, ao = some ⟨b, o, none⟩ → base ≤ b := by
  obtain ⟨ao, c, hv, hb⟩ := h.byt hr
  refine ⟨ao, c, hv, hb, fun b o e => ?_⟩
  subst hv
  rcases h.2 with ⟨e1, -⟩ | ⟨g, cap, cur, e1, hg, -⟩
  · injection e1 with e2; rw [e2] at e; cases e
  · injection e1 with e2
    rw [e2] at e
    injection Option.some.inj e with e3
    omega
set_option maxRecDepth 100000 in
set_option maxHeartbeats 1000000 in
theorem clone49 (ao : Option Addr) (n c : Nat) (ns : List Int) (w : World) (h : Byt w ao n c ns) (hn : n ≤ 70000) :
    Calls Try.prog 49 #[.slice ao n c] w fun e w' => ∃ ao' c', e = .returned (.slice ao' n c') ∧ Byt w' ao' n c' ns ∧ (∀ b o, ao' = some ⟨b, o, none⟩ → w.heap.size ≤ b) ∧ Below w.heap.size w w' := by
  have q35 : ∀ (w : World) (a : Option Addr) (n c n' c' : Nat), (binOp .eql 35 (.slice a n c) (.slice none n' c')).run Try.prog w = .ok (.bool a.isNone) w := fun w a n c n' c' => Lib.run_eql_slice_nil w _ _ a n c n' c' Try.underlying35
  cases ao with
  | none =>
    obtain ⟨rfl, rfl⟩ := h.nil rfl
    go_enter Try.func49, Try.ntmps49
    go_wp2
    go_ret
    exact ⟨none, 0, rfl, h, fun b o e => (by cases e), Below.refl _ _⟩
  | some ad =>
    have hsrc := hide (h.alloc (.cells #[] 5))
    have HO : Hid (Row (w.alloc (.cells #[] 5)) w.heap.size (.slice (some ⟨w.heap.size, 0, none⟩) 0 0) 0 []) := hide (World.ownsRow_made w #[] 0 (Nat.le_refl _) (Nat.zero_le _) rfl)
    have HR := hide h.rng
    have HN := hide hn
    clear h hn
    go_enter Try.func49, Try.ntmps49
    go_wp2_with (at_builtin; refine wpl_app rfl (.tmp 5) (.tmp 6) rfl w.heap.size _ 0 [] rfl HO.out (some ad) n c ns rfl hsrc.out (by have := HN.out; omega) (by simp) ?_)
    intro v' w1 hR1 hB1
    have hB : Below w.heap.size w w1 := (below_alloc w _).trans hB1
    obtain ⟨ao', c', hv, hbyt, hnew⟩ := own_byt2 hR1 HR.out
    have HV := hide hv
    clear hsrc HO hv hB1 hR1
    go_wp2
    go_ret
    exact ⟨ao', c', by rw [HV.out]; simp, by simpa using hbyt, hnew, hB⟩

theorem res_frame {fn : Func} {p : Tmp} (h : fn.results = #[.cell p 37]) {tmps : Array Value} {w : World} {k : Nat} {f : Fd} {s : Value} (hp : tmps.getD p undef = .pointer (some ⟨k, 0, none⟩)) (hA : Box w k (fcl f s)) :
    (results fn tmps).run Try.prog w = .ok (.agg (FC f s)) w := by
  have hl := run_loadVar_mid (P := Try.prog) w k 0 37 _ _ hA.at_ Try.underlying37 rfl Try.size37
  have hp' : tmps[p]?.getD undef = .pointer (some ⟨k, 0, none⟩) := by simpa using hp
  simp only [results, h]
  simp [hp', asAddr, hl, FC]
theorem res_frame_tmp {fn : Func} {p u : Tmp} (h : fn.results = #[.cell p 37, .tmp u]) {tmps : Array Value} {w : World} {k : Nat} {f : Fd} {s : Value} (hp : tmps.getD p undef = .pointer (some ⟨k, 0, none⟩)) (hA : Box w k (fcl f s)) :
    (results fn tmps).run Try.prog w = .ok (.tuple #[.agg (FC f s), tmps.getD u undef]) w := by
  have hl := run_loadVar_mid (P := Try.prog) w k 0 37 _ _ hA.at_ Try.underlying37 rfl Try.size37
  have hp' : tmps[p]?.getD undef = .pointer (some ⟨k, 0, none⟩) := by simpa using hp
  simp only [results, h]
  simp [hp', asAddr, hl, FC]
def seT (f : Fd) (t : Bool) : Fd := { f with tg := t }
def seV (f : Fd) (v : Int) : Fd := { f with vl := v }
def seP (f : Fd) (p : Int) : Fd := { f with pr := p }
theorem FS12 (f : Fd) (s : Value) (t : Bool) : (FC f s).setIfInBounds 12 (.bool t) = FC (seT f t) s := rfl
theorem FS13 (f : Fd) (s : Value) (v : Int) : (FC f s).setIfInBounds 13 (.int .i64 v) = FC (seV f v) s := rfl
theorem FS14 (f : Fd) (s : Value) (p : Int) : (FC f s).setIfInBounds 14 (.int .i64 p) = FC (seP f p) s := rfl
theorem FS16 (f : Fd) (s : Value) (a : Option Addr) (n c : Nat) : (FC f s).setIfInBounds 16 (.slice a n c) = FC f (.slice a n c) := rfl
theorem box16 {W : World} {k : Nat} {f : Fd} {s : Value} (A : Box W k (fcl f s)) (s' : Value) : Box (W.setCell ⟨k, 16, none⟩ s') k (fcl f s') :=
  Box.set (v' := s') (A := dcl f ++ scl f ++ [.bool f.tg, .int .i64 f.vl, .int .i64 f.pr, .int .i64 f.ty]) (C := []) A rfl
/-- A frame in a variable of its own, and a result behind it. -/
theorem two_boxes (w : World) (f : Fd) (s : Value) : Box ((w.alloc (.cells (FC f s) 37)).alloc (.cells (FC zeroF (.slice none 0 0)) 37)) w.heap.size (fcl f s) ∧ Box ((w.alloc (.cells (FC f s) 37)).alloc (.cells (FC zeroF (.slice none 0 0)) 37)) (w.heap.size + 1) (fcl zeroF (.slice none 0 0)) ∧
    Below w.heap.size w ((w.alloc (.cells (FC f s) 37)).alloc (.cells (FC zeroF (.slice none 0 0)) 37)) ∧ w.heap.size + 2 ≤ ((w.alloc (.cells (FC f s) 37)).alloc (.cells (FC zeroF (.slice none 0 0)) 37)).heap.size := by
  refine ⟨(Box.new w (fcl f s) 37).alloc _, ?_, by go_grown, by simp⟩
  have h := Box.new (w.alloc (.cells (FC f s) 37)) (fcl zeroF (.slice none 0 0)) 37
  rw [World.size_alloc] at h
  exact h
section
attribute [local go_sem] FC12 FC13 FC14 FC15 FC16 FC_size ZF FS12 FS13 FS14 FS16
set_option maxRecDepth 100000 in
set_option maxHeartbeats 4000000 in
theorem untag41 (f : Fd) (s : Value) (hs : s.oneCell' = true) (w : World) :
    Calls Try.prog 41 #[.agg (FC f s)] w fun e w' => e = .returned (.agg (FC (untF f) s)) ∧ Below w.heap.size w w' := by
  obtain ⟨A0, Z0, W0, L0⟩ := two_boxes w (untF f) s
  have A1 := hide A0
  have Z1 := hide Z0
  have W1 := hide W0
  have HS := hide hs
  clear A0 Z0 W0
  have tk1 : True := trivial
  have tk2 : True := trivial
  go_enter Try.func41, Try.ntmps41
  go_wp2_with (first | (have _t := tk1; refine wpl_frame (.tmp 1) rfl A1.out ?_ ?_ ?_; rfl; rfl; clear tk1) | (have _t := tk2; refine wpl_putF (untF f) s _ _ HS.out (.tmp 2) (.tmp 6) rfl Z1.out ?_ ?_ ?_ ?_; rfl; rfl; rfl; clear tk2))
  intro w2 Z2 g2
  have W2 := hide (below_grown W1.out g2 (by omega) (by omega))
  have Z3 := hide Z2
  clear Z2 g2 A1 Z1 W1
  go_wp2
  exact bodyPost_ret (res_frame rfl rfl Z3.out) rfl ⟨rfl, W2.out⟩
set_option maxRecDepth 100000 in
set_option maxHeartbeats 4000000 in
theorem tag40 (f : Fd) (v p : Int) (a : Option Addr) (n c : Nat) (hl : f.bs.length = n) (w : World) (hr : rt (tagF f v p) = true) :
    Calls Try.prog 40 #[.agg (FC f (.slice a n c)), .int .i64 v, .int .i64 p] w fun e w' => e = .returned (.tuple #[.agg (FC (tagF f v p) (.slice a n c)), .int .i64 0]) ∧ Below w.heap.size w w' := by
  obtain ⟨A0, Z0, W0, L0⟩ := two_boxes w (tagF f v p) (.slice a n c)
  have q := fun W => right35 (tagF f v p) a n c hl W
  rw [hr] at q
  have Q := hide q
  have A1 := hide A0
  have Z1 := hide Z0
  have W1 := hide W0
  clear A0 Z0 W0 q
  have tk1 : True := trivial
  go_enter Try.func40, Try.ntmps40
  go_wp2_with (first | (have _t := tk1; refine wpl_frame (.tmp 3) rfl A1.out ?_ ?_ ?_; rfl; rfl; clear tk1))
  refine (Q.out _).mono ?_
  rintro e w1 ⟨rfl, B1⟩
  have A2 := hide (A1.out.on B1)
  have Z2 := hide (Z1.out.on B1)
  have W2 := hide (belowOn W1.out B1)
  have L1 := B1.size
  clear A1 Z1 W1 B1
  have tk2 : True := trivial
  have tk3 : True := trivial
  go_wp2_with (first | (have _t := tk2; refine wpl_frame (.tmp 3) rfl A2.out ?_ ?_ ?_; rfl; rfl; clear tk2) | (have _t := tk3; refine wpl_putF (tagF f v p) (.slice a n c) _ _ rfl (.tmp 6) (.tmp 19) rfl Z2.out ?_ ?_ ?_ ?_; rfl; rfl; rfl; clear tk3))
  intro w2 Z3 g2
  have W3 := hide (below_grown W2.out g2 (by omega) W2.out.size)
  have Z4 := hide Z3
  clear Z3 g2 A2 Z2 W2
  go_wp2
  exact bodyPost_ret (res_frame_tmp rfl rfl Z4.out) rfl ⟨rfl, W3.out⟩
set_option maxRecDepth 100000 in
set_option maxHeartbeats 4000000 in
theorem untag38 (f : Fd) (a : Option Addr) (n c : Nat) (w : World) (hY : Byt w a n c f.bs) (hn : n ≤ 5000) :
    Calls Try.prog 38 #[.agg (FC f (.slice a n c))] w fun e w' => ∃ a' c', e = .returned (.agg (FC (untF f) (.slice a' n c'))) ∧ Byt w' a' n c' f.bs ∧ (∀ b o, a' = some ⟨b, o, none⟩ → w.heap.size + 2 ≤ b) ∧ Below w.heap.size w w' := by
  obtain ⟨A0, Z0, W0, L0⟩ := two_boxes w (untF f) (.slice a n c)
  have Y0 := hide (hY.on W0)
  have A1 := hide A0
  have Z1 := hide Z0
  have W1 := hide W0
  clear A0 Z0 W0 hY
  go_enter Try.func38, Try.ntmps38
  go_wp2_with fail
  refine (clone49 a n c f.bs _ Y0.out (by omega)).mono ?_
  rintro e w1 ⟨a', c', rfl, Y1, hf, B1⟩
  have c16 := (A1.out.on B1).cell 16 _ rfl
  have f16 := (A1.out.on B1).free 16 (by simp [fcl, dcl, scl])
  have A2 := hide (box16 (A1.out.on B1) (.slice a' n c'))
  have g1 := setCell_grown w1 w.heap.size 16 (.slice a' n c')
  have Z2 := hide ((Z1.out.on B1).kept (by omega) g1)
  have W2 := hide (below_grown (belowOn W1.out B1) g1 (Nat.le_refl _) (by have := B1.size; omega))
  have Y2 := hide (Y1.kept (fun b o e _ => by have := hf b o e; omega) g1)
  have HF := hide hf
  have L1 := B1.size
  clear A1 Z1 W1 B1 Y1 Y0 g1 hf
  have tk2 : True := trivial
  have tk3 : True := trivial
  go_wp2_with (first | (have _t := tk2; refine wpl_frame (.tmp 1) rfl A2.out ?_ ?_ ?_; rfl; rfl; clear tk2) | (have _t := tk3; refine wpl_putF (untF f) (.slice a' n c') _ _ rfl (.tmp 2) (.tmp 10) rfl Z2.out ?_ ?_ ?_ ?_; rfl; rfl; rfl; clear tk3))
  intro w2 Z3 g2
  have W3 := hide (below_grown W2.out g2 (by omega) (by have := W2.out.size; omega))
  have Y3 := hide (Y2.out.kept (fun b o e _ => by have := HF.out b o e; omega) g2)
  have Z4 := hide Z3
  clear Z3 g2 A2 Z2 W2 Y2 c16 f16
  go_wp2
  exact bodyPost_ret (res_frame rfl rfl Z4.out) rfl ⟨a', c', rfl, Y3.out, fun b o e => by have := HF.out b o e; omega, W3.out⟩
set_option maxRecDepth 100000 in
set_option maxHeartbeats 4000000 in
theorem tag37 (f : Fd) (v p : Int) (a : Option Addr) (n c : Nat) (w : World) (hY : Byt w a n c f.bs) (hn : n ≤ 5000) (hr : rt (tagF f v p) = true) :
    Calls Try.prog 37 #[.agg (FC f (.slice a n c)), .int .i64 v, .int .i64 p] w fun e w' => ∃ a' c', e = .returned (.tuple #[.agg (FC (tagF f v p) (.slice a' n c')), .int .i64 0]) ∧ Byt w' a' n c' f.bs ∧ (∀ b o, a' = some ⟨b, o, none⟩ → w.heap.size + 2 ≤ b) ∧ Below w.heap.size w w' := by
  obtain ⟨A0, Z0, W0, L0⟩ := two_boxes w (tagF f v p) (.slice a n c)
  have q := fun W => right34 (tagF f v p) a n c hY.len W
  rw [hr] at q
  have Q := hide q
  have Y0 := hide (hY.on W0)
  have A1 := hide A0
  have Z1 := hide Z0
  have W1 := hide W0
  clear A0 Z0 W0 hY q
  have tk1 : True := trivial
  go_enter Try.func37, Try.ntmps37
  go_wp2_with (first | (have _t := tk1; refine wpl_frame (.tmp 3) rfl A1.out ?_ ?_ ?_; rfl; rfl; clear tk1))
  refine (Q.out _).mono ?_
  rintro e w0 ⟨rfl, B0⟩
  have A1b := hide (A1.out.on B0)
  have Z1b := hide (Z1.out.on B0)
  have W1b := hide (belowOn W1.out B0)
  have Y0b := hide (Y0.out.on B0)
  have L2 := B0.size
  have c16b := A1b.out.cell 16 _ rfl
  have lA := A1b.out.lt
  have lZ := Z1b.out.lt
  clear A1 Z1 W1 B0 Y0
  go_wp2_with fail
  refine (clone49 a n c f.bs _ Y0b.out (by omega)).mono ?_
  rintro e w1 ⟨a', c', rfl, Y1, hf, B1⟩
  have c16 := (A1b.out.on B1).cell 16 _ rfl
  have f16 := (A1b.out.on B1).free 16 (by simp [fcl, dcl, scl])
  have A2 := hide (box16 (A1b.out.on B1) (.slice a' n c'))
  have g1 := setCell_grown w1 w.heap.size 16 (.slice a' n c')
  have Z2 := hide ((Z1b.out.on B1).kept (by omega) g1)
  have W2 := hide (below_grown (belowOn W1b.out B1) g1 (Nat.le_refl _) (belowOn W1b.out B1).size)
  have Y2 := hide (Y1.kept (fun b o e _ => by have := hf b o e; omega) g1)
  have HF := hide hf
  have L1 := B1.size
  clear A1b Z1b W1b B1 Y1 Y0b g1 hf c16b
  have tk2 : True := trivial
  have tk3 : True := trivial
  go_wp2_with (first | (have _t := tk2; refine wpl_frame (.tmp 3) rfl A2.out ?_ ?_ ?_; rfl; rfl; clear tk2) | (have _t := tk3; refine wpl_putF (tagF f v p) (.slice a' n c') _ _ rfl (.tmp 6) (.tmp 21) rfl Z2.out ?_ ?_ ?_ ?_; rfl; rfl; rfl; clear tk3))
  intro w2 Z3 g2
  have W3 := hide (below_grown W2.out g2 (by omega) (by have := W2.out.size; omega))
  have Y3 := hide (Y2.out.kept (fun b o e _ => by have := HF.out b o e; omega) g2)
  have Z4 := hide Z3
  clear Z3 g2 A2 Z2 W2 Y2 c16 f16
  go_wp2
  exact bodyPost_ret (res_frame_tmp rfl rfl Z4.out) rfl ⟨a', c', rfl, Y3.out, fun b o e => by have := HF.out b o e; omega, W3.out⟩
end
end Go.Proofs.Ytelinahpneikiaa
