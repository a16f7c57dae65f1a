/- BpduBack: for every BPDU and all bytes the law answers true, and both read behind the call as they read before. No condition. -/
import Derived.Test.YtdaglmimfkcmeaaAw
import Derived.Test.YtdaglmimfkcmeaaDe
import Derived.Test.YtdaglmimfkcmeaaOp
namespace Go.Proofs.Ytdaglmimfkcmeaa
open Go.ChangeShapes Go.WideShapes Go.ChangeAt Go.RowKit

section
attribute [local go_sem] ZB
set_option maxRecDepth 100000 in
set_option maxHeartbeats 4000000 in
theorem back0 (l : Bpd) (ao : Option Addr) (n c : Nat) (ns : List Int) (w : World) (hb : Byt w ao n c ns) (hn : (1000 : Int) < n) :
    Calls Try.prog 6 #[.agg (BC l), .slice ao n c] w fun e w' => e = .returned (.bool true) ∧ Below w.heap.size w w' := by
  have hn' : decide ((1000 : Int) < n) = true := by simp; omega
  have A0 : Box (w.alloc (.cells (BC l) 27)) w.heap.size (bcl l) := Box.new w (bcl l) 27
  have Y0 := hb.alloc (.cells (BC l) 27)
  have W0 := below_alloc w (.cells (BC l) 27)
  clear hb
  go_enter Try.func6, Try.ntmps6
  go_wp2_with fail
  refine (awake9 _).mono ?_
  rintro e w1 ⟨rfl, hb1⟩
  replace A0 := A0.on hb1; replace Y0 := Y0.on hb1; replace W0 := belowOn W0 hb1
  clear hb1
  clear A0 Y0
  go_wp2
  go_ret
  exact ⟨rfl, W0⟩
set_option maxRecDepth 100000 in
set_option maxHeartbeats 4000000 in
theorem back_f_f (l : Bpd) (ao : Option Addr) (n c : Nat) (ns : List Int) (w : World) (hl : BpdB l) (hb : Byt w ao n c ns) (hn : (n : Int) ≤ 1000) (kl : brt l = false) (ko : ok ns = false) :
    Calls Try.prog 6 #[.agg (BC l), .slice ao n c] w fun e w' => e = .returned (.bool true) ∧ Below w.heap.size w w' := by
  have hn' : decide ((1000 : Int) < n) = false := by simp; omega
  have A0 : Box (w.alloc (.cells (BC l) 27)) w.heap.size (bcl l) := Box.new w (bcl l) 27
  have Y0 := hb.alloc (.cells (BC l) 27)
  have W0 := below_alloc w (.cells (BC l) 27)
  clear hb
  go_enter Try.func6, Try.ntmps6
  go_wp2_with fail
  refine (awake9 _).mono ?_
  rintro e w1 ⟨rfl, hb1⟩
  replace A0 := A0.on hb1; replace Y0 := Y0.on hb1; replace W0 := belowOn W0 hb1
  clear hb1
  have tk1 : True := trivial
  go_wp2_with (have _t := tk1; refine wpl_bpdu (.tmp 2) rfl A0 ?_ ?_ ?_; rfl; rfl; clear tk1)
  refine (encode10_no l _ hl kl).mono ?_
  rintro e w2 ⟨rfl, hb1⟩
  replace A0 := A0.on hb1; replace Y0 := Y0.on hb1; replace W0 := belowOn W0 hb1
  clear hb1
  clear A0
  go_wp2_with fail
  have hlY := Y0.lt
  refine (dec14_no _ _ _ _ _ Y0 ko).mono ?_
  rintro e w5 ⟨rfl, hb1⟩
  replace Y0 := Y0.on hb1; replace W0 := belowOn W0 hb1
  have D0 : Box (w5.alloc (.cells (BC zeroB) 27)) w5.heap.size (bcl zeroB) := Box.new w5 (bcl zeroB) 27
  replace hlY := Y0.lt
  have HLY := hide hlY
  have S5 : w.heap.size ≤ w5.heap.size := W0.size
  replace Y0 := Y0.alloc (.cells (BC zeroB) 27); replace W0 := belowOn W0 (below_alloc w5 (.cells (BC zeroB) 27))
  have tk1 : True := trivial
  have tk2 : True := trivial
  have he := eqB zeroB zeroB
  have hq := bpeq_self zeroB
  clear hb1 hlY
  go_wp2_with (first | (have _t := tk1; refine wpl_putB zeroB zeroB (.tmp 10) (.tmp 45) rfl D0 ?_ ?_ ?_ ?_; rfl; rfl; rfl; clear tk1; intro w6 D1 g2) | (have _t := tk2; refine wpl_bpdu (.tmp 10) rfl D1 ?_ ?_ ?_; rfl; rfl; clear tk2))
  replace W0 := below_grown W0 g2 S5 (by simp; omega)
  go_ret
  exact ⟨rfl, W0⟩
set_option maxRecDepth 100000 in
set_option maxHeartbeats 4000000 in
theorem back_f_t (l : Bpd) (ao : Option Addr) (n c : Nat) (ns : List Int) (w : World) (hl : BpdB l) (hb : Byt w ao n c ns) (hn : (n : Int) ≤ 1000) (kl : brt l = false) (ko : ok ns = true) :
    Calls Try.prog 6 #[.agg (BC l), .slice ao n c] w fun e w' => e = .returned (.bool true) ∧ Below w.heap.size w w' := by
  have hn' : decide ((1000 : Int) < n) = false := by simp; omega
  have KE := hide (ok_inv hb.rng ko)
  have A0 : Box (w.alloc (.cells (BC l) 27)) w.heap.size (bcl l) := Box.new w (bcl l) 27
  have Y0 := hb.alloc (.cells (BC l) 27)
  have W0 := below_alloc w (.cells (BC l) 27)
  clear hb
  go_enter Try.func6, Try.ntmps6
  go_wp2_with fail
  refine (awake9 _).mono ?_
  rintro e w1 ⟨rfl, hb1⟩
  replace A0 := A0.on hb1; replace Y0 := Y0.on hb1; replace W0 := belowOn W0 hb1
  clear hb1
  have tk1 : True := trivial
  go_wp2_with (have _t := tk1; refine wpl_bpdu (.tmp 2) rfl A0 ?_ ?_ ?_; rfl; rfl; clear tk1)
  refine (encode10_no l _ hl kl).mono ?_
  rintro e w2 ⟨rfl, hb1⟩
  replace A0 := A0.on hb1; replace Y0 := Y0.on hb1; replace W0 := belowOn W0 hb1
  clear hb1
  clear A0
  go_wp2_with fail
  have hlY := Y0.lt
  refine (dec14_yes _ _ _ _ _ Y0 ko).mono ?_
  rintro e w5 ⟨rfl, hb1⟩
  replace Y0 := Y0.on hb1; replace W0 := belowOn W0 hb1
  have D0 : Box (w5.alloc (.cells (BC zeroB) 27)) w5.heap.size (bcl zeroB) := Box.new w5 (bcl zeroB) 27
  replace hlY := Y0.lt
  have HLY := hide hlY
  have S5 : w.heap.size ≤ w5.heap.size := W0.size
  replace Y0 := Y0.alloc (.cells (BC zeroB) 27); replace W0 := belowOn W0 (below_alloc w5 (.cells (BC zeroB) 27))
  have tk1 : True := trivial
  have tk2 : True := trivial
  clear hb1 hlY
  go_wp2_with (first | (have _t := tk1; refine wpl_putB (bpd ns) zeroB (.tmp 10) (.tmp 45) rfl D0 ?_ ?_ ?_ ?_; rfl; rfl; rfl; clear tk1; intro w6 D1 g2) | (have _t := tk2; refine wpl_bpdu (.tmp 10) rfl D1 ?_ ?_ ?_; rfl; rfl; clear tk2))
  replace W0 := below_grown W0 g2 S5 (by simp; omega)
  have Y1 := Y0.kept (k := w5.heap.size) (fun b o e hp => Nat.ne_of_lt (HLY.out b o e hp)) g2
  clear D0 g2 HLY Y0
  refine (encode10_yes (bpd ns) _ KE.out.2.2 KE.out.2.1).mono ?_
  rw [KE.out.1]
  rintro e w7 ⟨g3, c3, rfl, Y3, hb1⟩
  replace Y1 := Y1.on hb1; replace W0 := belowOn W0 hb1; replace D1 := D1.on hb1
  have hc1 := bytStr Y1
  have hc2 := bytStr Y3
  have hq := bs_beq_self ns
  clear hb1 Y1 Y3
  have tk1 : True := trivial
  go_wp2_with (have _t := tk1; refine wpl_bpdu (.tmp 10) rfl D1 ?_ ?_ ?_; rfl; rfl; clear tk1)
  refine (right12 (bpd ns) _ KE.out.2.2).mono ?_
  rw [KE.out.2.1]
  rintro e w8 ⟨rfl, hb1⟩
  replace W0 := belowOn W0 hb1
  clear hb1 D1
  go_wp2
  go_ret
  exact ⟨rfl, W0⟩
set_option maxRecDepth 100000 in
set_option maxHeartbeats 4000000 in
theorem back_t_f (l : Bpd) (ao : Option Addr) (n c : Nat) (ns : List Int) (w : World) (hl : BpdB l) (hb : Byt w ao n c ns) (hn : (n : Int) ≤ 1000) (kl : brt l = true) (ko : ok ns = false) :
    Calls Try.prog 6 #[.agg (BC l), .slice ao n c] w fun e w' => e = .returned (.bool true) ∧ Below w.heap.size w w' := by
  have hn' : decide ((1000 : Int) < n) = false := by simp; omega
  have KO := hide (ok_enc hl kl).1
  have KL := hide (ok_enc hl kl).2
  have A0 : Box (w.alloc (.cells (BC l) 27)) w.heap.size (bcl l) := Box.new w (bcl l) 27
  have Y0 := hb.alloc (.cells (BC l) 27)
  have W0 := below_alloc w (.cells (BC l) 27)
  clear hb
  go_enter Try.func6, Try.ntmps6
  go_wp2_with fail
  refine (awake9 _).mono ?_
  rintro e w1 ⟨rfl, hb1⟩
  replace A0 := A0.on hb1; replace Y0 := Y0.on hb1; replace W0 := belowOn W0 hb1
  clear hb1
  have tk1 : True := trivial
  go_wp2_with (have _t := tk1; refine wpl_bpdu (.tmp 2) rfl A0 ?_ ?_ ?_; rfl; rfl; clear tk1)
  refine (encode10_yes l _ hl kl).mono ?_
  rintro e w2 ⟨g1, c1, rfl, Y1, hb1⟩
  replace A0 := A0.on hb1; replace Y0 := Y0.on hb1; replace W0 := belowOn W0 hb1
  clear hb1
  go_wp2_with fail
  refine (dec14_yes _ _ _ _ _ Y1 KO.out).mono ?_
  rw [KL.out]
  rintro e w3 ⟨rfl, hb1⟩
  replace A0 := A0.on hb1; replace Y0 := Y0.on hb1; replace W0 := belowOn W0 hb1
  have D0 : Box (w3.alloc (.cells (BC zeroB) 27)) w3.heap.size (bcl zeroB) := Box.new w3 (bcl zeroB) 27
  have S3 : w.heap.size < w3.heap.size := A0.lt
  have hlY := Y0.lt
  have HLY := hide hlY
  replace A0 := A0.alloc (.cells (BC zeroB) 27); replace Y0 := Y0.alloc (.cells (BC zeroB) 27); replace W0 := belowOn W0 (below_alloc w3 (.cells (BC zeroB) 27))
  have he := eqB l l
  have hq := bpeq_self l
  have tk1 : True := trivial
  have tk2 : True := trivial
  have tk3 : True := trivial
  clear hb1 Y1 hlY
  go_wp2_with (first | (have _t := tk1; refine wpl_putB l zeroB (.tmp 8) (.tmp 33) rfl D0 ?_ ?_ ?_ ?_; rfl; rfl; rfl; clear tk1; intro w4 D1 g2; have A1 := A0.kept (by omega) g2) | (have _t := tk2; refine wpl_bpdu (.tmp 8) rfl D1 ?_ ?_ ?_; rfl; rfl; clear tk2) | (have _t := tk3; refine wpl_bpdu (.tmp 2) rfl A1 ?_ ?_ ?_; rfl; rfl; clear tk3))
  have Y1 := Y0.kept (k := w3.heap.size) (fun b o e hp => Nat.ne_of_lt (HLY.out b o e hp)) g2
  replace W0 := below_grown W0 g2 (by omega) (by simp; omega)
  clear he hq D0 D1 A0 A1 Y0 g2 HLY
  have Y0 := Y1
  clear Y1
  have hlY := Y0.lt
  refine (dec14_no _ _ _ _ _ Y0 ko).mono ?_
  rintro e w5 ⟨rfl, hb1⟩
  replace Y0 := Y0.on hb1; replace W0 := belowOn W0 hb1
  have D0 : Box (w5.alloc (.cells (BC zeroB) 27)) w5.heap.size (bcl zeroB) := Box.new w5 (bcl zeroB) 27
  replace hlY := Y0.lt
  have HLY := hide hlY
  have S5 : w.heap.size ≤ w5.heap.size := W0.size
  replace Y0 := Y0.alloc (.cells (BC zeroB) 27); replace W0 := belowOn W0 (below_alloc w5 (.cells (BC zeroB) 27))
  have tk1 : True := trivial
  have tk2 : True := trivial
  have he := eqB zeroB zeroB
  have hq := bpeq_self zeroB
  clear hb1 hlY
  go_wp2_with (first | (have _t := tk1; refine wpl_putB zeroB zeroB (.tmp 10) (.tmp 45) rfl D0 ?_ ?_ ?_ ?_; rfl; rfl; rfl; clear tk1; intro w6 D1 g2) | (have _t := tk2; refine wpl_bpdu (.tmp 10) rfl D1 ?_ ?_ ?_; rfl; rfl; clear tk2))
  replace W0 := below_grown W0 g2 S5 (by simp; omega)
  go_ret
  exact ⟨rfl, W0⟩
set_option maxRecDepth 100000 in
set_option maxHeartbeats 4000000 in
theorem back_t_t (l : Bpd) (ao : Option Addr) (n c : Nat) (ns : List Int) (w : World) (hl : BpdB l) (hb : Byt w ao n c ns) (hn : (n : Int) ≤ 1000) (kl : brt l = true) (ko : ok ns = true) :
    Calls Try.prog 6 #[.agg (BC l), .slice ao n c] w fun e w' => e = .returned (.bool true) ∧ Below w.heap.size w w' := by
  have hn' : decide ((1000 : Int) < n) = false := by simp; omega
  have KO := hide (ok_enc hl kl).1
  have KL := hide (ok_enc hl kl).2
  have KE := hide (ok_inv hb.rng ko)
  have A0 : Box (w.alloc (.cells (BC l) 27)) w.heap.size (bcl l) := Box.new w (bcl l) 27
  have Y0 := hb.alloc (.cells (BC l) 27)
  have W0 := below_alloc w (.cells (BC l) 27)
  clear hb
  go_enter Try.func6, Try.ntmps6
  go_wp2_with fail
  refine (awake9 _).mono ?_
  rintro e w1 ⟨rfl, hb1⟩
  replace A0 := A0.on hb1; replace Y0 := Y0.on hb1; replace W0 := belowOn W0 hb1
  clear hb1
  have tk1 : True := trivial
  go_wp2_with (have _t := tk1; refine wpl_bpdu (.tmp 2) rfl A0 ?_ ?_ ?_; rfl; rfl; clear tk1)
  refine (encode10_yes l _ hl kl).mono ?_
  rintro e w2 ⟨g1, c1, rfl, Y1, hb1⟩
  replace A0 := A0.on hb1; replace Y0 := Y0.on hb1; replace W0 := belowOn W0 hb1
  clear hb1
  go_wp2_with fail
  refine (dec14_yes _ _ _ _ _ Y1 KO.out).mono ?_
  rw [KL.out]
  rintro e w3 ⟨rfl, hb1⟩
  replace A0 := A0.on hb1; replace Y0 := Y0.on hb1; replace W0 := belowOn W0 hb1
  have D0 : Box (w3.alloc (.cells (BC zeroB) 27)) w3.heap.size (bcl zeroB) := Box.new w3 (bcl zeroB) 27
  have S3 : w.heap.size < w3.heap.size := A0.lt
  have hlY := Y0.lt
  have HLY := hide hlY
  replace A0 := A0.alloc (.cells (BC zeroB) 27); replace Y0 := Y0.alloc (.cells (BC zeroB) 27); replace W0 := belowOn W0 (below_alloc w3 (.cells (BC zeroB) 27))
  have he := eqB l l
  have hq := bpeq_self l
  have tk1 : True := trivial
  have tk2 : True := trivial
  have tk3 : True := trivial
  clear hb1 Y1 hlY
  go_wp2_with (first | (have _t := tk1; refine wpl_putB l zeroB (.tmp 8) (.tmp 33) rfl D0 ?_ ?_ ?_ ?_; rfl; rfl; rfl; clear tk1; intro w4 D1 g2; have A1 := A0.kept (by omega) g2) | (have _t := tk2; refine wpl_bpdu (.tmp 8) rfl D1 ?_ ?_ ?_; rfl; rfl; clear tk2) | (have _t := tk3; refine wpl_bpdu (.tmp 2) rfl A1 ?_ ?_ ?_; rfl; rfl; clear tk3))
  have Y1 := Y0.kept (k := w3.heap.size) (fun b o e hp => Nat.ne_of_lt (HLY.out b o e hp)) g2
  replace W0 := below_grown W0 g2 (by omega) (by simp; omega)
  clear he hq D0 D1 A0 A1 Y0 g2 HLY
  have Y0 := Y1
  clear Y1
  have hlY := Y0.lt
  refine (dec14_yes _ _ _ _ _ Y0 ko).mono ?_
  rintro e w5 ⟨rfl, hb1⟩
  replace Y0 := Y0.on hb1; replace W0 := belowOn W0 hb1
  have D0 : Box (w5.alloc (.cells (BC zeroB) 27)) w5.heap.size (bcl zeroB) := Box.new w5 (bcl zeroB) 27
  replace hlY := Y0.lt
  have HLY := hide hlY
  have S5 : w.heap.size ≤ w5.heap.size := W0.size
  replace Y0 := Y0.alloc (.cells (BC zeroB) 27); replace W0 := belowOn W0 (below_alloc w5 (.cells (BC zeroB) 27))
  have tk1 : True := trivial
  have tk2 : True := trivial
  clear hb1 hlY
  go_wp2_with (first | (have _t := tk1; refine wpl_putB (bpd ns) zeroB (.tmp 10) (.tmp 45) rfl D0 ?_ ?_ ?_ ?_; rfl; rfl; rfl; clear tk1; intro w6 D1 g2) | (have _t := tk2; refine wpl_bpdu (.tmp 10) rfl D1 ?_ ?_ ?_; rfl; rfl; clear tk2))
  replace W0 := below_grown W0 g2 S5 (by simp; omega)
  have Y1 := Y0.kept (k := w5.heap.size) (fun b o e hp => Nat.ne_of_lt (HLY.out b o e hp)) g2
  clear D0 g2 HLY Y0
  refine (encode10_yes (bpd ns) _ KE.out.2.2 KE.out.2.1).mono ?_
  rw [KE.out.1]
  rintro e w7 ⟨g3, c3, rfl, Y3, hb1⟩
  replace Y1 := Y1.on hb1; replace W0 := belowOn W0 hb1; replace D1 := D1.on hb1
  have hc1 := bytStr Y1
  have hc2 := bytStr Y3
  have hq := bs_beq_self ns
  clear hb1 Y1 Y3
  have tk1 : True := trivial
  go_wp2_with (have _t := tk1; refine wpl_bpdu (.tmp 10) rfl D1 ?_ ?_ ?_; rfl; rfl; clear tk1)
  refine (right12 (bpd ns) _ KE.out.2.2).mono ?_
  rw [KE.out.2.1]
  rintro e w8 ⟨rfl, hb1⟩
  replace W0 := belowOn W0 hb1
  clear hb1 D1
  go_wp2
  go_ret
  exact ⟨rfl, W0⟩
end
theorem backWalk (l : Bpd) (ao : Option Addr) (n c : Nat) (ns : List Int) (w : World) (hl : BpdB l) (hb : Byt w ao n c ns) :
    Calls Try.prog 6 #[.agg (BC l), .slice ao n c] w fun e w' => e = .returned (.bool true) ∧ Below w.heap.size w w' := by
  by_cases hn : (1000 : Int) < n
  · exact back0 l ao n c ns w hb hn
  · have hn' : (n : Int) ≤ 1000 := by omega
    cases kl : brt l <;> cases ko : ok ns
    · exact back_f_f l ao n c ns w hl hb hn' kl ko
    · exact back_f_t l ao n c ns w hl hb hn' kl ko
    · exact back_t_f l ao n c ns w hl hb hn' kl ko
    · exact back_t_t l ao n c ns w hl hb hn' kl ko
set_option maxRecDepth 100000 in
set_option maxHeartbeats 2000000 in
theorem bpduBacklifted (os : Os) (started : os.Started) (H : Type) (enc : TypeId × Value → H) :
    ReturnsInHanded {} Try.checked os 6 .any (Rows.bpduBackSpec.pre6 enc Try.prog Try.f6 Rows.bpduBackRow.domain false) (Rows.bpduBackSpec.post enc Try.prog Try.f6 false true false false) := by
  refine returnsInHanded_of_change (C := Try.checked) own started (by kernel_rfl) Try.func6
    (ChangeSpec.witness6 (enc := enc) (C := Try.checked) false ⟨#[], #[.agg #[.int .i64 0, .int .i64 0, .int .i64 0, .int .u8 0, .int .u8 0, .int .u8 0, .int .u8 0, .int .u8 0, .int .u8 0, .int .i64 0, .int .i64 0, .int .u8 0, .int .u8 0, .int .u8 0, .int .u8 0, .int .u8 0, .int .u8 0, .int .i64 0, .int .i64 0, .int .i64 0, .int .i64 0, .int .i64 0], .slice none 0 0], []⟩ 8 (by kernel_rfl) (by kernel_rfl) (by kernel_rfl) (by kernel_rfl)) ?_
  intro W base args ds gs before hval0 hW _ _
  have hval : ∀ (j : Nat) t v, Try.f6.params[j]? = some t → args[j]? = some v → Value.okWide Try.prog W .any base t v := hval0
  have hW' := hW
  obtain ⟨p, q, hA0, hV, rfl, _, _⟩ := hW
  have hA : DataW.TrodAll enc Try.prog W 0 (fun _ => true) true Try.f6.params.toList args.toList ds p := hA0
  rw [Try.params6] at hA hval
  obtain ⟨v0, vs0, d0, ds0, p0, q0, hargs, rfl, rfl, h0, r0⟩ := trodAll_cons hA
  obtain ⟨v1, vs1, d1, ds1, p1, q1, rfl, rfl, rfl, h1, r1⟩ := trodAll_cons r0
  obtain ⟨rfl, rfl, rfl⟩ := trodAll_nil r1
  obtain rfl : args = #[v0, v1] := by cases args; simp_all
  obtain ⟨rfl, rfl⟩ := trodVars_none hV
  have h0k := h0
  obtain ⟨l0, rfl, hl0⟩ := open_bpdu (hval 0 27 v0 rfl rfl) h0
  have h1k := h1
  obtain ⟨ao1, n1, c1, ns1, rfl, hb1⟩ := open_bytes (hval 1 29 v1 rfl rfl) h1
  clear hA0 hval0
  simp only [List.append_nil] at hW'
  have hlt : ∀ x ∈ p0 ++ p1, x.block < W.heap.size := fun x hx => by simpa using hW'.lt x (by simpa using hx)
  refine (backWalk l0 ao1 n1 c1 ns1 W hl0 hb1).mono fun e W' ⟨he, hbl⟩ => ?_
  subst he
  exact ⟨_, rfl, _, _, _, [], _, [], hW', (trodAll_cons_mk (shut_bool Try.underlying4 _) trodAll_mk0), (trodAll_cons_mk (Below.trod Try.laidOut (by kernel_rfl) (of_decide_eq_true (by kernel_rfl)) h0k hbl (fun x hx => hlt x (by simp [hx]))) (trodAll_cons_mk (Below.trod Try.laidOut (by kernel_rfl) (of_decide_eq_true (by kernel_rfl)) h1k hbl (fun x hx => hlt x (by simp [hx]))) trodAll_mk0)), rfl, hbl.frame _, fun h => by cases h⟩

theorem bpduBack_holds : Rows.BpduBackSaid :=
  OpenClaim.holds_of_wide 6 Try.f6 rfl rfl rfl rfl rfl rfl rfl ⟨rfl, rfl, rfl, rfl, rfl⟩ rfl rfl rfl rfl rfl (by kernel_rfl) Try.func6 (by kernel_rfl)
    (of_decide_eq_true (by kernel_rfl)) (by unfold Func.isWrapper; first | (rw [if_pos (by decide +kernel)]; kernel_rfl) | (rw [if_neg (by decide +kernel)]; exact ⟨rfl, rfl⟩))
    (fun os started H enc _ => bpduBacklifted os started H enc)

#print axioms bpduBack_holds
end Go.Proofs.Ytdaglmimfkcmeaa
