/- BpduDecodes: for all bytes the law answers true, and they read behind the call as they read before. No condition. -/
import Derived.Test.YtdaglmimfkcmeaaAw
import Derived.Test.YtdaglmimfkcmeaaDe
import Derived.Test.YtdaglmimfkcmeaaRc
import Derived.Test.YtdaglmimfkcmeaaOp
namespace Go.Proofs.Ytdaglmimfkcmeaa
open Go.ChangeShapes Go.WideShapes Go.ChangeAt Go.RowKit

section
attribute [local go_sem] ZB
set_option maxRecDepth 100000 in
set_option maxHeartbeats 4000000 in
theorem decodesWalk (ao : Option Addr) (n c : Nat) (ns : List Int) (w : World) (hb : Byt w ao n c ns) :
    Calls Try.prog 4 #[.slice ao n c] w fun e w' => e = .returned (.bool true) ∧ Below w.heap.size w w' := by
  by_cases hn : (1000 : Int) < n
  · have hn' : decide ((1000 : Int) < n) = true := by simp; omega
    have Y0 := hb
    have W0 := Below.refl w.heap.size w
    clear hb
    go_enter Try.func4, Try.ntmps4
    go_wp2_with fail
    refine (awake9 _).mono ?_
    rintro e w1 ⟨rfl, hb1⟩
    replace Y0 := Y0.on hb1; replace W0 := belowOn W0 hb1
    clear hb1
    clear Y0
    go_wp2
    go_ret
    exact ⟨rfl, W0⟩
  have hn' : decide ((1000 : Int) < n) = false := by simp; omega
  have Y0 := hb
  have W0 := Below.refl w.heap.size w
  clear hb
  go_enter Try.func4, Try.ntmps4
  go_wp2_with fail
  refine (awake9 _).mono ?_
  rintro e w1 ⟨rfl, hb1⟩
  replace Y0 := Y0.on hb1; replace W0 := belowOn W0 hb1
  clear hb1
  go_wp2_with fail
  refine (decode14 _ _ _ _ _ Y0).mono ?_
  rintro e w2 ⟨rfl, hb1⟩
  replace Y0 := Y0.on hb1; replace W0 := belowOn W0 hb1
  have he := eqB (dl ns) (dl ns)
  have hq := bpeq_self (dl ns)
  generalize hD : dl ns = D at *
  generalize hE : dc ns = E at *
  have HD := hide hD; have HE := hide hE
  have C0 : Box (w2.alloc (.cells (BC zeroB) 27)) w2.heap.size (bcl zeroB) := Box.new w2 (bcl zeroB) 27
  have hlY := Y0.lt
  have HLY := hide hlY
  have S2 : w.heap.size ≤ w2.heap.size := W0.size
  replace Y0 := Y0.alloc (.cells (BC zeroB) 27); replace W0 := belowOn W0 (below_alloc w2 (.cells (BC zeroB) 27))
  have tk1 : True := trivial
  clear hb1 hlY hD hE
  go_wp2_with (have _t := tk1; refine wpl_putB D zeroB (.tmp 4) (.tmp 20) rfl C0 ?_ ?_ ?_ ?_; rfl; rfl; rfl; clear tk1; intro w3 C1 g2)
  have Y1 := Y0.kept (k := w2.heap.size) (fun b o e hp => Nat.ne_of_lt (HLY.out b o e hp)) g2
  replace W0 := below_grown W0 g2 S2 (by simp; omega)
  have S3 : w2.heap.size < w3.heap.size := C1.lt
  clear C0 g2 HLY Y0
  refine (decode15 _ _ _ _ _ Y1).mono ?_
  rw [HD.out, HE.out]
  rintro e w4 ⟨rfl, hb1⟩
  replace C1 := C1.on hb1; replace W0 := belowOn W0 hb1
  have S4 : w3.heap.size ≤ w4.heap.size := hb1.size
  have C2 := C1.alloc (.cells (BC zeroB) 27)
  have D0 : Box (w4.alloc (.cells (BC zeroB) 27)) w4.heap.size (bcl zeroB) := Box.new w4 (bcl zeroB) 27
  replace W0 := belowOn W0 (below_alloc w4 (.cells (BC zeroB) 27))
  have hee : (E == E) = true := by simp
  have tk1 : True := trivial
  have tk2 : True := trivial
  have tk3 : True := trivial
  clear hb1 Y1 C1
  go_wp2_with (first | (have _t := tk1; refine wpl_putB D zeroB (.tmp 6) (.tmp 25) rfl D0 ?_ ?_ ?_ ?_; rfl; rfl; rfl; clear tk1; intro w5 D1 g2; have C3 := C2.kept (by omega) g2) | (have _t := tk2; refine wpl_bpdu (.tmp 4) rfl C3 ?_ ?_ ?_; rfl; rfl; clear tk2) | (have _t := tk3; refine wpl_bpdu (.tmp 6) rfl D1 ?_ ?_ ?_; rfl; rfl; clear tk3))
  replace W0 := below_grown W0 g2 (by omega) (by simp; omega)
  go_ret
  exact ⟨rfl, W0⟩
end
set_option maxRecDepth 100000 in
set_option maxHeartbeats 2000000 in
theorem bpduDecodeslifted (os : Os) (started : os.Started) (H : Type) (enc : TypeId × Value → H) :
    ReturnsInHanded {} Try.checked os 4 .any (Rows.bpduDecodesSpec.pre6 enc Try.prog Try.f4 Rows.bpduDecodesRow.domain false) (Rows.bpduDecodesSpec.post enc Try.prog Try.f4 false true false false) := by
  refine returnsInHanded_of_change (C := Try.checked) own started (by kernel_rfl) Try.func4
    (ChangeSpec.witness6 (enc := enc) (C := Try.checked) false ⟨#[], #[.slice none 0 0], []⟩ 8 (by kernel_rfl) (by kernel_rfl) (by kernel_rfl) (by kernel_rfl)) ?_
  intro W base args ds gs before hval0 hW _ _
  have hval : ∀ (j : Nat) t v, Try.f4.params[j]? = some t → args[j]? = some v → Value.okWide Try.prog W .any base t v := hval0
  have hW' := hW
  obtain ⟨p, q, hA0, hV, rfl, _, _⟩ := hW
  have hA : DataW.TrodAll enc Try.prog W 0 (fun _ => true) true Try.f4.params.toList args.toList ds p := hA0
  rw [Try.params4] at hA hval
  obtain ⟨v0, vs0, d0, ds0, p0, q0, hargs, rfl, rfl, h0, r0⟩ := trodAll_cons hA
  obtain ⟨rfl, rfl, rfl⟩ := trodAll_nil r0
  obtain rfl : args = #[v0] := by cases args; simp_all
  obtain ⟨rfl, rfl⟩ := trodVars_none hV
  have h0k := h0
  obtain ⟨ao0, n0, c0, ns0, rfl, hb0⟩ := open_bytes (hval 0 29 v0 rfl rfl) h0
  clear hA0 hval0
  simp only [List.append_nil] at hW'
  have hlt : ∀ x ∈ p0, x.block < W.heap.size := fun x hx => by simpa using hW'.lt x (by simpa using hx)
  refine (decodesWalk ao0 n0 c0 ns0 W hb0).mono fun e W' ⟨he, hbl⟩ => ?_
  subst he
  exact ⟨_, rfl, _, _, _, [], _, [], hW', (trodAll_cons_mk (shut_bool Try.underlying4 _) trodAll_mk0), (trodAll_cons_mk (Below.trod Try.laidOut (by kernel_rfl) (of_decide_eq_true (by kernel_rfl)) h0k hbl (fun x hx => hlt x (by simp [hx]))) trodAll_mk0), rfl, hbl.frame _, fun h => by cases h⟩

theorem bpduDecodes_holds : Rows.BpduDecodesSaid :=
  OpenClaim.holds_of_wide 4 Try.f4 rfl rfl rfl rfl rfl rfl rfl ⟨rfl, rfl, rfl, rfl, rfl⟩ rfl rfl rfl rfl rfl (by kernel_rfl) Try.func4 (by kernel_rfl)
    (of_decide_eq_true (by kernel_rfl)) (by unfold Func.isWrapper; first | (rw [if_pos (by decide +kernel)]; kernel_rfl) | (rw [if_neg (by decide +kernel)]; exact ⟨rfl, rfl⟩))
    (fun os started H enc _ => bpduDecodeslifted os started H enc)

#print axioms bpduDecodes_holds
end Go.Proofs.Ytdaglmimfkcmeaa
