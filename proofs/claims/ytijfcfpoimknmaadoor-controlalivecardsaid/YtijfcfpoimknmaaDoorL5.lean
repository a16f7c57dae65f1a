/- ControlAlive: for every two numbers, whichever primary is, and all bytes the law answers true, and the bytes read behind the call as they read before. No condition beyond what the card's tie says of the table of kinds. -/
import Derived.Test.YtijfcfpoimknmaaDoorOp
import Derived.Test.YtijfcfpoimknmaaDoorAw
import Derived.Test.YtijfcfpoimknmaaDoorCards
import Derived.Test.YtijfcfpoimknmaaDoorTie
import Derived.SevenTiedAt
import Derived.Test.YtijfcfpoimknmaaDoorAm
import Derived.Test.YtijfcfpoimknmaaDoorR7
namespace Go.Proofs.YtijfcfpoimknmaaDoor
open Go.ChangeShapes Go.WideShapes Go.ChangeAt Go.RowKit

set_option maxRecDepth 100000 in
set_option maxHeartbeats 4000000 in
theorem aliveWalk (x y : Int) (pr : Bool) (ao : Option Addr) (n c : Nat) (ns : List Int) (w : World) (hT : KT w) (hm : Byt w ao n c ns) :
    Calls Tryd.prog 5 #[.agg #[.int .i64 x, .int .i64 y], .bool pr, .slice ao n c] w fun e w' => e = .returned (.bool true) ∧ Below w.heap.size w w' := by
  have L0 := below_alloc w (.cells #[.int .i64 x, .int .i64 y] 39)
  have X0 : Box (w.alloc (.cells #[.int .i64 x, .int .i64 y] 39)) w.heap.size [.int .i64 x, .int .i64 y] := Box.new w [.int .i64 x, .int .i64 y] 39
  have M0 := hm.on L0
  have K0 := hT.on L0
  clear hm hT
  go_enter Tryd.func5, Tryd.ntmps5
  go_wp2_with fail
  refine (awake10 _ K0).mono ?_
  rintro e w1 ⟨rfl, hb⟩
  replace X0 := X0.on hb; replace M0 := M0.on hb; replace L0 := belowOn L0 hb
  have x0 := X0.cell 0 _ rfl
  have x1 := X0.cell 1 _ rfl
  clear hb K0
  rcases Bool.eq_false_or_eq_true (decide ((n : Int) > 1000)) with hl1 | hl1
  · go_wp2
    go_ret
    exact ⟨rfl, L0⟩
  go_wp2_with fail
  refine (alive18 x y pr _).mono ?_
  rintro e w2 ⟨b1, n1, d1, rfl, Z1, hb⟩
  replace X0 := X0.on hb; replace M0 := M0.on hb; replace L0 := belowOn L0 hb
  have y0 := X0.cell 0 _ rfl
  have y1 := X0.cell 1 _ rfl
  clear hb x0 x1 hl1
  go_wp2_with fail
  refine (alive19 x y pr _).mono ?_
  rintro e w3 ⟨b2, n2, d2, rfl, Z2, hb⟩
  replace M0 := M0.on hb; replace L0 := belowOn L0 hb; replace Z1 := Z1.on hb
  clear hb y0 y1 X0
  go_wp2_with fail
  refine (told20 ao n c ns _ M0).mono ?_
  rintro e w4 ⟨rfl, hb⟩
  replace M0 := M0.on hb; replace L0 := belowOn L0 hb; replace Z1 := Z1.on hb; replace Z2 := Z2.on hb
  clear hb
  go_wp2_with fail
  refine (told21 ao n c ns _ M0).mono ?_
  rintro e w5 ⟨rfl, hb⟩
  replace L0 := belowOn L0 hb; replace Z1 := Z1.on hb; replace Z2 := Z2.on hb
  have s1 := bytStr Z1
  have s2 := bytStr Z2
  have sb := bs_beq_self (alb x y pr)
  clear hb Z1 Z2 M0
  generalize alb x y pr = bb at *
  generalize alc x y = cc at *
  generalize te ns = q1 at *
  generalize tp ns = q2 at *
  generalize tc ns = q4 at *
  generalize tf ns = q3 at *
  have hq : (q3 == q3) = true := by cases q3 <;> rfl
  go_wp2
  go_ret
  exact ⟨rfl, L0⟩
set_option maxRecDepth 100000 in
set_option maxHeartbeats 2000000 in
theorem controlAlivelifted (os : Os) (started : os.Started) (H : Type) (enc : TypeId × Value → H) :
    ReturnsInHanded {} Tryd.checked os 5 .any (fun w args => (Rows.controlAliveSpec.pre enc Tryd.prog Tryd.f5 [] false w args ∧ laidMetH Tryd.prog laidK w) ∧ sizedMet enc Tryd.prog Tryd.f5 (OpenSpec.ofChange Rows.controlAliveSpec) false w args)
      (Rows.controlAliveSpec.post enc Tryd.prog Tryd.f5 false true false false) := by
  refine returnsInHanded_of_change_and (C := Tryd.checked) (X := fun w _ => laidMetH Tryd.prog laidK w) (fun _ _ _ hh h => h.of_heap hh) own started (by kernel_rfl) Tryd.func5
    (ChangeSpec.witness_shaped (enc := enc) (C := Tryd.checked) (os := os) (X := fun w _ => laidMetH Tryd.prog laidK w) false (World.doorLaid Tryd.prog 14 os) #[.agg #[.int .i64 0, .int .i64 0], .bool false, .slice none 0 0] 8 rfl (World.shaped_of_RefB (by kernel_rfl) (by kernel_rfl)) (by kernel_rfl) (by kernel_rfl) (by kernel_rfl) (door_met os _)) ?_
  intro W base args ds gs before hval0 hW _ _ hL _
  have hval : ∀ (j : Nat) t v, Tryd.f5.params[j]? = some t → args[j]? = some v → Value.okWide Tryd.prog W .any base t v := hval0
  have hW' := hW
  obtain ⟨p, q, hA0, hV, rfl, _, _⟩ := hW
  have hA : DataW.TrodAll enc Tryd.prog W 0 (fun _ => true) true Tryd.f5.params.toList args.toList ds p := hA0
  rw [Tryd.params5] at hA hval
  have hT := kt_of_laid hL
  obtain ⟨v0, vs0, d0, ds0, p0, q0, hargs, rfl, rfl, h0, r0⟩ := trodAll_cons hA
  obtain ⟨v1, vs1, d1, ds1, p1, q1, rfl, rfl, rfl, h1, r1⟩ := trodAll_cons r0
  obtain ⟨v2, vs2, d2, ds2, p2, q2, rfl, rfl, rfl, h2, r2⟩ := trodAll_cons r1
  obtain ⟨rfl, rfl, rfl⟩ := trodAll_nil r2
  obtain rfl : args = #[v0, v1, v2] := by cases args; simp_all
  obtain ⟨rfl, rfl⟩ := trodVars_none hV
  have h0k := h0
  obtain ⟨x0, y0, rfl⟩ := open_two (hval 0 39 v0 rfl rfl) h0
  have h1k := h1
  obtain ⟨x1, rfl, _, _⟩ := open_bool Tryd.underlying4 (hval 1 4 v1 rfl rfl) h1
  have h2k := h2
  obtain ⟨ao2, n2, c2, ns2, rfl, hy2⟩ := open_bytes (hval 2 24 v2 rfl rfl) h2
  clear hA0 hval0
  simp only [List.append_nil] at hW'
  have hlt : ∀ x ∈ p0 ++ p1 ++ p2, x.block < W.heap.size := fun x hx => by simpa using hW'.lt x (by simpa using hx)
  refine (aliveWalk x0 y0 x1 ao2 n2 c2 ns2 W hT hy2).mono fun e W' ⟨he, hbl⟩ => ?_
  subst he
  exact ⟨_, rfl, _, _, _, [], _, [], hW', (trodAll_cons_mk (shut_bool Tryd.underlying4 _) trodAll_mk0), (trodAll_cons_mk (Below.trod Tryd.laidOut (by kernel_rfl) (of_decide_eq_true (by kernel_rfl)) h0k hbl (fun x hx => hlt x (by simp [hx]))) (trodAll_cons_mk (Below.trod Tryd.laidOut (by kernel_rfl) (of_decide_eq_true (by kernel_rfl)) h1k hbl (fun x hx => hlt x (by simp [hx]))) (trodAll_cons_mk (Below.trod Tryd.laidOut (by kernel_rfl) (of_decide_eq_true (by kernel_rfl)) h2k hbl (fun x hx => hlt x (by simp [hx]))) trodAll_mk0))), rfl, hbl.frame _, fun h => by cases h⟩

theorem controlAlive_holds : Rows.ControlAliveSaid :=
  OpenClaim.holds_of_wide 5 Tryd.f5 rfl rfl rfl rfl rfl rfl rfl ⟨rfl, rfl, rfl, rfl, rfl⟩ rfl rfl rfl rfl rfl (by kernel_rfl) Tryd.func5 (by kernel_rfl)
    (of_decide_eq_true (by kernel_rfl)) (by unfold Func.isWrapper; first | (rw [if_pos (by decide +kernel)]; kernel_rfl) | (rw [if_neg (by decide +kernel)]; exact ⟨rfl, rfl⟩))
    (fun os started H enc _ => controlAlivelifted os started H enc)

theorem controlAlive_card_holds : Rows.ControlAliveCardSaid :=
  Claim7.holds_tied_plain_at .later [] [.data] true (true, "40610068b199d95fe10dea4bfc5d373c8e4676b673a11564a6585a93802516b6") false
    controlAlive_holds (fun _ h => by cases h) (by kernel_rfl) (fun _ h => by cases h) controlAlive_row_tie rfl ⟨rfl, rfl⟩ (by kernel_rfl) rfl
    (fun f fn hf hfn => by
      obtain rfl : f = 5 := Option.some.inj ((show Tryd.prog.funcNamed "gemel/gemellaw06.ControlAlive" = some 5 by kernel_rfl).symm.trans hf) |>.symm
      obtain rfl : fn = Tryd.f5 := (Option.some.inj (Tryd.func5.symm.trans hfn)).symm
      exact ⟨by kernel_rfl, fun j t ht => by
        rw [Tryd.params5] at ht
        have hm : t ∈ [39, 4, 24] := by simpa using Array.mem_of_getElem? ht
        have hall : ([39, 4, 24].all fun u => !Tryd.prog.wantsStandIn u) = true := by kernel_rfl
        exact (show Tryd.prog.wantsStandIn t = false by simpa using List.all_eq_true.1 hall t hm)⟩)
    (by kernel_rfl)

#print axioms controlAlive_card_holds
end Go.Proofs.YtijfcfpoimknmaaDoor
