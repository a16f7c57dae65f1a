/- MacOnce: for every text and every number the law answers true, and these read behind the call as they read before. No condition. -/
import Derived.Test.YtokmkgjjiloacaaA5
import Derived.Test.YtokmkgjjiloacaaPa
import Derived.Test.YtokmkgjjiloacaaRound
import Derived.Test.YtokmkgjjiloacaaOpen
namespace Go.Proofs.Ytokmkgjjiloacaa
open Go.ChangeShapes Go.WideShapes Go.ChangeAt Go.RowKit
open Go.ChangeMaps (open_string shut_string)

set_option maxRecDepth 100000 in
set_option maxHeartbeats 2000000 in
theorem onceWalk (s : ByteArray) (n : Int) (w : World) (hn : (Lit.int .u64 n).wf = true) :
    Calls Try.prog 7 #[.string s, .int .u64 n] w fun e w' => e = .returned (.bool true) ∧ Below w.heap.size w w' := by
  have hn0 : 0 ≤ n := by
    simp [Lit.wf, IntKind.min, IntKind.max, IntKind.signed, IntKind.bits] at hn
    omega
  clear hn
  go_enter Try.func7, Try.ntmps7
  go_wp2_with fail
  refine (awake10 _).mono ?_
  rintro e w1 ⟨rfl, W0⟩
  go_wp2_with fail
  refine (pa19 _ _).mono ?_
  rintro e w2 ⟨m0, m1, m2, m3, m4, m5, x, hm, rfl, hb⟩
  have C0 := At6.new w2 m0 m1 m2 m3 m4 m5
  replace W0 := (belowOn W0 hb).alloc (belowOn W0 hb).size (.cells #[.int .u8 m0, .int .u8 m1, .int .u8 m2, .int .u8 m3, .int .u8 m4, .int .u8 m5] 23)
  clear hb
  go_wp2_with fail
  refine (of21 _ _ hn0).mono ?_
  rintro e w3 ⟨k0, k1, k2, k3, k4, k5, y, hk, rfl, hb⟩
  have D0 := At6.new w3 k0 k1 k2 k3 k4 k5
  replace C0 := (C0.on hb).alloc (.cells #[.int .u8 k0, .int .u8 k1, .int .u8 k2, .int .u8 k3, .int .u8 k4, .int .u8 k5] 23)
  replace W0 := (belowOn W0 hb).alloc (belowOn W0 hb).size (.cells #[.int .u8 k0, .int .u8 k1, .int .u8 k2, .int .u8 k3, .int .u8 k4, .int .u8 k5] 23)
  clear hb
  obtain ⟨kb, hk⟩ := hk
  have hmb := hm.b6
  rcases hm with ⟨rfl, hl, hok, rfl, rfl, rfl, rfl, rfl, rfl⟩ | ⟨rfl, hno, rfl, rfl, rfl, rfl, rfl, rfl⟩
  · have hts := text_of hl hok
    clear hl hok
    rcases hk with ⟨rfl, hnum, hlt⟩ | ⟨rfl, hnum, hge⟩
    · obtain ⟨ltc, c0, c1, c2, c3, c4, c5⟩ := id C0
      go_wp2_with fail
      clear ltc c0 c1 c2 c3 c4 c5
      refine (text11 _ _ _ _ _ _ _ hmb).mono ?_
      rintro e w4 ⟨rfl, hb⟩
      replace D0 := D0.on hb; replace W0 := belowOn W0 hb
      clear hb C0
      obtain ⟨ltd, d0, d1, d2, d3, d4, d5⟩ := D0
      go_wp2_with fail
      refine (num13 _ _ _ _ _ _ _ kb).mono ?_
      rintro e w5 ⟨rfl, hb⟩
      replace W0 := belowOn W0 hb
      clear hb d0 d1 d2 d3 d4 d5
      go_wp2
      go_ret
      exact ⟨rfl, W0⟩
    · obtain ⟨ltc, c0, c1, c2, c3, c4, c5⟩ := id C0
      clear hnum
      have hd : decide (n < 281474976710656) = false := by simp; omega
      go_wp2_with fail
      clear ltc c0 c1 c2 c3 c4 c5
      refine (text11 _ _ _ _ _ _ _ hmb).mono ?_
      rintro e w4 ⟨rfl, hb⟩
      replace W0 := belowOn W0 hb
      clear hb C0 D0
      go_wp2
      go_ret
      exact ⟨rfl, W0⟩
  · clear hno C0
    rcases hk with ⟨rfl, hnum, hlt⟩ | ⟨rfl, hnum, hge⟩
    · obtain ⟨ltd, d0, d1, d2, d3, d4, d5⟩ := D0
      go_wp2_with fail
      refine (num13 _ _ _ _ _ _ _ kb).mono ?_
      rintro e w5 ⟨rfl, hb⟩
      replace W0 := belowOn W0 hb
      clear hb d0 d1 d2 d3 d4 d5
      go_wp2
      go_ret
      exact ⟨rfl, W0⟩
    · clear hnum D0
      have hd : decide (n < 281474976710656) = false := by simp; omega
      go_wp2
      go_ret
      exact ⟨rfl, W0⟩

set_option maxRecDepth 100000 in
theorem macOncelifted (os : Os) (started : os.Started) (H : Type) (enc : TypeId × Value → H) :
    ReturnsInHanded {} Try.checked os 7 .any (Rows.macOnceSpec.pre6 enc Try.prog Try.f7 Rows.macOnceRow.domain false) (Rows.macOnceSpec.post enc Try.prog Try.f7 false true false false) := by
  refine returnsInHanded_of_change (C := Try.checked) own started (by kernel_rfl) Try.func7
    (ChangeSpec.witness6 (enc := enc) (C := Try.checked) false ⟨#[], #[.string ByteArray.empty, .int .u64 0], []⟩ 8 (by kernel_rfl) (by kernel_rfl) (by kernel_rfl) (by kernel_rfl)) ?_
  intro W base args ds gs before hval0 hW _ _
  have hval : ∀ (j : Nat) t v, Try.f7.params[j]? = some t → args[j]? = some v → Value.okWide Try.prog W .any base t v := hval0
  have hW' := hW
  obtain ⟨p, q, hA0, hV, rfl, _, _⟩ := hW
  have hA : DataW.TrodAll enc Try.prog W 0 (fun _ => true) true Try.f7.params.toList args.toList ds p := hA0
  rw [Try.params7] at hA hval
  obtain ⟨v0, vs0, d0, ds0, p0, q0, hargs, rfl, rfl, h0, r0⟩ := trodAll_cons hA
  obtain ⟨v1, vs1, d1, ds1, p1, q1, rfl, rfl, rfl, h1, r1⟩ := trodAll_cons r0
  obtain ⟨rfl, rfl, rfl⟩ := trodAll_nil r1
  obtain rfl : args = #[v0, v1] := by cases args; simp_all
  obtain ⟨rfl, rfl⟩ := trodVars_none hV
  obtain ⟨s0, rfl, rfl, rfl, k0⟩ := open_string Try.underlying9 (hval 0 9 v0 rfl rfl) h0
  obtain ⟨n1, rfl, rfl, rfl, k1⟩ := open_int Try.underlying26 (hval 1 26 v1 rfl rfl) h1
  clear hA0 hval0
  simp only [List.append_nil] at hW'
  refine (onceWalk s0 n1 W k1).mono fun e W' ⟨he, hb⟩ => ?_
  subst he
  exact ⟨_, rfl, _, _, _, [], [], [], hW', (trodAll_cons_mk (shut_bool Try.underlying4 _) trodAll_mk0), (trodAll_cons_mk (shut_string Try.underlying9 k0) (trodAll_cons_mk (shut_int Try.underlying26 k1) trodAll_mk0)), rfl, hb.frame _, fun h => by cases h⟩

theorem macOnce_holds : Rows.MacOnceSaid :=
  OpenClaim.holds_of_wide 7 Try.f7 rfl rfl rfl rfl rfl rfl rfl ⟨rfl, rfl, rfl, rfl, rfl⟩ rfl rfl rfl rfl rfl (by kernel_rfl) Try.func7 (by kernel_rfl)
    (of_decide_eq_true (by kernel_rfl)) (by unfold Func.isWrapper; first | (rw [if_pos (by decide +kernel)]; kernel_rfl) | (rw [if_neg (by decide +kernel)]; exact ⟨rfl, rfl⟩))
    (fun os started H enc _ => macOncelifted os started H enc)

#print axioms macOnce_holds
end Go.Proofs.Ytokmkgjjiloacaa
