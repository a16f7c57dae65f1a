/- ControlOnce: for every two packets the law answers true, and both read behind the call as they read before. No condition beyond what the card's tie says of the table of kinds. -/
import Derived.Test.YtijfcfpoimknmaaDoorOp
import Derived.Test.YtijfcfpoimknmaaDoorAw
import Derived.Test.YtijfcfpoimknmaaDoorCards
import Derived.Test.YtijfcfpoimknmaaDoorTie
import Derived.SevenTiedAt
import Derived.Test.YtijfcfpoimknmaaDoorC4
import Derived.Test.YtijfcfpoimknmaaDoorR3
import Derived.Test.YtijfcfpoimknmaaDoorDec
namespace Go.Proofs.YtijfcfpoimknmaaDoor
open Go.ChangeShapes Go.WideShapes Go.ChangeAt Go.RowKit

theorem enc13 (p : Pk) : (p.n.k = 0 → (enc p).length = 13) := by
  intro hk
  have hz : tl p.n = [] := by
    unfold tl fbs
    rw [hk]
    rfl
  rw [enc, hz, List.append_nil, hd_length]
set_option maxRecDepth 100000 in
set_option maxHeartbeats 4000000 in
theorem onceWalk (p : Pk) (a1 : Option Addr) (m1 c1 : Nat) (q : Pk) (a2 : Option Addr) (m2 c2 : Nat) (w : World) (hT : KT w) (hp : Byt w a1 m1 c1 p.n.b) (bp : NtB p.n) (hq : Byt w a2 m2 c2 q.n.b) (bq : NtB q.n) :
    Calls Tryd.prog 8 #[.agg (PC p (.slice a1 m1 c1)), .agg (PC q (.slice a2 m2 c2))] w fun e w' => e = .returned (.bool true) ∧ Below w.heap.size w w' := by
  have L0 : Below w.heap.size w ((w.alloc (.cells (PC p (.slice a1 m1 c1)) 28)).alloc (.cells (PC q (.slice a2 m2 c2)) 28)) := by go_grown
  have X0 : Box ((w.alloc (.cells (PC p (.slice a1 m1 c1)) 28)).alloc (.cells (PC q (.slice a2 m2 c2)) 28)) w.heap.size (pcl p (.slice a1 m1 c1)) := (Box.new w (pcl p (.slice a1 m1 c1)) 28).alloc _
  have Y0 : Box ((w.alloc (.cells (PC p (.slice a1 m1 c1)) 28)).alloc (.cells (PC q (.slice a2 m2 c2)) 28)) (w.heap.size + 1) (pcl q (.slice a2 m2 c2)) := by
    have := Box.new (w.alloc (.cells (PC p (.slice a1 m1 c1)) 28)) (pcl q (.slice a2 m2 c2)) 28
    rwa [World.size_alloc] at this
  have P0 := hp.on L0
  have Q0 := hq.on L0
  have K0 := hT.on L0
  have HB := hide (And.intro bp bq)
  clear hp hq hT bp bq
  go_enter Tryd.func8, Tryd.ntmps8
  go_wp2_with fail
  refine (awake10 _ K0).mono ?_
  rintro e w1 ⟨rfl, hb⟩
  replace X0 := X0.on hb; replace Y0 := Y0.on hb; replace P0 := P0.on hb; replace Q0 := Q0.on hb; replace K0 := K0.on hb; replace L0 := belowOn L0 hb
  have x13 := X0.cell 13 _ rfl
  have y13 := Y0.cell 13 _ rfl
  clear hb
  rcases Bool.eq_false_or_eq_true (decide ((m1 : Int) > 3000)) with hl1 | hl1
  · go_wp2
    go_ret
    exact ⟨rfl, L0⟩
  rcases Bool.eq_false_or_eq_true (decide ((m2 : Int) > 3000)) with hl2 | hl2
  · go_wp2
    go_ret
    exact ⟨rfl, L0⟩
  have tk1 : True := trivial
  go_wp2_with (have _t := tk1; refine wpl_pkt (.tmp 2) rfl X0 ?_ ?_ ?_; rfl; rfl; clear tk1)
  refine (encode11 p a1 m1 c1 _ K0 HB.out.1 P0).mono ?_
  rintro e w2 ⟨b1, n1, d1, rfl, Z1, hb⟩
  replace X0 := X0.on hb; replace Y0 := Y0.on hb; replace P0 := P0.on hb; replace Q0 := Q0.on hb; replace K0 := K0.on hb; replace L0 := belowOn L0 hb
  clear hb x13 y13 hl1 hl2
  have tk2 : True := trivial
  go_wp2_with (have _t := tk2; refine wpl_pkt (.tmp 3) rfl Y0 ?_ ?_ ?_; rfl; rfl; clear tk2)
  refine (encode11 q a2 m2 c2 _ K0 HB.out.2 Q0).mono ?_
  rintro e w3 ⟨b2, n2, d2, rfl, Z2, hb⟩
  replace X0 := X0.on hb; replace Y0 := Y0.on hb; replace P0 := P0.on hb; replace Q0 := Q0.on hb; replace Z1 := Z1.on hb; replace L0 := belowOn L0 hb
  clear hb K0
  cases hr : rtp p
  · have e1 : ec p = 1 := by simp [ec, hr]
    rw [e1]
    go_wp2
    go_ret
    exact ⟨rfl, L0⟩
  cases hs : rtp q
  · have e1 : ec p = 0 := by simp [ec, hr]
    have e2 : ec q = 1 := by simp [ec, hs]
    rw [e1, e2]
    go_wp2
    go_ret
    exact ⟨rfl, L0⟩
  have e1 : ec p = 0 := by simp [ec, hr]
  have e2 : ec q = 0 := by simp [ec, hs]
  have f1 : eb p = enc p := by simp [eb, hr]
  have f2 : eb q = enc q := by simp [eb, hs]
  rw [e1, e2]
  rw [f1] at Z1
  rw [f2] at Z2
  have HK := hide (enc13 p)
  have hn13 : 13 ≤ n1 := by have := Z1.len; have := enc_len p; omega
  have hn1 : (13 : Int) ≤ n1 := by omega
  have hnl := hide Z1.len
  have HS : Hid (peq p q = decide (enc p = enc q)) := hide (by
    rw [Bool.eq_iff_iff, peq_iff, decide_eq_true_eq]
    exact ⟨fun e => by rw [e], fun e => enc_inj hr hs e⟩)
  clear e1 e2 f1 f2 hr hs hn13
  have tk3 : True := trivial
  have tk4 : True := trivial
  go_wp2_with (first | (have _t := tk3; refine wpl_pkt (.tmp 2) rfl X0 ?_ ?_ ?_; rfl; rfl; clear tk3) | (have _t := tk4; refine wpl_pkt (.tmp 3) rfl Y0 ?_ ?_ ?_; rfl; rfl; clear tk4))
  refine (same17 p q a1 m1 c1 a2 m2 c2 _ P0 Q0).mono ?_
  rintro e w4 ⟨rfl, hb⟩
  replace X0 := X0.on hb; replace Z1 := Z1.on hb; replace Z2 := Z2.on hb; replace L0 := belowOn L0 hb
  have s1 := bytStr Z1
  have s2 := bytStr Z2
  have sb := bs_beq Z1.rng Z2.rng
  have x3 := X0.cell 3 _ rfl
  rw [HS.out]
  clear hb P0 Q0 Y0 Z1 Z2 HS X0 HB
  generalize hD : decide (enc p = enc q) = D at *
  clear hD
  rcases Bool.eq_false_or_eq_true (p.n.k != 0) with hk | hk
  · cases D
    all_goals
      go_wp2
      go_ret
      exact ⟨rfl, L0⟩
  · have hn2 : ((n1 : Int) == 13) = true := by
      have h0 : p.n.k = 0 := by simpa using hk
      have := HK.out h0
      have := hnl.out
      simp
      omega
    clear HK hnl
    cases D
    all_goals
      go_wp2
      go_ret
      exact ⟨rfl, L0⟩
set_option maxRecDepth 100000 in
set_option maxHeartbeats 2000000 in
theorem controlOncelifted (os : Os) (started : os.Started) (H : Type) (enc : TypeId × Value → H) :
    ReturnsInHanded {} Tryd.checked os 8 .any (fun w args => (Rows.controlOnceSpec.pre enc Tryd.prog Tryd.f8 [] false w args ∧ laidMetH Tryd.prog laidK w) ∧ sizedMet enc Tryd.prog Tryd.f8 (OpenSpec.ofChange Rows.controlOnceSpec) false w args)
      (Rows.controlOnceSpec.post enc Tryd.prog Tryd.f8 false true false false) := by
  refine returnsInHanded_of_change_and (C := Tryd.checked) (X := fun w _ => laidMetH Tryd.prog laidK w) (fun _ _ _ hh h => h.of_heap hh) own started (by kernel_rfl) Tryd.func8
    (ChangeSpec.witness_shaped (enc := enc) (C := Tryd.checked) (os := os) (X := fun w _ => laidMetH Tryd.prog laidK w) false (World.doorLaid Tryd.prog 14 os) #[.agg #[.int .i64 0, .int .i64 0, .int .i64 0, .int .i64 0, .int .i64 0, .int .u8 0, .int .u8 0, .int .u8 0, .int .u8 0, .int .u8 0, .int .u8 0, .int .i64 0, .int .i64 0, .slice none 0 0], .agg #[.int .i64 0, .int .i64 0, .int .i64 0, .int .i64 0, .int .i64 0, .int .u8 0, .int .u8 0, .int .u8 0, .int .u8 0, .int .u8 0, .int .u8 0, .int .i64 0, .int .i64 0, .slice none 0 0]] 8 rfl (World.shaped_of_RefB (by kernel_rfl) (by kernel_rfl)) (by kernel_rfl) (by kernel_rfl) (by kernel_rfl) (door_met os _)) ?_
  intro W base args ds gs before hval0 hW _ _ hL _
  have hval : ∀ (j : Nat) t v, Tryd.f8.params[j]? = some t → args[j]? = some v → Value.okWide Tryd.prog W .any base t v := hval0
  have hW' := hW
  obtain ⟨p, q, hA0, hV, rfl, _, _⟩ := hW
  have hA : DataW.TrodAll enc Tryd.prog W 0 (fun _ => true) true Tryd.f8.params.toList args.toList ds p := hA0
  rw [Tryd.params8] at hA hval
  have hT := kt_of_laid hL
  obtain ⟨v0, vs0, d0, ds0, p0, q0, hargs, rfl, rfl, h0, r0⟩ := trodAll_cons hA
  obtain ⟨v1, vs1, d1, ds1, p1, q1, rfl, rfl, rfl, h1, r1⟩ := trodAll_cons r0
  obtain ⟨rfl, rfl, rfl⟩ := trodAll_nil r1
  obtain rfl : args = #[v0, v1] := by cases args; simp_all
  obtain ⟨rfl, rfl⟩ := trodVars_none hV
  have h0k := h0
  obtain ⟨l0, a0, m0, c0, rfl, hy0, hb0⟩ := open_pkt (hval 0 28 v0 rfl rfl) h0
  have h1k := h1
  obtain ⟨l1, a1, m1, c1, rfl, hy1, hb1⟩ := open_pkt (hval 1 28 v1 rfl rfl) h1
  clear hA0 hval0
  simp only [List.append_nil] at hW'
  have hlt : ∀ x ∈ p0 ++ p1, x.block < W.heap.size := fun x hx => by simpa using hW'.lt x (by simpa using hx)
  refine (onceWalk l0 a0 m0 c0 l1 a1 m1 c1 W hT hy0 hb0 hy1 hb1).mono fun e W' ⟨he, hbl⟩ => ?_
  subst he
  exact ⟨_, rfl, _, _, _, [], _, [], hW', (trodAll_cons_mk (shut_bool Tryd.underlying4 _) trodAll_mk0), (trodAll_cons_mk (Below.trod Tryd.laidOut (by kernel_rfl) (of_decide_eq_true (by kernel_rfl)) h0k hbl (fun x hx => hlt x (by simp [hx]))) (trodAll_cons_mk (Below.trod Tryd.laidOut (by kernel_rfl) (of_decide_eq_true (by kernel_rfl)) h1k hbl (fun x hx => hlt x (by simp [hx]))) trodAll_mk0)), rfl, hbl.frame _, fun h => by cases h⟩

theorem controlOnce_holds : Rows.ControlOnceSaid :=
  OpenClaim.holds_of_wide 8 Tryd.f8 rfl rfl rfl rfl rfl rfl rfl ⟨rfl, rfl, rfl, rfl, rfl⟩ rfl rfl rfl rfl rfl (by kernel_rfl) Tryd.func8 (by kernel_rfl)
    (of_decide_eq_true (by kernel_rfl)) (by unfold Func.isWrapper; first | (rw [if_pos (by decide +kernel)]; kernel_rfl) | (rw [if_neg (by decide +kernel)]; exact ⟨rfl, rfl⟩))
    (fun os started H enc _ => controlOncelifted os started H enc)

theorem controlOnce_card_holds : Rows.ControlOnceCardSaid :=
  Claim7.holds_tied_plain_at .later [] [.data] true (true, "40610068b199d95fe10dea4bfc5d373c8e4676b673a11564a6585a93802516b6") false
    controlOnce_holds (fun _ h => by cases h) (by kernel_rfl) (fun _ h => by cases h) controlOnce_row_tie rfl ⟨rfl, rfl⟩ (by kernel_rfl) rfl
    (fun f fn hf hfn => by
      obtain rfl : f = 8 := Option.some.inj ((show Tryd.prog.funcNamed "gemel/gemellaw06.ControlOnce" = some 8 by kernel_rfl).symm.trans hf) |>.symm
      obtain rfl : fn = Tryd.f8 := (Option.some.inj (Tryd.func8.symm.trans hfn)).symm
      exact ⟨by kernel_rfl, fun j t ht => by
        rw [Tryd.params8] at ht
        have hm : t ∈ [28, 28] := by simpa using Array.mem_of_getElem? ht
        have hall : ([28, 28].all fun u => !Tryd.prog.wantsStandIn u) = true := by kernel_rfl
        exact (show Tryd.prog.wantsStandIn t = false by simpa using List.all_eq_true.1 hall t hm)⟩)
    (by kernel_rfl)

#print axioms controlOnce_card_holds
end Go.Proofs.YtijfcfpoimknmaaDoor
