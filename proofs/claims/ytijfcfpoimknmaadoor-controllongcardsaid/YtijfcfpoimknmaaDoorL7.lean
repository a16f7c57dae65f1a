/- ControlLong: for every packet, every three numbers and all bytes the law answers true, and the packet and the bytes read behind the call as they read before. No condition beyond what the card's tie says of the table of kinds. -/
import Derived.Test.YtijfcfpoimknmaaDoorOp
import Derived.Test.YtijfcfpoimknmaaDoorAw
import Derived.Test.YtijfcfpoimknmaaDoorCards
import Derived.Test.YtijfcfpoimknmaaDoorTie
import Derived.SevenTiedAt
import Derived.Test.YtijfcfpoimknmaaDoorC4
import Derived.Test.YtijfcfpoimknmaaDoorD5
import Derived.Test.YtijfcfpoimknmaaDoorLg
import Derived.Deep.Cut
namespace Go.Proofs.YtijfcfpoimknmaaDoor
open Go.ChangeShapes Go.WideShapes Go.ChangeAt Go.RowKit

def px (p : Pk) (x y z : Int) : Pk := ⟨x, y, z, p.n⟩
theorem BX11 (p : Pk) (x y z : Int) (s : Value) : Array.foldl (fun cs x => cs.setIfInBounds (3 + x.snd) x.fst) ((((PC zeroP (.slice none 0 0)).setIfInBounds 0 (.int .i64 x)).setIfInBounds 1 (.int .i64 y)).setIfInBounds 2 (.int .i64 z)) (NC p.n s).zipIdx 0 11 = PC (px p x y z) s := by kernel_rfl
section
attribute [local go_sem] NC_size ZP
set_option maxRecDepth 100000 in
set_option maxHeartbeats 4000000 in
theorem longWalk (p : Pk) (a1 : Option Addr) (m1 c1 : Nat) (x y z : Int) (ao : Option Addr) (n c : Nat) (ns : List Int) (w : World) (hT : KT w) (hp : Byt w a1 m1 c1 p.n.b) (bp : NtB p.n) (hm : Byt w ao n c ns) :
    Calls Tryd.prog 7 #[.agg (PC p (.slice a1 m1 c1)), .agg #[.int .i64 x, .int .i64 y, .int .i64 z], .slice ao n c] w fun e w' => e = .returned (.bool true) ∧ Below w.heap.size w w' := by
  have L0 : Below w.heap.size w ((w.alloc (.cells (PC p (.slice a1 m1 c1)) 28)).alloc (.cells #[.int .i64 x, .int .i64 y, .int .i64 z] 45)) := by go_grown
  have X0 : Box ((w.alloc (.cells (PC p (.slice a1 m1 c1)) 28)).alloc (.cells #[.int .i64 x, .int .i64 y, .int .i64 z] 45)) w.heap.size (pcl p (.slice a1 m1 c1)) := (Box.new w (pcl p (.slice a1 m1 c1)) 28).alloc _
  have Y0 : Box ((w.alloc (.cells (PC p (.slice a1 m1 c1)) 28)).alloc (.cells #[.int .i64 x, .int .i64 y, .int .i64 z] 45)) (w.heap.size + 1) [.int .i64 x, .int .i64 y, .int .i64 z] := by
    have := Box.new (w.alloc (.cells (PC p (.slice a1 m1 c1)) 28)) [.int .i64 x, .int .i64 y, .int .i64 z] 45
    rwa [World.size_alloc] at this
  have P0 := hp.on L0
  have M0 := hm.on L0
  have K0 := hT.on L0
  have HB := hide bp
  clear hp hm hT bp
  go_enter Tryd.func7, Tryd.ntmps7
  go_wp2_with fail
  refine (awake10 _ K0).mono ?_
  rintro e w1 ⟨rfl, hb⟩
  replace X0 := X0.on hb; replace Y0 := Y0.on hb; replace P0 := P0.on hb; replace M0 := M0.on hb; replace K0 := K0.on hb; replace L0 := belowOn L0 hb
  have x13 := X0.cell 13 _ rfl
  clear hb
  rcases Bool.eq_false_or_eq_true (decide ((m1 : Int) > 3000)) with hl1 | hl1
  · go_wp2
    go_ret
    exact ⟨rfl, L0⟩
  rcases Bool.eq_false_or_eq_true ((n : Int) == 0) with hl2 | hl2
  · go_wp2
    go_ret
    exact ⟨rfl, L0⟩
  rcases Bool.eq_false_or_eq_true (decide ((n : Int) > 100)) with hl3 | hl3
  · go_wp2
    go_ret
    exact ⟨rfl, L0⟩
  have hn0 : Hid (0 < n ∧ n ≤ 100) := hide ⟨by simp at hl2; omega, by simp at hl3; omega⟩
  have tk1 : True := trivial
  go_wp2_with (have _t := tk1; refine wpl_pkt (.tmp 3) rfl X0 ?_ ?_ ?_; rfl; rfl; clear tk1)
  refine (encode11 p a1 m1 c1 _ K0 HB.out P0).mono ?_
  rintro e w2 ⟨b1, n1, d1, rfl, Z1, hb⟩
  replace X0 := X0.on hb; replace Y0 := Y0.on hb; replace P0 := P0.on hb; replace M0 := M0.on hb; replace K0 := K0.on hb; replace L0 := belowOn L0 hb
  have NA := X0.note
  have y0 := Y0.cell 0 _ rfl
  have y1 := Y0.cell 1 _ rfl
  have y2 := Y0.cell 2 _ rfl
  clear hb x13 hl1 hl2 hl3
  have tk2 : True := trivial
  go_wp2_with (have _t := tk2; refine wpl_note (.tmp 49) rfl NA ?_ ?_ ?_; rfl; rfl; clear tk2)
  rw [BX11]
  refine (encode11 (px p x y z) a1 m1 c1 _ K0 HB.out P0).mono ?_
  rintro e w3 ⟨b2, n2, d2, rfl, Z2, hb⟩
  replace Z1 := Z1.on hb; replace M0 := M0.on hb; replace K0 := K0.on hb; replace L0 := belowOn L0 hb
  clear hb NA y0 y1 y2 X0 Y0 P0
  cases hr : rtp p
  · have e1 : ec p = 1 := by simp [ec, hr]
    rw [e1]
    go_wp2
    go_ret
    exact ⟨rfl, L0⟩
  cases hs : rtp (px p x y z)
  · have e1 : ec p = 0 := by simp [ec, hr]
    have e2 : ec (px p x y z) = 1 := by simp [ec, hs]
    rw [e1, e2]
    go_wp2
    go_ret
    exact ⟨rfl, L0⟩
  have e1 : ec p = 0 := by simp [ec, hr]
  have e2 : ec (px p x y z) = 0 := by simp [ec, hs]
  have f1 : eb p = enc p := by simp [eb, hr]
  have f2 : eb (px p x y z) = enc (px p x y z) := by simp [eb, hs]
  rw [e1, e2]
  rw [f1] at Z1
  rw [f2] at Z2
  have HN12 : Hid (n1 = n2) := hide (by
    have h1 := Z1.len
    have h2 := Z2.len
    have h3 := enc_len_note p (px p x y z) rfl
    omega)
  have hn1 : 13 ≤ n1 ∧ n1 ≤ 2000 := by have := Z1.len; have := enc_len p; have := enc_small hr; omega
  have HN1 := hide hn1
  have G1 := hide (dk_more hr (l := ns) (fun e => by have h5 := M0.len; rw [e] at h5; have h6 := hn0.out; simp only [List.length_nil] at h5; omega))
  have G2 : Hid (dk ((enc p).take (n1 - 1)) = false) := hide (by rw [← Z1.len]; exact dk_less Z1.rng hr)
  have RG := hide (rng_append Z1.rng M0.rng)
  have HO : Hid (Row (w3.alloc (.cells #[] 5)) w3.heap.size (.slice (some ⟨w3.heap.size, 0, none⟩) 0 0) 0 []) := hide (World.ownsRow_made w3 #[] 0 (Nat.le_refl _) (Nat.zero_le _) rfl)
  have HZ := hide (Z1.alloc (.cells #[] 5))
  clear e1 e2 f1 f2 hr hs Z2 hn1 HB
  generalize enc p = E at *
  go_upto_if 60 with fail
  go_cut [9, 11] from 16 (fun _ _ wx => wx = w3)
  case first =>
    go_wp2
    go_meet
    case rel => exact rfl
  case rest =>
  rw [hcut]
  clear hcut wc
  have tkA : True := trivial
  have tkB : True := trivial
  go_wp2_with (first | (at_builtin; have _t := tkA; refine wpl_app rfl (.tmp 62) (.tmp 63) rfl w3.heap.size (.slice (some ⟨w3.heap.size, 0, none⟩) 0 0) 0 [] rfl HO.out b1 n1 d1 E rfl HZ.out (by have := HN1.out; omega) (by simp) ?_; intro v4 w4 R4 B4; clear tkA; have HR : Hid (Row w4 w3.heap.size v4 n1 E) := hide (by have q := R4; rw [Nat.zero_add, List.nil_append] at q; exact q); have B5 := hide ((below_alloc w3 (.cells #[] 5)).trans B4); clear R4 B4) | (at_builtin; have _t := tkB; refine wpl_app rfl (.tmp 64) (.tmp 65) rfl w3.heap.size v4 n1 E rfl HR.out ao n c ns rfl (M0.on B5.out) (by have := HN1.out; have := hn0.out; omega) B5.out.size ?_; intro v5 w5 R5 B6; clear tkB))
  have W5 : Below w3.heap.size w3 w5 := B5.out.trans B6
  obtain ⟨a5, c5, hv5, Y5⟩ := R5.byt RG.out
  replace Z1 := Z1.on W5; replace K0 := K0.on W5; replace L0 := belowOn L0 W5
  have hv5' := hide hv5
  clear R5 B6 HR B5 HO HZ M0 W5 hv5
  have D1 : Hid (Calls Tryd.prog 15 #[v5] w5 fun e w' => ∃ sa sm sc, e = .returned (.tuple #[.agg (PC zeroP (.slice sa sm sc)), .int .i64 2]) ∧ Byt w' sa sm sc [] ∧ Below w5.heap.size w5 w') := hide (by
    have h := decode15 a5 _ c5 (E ++ ns) w5 K0 Y5
    have e1 : dp (E ++ ns) = zeroP := by rw [dp, G1.out]; rfl
    have e2 : dc (E ++ ns) = 2 := by rw [dc, G1.out]; rfl
    rw [e1, e2] at h
    rw [hv5'.out]
    exact h)
  clear Y5 hv5'
  refine D1.out.mono ?_
  rintro e w6 ⟨sa, sm, sc, rfl, -, hb⟩
  replace Z1 := Z1.on hb; replace K0 := K0.on hb; replace L0 := belowOn L0 hb
  clear hb D1
  have BX := Box.new w6 (pcl zeroP (.slice none 0 0)) 28
  obtain ⟨k, hk⟩ : ∃ k, n1 = k + 1 := ⟨n1 - 1, by have := HN1.out; omega⟩
  have hk1 : (n1 : Int) - 1 = k := by omega
  have hle := Z1.le
  have hkd : (k : Int) ≤ d1 := by omega
  have hkw : IntKind.i64.wrap (k : Int) = k := IntWalk.i64_in _ (by have := HN1.out; omega)
  obtain ⟨b, o, rfl, -, -⟩ := Z1.at (by omega)
  have G3 : Hid (dk (E.take k) = false) := hide (by have := G2.out; rw [hk] at this; exact this)
  have HZ := hide Z1
  have HKN := hide hk
  clear hk hle Z1 G2 G1 RG
  have tk2 : True := trivial
  go_wp2_with (first | (have _t := tk2; refine wpl_putP zeroP (.slice sa sm sc) zeroP (.slice none 0 0) rfl (.tmp 12) (.tmp 68) rfl BX ?_ ?_ ?_ ?_; rfl; rfl; rfl; clear tk2; intro w7 B7 g7))
  have L7 : Below w.heap.size w w7 := below_grown (belowOn L0 (below_alloc _ _)) g7 L0.size (by have := L0.size; simp; omega)
  have K7 : KT w7 := (K0.alloc (.cells (PC zeroP (.slice none 0 0)) 28)).kept (by have := K0.lt; omega) g7
  have Z7 := (HZ.out.alloc (.cells (PC zeroP (.slice none 0 0)) 28)).kept (fun b' o' e hp => by have := HZ.out.lt b' o' e hp; omega) g7
  have Y7 := byt_take Z7 (j := k) (by have := HKN.out; omega)
  have D2 : Hid (Calls Tryd.prog 15 #[.slice (some ⟨b, o, none⟩) k d1] w7 fun e w' => ∃ sa sm sc, e = .returned (.tuple #[.agg (PC zeroP (.slice sa sm sc)), .int .i64 2]) ∧ Byt w' sa sm sc [] ∧ Below w7.heap.size w7 w') := hide (by
    have h := decode15 (some ⟨b, o, none⟩) k d1 (E.take k) w7 K7 Y7
    have e1 : dp (E.take k) = zeroP := by rw [dp, G3.out]; rfl
    have e2 : dc (E.take k) = 2 := by rw [dc, G3.out]; rfl
    rw [e1, e2] at h
    exact h)
  clear Y7 Z7 K7 K0 B7 g7 HZ BX L0
  refine D2.out.mono ?_
  rintro e w8 ⟨sb, sn, sd, rfl, -, hb⟩
  have L8 := belowOn L7 hb
  have BY := Box.new w8 (pcl zeroP (.slice none 0 0)) 28
  have hn12 : ((n1 : Int) == n2) = true := by have := HN12.out; simp; omega
  clear hb D2 L7 HN12 HKN hk1 hkd hkw
  have tk3 : True := trivial
  go_wp2_with (first | (have _t := tk3; refine wpl_putP zeroP (.slice sb sn sd) zeroP (.slice none 0 0) rfl (.tmp 14) (.tmp 77) rfl BY ?_ ?_ ?_ ?_; rfl; rfl; rfl; clear tk3; intro w9 B9 g9))
  go_ret
  exact ⟨rfl, below_grown (belowOn L8 (below_alloc _ _)) g9 L8.size (by have := L8.size; simp; omega)⟩
end
set_option maxRecDepth 100000 in
set_option maxHeartbeats 2000000 in
theorem controlLonglifted (os : Os) (started : os.Started) (H : Type) (enc : TypeId × Value → H) :
    ReturnsInHanded {} Tryd.checked os 7 .any (fun w args => (Rows.controlLongSpec.pre enc Tryd.prog Tryd.f7 [] false w args ∧ laidMetH Tryd.prog laidK w) ∧ sizedMet enc Tryd.prog Tryd.f7 (OpenSpec.ofChange Rows.controlLongSpec) false w args)
      (Rows.controlLongSpec.post enc Tryd.prog Tryd.f7 false true false false) := by
  refine returnsInHanded_of_change_and (C := Tryd.checked) (X := fun w _ => laidMetH Tryd.prog laidK w) (fun _ _ _ hh h => h.of_heap hh) own started (by kernel_rfl) Tryd.func7
    (ChangeSpec.witness_shaped (enc := enc) (C := Tryd.checked) (os := os) (X := fun w _ => laidMetH Tryd.prog laidK w) false (World.doorLaid Tryd.prog 14 os) #[.agg #[.int .i64 0, .int .i64 0, .int .i64 0, .int .i64 0, .int .i64 0, .int .u8 0, .int .u8 0, .int .u8 0, .int .u8 0, .int .u8 0, .int .u8 0, .int .i64 0, .int .i64 0, .slice none 0 0], .agg #[.int .i64 0, .int .i64 0, .int .i64 0], .slice none 0 0] 8 rfl (World.shaped_of_RefB (by kernel_rfl) (by kernel_rfl)) (by kernel_rfl) (by kernel_rfl) (by kernel_rfl) (door_met os _)) ?_
  intro W base args ds gs before hval0 hW _ _ hL _
  have hval : ∀ (j : Nat) t v, Tryd.f7.params[j]? = some t → args[j]? = some v → Value.okWide Tryd.prog W .any base t v := hval0
  have hW' := hW
  obtain ⟨p, q, hA0, hV, rfl, _, _⟩ := hW
  have hA : DataW.TrodAll enc Tryd.prog W 0 (fun _ => true) true Tryd.f7.params.toList args.toList ds p := hA0
  rw [Tryd.params7] at hA hval
  have hT := kt_of_laid hL
  obtain ⟨v0, vs0, d0, ds0, p0, q0, hargs, rfl, rfl, h0, r0⟩ := trodAll_cons hA
  obtain ⟨v1, vs1, d1, ds1, p1, q1, rfl, rfl, rfl, h1, r1⟩ := trodAll_cons r0
  obtain ⟨v2, vs2, d2, ds2, p2, q2, rfl, rfl, rfl, h2, r2⟩ := trodAll_cons r1
  obtain ⟨rfl, rfl, rfl⟩ := trodAll_nil r2
  obtain rfl : args = #[v0, v1, v2] := by cases args; simp_all
  obtain ⟨rfl, rfl⟩ := trodVars_none hV
  have h0k := h0
  obtain ⟨l0, a0, m0, c0, rfl, hy0, hb0⟩ := open_pkt (hval 0 28 v0 rfl rfl) h0
  have h1k := h1
  obtain ⟨x1, y1, z1, rfl⟩ := open_three (hval 1 45 v1 rfl rfl) h1
  have h2k := h2
  obtain ⟨ao2, n2, c2, ns2, rfl, hy2⟩ := open_bytes (hval 2 24 v2 rfl rfl) h2
  clear hA0 hval0
  simp only [List.append_nil] at hW'
  have hlt : ∀ x ∈ p0 ++ p1 ++ p2, x.block < W.heap.size := fun x hx => by simpa using hW'.lt x (by simpa using hx)
  refine (longWalk l0 a0 m0 c0 x1 y1 z1 ao2 n2 c2 ns2 W hT hy0 hb0 hy2).mono fun e W' ⟨he, hbl⟩ => ?_
  subst he
  exact ⟨_, rfl, _, _, _, [], _, [], hW', (trodAll_cons_mk (shut_bool Tryd.underlying4 _) trodAll_mk0), (trodAll_cons_mk (Below.trod Tryd.laidOut (by kernel_rfl) (of_decide_eq_true (by kernel_rfl)) h0k hbl (fun x hx => hlt x (by simp [hx]))) (trodAll_cons_mk (Below.trod Tryd.laidOut (by kernel_rfl) (of_decide_eq_true (by kernel_rfl)) h1k hbl (fun x hx => hlt x (by simp [hx]))) (trodAll_cons_mk (Below.trod Tryd.laidOut (by kernel_rfl) (of_decide_eq_true (by kernel_rfl)) h2k hbl (fun x hx => hlt x (by simp [hx]))) trodAll_mk0))), rfl, hbl.frame _, fun h => by cases h⟩

theorem controlLong_holds : Rows.ControlLongSaid :=
  OpenClaim.holds_of_wide 7 Tryd.f7 rfl rfl rfl rfl rfl rfl rfl ⟨rfl, rfl, rfl, rfl, rfl⟩ rfl rfl rfl rfl rfl (by kernel_rfl) Tryd.func7 (by kernel_rfl)
    (of_decide_eq_true (by kernel_rfl)) (by unfold Func.isWrapper; first | (rw [if_pos (by decide +kernel)]; kernel_rfl) | (rw [if_neg (by decide +kernel)]; exact ⟨rfl, rfl⟩))
    (fun os started H enc _ => controlLonglifted os started H enc)

theorem controlLong_card_holds : Rows.ControlLongCardSaid :=
  Claim7.holds_tied_plain_at .later [] [.data] true (true, "40610068b199d95fe10dea4bfc5d373c8e4676b673a11564a6585a93802516b6") false
    controlLong_holds (fun _ h => by cases h) (by kernel_rfl) (fun _ h => by cases h) controlLong_row_tie rfl ⟨rfl, rfl⟩ (by kernel_rfl) rfl
    (fun f fn hf hfn => by
      obtain rfl : f = 7 := Option.some.inj ((show Tryd.prog.funcNamed "gemel/gemellaw06.ControlLong" = some 7 by kernel_rfl).symm.trans hf) |>.symm
      obtain rfl : fn = Tryd.f7 := (Option.some.inj (Tryd.func7.symm.trans hfn)).symm
      exact ⟨by kernel_rfl, fun j t ht => by
        rw [Tryd.params7] at ht
        have hm : t ∈ [28, 45, 24] := by simpa using Array.mem_of_getElem? ht
        have hall : ([28, 45, 24].all fun u => !Tryd.prog.wantsStandIn u) = true := by kernel_rfl
        exact (show Tryd.prog.wantsStandIn t = false by simpa using List.all_eq_true.1 hall t hm)⟩)
    (by kernel_rfl)

#print axioms controlLong_card_holds
end Go.Proofs.YtijfcfpoimknmaaDoor
