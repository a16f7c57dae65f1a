/- JournalParts: for all entries and all steps of both parts the law answers true, and all three read behind the call as they read before. No condition. -/
import Derived.Test.YtjlmheecefobaaaOp
import Derived.Test.YtjlmheecefobaaaK1
import Derived.Test.YtjlmheecefobaaaAw
import Derived.Test.YtjlmheecefobaaaM8
namespace Go.Proofs.Ytjlmheecefobaaa
open Go.ChangeShapes Go.WideShapes Go.ChangeAt Go.RowKit Go.PlainAid

theorem cts_crs {w : World} {B : Nat} {ao : Option Addr} {n c : Nat} {l : List Ch} (h : Cts w B ao n c l) (hc : ao = none → c = 0) : Crs w ao n c l :=
  ⟨h.len, fun e => ⟨h.nil e, hc e⟩, fun a e j u hj => by
    obtain ⟨b, e1, _, e3⟩ := h.bx a e
    rw [e1, Addr.add_lit]
    exact e3.at_ j u hj⟩
theorem lst_append : ∀ (a b : List Sp) (f : Int), lst (a ++ b) f = lst a f ++ lst b (f + a.length)
  | [], b, f => by simp [lst]
  | p :: r, b, f => by
    rw [List.cons_append, lst, lst, lst_append r b (f + 1), List.cons_append]
    rw [show f + 1 + (r.length : Int) = f + ((p :: r).length : Int) by simp; omega]
set_option maxRecDepth 100000 in
set_option maxHeartbeats 4000000 in
theorem partsWalk (ao : Option Addr) (n c : Nat) (l : List En) (ao1 : Option Addr) (n1 c1 : Nat) (ss : List Sp) (ao2 : Option Addr) (n2 c2 : Nat) (st : List Sp) (w : World) (hl : Sl ecl 10 w w.heap.size ao n c l) (ho : ∀ s ∈ l, Eok s) (hs : Sl pcl 11 w w.heap.size ao1 n1 c1 ss) (hp : ∀ s ∈ ss, Eok s.x) (ht : Sl pcl 11 w w.heap.size ao2 n2 c2 st) (hpt : ∀ s ∈ st, Eok s.x) :
    Calls Try.prog 7 #[.slice ao n c, .slice ao1 n1 c1, .slice ao2 n2 c2] w fun e w' => e = .returned (.bool true) ∧ Below w.heap.size w w' := by
  have HL := hide hl
  have HS := hide hs
  have HT := hide ht
  have HO := hide ho
  have HP := hide hp
  have HPT := hide hpt
  clear hl hs ht ho hp hpt
  by_cases a1 : (40 : Int) < (n : Int)
  · skip
    go_enter Try.func7, Try.ntmps7
    go_wp2_with fail
    refine (awake10 _).mono ?_
    rintro e w1 ⟨rfl, B1⟩
    have HB := hide B1
    clear B1
    go_wp2
    go_ret
    exact ⟨rfl, HB.out⟩
  by_cases a2 : (40 : Int) < (n1 : Int)
  · skip
    go_enter Try.func7, Try.ntmps7
    go_wp2_with fail
    refine (awake10 _).mono ?_
    rintro e w1 ⟨rfl, B1⟩
    have HB := hide B1
    clear B1
    go_wp2
    go_ret
    exact ⟨rfl, HB.out⟩
  by_cases a3 : (40 : Int) < (n2 : Int)
  · skip
    go_enter Try.func7, Try.ntmps7
    go_wp2_with fail
    refine (awake10 _).mono ?_
    rintro e w1 ⟨rfl, B1⟩
    have HB := hide B1
    clear B1
    go_wp2
    go_ret
    exact ⟨rfl, HB.out⟩
  go_enter Try.func7, Try.ntmps7
  go_wp2_with fail
  refine (awake10 _).mono ?_
  rintro e w1 ⟨rfl, B1⟩
  replace HL := hide (HL.out.on B1)
  replace HS := hide (HS.out.on B1)
  replace HT := hide (HT.out.on B1)
  have HB := hide B1
  clear B1
  go_wp2_with fail
  refine (list19 ao1 n1 c1 ss 0 _ HS.out (by omega) (by omega) (by omega)).mono ?_
  rintro e w2 ⟨ao3, c3, rfl, C2, B2, N2⟩
  replace HL := hide (HL.out.on B2)
  replace HT := hide (HT.out.on B2)
  replace HB := hide (below_more HB.out B2 HB.out.size)
  have HC := hide C2
  have HN := hide N2
  have HCO : Hid (∀ d ∈ lst ss 0, Eok d.x) := hide (fun d hd => by obtain ⟨p, h1, h2⟩ := lst_mem hd; rw [h2]; exact HP.out p h1)
  clear B2 C2 N2
  go_wp2_with fail
  refine (list19 ao2 n2 c2 st n1 _ HT.out (by omega) (by omega) (by omega)).mono ?_
  rintro e w3 ⟨ao4, c4, rfl, C3, B3, N3⟩
  replace HL := hide (HL.out.on B3)
  replace HC := hide (HC.out.on B3)
  replace HB := hide (below_more HB.out B3 HB.out.size)
  have HD := hide C3
  have HM := hide N3
  have HDO : Hid (∀ d ∈ lst st n1, Eok d.x) := hide (fun d hd => by obtain ⟨p, h1, h2⟩ := lst_mem hd; rw [h2]; exact HPT.out p h1)
  clear B3 C3 N3 HT
  obtain ⟨xs, hxs⟩ : ∃ xs, xs = lst ss 0 := ⟨_, rfl⟩
  obtain ⟨ys, hys⟩ : ∃ ys, ys = lst st n1 := ⟨_, rfl⟩
  rw [← hxs] at HC HCO
  rw [← hys] at HD HDO
  clear hxs hys
  have O1 : Hid ((w3.alloc (.cells #[] 54)).ownsRow w3.heap.size 54 12 (.slice (some ⟨w3.heap.size, 0, none⟩) 0 0) 0 (chs [])) := hide (World.ownsRow_lit w3 #[] 0 (by omega) (by unfold maxLen; omega) rfl)
  have A3 := hide (below_alloc w3 (.cells #[] 54))
  have M1 := hide (cts_crs (HC.out.on A3.out) HN.out)
  have s1 : Hid (w3.heap.size ≤ (w3.alloc (.cells #[] 54)).heap.size) := hide (by simp)
  have tk1 : True := trivial
  have tk2 : True := trivial
  go_wp2_with (first | (have _t := tk1; at_builtin; refine wpl_capp rfl rfl (.tmp 37) (.tmp 38) rfl w3.heap.size _ 0 [] rfl O1.out _ _ _ _ rfl M1.out (by omega) s1.out ?_; clear tk1))
  intro v4 w4 O4 G4
  have B4 := hide (A3.out.grown G4 s1.out (fun r hr => (O1.out.lt r hr).1))
  have HO4 := hide O4
  have M2 := hide (cts_crs (HD.out.on B4.out) HM.out)
  have s2 : Hid (w3.heap.size ≤ w4.heap.size) := hide B4.out.size
  clear O4 G4 M1
  go_wp2_with (first | (have _t := tk2; at_builtin; refine wpl_capp rfl rfl (.tmp 39) (.tmp 40) rfl w3.heap.size _ _ _ rfl HO4.out _ _ _ _ rfl M2.out (by omega) s2.out ?_; clear tk2))
  intro v5 w5 O5 G5
  have B5 := hide (B4.out.grown G5 s2.out (fun r hr => (HO4.out.lt r hr).1))
  have hlen : Hid ((xs ++ ys).length = n1 + n2) := hide (by have h1 := HC.out.len; have h2 := HD.out.len; simp; omega)
  obtain ⟨ao5, c5, e5, E5⟩ := row_cts (B := w3.heap.size) (v := v5) (l := xs ++ ys) (by rw [hlen.out]; exact O5)
  subst e5
  have hE := E5.sl
  rw [hlen.out] at hE
  have HE := hide hE
  have HEO : Hid (∀ d ∈ xs ++ ys, Eok d.x) := hide (fun d hd => (List.mem_append.1 hd).elim (HCO.out d) (HDO.out d))
  have HC5 := hide (HC.out.on B5.out).sl
  have HD5 := hide (HD.out.on B5.out).sl
  replace HL := hide (HL.out.on B5.out)
  replace HB := hide (below_more HB.out B5.out HB.out.size)
  clear E5 O5 G5 HO4 M2 B4 A3 O1 HC HD hE
  rw [hlen.out]
  go_wp2_with fail
  refine (replay21 ao n c l ao5 (n1 + n2) c5 (xs ++ ys) _ HL.out HE.out HO.out HEO.out (by omega)).mono ?_
  rintro e w6 ⟨ao6, c6, rfl, E6, B6⟩
  replace HL := hide (HL.out.on B6)
  replace HC5 := hide (HC5.out.on B6)
  replace HD5 := hide (HD5.out.on B6)
  replace HB := hide (below_more HB.out B6 HB.out.size)
  have HF := hide E6.sl
  clear B6 E6 HE B5
  go_wp2_with fail
  refine (replay21 ao n c l ao3 n1 c3 xs _ HL.out HC5.out HO.out HCO.out (by omega)).mono ?_
  rintro e w7 ⟨ao7, c7, rfl, E7, B7⟩
  replace HD5 := hide (HD5.out.on B7)
  replace HF := hide (HF.out.on B7)
  replace HB := hide (below_more HB.out B7 HB.out.size)
  have HG := hide E7.sl
  have hrl : Hid ((rep l xs).length + n2 ≤ 50000) := hide (by have h1 := rep_le l xs; have h2 := HL.out.len; have h3 := HC5.out.len; omega)
  have hro : Hid (∀ s ∈ rep l xs, Eok s) := hide (rep_all (p := Eok) HO.out HCO.out)
  clear B7 E7 HC5 HL
  go_wp2_with fail
  refine (replay21 ao7 (rep l xs).length c7 (rep l xs) ao4 n2 c4 ys _ HG.out HD5.out hro.out HDO.out hrl.out).mono ?_
  rintro e w8 ⟨ao8, c8, rfl, E8, B8⟩
  replace HF := hide (HF.out.on B8)
  replace HB := hide (below_more HB.out B8 HB.out.size)
  have HH : Hid (Sl ecl 10 w8 w8.heap.size ao8 (rep (rep l xs) ys).length c8 (rep l (xs ++ ys))) := hide (by rw [rep_parts]; exact E8.sl)
  clear B8 E8 HG HD5
  go_wp2_with fail
  refine (same20 (rep l (xs ++ ys)) _ _ ao6 ao8 c6 c8 _ HF.out HH.out).mono ?_
  rintro e w9 ⟨rfl, B9⟩
  replace HB := hide (below_more HB.out B9 HB.out.size)
  clear B9
  go_wp2
  go_ret
  exact ⟨rfl, HB.out⟩
set_option maxRecDepth 100000 in
set_option maxHeartbeats 2000000 in
theorem journalPartslifted (os : Os) (started : os.Started) (H : Type) (enc : TypeId × Value → H) :
    ReturnsInHanded {} Try.checked os 7 .any (Rows.journalPartsSpec.pre6 enc Try.prog Try.f7 Rows.journalPartsRow.domain false) (Rows.journalPartsSpec.post enc Try.prog Try.f7 false true false false) := by
  refine returnsInHanded_of_change (C := Try.checked) own started (by kernel_rfl) Try.func7
    (ChangeSpec.witness6 (enc := enc) (C := Try.checked) false ⟨#[], #[.slice none 0 0, .slice none 0 0, .slice none 0 0], []⟩ 8 (by kernel_rfl) (by kernel_rfl) (by kernel_rfl) (by kernel_rfl)) ?_
  intro W base args ds gs before hval0 hW _ _
  have hval : ∀ (j : Nat) t v, Try.f7.params[j]? = some t → args[j]? = some v → Value.okWide Try.prog W .any base t v := hval0
  have hW' := hW
  obtain ⟨p, q, hA0, hV, rfl, _, _⟩ := hW
  have hA : DataW.TrodAll enc Try.prog W 0 (fun _ => true) true Try.f7.params.toList args.toList ds p := hA0
  rw [Try.params7] at hA hval
  obtain ⟨v0, vs0, d0, ds0, p0, q0, hargs, rfl, rfl, h0, r0⟩ := trodAll_cons hA
  obtain ⟨v1, vs1, d1, ds1, p1, q1, rfl, rfl, rfl, h1, r1⟩ := trodAll_cons r0
  obtain ⟨v2, vs2, d2, ds2, p2, q2, rfl, rfl, rfl, h2, r2⟩ := trodAll_cons r1
  obtain ⟨rfl, rfl, rfl⟩ := trodAll_nil r2
  obtain rfl : args = #[v0, v1, v2] := by cases args; simp_all
  obtain ⟨rfl, rfl⟩ := trodVars_none hV
  have h0k := h0
  obtain ⟨ao0, n0, c0, ss0, rfl, hs0, ho0⟩ := open_ents (hval 0 47 v0 rfl rfl) h0
  have h1k := h1
  obtain ⟨ao1, n1, c1, ss1, rfl, hs1, ho1⟩ := open_sps (hval 1 22 v1 rfl rfl) h1
  have h2k := h2
  obtain ⟨ao2, n2, c2, ss2, rfl, hs2, ho2⟩ := open_sps (hval 2 22 v2 rfl rfl) h2
  clear hA0 hval0
  simp only [List.append_nil] at hW'
  have hlt : ∀ x ∈ p0 ++ p1 ++ p2, x.block < W.heap.size := fun x hx => by simpa using hW'.lt x (by simpa using hx)
  refine (partsWalk ao0 n0 c0 ss0 ao1 n1 c1 ss1 ao2 n2 c2 ss2 W hs0 ho0 hs1 ho1 hs2 ho2).mono fun e W' ⟨he, hbl⟩ => ?_
  subst he
  exact ⟨_, rfl, _, _, _, [], _, [], hW', (trodAll_cons_mk (shut_bool Try.underlying4 _) trodAll_mk0), (trodAll_cons_mk (Below.trod Try.laidOut (by kernel_rfl) (of_decide_eq_true (by kernel_rfl)) h0k hbl (fun x hx => hlt x (by simp [hx]))) (trodAll_cons_mk (Below.trod Try.laidOut (by kernel_rfl) (of_decide_eq_true (by kernel_rfl)) h1k hbl (fun x hx => hlt x (by simp [hx]))) (trodAll_cons_mk (Below.trod Try.laidOut (by kernel_rfl) (of_decide_eq_true (by kernel_rfl)) h2k hbl (fun x hx => hlt x (by simp [hx]))) trodAll_mk0))), rfl, hbl.frame _, fun h => by cases h⟩

theorem journalParts_holds : Rows.JournalPartsSaid :=
  OpenClaim.holds_of_wide 7 Try.f7 rfl rfl rfl rfl rfl rfl rfl ⟨rfl, rfl, rfl, rfl, rfl⟩ rfl rfl rfl rfl rfl (by kernel_rfl) Try.func7 (by kernel_rfl)
    (of_decide_eq_true (by kernel_rfl)) (by unfold Func.isWrapper; first | (rw [if_pos (by decide +kernel)]; kernel_rfl) | (rw [if_neg (by decide +kernel)]; exact ⟨rfl, rfl⟩))
    (fun os started H enc _ => journalPartslifted os started H enc)

#print axioms journalParts_holds
end Go.Proofs.Ytjlmheecefobaaa
