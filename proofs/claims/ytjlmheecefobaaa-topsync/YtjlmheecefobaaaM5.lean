/- Contract of Replay. -/
import Derived.Test.YtjlmheecefobaaaM4
import Derived.Test.YtjlmheecefobaaaB4
namespace Go.Proofs.Ytjlmheecefobaaa
open Go.RowKit Go.PlainAid

theorem take_foldl {α β : Type} (f : β → α → β) (s : β) {l : List α} {k : Nat} {x : α} (h : l[k]? = some x) : (l.take (k + 1)).foldl f s = f ((l.take k).foldl f s) x := by
  rw [List.take_add_one, h, List.foldl_append]; rfl
attribute [local go_sem] CC11
set_option maxRecDepth 100000 in
set_option maxHeartbeats 8000000 in
theorem replay21 (ao : Option Addr) (n c : Nat) (l : List En) (ao2 : Option Addr) (n2 c2 : Nat) (cs : List Ch) (w : World) (hl : Sl ecl 10 w w.heap.size ao n c l) (hc : Sl ccl 12 w w.heap.size ao2 n2 c2 cs) (ho : Ok l) (hco : ∀ c ∈ cs, Eok c.x) (hn : n + n2 ≤ 50000) :
    Calls Try.prog 21 #[.slice ao n c, .slice ao2 n2 c2] w fun e w' => ∃ ao' c', e = .returned (.slice ao' (rep l cs).length c') ∧ Ets w' w.heap.size ao' (rep l cs).length c' (rep l cs) ∧ Below w.heap.size w w' := by
  have B0 : Hid (Below w.heap.size w (w.alloc (.map #[] 0))) := hide (by go_grown)
  have M0 := hide (mp_new w)
  have HL := hide hl
  have HC := hide hc
  have HO1 := hide ho
  have HO2 := hide hco
  have hmm := @run_makeMap Try.prog
  have hln := hl.len
  have hcn := hc.len
  have hln' : Hid (l.length = n) := hide hln
  have hcn' : Hid (cs.length = n2) := hide hcn
  clear hl hc ho hco hln hcn
  go_enter Try.func21, Try.ntmps21
  go_wp2
  obtain ⟨b, hb⟩ : ∃ b, b = w.heap.size := ⟨_, rfl⟩
  rw [← hb]
  have HBB := hide hb
  rw [← hb] at M0
  clear hb hmm
  go_loopw [7, 13] (fun _ i wr => ∃ (k : Nat) (ml : List En), k ≤ n ∧ i = .int .i64 k ∧ Mp wr b ml ∧ Apt ml ∧ Ok ml ∧ Eqv ml ((l.take k).foldl up []) ∧ ml.length ≤ k ∧ Below w.heap.size w wr) (fun _ i _ => n - (intOf i).toNat)
  case atStart => exact ⟨0, [], Nat.zero_le _, rfl, M0.out, List.Pairwise.nil, fun x hx => by simp at hx, fun z => by simp, Nat.le_refl _, B0.out⟩
  case round =>
    obtain ⟨k, ml, hk, rfl, hm, ha, hok, he, hle, hbl⟩ := hrel
    have HM := hide hm
    have HA := hide ha
    have HO := hide hok
    have HE := hide he
    have HLE := hide hle
    have B := hide hbl
    clear hm ha hok he hle hbl M0 B0
    by_cases hkn : k < n
    · obtain ⟨x, hx⟩ : ∃ x, l[k]? = some x := ⟨_, List.getElem?_eq_getElem (by rw [hln'.out]; exact hkn)⟩
      obtain ⟨b0, o0, rfl, hG, hA⟩ := (HL.out.below B.out).cell k x hx
      have hEx := hide (HO1.out x (List.mem_of_getElem? hx))
      have hk2 : (k : Int) < (n : Int) := by omega
      have e1 : IntKind.i64.wrap ((k : Int) + 1) = (k : Int) + 1 := IntWalk.i64_in _ (by omega)
      have HTK := hide (take_foldl up [] hx)
      have hkx : Hid (b < wr.heap.size) := hide HM.out.lt
      clear hx hG
      have tk1 : True := trivial
      have tk2 : True := trivial
      go_wp2_with (first | (have _t := tk1; refine wpl_ent (.tmp 15) rfl hA ?_ ?_ ?_; rfl; rfl; clear tk1) | (have _t := tk2; refine wpl_putE x zE (.tmp 7) (.tmp 16) rfl (box_e _ zE) ?_ rfl rfl ?_; rfl; clear tk2))
      intro w3 X3 G3
      have C3 : Hid (Below wr.heap.size wr w3) := hide (below_grown (below_alloc wr (.cells (EC zE) 36)) G3 (Nat.le_refl _) (by simp))
      have HX3 := hide X3
      replace HM := hide (HM.out.on C3.out)
      replace B := hide (below_more B.out C3.out B.out.size)
      clear G3 X3 C3 hA
      obtain ⟨kx, hkk⟩ : ∃ kx, kx = wr.heap.size := ⟨_, rfl⟩
      have HKB : Hid (b < kx ∧ b = w.heap.size) := hide ⟨by rw [hkk]; exact hkx.out, HBB.out⟩
      rw [← hkk] at HX3 ⊢
      clear hkk hkx
      go_wp2_with fail
      refine wp_region_held_drew (S := fun w' => Box w' kx (ecl x) ∧ ∃ m, Mp w' b m) (by kernel_rfl) ⟨HX3.out.drew, _, HM.out.drew⟩ (fun hHeld => ?_)
      replace HM := hide HM.out.drew
      replace B := hide (belowOn' B.out)
      clear HX3
      generalize w3.drew = u0 at *
      refine wpAnyH_take (i := 0) (v := .map (some b)) rfl (by kernel_rfl) (by kernel_rfl) (by kernel_rfl) (fun _ _ _ h => h) (Or.inl ⟨by rfl, ?_⟩) hHeld ?_
      · intro W hW; (try dsimp only at hW); go_simp
      change wpAnyH _ _ _ _ _ _ _ ⟨#[_,_,_,_,_,.map (some b),_,.pointer (some ⟨kx, 0, none⟩),_,_,_,_,_,.int .i64 k,_,_,_,.map (some b),_,_,_,_,_,_,_,_,_,_,_,_,_,_,_,_,_,_,_,_,_,_,_,_,_], []⟩ _
      refine wpAnyH_take (i := 1) (v := .agg (EC x)) rfl (by kernel_rfl) (by kernel_rfl) (by kernel_rfl) (fun _ _ _ h => h) (yieldsIf_load_mid (by rfl) 36 (.tmp 7) rfl kx 0 rfl (ecl x) _ (fun W hW => hW.1.at_) Try.underlying36 rfl Try.size36) hHeld ?_
      change wpAnyH _ _ _ _ _ _ _ ⟨#[_,_,_,_,_,.map (some b),_,.pointer (some ⟨kx, 0, none⟩),_,_,_,_,_,.int .i64 k,_,_,_,.map (some b),.agg (EC x),_,_,_,_,_,_,_,_,_,_,_,_,_,_,_,_,_,_,_,_,_,_,_,_], []⟩ _
      refine wpAnyH_take (i := 3) (v := .agg (EC x)) rfl (by kernel_rfl) (by kernel_rfl) (by kernel_rfl) (fun _ _ _ h => h) (yieldsIf_load_mid (by rfl) 36 (.tmp 7) rfl kx 0 rfl (ecl x) _ (fun W hW => hW.1.at_) Try.underlying36 rfl Try.size36) hHeld ?_
      change wpAnyH _ _ _ _ _ _ _ ⟨#[_,_,_,_,_,.map (some b),_,.pointer (some ⟨kx, 0, none⟩),_,_,_,_,_,.int .i64 k,_,_,_,.map (some b),.agg (EC x),_,.agg (EC x),_,_,_,_,_,_,_,_,_,_,_,_,_,_,_,_,_,_,_,_,_,_], []⟩ _
      refine wpAnyH_ready (rs := [2]) (by kernel_rfl) (by simp) ?_
      refine AllReadyH.cons rfl (fun K hK => ?_) AllReadyH.nil
      go_simp
      refine (of33 x _).mono ?_
      rintro e u1 ⟨rfl, hb⟩
      replace B := hide (below_more B.out hb B.out.size)
      replace HM := hide (HM.out.on hb)
      refine hK.out _ _ ⟨hHeld.1.on hb, _, HM.out⟩ (fun hHeld => ?_)
      clear hK K hb
      change wpAnyH _ _ _ _ _ _ _ ⟨#[_,_,_,_,_,.map (some b),_,.pointer (some ⟨kx, 0, none⟩),_,_,_,_,_,.int .i64 k,_,_,_,.map (some b),.agg (EC x),.agg (KC x.v x.m),.agg (EC x),_,_,_,_,_,_,_,_,_,_,_,_,_,_,_,_,_,_,_,_,_,_], []⟩ _
      refine wpAnyH_ready (rs := [4]) (by kernel_rfl) (by simp) ?_
      refine AllReadyH.cons rfl (fun K hK => ?_) AllReadyH.nil
      obtain ⟨u2, hrun, M2, g2⟩ := HM.out.put HO.out HA.out (hEx.out)
      unfold KV at hrun
      have X2 := hHeld.1.kept (show kx ≠ b by have := HKB.out; omega) g2
      replace B := hide (below_grown B.out g2 (by have := HKB.out; omega) B.out.size)
      go_simp
      refine hK.out _ _ ⟨X2, _, M2⟩ (fun hHeld => ?_)
      clear hK K hrun HM
      have HM := hide M2
      clear M2 g2 X2
      change wpAnyH _ _ _ _ _ _ _ ⟨#[_,_,_,_,_,.map (some b),_,.pointer (some ⟨kx, 0, none⟩),_,_,_,_,_,.int .i64 k,_,_,_,.map (some b),.agg (EC x),.agg (KC x.v x.m),.agg (EC x),_,_,_,_,_,_,_,_,_,_,_,_,_,_,_,_,_,_,_,_,_,_], []⟩ _
      refine wpAnyH_done (by kernel_rfl) ?_ _
      have HE2 : Hid (Eqv (pt ml x) ((l.take (k + 1)).foldl up [])) := hide (by rw [HTK.out]; exact eqv_up HE.out HA.out HO.out hEx.out.m)
      have HA2 := hide (pt_apt HA.out HO.out hEx.out.m)
      have HO2' := hide (pt_ok HO.out hEx.out)
      have HLE2 : Hid ((pt ml x).length ≤ k + 1) := hide (by have := pt_le ml x; have := HLE.out; omega)
      clear HE HA HO HLE HTK
      go_wp2
      go_roundw
      case rel => exact ⟨k + 1, pt ml x, by omega, by go_num, HM.out, HA2.out, HO2'.out, HE2.out, HLE2.out, B.out⟩
      case measure => simp [intOf]; omega
    · have hk2 : ¬ (k : Int) < (n : Int) := by omega
      have hall : l.take k = l := List.take_of_length_le (by rw [hln'.out]; omega)
      rw [hall] at HE
      clear hall
      go_wp2
      have HLE1 : Hid (ml.length ≤ n) := hide (by have := HLE.out; omega)
      clear HLE
      go_loopw [9, 24] (fun _ i wr => ∃ (k : Nat) (ml : List En), k ≤ n2 ∧ i = .int .i64 k ∧ Mp wr b ml ∧ Apt ml ∧ Ok ml ∧ Eqv ml ((cs.take k).foldl dn (srt l)) ∧ ml.length ≤ n + k ∧ Below w.heap.size w wr) (fun _ i _ => n2 - (intOf i).toNat)
      case atStart => exact ⟨0, ml, Nat.zero_le _, rfl, HM.out, HA.out, HO.out, HE.out, HLE1.out, B.out⟩
      case round =>
        obtain ⟨k, ml, hk, rfl, hm, ha, hok, he, hle, hbl⟩ := hrel
        clear HM HA HO HE HLE1 B
        have HM := hide hm
        have HA := hide ha
        have HO := hide hok
        have HE := hide he
        have HLE := hide hle
        have B := hide hbl
        clear hm ha hok he hle hbl
        by_cases hkn : k < n2
        · obtain ⟨d, hx⟩ : ∃ d, cs[k]? = some d := ⟨_, List.getElem?_eq_getElem (by rw [hcn'.out]; exact hkn)⟩
          obtain ⟨b0, o0, rfl, hG, hA⟩ := (HC.out.below B.out).cell k d hx
          have hEx := hide (HO2.out d (List.mem_of_getElem? hx))
          have hk2 : (k : Int) < (n2 : Int) := by omega
          have e1 : IntKind.i64.wrap ((k : Int) + 1) = (k : Int) + 1 := IntWalk.i64_in _ (by omega)
          have HTK := hide (take_foldl dn (srt l) hx)
          have hkx : Hid (b < wr.heap.size) := hide HM.out.lt
          clear hx hG
          have tk1 : True := trivial
          have tk2 : True := trivial
          go_wp2_with (first | (have _t := tk1; refine wpl_chg (.tmp 26) rfl hA ?_ ?_ ?_; rfl; rfl; clear tk1) | (have _t := tk2; refine wpl_putC d zC (.tmp 9) (.tmp 27) rfl (box_c _ zC) ?_ rfl rfl ?_; rfl; clear tk2))
          intro w3 X3 G3
          have C3 : Hid (Below wr.heap.size wr w3) := hide (below_grown (below_alloc wr (.cells (CC zC) 54)) G3 (Nat.le_refl _) (by simp))
          have HX3 := hide X3
          replace HM := hide (HM.out.on C3.out)
          replace B := hide (below_more B.out C3.out B.out.size)
          have c11 := X3.cell 11 _ rfl
          clear G3 X3 C3 hA
          obtain ⟨kx, hkk⟩ : ∃ kx, kx = wr.heap.size := ⟨_, rfl⟩
          have HKB : Hid (b < kx ∧ b = w.heap.size) := hide ⟨by rw [hkk]; exact hkx.out, HBB.out⟩
          rw [← hkk] at HX3 c11 ⊢
          clear hkk hkx
          rcases Bool.eq_false_or_eq_true d.g with hg | hg
          · rw [hg] at c11
            have HE2 : Hid (Eqv (rm ml d.x.v d.x.m) ((cs.take (k + 1)).foldl dn (srt l))) := hide (by rw [HTK.out, dn, hg, if_pos rfl]; exact eqv_rm HE.out _ _)
            have hg' := hide hg
            have A3 := chg_ent (o := 0) HX3.out.at_
            rw [Nat.zero_add] at A3
            clear hg HE HTK
            have tk3 : True := trivial
            go_wp2_with (first | (have _t := tk3; refine wpl_ent (.tmp 31) rfl A3 ?_ ?_ ?_; rfl; rfl; clear tk3))
            refine (of33 d.x _).mono ?_
            rintro e u1 ⟨rfl, hb⟩
            replace B := hide (below_more B.out hb B.out.size)
            replace HM := hide (HM.out.on hb)
            clear hb A3 c11 HX3
            obtain ⟨u2, hrun, M2, g2⟩ := HM.out.drop HO.out HA.out hEx.out.v hEx.out.m 0
            unfold KV at hrun
            replace B := hide (below_grown B.out g2 (by have := HKB.out; omega) B.out.size)
            have HM2 := hide M2
            have HA2 := hide (rm_apt HA.out d.x.v d.x.m)
            have HO2' := hide (rm_ok HO.out d.x.v d.x.m)
            have HLE2 : Hid ((rm ml d.x.v d.x.m).length ≤ n + (k + 1)) := hide (by have := rm_le ml d.x.v d.x.m; have := HLE.out; omega)
            clear M2 g2 HM HA HO HLE
            go_wp2
            go_roundw
            case rel => exact ⟨k + 1, _, by omega, by go_num, HM2.out, HA2.out, HO2'.out, HE2.out, HLE2.out, B.out⟩
            case measure => simp [intOf]; omega
          · rw [hg] at c11
            have HE2 : Hid (Eqv (pt ml d.x) ((cs.take (k + 1)).foldl dn (srt l))) := hide (by rw [HTK.out, dn, hg, if_neg (by simp)]; exact eqv_up HE.out HA.out HO.out hEx.out.m)
            clear hg HE HTK
            go_wp2_with fail
            refine wp_region_held_drew (S := fun w' => Box w' kx (ccl d) ∧ ∃ m, Mp w' b m) (by kernel_rfl) ⟨HX3.out.drew, _, HM.out.drew⟩ (fun hHeld => ?_)
            replace HM := hide HM.out.drew
            replace B := hide (belowOn' B.out)
            clear HX3 c11
            generalize w3.drew = u0 at *
            refine wpAnyH_take (i := 0) (v := .map (some b)) rfl (by kernel_rfl) (by kernel_rfl) (by kernel_rfl) (fun _ _ _ h => h) (Or.inl ⟨by rfl, ?_⟩) hHeld ?_
            · intro W hW; (try dsimp only at hW); go_simp
            change wpAnyH _ _ _ _ _ _ _ ⟨#[_,_,_,_,_,.map (some b),_,_,_,.pointer (some ⟨kx, 0, none⟩),_,_,_,_,_,_,_,_,_,_,_,_,_,_,.int .i64 k,_,_,_,_,_,_,_,_,_,.map (some b),_,_,_,_,_,_,_,_], []⟩ _
            refine wpAnyH_take (i := 1) (v := .pointer (some ⟨kx, 1, none⟩)) rfl (by kernel_rfl) (by kernel_rfl) (by kernel_rfl) (fun _ _ _ h => h) (Or.inl ⟨by rfl, ?_⟩) hHeld ?_
            · intro W hW; (try dsimp only at hW); go_simp
            change wpAnyH _ _ _ _ _ _ _ ⟨#[_,_,_,_,_,.map (some b),_,_,_,.pointer (some ⟨kx, 0, none⟩),_,_,_,_,_,_,_,_,_,_,_,_,_,_,.int .i64 k,_,_,_,_,_,_,_,_,_,.map (some b),.pointer (some ⟨kx, 1, none⟩),_,_,_,_,_,_,_], []⟩ _
            refine wpAnyH_take (i := 2) (v := .agg (EC d.x)) rfl (by kernel_rfl) (by kernel_rfl) (by kernel_rfl) (fun _ _ _ h => h) (yieldsIf_load_mid (by rfl) 36 (.tmp 35) rfl kx 1 rfl (ecl d.x) _ (fun W hW => (chg_ent (o := 0) hW.1.at_)) Try.underlying36 rfl Try.size36) hHeld ?_
            change wpAnyH _ _ _ _ _ _ _ ⟨#[_,_,_,_,_,.map (some b),_,_,_,.pointer (some ⟨kx, 0, none⟩),_,_,_,_,_,_,_,_,_,_,_,_,_,_,.int .i64 k,_,_,_,_,_,_,_,_,_,.map (some b),.pointer (some ⟨kx, 1, none⟩),.agg (EC d.x),_,_,_,_,_,_], []⟩ _
            refine wpAnyH_take (i := 4) (v := .pointer (some ⟨kx, 1, none⟩)) rfl (by kernel_rfl) (by kernel_rfl) (by kernel_rfl) (fun _ _ _ h => h) (Or.inl ⟨by rfl, ?_⟩) hHeld ?_
            · intro W hW; (try dsimp only at hW); go_simp
            change wpAnyH _ _ _ _ _ _ _ ⟨#[_,_,_,_,_,.map (some b),_,_,_,.pointer (some ⟨kx, 0, none⟩),_,_,_,_,_,_,_,_,_,_,_,_,_,_,.int .i64 k,_,_,_,_,_,_,_,_,_,.map (some b),.pointer (some ⟨kx, 1, none⟩),.agg (EC d.x),_,.pointer (some ⟨kx, 1, none⟩),_,_,_,_], []⟩ _
            refine wpAnyH_take (i := 5) (v := .agg (EC d.x)) rfl (by kernel_rfl) (by kernel_rfl) (by kernel_rfl) (fun _ _ _ h => h) (yieldsIf_load_mid (by rfl) 36 (.tmp 38) rfl kx 1 rfl (ecl d.x) _ (fun W hW => (chg_ent (o := 0) hW.1.at_)) Try.underlying36 rfl Try.size36) hHeld ?_
            change wpAnyH _ _ _ _ _ _ _ ⟨#[_,_,_,_,_,.map (some b),_,_,_,.pointer (some ⟨kx, 0, none⟩),_,_,_,_,_,_,_,_,_,_,_,_,_,_,.int .i64 k,_,_,_,_,_,_,_,_,_,.map (some b),.pointer (some ⟨kx, 1, none⟩),.agg (EC d.x),_,.pointer (some ⟨kx, 1, none⟩),.agg (EC d.x),_,_,_], []⟩ _
            refine wpAnyH_ready (rs := [3]) (by kernel_rfl) (by simp) ?_
            refine AllReadyH.cons rfl (fun K hK => ?_) AllReadyH.nil
            go_simp
            refine (of33 d.x _).mono ?_
            rintro e u1 ⟨rfl, hb⟩
            replace B := hide (below_more B.out hb B.out.size)
            replace HM := hide (HM.out.on hb)
            refine hK.out _ _ ⟨hHeld.1.on hb, _, HM.out⟩ (fun hHeld => ?_)
            clear hK K hb
            change wpAnyH _ _ _ _ _ _ _ ⟨#[_,_,_,_,_,.map (some b),_,_,_,.pointer (some ⟨kx, 0, none⟩),_,_,_,_,_,_,_,_,_,_,_,_,_,_,.int .i64 k,_,_,_,_,_,_,_,_,_,.map (some b),.pointer (some ⟨kx, 1, none⟩),.agg (EC d.x),.agg (KC d.x.v d.x.m),.pointer (some ⟨kx, 1, none⟩),.agg (EC d.x),_,_,_], []⟩ _
            refine wpAnyH_ready (rs := [6]) (by kernel_rfl) (by simp) ?_
            refine AllReadyH.cons rfl (fun K hK => ?_) AllReadyH.nil
            obtain ⟨u2, hrun, M2, g2⟩ := HM.out.put HO.out HA.out (hEx.out)
            unfold KV at hrun
            have X2 := hHeld.1.kept (show kx ≠ b by have := HKB.out; omega) g2
            replace B := hide (below_grown B.out g2 (by have := HKB.out; omega) B.out.size)
            go_simp
            refine hK.out _ _ ⟨X2, _, M2⟩ (fun hHeld => ?_)
            clear hK K hrun HM
            have HM := hide M2
            clear M2 g2 X2
            change wpAnyH _ _ _ _ _ _ _ ⟨#[_,_,_,_,_,.map (some b),_,_,_,.pointer (some ⟨kx, 0, none⟩),_,_,_,_,_,_,_,_,_,_,_,_,_,_,.int .i64 k,_,_,_,_,_,_,_,_,_,.map (some b),.pointer (some ⟨kx, 1, none⟩),.agg (EC d.x),.agg (KC d.x.v d.x.m),.pointer (some ⟨kx, 1, none⟩),.agg (EC d.x),_,_,_], []⟩ _
            refine wpAnyH_done (by kernel_rfl) ?_ _
            have HA2 := hide (pt_apt HA.out HO.out hEx.out.m)
            have HO2' := hide (pt_ok HO.out hEx.out)
            have HLE2 : Hid ((pt ml d.x).length ≤ n + (k + 1)) := hide (by have := pt_le ml d.x; have := HLE.out; omega)
            clear HA HO HLE
            go_wp2
            go_roundw
            case rel => exact ⟨k + 1, _, by omega, by go_num, HM.out, HA2.out, HO2'.out, HE2.out, HLE2.out, B.out⟩
            case measure => simp [intOf]; omega
        · have hk2 : ¬ (k : Int) < (n2 : Int) := by omega
          have hall : cs.take k = cs := List.take_of_length_le (by rw [hcn'.out]; omega)
          rw [hall] at HE
          clear hall
          go_wp2_with fail
          refine (inOrder34 b ml (rep l cs) _ HM.out HA.out HO.out (rep_srt l cs) HE.out (by have := HLE.out; omega)).mono ?_
          rintro e w4 ⟨ao4, c4, rfl, he4, hb4⟩
          have F := hide (he4.mono B.out.size)
          replace B := hide (below_more B.out hb4 B.out.size)
          clear he4 hb4
          go_wp2
          go_ret
          exact ⟨ao4, c4, rfl, F.out, B.out⟩
end Go.Proofs.Ytjlmheecefobaaa
