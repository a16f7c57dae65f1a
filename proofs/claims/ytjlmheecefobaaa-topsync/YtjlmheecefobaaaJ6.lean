/- Contract of Since of the program's journal: the changes. -/
import Derived.Test.YtjlmheecefobaaaJ5
namespace Go.Proofs.Ytjlmheecefobaaa
open Go.RowKit Go.Shelf
attribute [local go_sem] Oper.semAt_some

set_option maxRecDepth 100000 in
set_option maxHeartbeats 4000000 in
theorem since16 (h n : Nat) (pl cs : List Ch) (q : Nat) (w : World) (H : PJ w h n pl cs) (hL : cs.length ≤ 50000) (hq : q ≤ cs.length) (hn : cs.length ≤ q + n) :
    Calls Try.prog 16 #[.pointer (some ⟨h + 1, 0, none⟩), .int .i64 q] w fun e w' => ∃ ao c, e = .returned (.tuple #[.slice ao (cs.length - q) c, .bool true]) ∧ Cts w' w.heap.size ao (cs.length - q) c (cs.drop q) ∧ Below w.heap.size w w' := by
  obtain ⟨i0, hi, hz0, hz1, hz2⟩ := info_parts Try.info54
  have n2 := H.wf.n2
  have c0 := H.bx.cell 0 _ rfl
  have c1 := H.bx.cell 1 _ rfl
  have HP := hide H
  have hlt := H.lt
  clear H
  obtain ⟨z, hz⟩ : ∃ z : Int, z = (q : Int) := ⟨_, rfl⟩
  have HZ := hide hz
  rw [← hz]
  have d1 : decide (z < 0) = false := by simp; omega
  have d2 : decide ((cs.length : Int) < z) = false := by simp; omega
  have d3 : decide ((n : Int) < (cs.length : Int) - z) = false := by simp; omega
  have e1 : IntKind.i64.wrap ((cs.length : Int) - z) = (cs.length : Int) - z := IntWalk.i64_in _ (by omega)
  clear hz
  refine (callsIn_wide (n := 6)).1 ?_
  refine callsIn_of_wp_marks Try.func16 rfl trivial ?_ rfl
  simp only [Try.ntmps16, List.size_toArray, List.length_cons, List.length_nil, Nat.reduceAdd, Nat.reduceSub, Array.replicate_succ, Array.replicate_zero, List.push_toArray, List.append_toArray, List.nil_append, List.cons_append]
  gi_wp2_with fail
  gi_quiet (fail)
  gi_wp2_with (refine ⟨trivial, ?_⟩; gi_at_call 32; refine (behind32_in _ _ trivial rfl _ _ _).mono ?_; rintro e w' ⟨rfl, rfl⟩)
  have bq : Below w.heap.size w (w.drewN nq) := ⟨rfl, rfl, rfl, Nat.le_refl _, fun _ _ => rfl⟩
  have HPQ := hide (HP.out.on bq)
  obtain ⟨b, hb⟩ : ∃ b, b = w.heap.size := ⟨_, rfl⟩
  have hbq : (w.drewN nq).heap.size = b := hb.symm
  rw [← hb] at hlt bq ⊢
  have HB := hide hb
  clear hb HP
  generalize hwq : w.drewN nq = wq at *
  clear hwq
  have bO : Boxed (((wq.alloc (.cells #[.slice none 0 0] 40)).alloc (.cells #[.pointer (some ⟨h + 1, 0, none⟩)] 24)).alloc (.cells #[.int .i64 z] 3)) b 40 (.slice none 0 0) := by
    rw [← hbq]; exact ((Boxed.new wq 40 _).alloc _).alloc _
  have bJ : Box (((wq.alloc (.cells #[.slice none 0 0] 40)).alloc (.cells #[.pointer (some ⟨h + 1, 0, none⟩)] 24)).alloc (.cells #[.int .i64 z] 3)) (b + 1) [.pointer (some ⟨h + 1, 0, none⟩)] := by
    have := Box.new (wq.alloc (.cells #[.slice none 0 0] 40)) [.pointer (some ⟨h + 1, 0, none⟩)] 24
    rw [World.size_alloc, hbq] at this
    exact this.alloc _
  have bS : Box (((wq.alloc (.cells #[.slice none 0 0] 40)).alloc (.cells #[.pointer (some ⟨h + 1, 0, none⟩)] 24)).alloc (.cells #[.int .i64 z] 3)) (b + 2) [.int .i64 z] := by
    have := Box.new ((wq.alloc (.cells #[.slice none 0 0] 40)).alloc (.cells #[.pointer (some ⟨h + 1, 0, none⟩)] 24)) [.int .i64 z] 3
    rw [World.size_alloc, World.size_alloc, hbq] at this
    exact this
  have bA : Below b wq (((wq.alloc (.cells #[.slice none 0 0] 40)).alloc (.cells #[.pointer (some ⟨h + 1, 0, none⟩)] 24)).alloc (.cells #[.int .i64 z] 3)) := by
    rw [← hbq]; exact (((Below.refl _ wq).alloc (Nat.le_refl _) _).alloc (by simp) _).alloc (by simp; omega) _
  have sA : (((wq.alloc (.cells #[.slice none 0 0] 40)).alloc (.cells #[.pointer (some ⟨h + 1, 0, none⟩)] 24)).alloc (.cells #[.int .i64 z] 3)).heap.size = b + 3 := by simp [hbq]
  have HPA := hide (HPQ.out.below bA hlt)
  have B0 := bq.trans bA
  generalize ((wq.alloc (.cells #[.slice none 0 0] 40)).alloc (.cells #[.pointer (some ⟨h + 1, 0, none⟩)] 24)).alloc (.cells #[.int .i64 z] 3) = W3 at *
  clear bA bq hbq HPQ d1 d2 d3 e1 c0 c1
  have sq9 : SeqStopsK Fence.wide (6 - 1) Try.prog 48 #[.pointer (some ⟨b + 1 + 1, 0, none⟩), .pointer (some ⟨b + 1, 0, none⟩)] (fun x : Ch => #[Value.agg (CC x)]) (Kp3 b) (fun xs => xs = cs.drop q) (fun _ => True) (cs.length - q) W3 := fun l J Jx W hW hJ _ hY h0 =>
    each48_in (6 - 1) (by omega) l (b + 1 + 1) (b + 1) h n q pl cs J Jx hq hn (by omega) (Kp3 b) (fun A B hk k hc => hk.2 k (by omega) (by omega)) hY W hJ (by have := bS.on hW; rw [HZ.out] at this; exact this) (bJ.on hW) (HPA.out.on hW) h0
  refine wpIn_rangeFunc_ownH (α := Ch) rfl (by omega) (gf := 48) (lb := #[.pointer (some ⟨b + 1 + 1, 0, none⟩), .pointer (some ⟨b + 1, 0, none⟩)]) rfl trivial (enters_of Try.func48 (by kernel_rfl) rfl)
    sq9 (fun {A B C} h1 h2 => ⟨Nat.le_trans h1.1 h2.1, fun k hk hne => (h2.2 k hk hne).trans (h1.2 k hk hne)⟩) (fun W l o o' hl _ _ _ => ⟨by simp, fun k hk _ => World.putObj_heap_other (by omega)⟩) (Below.refl _ _) (fun _ => rfl)
    (ISn w) (fun _ _ _ => False) (isn_own w _ (by rw [sA, ← HB.out]; omega)) (fun _ _ _ _ _ hs _ _ => hs)
    ⟨⟨_, by rw [← HB.out]; exact bO, World.ownsRow_nil _ _ _ _, trivial⟩, by rw [← HB.out]; exact B0, by rw [← HB.out, sA]; exact Nat.le_refl _⟩
    (AxC b (fun kx x => #[.pointer (some ⟨h + 1, 0, none⟩), .int .i64 z, undef, undef, .slice none 0 0, .bool false, .pointer (some ⟨b, 0, none⟩), .pointer (some ⟨kx, 0, none⟩), .int .i64 z, .bool false, .bool false, .int .i64 z, .pointer (some ⟨h + 1, 0, none⟩), .pointer (some ⟨h + 1, 0, none⟩), .pointer (some ⟨h + 1, 1, none⟩), .int .i64 cs.length, .bool false, .bool false, .bool false, .pointer (some ⟨h + 1, 0, none⟩), .pointer (some ⟨h + 1, 0, none⟩), .pointer (some ⟨h + 1, 1, none⟩), .int .i64 cs.length, .int .i64 z, .int .i64 ((cs.length : Int) - z), .pointer (some ⟨h + 1, 0, none⟩), .pointer (some ⟨h + 1, 0, none⟩), .pointer (some ⟨h + 1, 0, none⟩), .slice (some ⟨h, 0, none⟩) n n, .int .i64 n, .bool false, .bool false, .pointer (some ⟨h + 1, 0, none⟩), .int .i64 z, .func (.func 48) #[] #[.pointer (some ⟨b + 1 + 1, 0, none⟩), .pointer (some ⟨b + 1, 0, none⟩)], .agg (CC x), undef, undef, undef, undef, undef])) (fun x a' => axC_own b _ _ x a') ?cA ?cB ?cD ?cS
  case cA =>
    intro l pre x W K hI hK
    have hs := hI.2.2
    have HI := hide hI
    have HKK := hide hK
    rw [← HB.out] at hs
    have HS := hide hs
    have bC := box_c W zC
    have tk1 : True := trivial
    clear hI hK hs
    gi_wp2_with (first | (have _t := tk1; refine wplin_putC rfl (.tmp 7) (.tmp 35) rfl x zC bC rfl rfl ?_; clear tk1))
    intro W' X' G'
    have bW : Below W.heap.size W W' := below_grown (below_alloc W (.cells (CC zC) 54)) G' (Nat.le_refl _) (by simp)
    gi_wp2
    exact HKK.out _ W' (keepsFrom_of bW) (kp3_of bW HS.out) (isn_on HI.out bW) ⟨_, rfl, X', HS.out⟩
  case cB =>
    rintro l pre x a' W _ _ ⟨⟨v, hv, hrow, -⟩, hB, hS⟩ ⟨kx, rfl, hX, hkx⟩ hpl
    rw [← HB.out] at hv hrow hB hS
    have hc := hv.cell
    obtain ⟨ao0, cc0, hlv⟩ := own_form hrow
    have hX0 := hX.at_
    have HS := hide hS
    have HBB := hide hB
    have HV := hide hv
    have HR := hide hrow
    have hpl2 : pre.length ≤ 50000 := by omega
    have hnew : ∀ (j : Nat) (u : Value), (ccl x)[j]? = some u → (W.alloc (.cells (CC x) 54)).cell? ((⟨W.heap.size, 0, none⟩ : Addr).add j) = some u := fun j u hj => by
      rw [Addr.add_lit, Nat.zero_add, World.cell?_alloc_at _ _ _ _ rfl]
      show (ccl x).toArray[j]? = some u
      rw [List.getElem?_toArray]; exact hj
    have HN := hide hnew
    have HI := hide (And.intro hi (And.intro hz0 (And.intro hz1 hz2)))
    clear hv hB hS hkx hpl hX hnew hi hz0 hz1 hz2 hrow
    subst hlv
    have tk1 : True := trivial
    have tk2 : True := trivial
    gi_wp2_with (first | (have _t := tk1; refine wplin_chg rfl (.tmp 7) rfl hX0 rfl ?_; clear tk1) | (have _t := tk2; refine wplin_bs rfl (.tmp 37) x rfl rfl ?_; clear tk2) | (gi_at_builtin; refine wpListIn_append_own _ rfl _ _ 40 rfl (b + 3) 54 i0 (.agg (CC zC)) 12 56 Try.underlying40 HI.out.1 HI.out.2.1 HI.out.2.2.1 HI.out.2.2.2 rfl (by decide) _ _ _ rfl (HR.out.alloc _) ⟨W.heap.size, 0, none⟩ 1 1 (ccl x) rfl rfl HN.out (one_ccl x) (by unfold maxLen; omega) (by omega) (by have := HS.out; simp; omega) ?_; intro v' w1 hown' hgrow _; obtain ⟨g', cap', rfl⟩ := ownsRow_succ hown'; have hap := HV.out.appended (n₀ := b) (by decide) (row_mono54 (by omega) HR.out) (by have := HS.out; omega) (Nat.le_refl _) (row_mono54 (by omega) hown') hgrow; have HAP := hide hap; have HOW := hide hown'; have HGR := hide hgrow; have hc1 := hap.1.cell; have hf1 := hap.1.frozen; clear hap hown' hgrow hc))
    obtain ⟨hv1, hv2, -, hk2, hb2⟩ := HAP.out
    refine ⟨hk2.from _, ⟨hk2.size, fun k hk hne => ?_⟩, ⟨⟨_, by rw [← HB.out]; exact hv2, ?_, trivial⟩, by rw [← HB.out]; exact HBB.out.trans hb2, ?_⟩⟩
    · have hkW : k < W.heap.size := by have := HS.out; omega
      have e1 := (below_alloc W (.cells (CC x) 54)).block k hkW
      have e2 := HGR.out.block k (by simp; omega) (fun e => by
        have := (HR.out.lt k e.symm).1
        omega)
      have e3 := Below.heap_setCell w1 ⟨b, 0, none⟩ (.slice (some ⟨g', 0, none⟩) (pre.length + 1) cap') k (fun e => hne e)
      exact e3.trans (e2.trans e1)
    · rw [← HB.out]
      have h9 := HOW.out.kept (grownBy_setCell' w1 b (.slice (some ⟨g', 0, none⟩) (pre.length + 1) cap')) (.inr (hv1.not_row (by decide) HOW.out).symm)
      rw [List.length_append, chs_append]
      simpa [chs] using h9
    · rw [← HB.out]
      exact Nat.le_trans HS.out hk2.size
  case cD =>
    rintro D xs W hD rfl ⟨⟨v, hv, hrow, -⟩, hB, hS⟩ hK
    rw [← HB.out] at hv hrow hB hS
    have hc := hv.cell
    have HR := hide hrow
    have HBB := hide hB
    have HK := hide hK
    obtain ⟨ao0, cc0, hlv⟩ := own_form hrow
    subst hlv
    clear hrow hB hK hv
    gi_wp2
    refine ⟨by simp, .inl ⟨_, _, rfl, run_takeDeferred HK.out, ?_⟩⟩
    have hr3 := ownsRow_putObj HR.out (.deferred none) HK.out rfl
    have hl : (cs.drop q).length = cs.length - q := List.length_drop
    rw [hl] at hr3
    obtain ⟨ao, c, e, hE⟩ := row_cts (by rw [hl]; exact hr3)
    injection e with e1 e2 e3
    subst e1 e3
    refine ⟨_, results_tmp2 rfl _ _ _, ao0, cc0, ?_, ?_, ?_⟩
    · simp
    · rw [hl] at hE
      exact hE.mono (by have := HB.out; omega)
    · rw [← HB.out]
      refine Below.trans HBB.out ?_
      have hDb : b ≤ D := by omega
      refine ⟨rfl, rfl, rfl, by simp, fun k hk => World.putObj_heap_other (by omega)⟩
  case cS =>
    rintro D c pre W _ _ h _
    exact h.elim
end Go.Proofs.Ytjlmheecefobaaa
