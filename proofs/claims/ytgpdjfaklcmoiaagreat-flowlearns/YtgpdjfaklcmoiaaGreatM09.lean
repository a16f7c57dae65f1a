/- Contracts of All; of forget and its closure. · Contracts of Age, FlushPort, FlushVlan. · Contracts of the document's forget, Age, FlushPort, FlushVlan, Same. · Contracts of the document's forget. · Contracts of the document's Age, FlushPort, FlushVlan, Same. -/
import Derived.Test.YtgpdjfaklcmoiaaGreatM06
import Derived.Test.YtgpdjfaklcmoiaaGreatM04
import Derived.Test.YtgpdjfaklcmoiaaGreatM03
import Derived.Maps.AppendAt
/- Contracts of All; of forget and its closure. -/
namespace Go.Proofs.YtgpdjfaklcmoiaaGreat
open Go.RowKit Go.PlainAid

/-- Cells that are as they are told. -/
def CS (l : List (Nat × Value)) (w : World) : Prop := ∀ q v, (q, v) ∈ l → w.cell? ⟨q, 0, none⟩ = some v
theorem CS.on {l : List (Nat × Value)} {w w' : World} (h : CS l w) (hb : Below w.heap.size w w') : CS l w' := fun q v hq =>
  (hb.cell (p := ⟨q, 0, none⟩) (World.block_lt_of_cell? w _ (h q v hq))).trans (h q v hq)
theorem CS.grow {l : List (Nat × Value)} {w w1 w2 : World} {v : Value} {n : Nat} {xs : List Value} (h1 : CS l w1) (ho : w1.ownsRow w.heap.size 61 10 v n xs) (hg : w1.grownBy w2 v.ownBlock) (h0 : CS l w) : CS l w2 := fun q u hq =>
  hg.cell (h1 q u hq) (fun e => by
    have hlt := World.block_lt_of_cell? w _ (h0 q u hq)
    have := (ho.lt q e.symm).1
    have hlt' : q < w.heap.size := hlt
    omega)
theorem wh_of {l : List (Nat × Value)} {fn : Nat} {cb : Array Value} {f : En → Bool} (h : ∀ (x : En) (w : World), CS l w → Calls Tryz.prog fn (#[.agg (EC x)] ++ cb) w fun e w' => e = .returned (.bool (f x)) ∧ Below w.heap.size w w') : Wh (CS l) fn cb f :=
  ⟨h, fun _ _ h1 hb => h1.on hb, fun _ _ _ _ _ _ h1 ho hg h0 _ => h1.grow ho hg h0⟩
set_option maxRecDepth 100000 in
set_option maxHeartbeats 400000 in
theorem all30 (x : En) (w : World) : Calls Tryz.prog 62 #[.agg (EC x)] w fun e w' => e = .returned (.bool true) ∧ Below w.heap.size w w' := by
  have W0 := hide (below_alloc w (.cells (EC x) 61))
  go_enter Tryz.func62, Tryz.ntmps62
  go_wp2
  go_ret
  exact ⟨rfl, W0.out⟩
theorem filter_true (l : List En) : l.filter (fun _ => true) = l := by simp
set_option maxRecDepth 100000 in
set_option maxHeartbeats 1000000 in
theorem all14 (h : Nat) (ps : List En) (T : FT) (w : World) (H : PF w h ps T) :
    Calls Tryz.prog 28 #[.pointer (some ⟨h + 1, 0, none⟩)] w fun e w' => ∃ ao c, e = .returned (.slice ao T.l.length c) ∧ Ets w' w.heap.size ao T.l.length c T.l ∧ Below w.heap.size w w' := by
  have q := those29a h ps T 62 (S := CS []) (fun _ => true) w H (wh_of (fun x w _ => all30 x w)) (fun q v hq => by cases hq) (enters_of Tryz.func62 (by kernel_rfl) rfl)
  rw [filter_true] at q
  have HQ := hide q
  clear q H
  go_enter Tryz.func28, Tryz.ntmps28
  go_wp2_with fail
  refine HQ.out.mono ?_
  rintro e w1 ⟨ao, c, rfl, E, hb⟩
  have HE := hide E
  have HB := hide hb
  clear E hb
  go_wp2
  go_ret
  exact ⟨ao, c, rfl, HE.out, HB.out⟩
section
attribute [local go_sem] EC9
set_option maxRecDepth 100000 in
set_option maxHeartbeats 1000000 in
theorem clo54a {l : List (Nat × Value)} (fn p : Nat) (a : Value) (f : En → Bool) (he : ∀ (args : Array Value) (w : World), (callFunc fn args).run Tryz.prog w = .ok (.enter fn args) w) (hw : Wh (CS l) fn #[a] f) (x : En) (w : World) (hS : CS ((p, .func (.func fn) #[] #[a]) :: l) w) :
    Calls Tryz.prog 96 #[.agg (EC x), .pointer (some ⟨p, 0, none⟩)] w fun e w' => e = .returned (.bool (!x.s && f x)) ∧ Below w.heap.size w w' := by
  have S1 := hS.on (below_alloc w (.cells (EC x) 61))
  have c0 := S1 p _ (List.Mem.head _)
  have S2 : Hid (CS l (w.alloc (.cells (EC x) 61))) := hide (fun q v hq => S1 q v (by simp [hq]))
  have A0 := (box_e w x).at_
  have W0 := hide (below_alloc w (.cells (EC x) 61))
  have HW := hide hw
  clear hS S1 hw
  have tk1 : True := trivial
  rcases Bool.eq_false_or_eq_true x.s with fhs | fhs
  · rw [fhs]
    go_enter Tryz.func96, Tryz.ntmps96
    go_wp2
    go_ret
    exact ⟨rfl, W0.out⟩
  · rw [fhs]
    go_enter Tryz.func96, Tryz.ntmps96
    go_wp2_with (first | (have _t := tk1; refine wpl_ent (.tmp 2) rfl A0 ?_ ?_ ?_; rfl; rfl; clear tk1))
    refine (HW.out.run x _ S2.out).mono ?_
    rintro e w1 ⟨rfl, hb⟩
    have B1 := hide (belowOn W0.out hb)
    clear hb A0
    go_wp2
    go_ret
    exact ⟨rfl, B1.out⟩
end
section
attribute [local go_sem] EC9
set_option maxRecDepth 100000 in
set_option maxHeartbeats 1000000 in
theorem clo54b {l : List (Nat × Value)} (fn p : Nat) (a b : Value) (f : En → Bool) (he : ∀ (args : Array Value) (w : World), (callFunc fn args).run Tryz.prog w = .ok (.enter fn args) w) (hw : Wh (CS l) fn #[a, b] f) (x : En) (w : World) (hS : CS ((p, .func (.func fn) #[] #[a, b]) :: l) w) :
    Calls Tryz.prog 96 #[.agg (EC x), .pointer (some ⟨p, 0, none⟩)] w fun e w' => e = .returned (.bool (!x.s && f x)) ∧ Below w.heap.size w w' := by
  have S1 := hS.on (below_alloc w (.cells (EC x) 61))
  have c0 := S1 p _ (List.Mem.head _)
  have S2 : Hid (CS l (w.alloc (.cells (EC x) 61))) := hide (fun q v hq => S1 q v (by simp [hq]))
  have A0 := (box_e w x).at_
  have W0 := hide (below_alloc w (.cells (EC x) 61))
  have HW := hide hw
  clear hS S1 hw
  have tk1 : True := trivial
  rcases Bool.eq_false_or_eq_true x.s with fhs | fhs
  · rw [fhs]
    go_enter Tryz.func96, Tryz.ntmps96
    go_wp2
    go_ret
    exact ⟨rfl, W0.out⟩
  · rw [fhs]
    go_enter Tryz.func96, Tryz.ntmps96
    go_wp2_with (first | (have _t := tk1; refine wpl_ent (.tmp 2) rfl A0 ?_ ?_ ?_; rfl; rfl; clear tk1))
    refine (HW.out.run x _ S2.out).mono ?_
    rintro e w1 ⟨rfl, hb⟩
    have B1 := hide (belowOn W0.out hb)
    clear hb A0
    go_wp2
    go_ret
    exact ⟨rfl, B1.out⟩
end
/-- What is asked for, and is not Static. -/
def gof (f : En → Bool) (x : En) : Bool := !x.s && f x
theorem mok_filter {T : FT} (H : FW T) (f : En → Bool) : ∀ x ∈ T.l.filter f, Mok x.m := fun x hx => (H.gd x (List.mem_filter.1 hx).1).ok
theorem gone_step {T : FT} (H : FW T) {f : En → Bool} {gone l' : List En} (hg : T.l.filter f = gone) {k : Nat} {x : En} (hx : gone[k]? = some x) (hm : ∀ z, z ∈ l' ↔ z ∈ T.l ∧ z ∉ gone.take k) : ∀ z, z ∈ frm l' x.v x.m ↔ z ∈ T.l ∧ z ∉ gone.take (k + 1) := fun z => by
  have hxm : x ∈ T.l := (List.mem_filter.1 (by rw [hg]; exact List.mem_of_getElem? hx)).1
  rw [rm_mem, hm z, List.take_add_one, hx, List.mem_append]
  simp only [Option.toList_some, List.mem_singleton]
  constructor
  · rintro ⟨⟨a, b⟩, c⟩
    refine ⟨a, fun e => ?_⟩
    rcases e with e | e
    · exact b e
    · rw [e, (ky_iff x x.v x.m).2 ⟨rfl, rfl⟩] at c; cases c
  · rintro ⟨a, b⟩
    refine ⟨⟨a, fun e => b (Or.inl e)⟩, ?_⟩
    rw [Bool.eq_false_iff]
    intro c
    have e := (ky_iff _ _ _).1 c
    exact b (Or.inr (H.srt.one a hxm (by simp [ke, e.1, e.2])))
theorem gone_end {T : FT} {l' : List En} (H : FW T) {n : Nat} (H' : FW ⟨n, l'⟩) {f : En → Bool} {gone : List En} (hg : T.l.filter f = gone) (hm : ∀ z, z ∈ l' ↔ z ∈ T.l ∧ z ∉ gone) : l' = T.l.filter (fun x => !f x) := by
  refine Srt.ext H'.srt (H.srt.filter _) (fun x => ?_)
  rw [hm x, ← hg]
  simp only [List.mem_filter]
  constructor
  · rintro ⟨a, b⟩
    refine ⟨a, ?_⟩
    cases hfx : f x
    · rfl
    · exact absurd ⟨a, hfx⟩ b
  · rintro ⟨a, b⟩
    exact ⟨a, fun c => by rw [c.2] at b; cases b⟩
set_option maxRecDepth 100000 in
set_option maxHeartbeats 4000000 in
theorem forget34a {l : List (Nat × Value)} (h : Nat) (ps : List En) (T : FT) (fn : Nat) (a : Value) (f : En → Bool) (w : World) (H : PF w h ps T) (he : ∀ (args : Array Value) (w : World), (callFunc fn args).run Tryz.prog w = .ok (.enter fn args) w) (hw : Wh (CS l) fn #[a] f) (hS : CS l w) :
    Calls Tryz.prog 70 #[.pointer (some ⟨h + 1, 0, none⟩), .func (.func fn) #[] #[a]] w fun e w' => ∃ ao c, e = .returned (.slice ao (T.l.filter (gof f)).length c) ∧ Ets w' w.heap.size ao (T.l.filter (gof f)).length c (T.l.filter (gof f)) ∧ (∃ ps', PF w' h ps' ⟨T.n, T.l.filter (fun x => !gof f x)⟩) ∧ Mid h (h + 2) w w' := by
  have S1 := hS.on (below_alloc w (.cells #[.func (.func fn) #[] #[a]] 106))
  have c0 : (w.alloc (.cells #[.func (.func fn) #[] #[a]] 106)).cell? ⟨w.heap.size, 0, none⟩ = some (.func (.func fn) #[] #[a]) := by rw [World.cell?_alloc_at _ _ _ _ rfl]; rfl
  have S2 : CS ((w.heap.size, .func (.func fn) #[] #[a]) :: l) (w.alloc (.cells #[.func (.func fn) #[] #[a]] 106)) := fun q v hq => by
    rcases List.mem_cons.1 hq with e | hq
    · injection e with e1 e2
      subst e1 e2
      exact c0
    · exact S1 q v hq
  have W0 := hide (below_alloc w (.cells #[.func (.func fn) #[] #[a]] 106))
  have hw2 : Wh (CS ((w.heap.size, .func (.func fn) #[] #[a]) :: l)) 96 #[.pointer (some ⟨w.heap.size, 0, none⟩)] (gof f) := wh_of (fun x w' hS' => clo54a fn w.heap.size a f he hw x w' hS')
  have q := those29b h ps T 96 (.pointer (some ⟨w.heap.size, 0, none⟩)) (gof f) _ (H.on W0.out) hw2 S2 (enters_of Tryz.func96 (by kernel_rfl) rfl)
  have HQ := hide q
  have HH := hide H
  have hlt := H.lt
  have hml := hide (mok_filter H.wf (gof f))
  clear H S1 S2 hS c0 hw hw2 q
  go_enter Tryz.func70, Tryz.ntmps70
  go_wp2_with fail
  refine HQ.out.mono ?_
  rintro e w1 ⟨ao, c, rfl, E, hb⟩
  have HP1 := hide ((HH.out.on W0.out).on hb)
  have HB1 := hide (belowOn W0.out hb)
  have HE := hide (E.mono (show w.heap.size ≤ _ by simp))
  have hel := E.le
  have hem := E.mx
  have hgl : (T.l.filter (gof f)).length ≤ 1024 := Nat.le_trans (List.length_filter_le _ _) (Nat.le_trans HH.out.wf.le HH.out.wf.n2)
  unfold maxLen at hem
  clear hb E HQ
  generalize hgo : T.l.filter (gof f) = gone at *
  have HGO := hide hgo
  clear hgo
  go_wp2
  go_loopw [7, 13] (fun _ i wr => ∃ (k : Nat) (ps' l' : List En), k ≤ gone.length ∧ i = .int .i64 k ∧ PF wr h ps' ⟨T.n, l'⟩ ∧ (∀ x, x ∈ l' ↔ x ∈ T.l ∧ x ∉ gone.take k) ∧ Mid h (h + 2) w1 wr) (fun _ i _ => gone.length - (intOf i).toNat)
  case atStart => exact ⟨0, ps, T.l, Nat.zero_le _, rfl, HP1.out, fun x => by simp, Mid.refl _ _ _⟩
  case round =>
    obtain ⟨k, ps', l', hk, rfl, P2, hmem, M2⟩ := hrel
    have E2 := HE.out.mid M2 (by omega)
    by_cases hkl : k < gone.length
    · obtain ⟨x, hx⟩ : ∃ x, gone[k]? = some x := ⟨_, List.getElem?_eq_getElem hkl⟩
      obtain ⟨b, rfl, hb1, hb2, A1⟩ := E2.at hx
      have hk2 : (k : Int) < gone.length := by omega
      have e1 : IntKind.i64.wrap ((k : Int) + 1) = (k : Int) + 1 := IntWalk.i64_in _ (by omega)
      have HP2 := hide P2
      have HM2 := hide M2
      have HME := hide hmem
      have HX := hide hx
      have hxo : Hid (Mok x.m) := hide (hml.out x (List.mem_of_getElem? hx))
      clear P2 M2 E2 hmem hx
      have tk1 : True := trivial
      have tk2 : True := trivial
      have tk3 : True := trivial
      go_wp2_with (first | (have _t := tk1; refine wpl_ent (.tmp 15) rfl A1 ?_ ?_ ?_; rfl; rfl; clear tk1) | (have _t := tk2; refine wpl_putE x zE (.tmp 7) (.tmp 16) rfl (box_e _ zE) ?_ rfl rfl ?_; rfl; clear tk2))
      intro w2 X2 G2
      have B2 := up2 (Below.refl wr.heap.size wr) G2 (Nat.le_refl _)
      have HP3 := hide (HP2.out.on B2)
      have HM3 := hide (HM2.out.on B2)
      have c2 := X2.cell 0 _ rfl
      have m2 := mac_of X2
      clear G2 X2 B2 A1 HP2 HM2
      go_wp2_with (first | (have _t := tk3; refine wpl_mac (.tmp 20) rfl m2 ?_ ?_ ?_; rfl; rfl; clear tk3))
      refine (remove41 h ps' ⟨T.n, l'⟩ x.v x.m _ hxo.out HP3.out).mono ?_
      rintro e w3 ⟨rfl, ⟨ps3, P4⟩, M4⟩
      have HP4 := hide P4
      have HM4 := hide (Mid.trans HM3.out M4)
      have HN : Hid (∀ z, z ∈ frm l' x.v x.m ↔ z ∈ T.l ∧ z ∉ gone.take (k + 1)) := hide (gone_step HH.out.wf HGO.out HX.out HME.out)
      clear P4 M4 c2 m2 HP3 HM3
      go_wp2
      go_roundw
      case rel => exact ⟨k + 1, ps3, _, by omega, by go_num, HP4.out, HN.out, HM4.out⟩
      case measure => simp [intOf]; omega
    · have hk2 : ¬ (k : Int) < gone.length := by omega
      have hl : l' = T.l.filter (fun x => !gof f x) := gone_end HH.out.wf P2.wf HGO.out (fun x => by rw [hmem x, List.take_of_length_le (by omega)])
      rw [hl] at P2
      have HP2 := hide P2
      have HM2 := hide (Mid.trans (Mid.on (Mid.refl h (h + 2) w) HB1.out) M2)
      have HE2 := hide E2
      clear P2 M2 E2 hmem hl
      go_wp2
      go_ret
      have hg := HGO.out
      subst hg
      exact ⟨ao, c, rfl, HE2.out, ⟨ps', HP2.out⟩, HM2.out⟩
set_option maxRecDepth 100000 in
set_option maxHeartbeats 4000000 in
theorem forget34b {l : List (Nat × Value)} (h : Nat) (ps : List En) (T : FT) (fn : Nat) (a b : Value) (f : En → Bool) (w : World) (H : PF w h ps T) (he : ∀ (args : Array Value) (w : World), (callFunc fn args).run Tryz.prog w = .ok (.enter fn args) w) (hw : Wh (CS l) fn #[a, b] f) (hS : CS l w) :
    Calls Tryz.prog 70 #[.pointer (some ⟨h + 1, 0, none⟩), .func (.func fn) #[] #[a, b]] w fun e w' => ∃ ao c, e = .returned (.slice ao (T.l.filter (gof f)).length c) ∧ Ets w' w.heap.size ao (T.l.filter (gof f)).length c (T.l.filter (gof f)) ∧ (∃ ps', PF w' h ps' ⟨T.n, T.l.filter (fun x => !gof f x)⟩) ∧ Mid h (h + 2) w w' := by
  have S1 := hS.on (below_alloc w (.cells #[.func (.func fn) #[] #[a, b]] 106))
  have c0 : (w.alloc (.cells #[.func (.func fn) #[] #[a, b]] 106)).cell? ⟨w.heap.size, 0, none⟩ = some (.func (.func fn) #[] #[a, b]) := by rw [World.cell?_alloc_at _ _ _ _ rfl]; rfl
  have S2 : CS ((w.heap.size, .func (.func fn) #[] #[a, b]) :: l) (w.alloc (.cells #[.func (.func fn) #[] #[a, b]] 106)) := fun q v hq => by
    rcases List.mem_cons.1 hq with e | hq
    · injection e with e1 e2
      subst e1 e2
      exact c0
    · exact S1 q v hq
  have W0 := hide (below_alloc w (.cells #[.func (.func fn) #[] #[a, b]] 106))
  have hw2 : Wh (CS ((w.heap.size, .func (.func fn) #[] #[a, b]) :: l)) 96 #[.pointer (some ⟨w.heap.size, 0, none⟩)] (gof f) := wh_of (fun x w' hS' => clo54b fn w.heap.size a b f he hw x w' hS')
  have q := those29b h ps T 96 (.pointer (some ⟨w.heap.size, 0, none⟩)) (gof f) _ (H.on W0.out) hw2 S2 (enters_of Tryz.func96 (by kernel_rfl) rfl)
  have HQ := hide q
  have HH := hide H
  have hlt := H.lt
  have hml := hide (mok_filter H.wf (gof f))
  clear H S1 S2 hS c0 hw hw2 q
  go_enter Tryz.func70, Tryz.ntmps70
  go_wp2_with fail
  refine HQ.out.mono ?_
  rintro e w1 ⟨ao, c, rfl, E, hb⟩
  have HP1 := hide ((HH.out.on W0.out).on hb)
  have HB1 := hide (belowOn W0.out hb)
  have HE := hide (E.mono (show w.heap.size ≤ _ by simp))
  have hel := E.le
  have hem := E.mx
  have hgl : (T.l.filter (gof f)).length ≤ 1024 := Nat.le_trans (List.length_filter_le _ _) (Nat.le_trans HH.out.wf.le HH.out.wf.n2)
  unfold maxLen at hem
  clear hb E HQ
  generalize hgo : T.l.filter (gof f) = gone at *
  have HGO := hide hgo
  clear hgo
  go_wp2
  go_loopw [7, 13] (fun _ i wr => ∃ (k : Nat) (ps' l' : List En), k ≤ gone.length ∧ i = .int .i64 k ∧ PF wr h ps' ⟨T.n, l'⟩ ∧ (∀ x, x ∈ l' ↔ x ∈ T.l ∧ x ∉ gone.take k) ∧ Mid h (h + 2) w1 wr) (fun _ i _ => gone.length - (intOf i).toNat)
  case atStart => exact ⟨0, ps, T.l, Nat.zero_le _, rfl, HP1.out, fun x => by simp, Mid.refl _ _ _⟩
  case round =>
    obtain ⟨k, ps', l', hk, rfl, P2, hmem, M2⟩ := hrel
    have E2 := HE.out.mid M2 (by omega)
    by_cases hkl : k < gone.length
    · obtain ⟨x, hx⟩ : ∃ x, gone[k]? = some x := ⟨_, List.getElem?_eq_getElem hkl⟩
      obtain ⟨b, rfl, hb1, hb2, A1⟩ := E2.at hx
      have hk2 : (k : Int) < gone.length := by omega
      have e1 : IntKind.i64.wrap ((k : Int) + 1) = (k : Int) + 1 := IntWalk.i64_in _ (by omega)
      have HP2 := hide P2
      have HM2 := hide M2
      have HME := hide hmem
      have HX := hide hx
      have hxo : Hid (Mok x.m) := hide (hml.out x (List.mem_of_getElem? hx))
      clear P2 M2 E2 hmem hx
      have tk1 : True := trivial
      have tk2 : True := trivial
      have tk3 : True := trivial
      go_wp2_with (first | (have _t := tk1; refine wpl_ent (.tmp 15) rfl A1 ?_ ?_ ?_; rfl; rfl; clear tk1) | (have _t := tk2; refine wpl_putE x zE (.tmp 7) (.tmp 16) rfl (box_e _ zE) ?_ rfl rfl ?_; rfl; clear tk2))
      intro w2 X2 G2
      have B2 := up2 (Below.refl wr.heap.size wr) G2 (Nat.le_refl _)
      have HP3 := hide (HP2.out.on B2)
      have HM3 := hide (HM2.out.on B2)
      have c2 := X2.cell 0 _ rfl
      have m2 := mac_of X2
      clear G2 X2 B2 A1 HP2 HM2
      go_wp2_with (first | (have _t := tk3; refine wpl_mac (.tmp 20) rfl m2 ?_ ?_ ?_; rfl; rfl; clear tk3))
      refine (remove41 h ps' ⟨T.n, l'⟩ x.v x.m _ hxo.out HP3.out).mono ?_
      rintro e w3 ⟨rfl, ⟨ps3, P4⟩, M4⟩
      have HP4 := hide P4
      have HM4 := hide (Mid.trans HM3.out M4)
      have HN : Hid (∀ z, z ∈ frm l' x.v x.m ↔ z ∈ T.l ∧ z ∉ gone.take (k + 1)) := hide (gone_step HH.out.wf HGO.out HX.out HME.out)
      clear P4 M4 c2 m2 HP3 HM3
      go_wp2
      go_roundw
      case rel => exact ⟨k + 1, ps3, _, by omega, by go_num, HP4.out, HN.out, HM4.out⟩
      case measure => simp [intOf]; omega
    · have hk2 : ¬ (k : Int) < gone.length := by omega
      have hl : l' = T.l.filter (fun x => !gof f x) := gone_end HH.out.wf P2.wf HGO.out (fun x => by rw [hmem x, List.take_of_length_le (by omega)])
      rw [hl] at P2
      have HP2 := hide P2
      have HM2 := hide (Mid.trans (Mid.on (Mid.refl h (h + 2) w) HB1.out) M2)
      have HE2 := hide E2
      clear P2 M2 E2 hmem hl
      go_wp2
      go_ret
      have hg := HGO.out
      subst hg
      exact ⟨ao, c, rfl, HE2.out, ⟨ps', HP2.out⟩, HM2.out⟩
end Go.Proofs.YtgpdjfaklcmoiaaGreat
/- Contracts of Age, FlushPort, FlushVlan. -/
namespace Go.Proofs.YtgpdjfaklcmoiaaGreat
open Go.RowKit Go.PlainAid

def gA (a b : Int) (x : En) : Bool := decide (x.t ≤ a - b)
def gA' (a b : Int) (x : En) : Bool := decide (b ≤ wrap64 (a - x.t))
def gP (p : Int) (x : En) : Bool := x.p == p
def gV (v : Int) (x : En) : Bool := x.v == v
/-- What is forgotten, and what is left. -/
def gG (T : FT) (f : En → Bool) : List En := T.l.filter (gof f)
def gT (T : FT) (f : En → Bool) : FT := ⟨T.n, T.l.filter (fun x => !gof f x)⟩
def aOk (a b : Int) : Bool := isT a && isT b
def aG (T : FT) (a b : Int) : List En := if aOk a b then gG T (gA a b) else []
def aT (T : FT) (a b : Int) : FT := if aOk a b then gT T (gA a b) else T
theorem gA_eq {T : FT} (H : FW T) {a b : Int} (h : aOk a b = true) : ∀ x ∈ T.l, gof (gA' a b) x = gof (gA a b) x := fun x hx => by
  rw [aOk, Bool.and_eq_true, isT_iff, isT_iff] at h
  have ht := isT_iff.1 (H.gd x hx).t
  unfold gof gA' gA
  congr 1
  rw [IntWalk.wrap64_in _ (by omega), decide_eq_decide]
  omega
theorem gG_age {T : FT} (H : FW T) {a b : Int} (h : aOk a b = true) : gG T (gA' a b) = gG T (gA a b) := List.filter_congr (gA_eq H h)
theorem gT_age {T : FT} (H : FW T) {a b : Int} (h : aOk a b = true) : gT T (gA' a b) = gT T (gA a b) := by
  unfold gT
  rw [List.filter_congr (fun x hx => by rw [gA_eq H h x hx])]
section
attribute [local go_sem] EC0 EC7 EC8
set_option maxRecDepth 100000 in
set_option maxHeartbeats 400000 in
theorem age35 (p q : Nat) (a b : Int) (x : En) (w : World) (hS : CS [(p, .int .i64 a), (q, .int .i64 b)] w) :
    Calls Tryz.prog 71 #[.agg (EC x), .pointer (some ⟨p, 0, none⟩), .pointer (some ⟨q, 0, none⟩)] w fun e w' => e = .returned (.bool (gA' a b x)) ∧ Below w.heap.size w w' := by
  have S1 := hS.on (below_alloc w (.cells (EC x) 61))
  have c0 := S1 p _ (List.Mem.head _)
  have c1 := S1 q _ (List.Mem.tail _ (List.Mem.head _))
  have W0 := hide (below_alloc w (.cells (EC x) 61))
  clear hS S1
  go_enter Tryz.func71, Tryz.ntmps71
  go_wp2
  go_ret
  exact ⟨ret_bool (by simp [gA']), W0.out⟩
end
theorem cs_one (w : World) (a : Int) : CS [(w.heap.size, .int .i64 a)] (w.alloc (.cells #[.int .i64 a] 3)) := fun q v hq => by
  simp at hq
  obtain ⟨rfl, rfl⟩ := hq
  rw [World.cell?_alloc_at _ _ _ _ rfl]; rfl
theorem cs_two (w : World) (a b : Int) : CS [(w.heap.size, .int .i64 a), (w.heap.size + 1, .int .i64 b)] ((w.alloc (.cells #[.int .i64 a] 3)).alloc (.cells #[.int .i64 b] 3)) := fun q v hq => by
  have h1 := (cs_one w a).on (below_alloc _ (.cells #[.int .i64 b] 3))
  have h2 := cs_one (w.alloc (.cells #[.int .i64 a] 3)) b
  simp at hq
  rcases hq with ⟨rfl, rfl⟩ | ⟨rfl, rfl⟩
  · exact h1 _ _ (List.Mem.head _)
  · have := h2 (w.heap.size + 1) (.int .i64 b) (by simp)
    exact this
theorem Ets.nothing (w : World) (B : Nat) : Ets w B none 0 0 [] := ⟨rfl, fun _ => rfl, fun a e => (by cases e), Nat.le_refl _, Nat.zero_le _⟩
set_option maxRecDepth 100000 in
set_option maxHeartbeats 1000000 in
theorem age19_no (h : Nat) (a b : Int) (w : World) (hr : aOk a b = false) :
    Calls Tryz.prog 46 #[.pointer (some ⟨h + 1, 0, none⟩), .int .i64 a, .int .i64 b] w fun e w' => e = .returned (.slice none 0 0) ∧ Below w.heap.size w w' := by
  have W0 : Hid (Below w.heap.size w ((w.alloc (.cells #[.int .i64 a] 3)).alloc (.cells #[.int .i64 b] 3))) := hide (by go_grown)
  have q1 := fun w => moment32 a w
  have q2 := fun w => moment32 b w
  rw [aOk] at hr
  rcases Bool.eq_false_or_eq_true (isT a) with ha | ha
  · rw [ha, Bool.true_and] at hr
    rw [ha] at q1
    rw [hr] at q2
    go_enter Tryz.func46, Tryz.ntmps46
    go_wp2_with fail
    refine (q1 _).mono ?_
    rintro e w1 ⟨rfl, rfl⟩
    go_wp2_with fail
    refine (q2 _).mono ?_
    rintro e w1 ⟨rfl, rfl⟩
    go_wp2
    go_ret
    exact ⟨rfl, W0.out⟩
  · rw [ha] at q1
    clear q2
    go_enter Tryz.func46, Tryz.ntmps46
    go_wp2_with fail
    refine (q1 _).mono ?_
    rintro e w1 ⟨rfl, rfl⟩
    go_wp2
    go_ret
    exact ⟨rfl, W0.out⟩
set_option maxRecDepth 100000 in
set_option maxHeartbeats 1000000 in
theorem age19_yes (h : Nat) (ps : List En) (T : FT) (a b : Int) (w : World) (H : PF w h ps T) (hr : aOk a b = true) :
    Calls Tryz.prog 46 #[.pointer (some ⟨h + 1, 0, none⟩), .int .i64 a, .int .i64 b] w fun e w' => ∃ ao c, e = .returned (.slice ao (gG T (gA a b)).length c) ∧ Ets w' w.heap.size ao (gG T (gA a b)).length c (gG T (gA a b)) ∧ (∃ ps', PF w' h ps' (gT T (gA a b))) ∧ Mid h (h + 2) w w' := by
  have W0 : Hid (Below w.heap.size w ((w.alloc (.cells #[.int .i64 a] 3)).alloc (.cells #[.int .i64 b] 3))) := hide (by go_grown)
  have q := forget34b h ps T 71 (.pointer (some ⟨w.heap.size, 0, none⟩)) (.pointer (some ⟨w.heap.size + 1, 0, none⟩)) (gA' a b) _ (H.on W0.out) (enters_of Tryz.func71 (by kernel_rfl) rfl) (wh_of (fun x w' hS => age35 w.heap.size (w.heap.size + 1) a b x w' hS)) (cs_two w a b)
  have eG := gG_age H.wf hr
  have eT := gT_age H.wf hr
  rw [show T.l.filter (gof (gA' a b)) = gG T (gA' a b) from rfl, show (⟨T.n, T.l.filter (fun x => !gof (gA' a b) x)⟩ : FT) = gT T (gA' a b) from rfl, eG, eT] at q
  have HQ := hide q
  have q1 := fun w => moment32 a w
  have q2 := fun w => moment32 b w
  rw [aOk, Bool.and_eq_true] at hr
  rw [hr.1] at q1
  rw [hr.2] at q2
  clear q H eG eT hr
  go_enter Tryz.func46, Tryz.ntmps46
  go_wp2_with fail
  refine (q1 _).mono ?_
  rintro e w1 ⟨rfl, rfl⟩
  go_wp2_with fail
  refine (q2 _).mono ?_
  rintro e w1 ⟨rfl, rfl⟩
  go_wp2_with fail
  refine HQ.out.mono ?_
  rintro e w1 ⟨ao, c, rfl, E, F, M⟩
  have HE := hide (E.mono (show w.heap.size ≤ _ by simp; omega))
  have HF := hide F
  have HM := hide (Mid.trans (Mid.on (Mid.refl h (h + 2) w) W0.out) M)
  clear E F M HQ
  go_wp2
  go_ret
  exact ⟨ao, c, rfl, HE.out, HF.out, HM.out⟩
theorem age19 (h : Nat) (ps : List En) (T : FT) (a b : Int) (w : World) (H : PF w h ps T) :
    Calls Tryz.prog 46 #[.pointer (some ⟨h + 1, 0, none⟩), .int .i64 a, .int .i64 b] w fun e w' => ∃ ao c, e = .returned (.slice ao (aG T a b).length c) ∧ Ets w' w.heap.size ao (aG T a b).length c (aG T a b) ∧ (∃ ps', PF w' h ps' (aT T a b)) ∧ Mid h (h + 2) w w' := by
  rcases Bool.eq_false_or_eq_true (aOk a b) with hr | hr
  · rw [aG, aT, hr]
    exact age19_yes h ps T a b w H hr
  · rw [aG, aT, hr]
    refine (age19_no h a b w hr).mono ?_
    rintro e w' ⟨rfl, hb⟩
    exact ⟨none, 0, rfl, Ets.nothing _ _, ⟨ps, H.on hb⟩, Mid.on (Mid.refl _ _ _) hb⟩
end Go.Proofs.YtgpdjfaklcmoiaaGreat
/- Contracts of the document's forget, Age, FlushPort, FlushVlan, Same. -/
namespace Go.Proofs.YtgpdjfaklcmoiaaGreat
open Go.RowKit Go.PlainAid

theorem ersOne (w : World) (x : En) : Ers (w.alloc (.cells (EC x) 61)) (some ⟨w.heap.size, 0, none⟩) 1 1 [x] := ⟨rfl, fun e => (by cases e), fun a e j u hj => by
  obtain rfl := Option.some.inj e
  rw [Addr.add_lit, Nat.zero_add, World.cell?_alloc_at _ _ _ _ rfl]
  have hj' : (ecl x ++ [])[j]? = some u := hj
  rw [List.append_nil] at hj'
  show (ecl x).toArray[j]? = some u
  rw [List.getElem?_toArray]
  exact hj'⟩
theorem rowMono {w : World} {g g' : Nat} {lv : Value} {n : Nat} {xs : List Value} (hg : g' ≤ g) (hr : w.ownsRow g 61 10 lv n xs) : w.ownsRow g' 61 10 lv n xs := by
  refine ⟨hr.1, ?_⟩
  rcases hr.2 with h | ⟨b, cap, cur, e, hb, r⟩
  · exact Or.inl h
  · exact Or.inr ⟨b, cap, cur, e, by omega, r⟩
/-- What the document asks of an entry, by a kind. -/
def kd (k a b : Int) (x : En) : Bool := if k = 0 then gA a b x else if k = 1 then gP a x else gV a x
end Go.Proofs.YtgpdjfaklcmoiaaGreat
/- Contracts of the document's forget. -/
namespace Go.Proofs.YtgpdjfaklcmoiaaGreat
open Go.RowKit Go.PlainAid

/-- Two rows of unlike blocks. -/
def Dj (a b : Value) : Prop := ∀ r, a.ownBlock = some r → b.ownBlock ≠ some r
theorem Dj.symm {a b : Value} (h : Dj a b) : Dj b a := fun r h1 h2 => h r h2 h1
theorem Dj.or {a b : Value} (h : Dj a b) : a.ownBlock = none ∨ a.ownBlock ≠ b.ownBlock := by
  cases ha : a.ownBlock with
  | none => exact Or.inl rfl
  | some r => exact Or.inr (fun e => h r ha e.symm)
theorem Dj.right {a b b' : Value} {n : Nat} (h : Dj a b) (h1 : b'.ownBlock = b.ownBlock ∨ b'.ownBlock = some n) (h2 : ∀ r, a.ownBlock = some r → r < n) : Dj a b' := fun r hr e => by
  rcases h1 with h1 | h1
  · exact h r hr (h1 ▸ e)
  · rw [h1] at e
    have := Option.some.inj e
    have := h2 r hr
    omega
theorem wpl_eapp2 {ops : Array Oper} {rest : List Oper} {o : Oper} {a : Act} {w : World} {Q : Exit → Act → World → Prop} (hgd : o.guard = none) (hty : o.type = 69) (s x : Operand)
    (ho : o.op = .call { callee := .builtin .append, args := #[s, x], argTypes := #[69, 69] })
    (base : Nat) (v : Value) (n : Nat) (xs : List En) (fhs : a.eval s = v) (hown : w.ownsRow base 61 10 v n (es xs)) (ad : Addr) (m c : Nat) (ns : List En) (hx : a.eval x = .slice (some ad) m c) (hB : Ers w (some ad) m c ns)
    (h1 : n + m ≤ 100000) (hbase : base ≤ w.heap.size)
    (h : ∀ v' w', w'.ownsRow base 61 10 v' (n + m) (es (xs ++ ns)) → w.grownBy w' v.ownBlock → (v'.ownBlock = v.ownBlock ∨ v'.ownBlock = some w.heap.size) → wpList Tryz.prog ops Q rest (a.put o.dst v') w') : wpList Tryz.prog ops Q (o :: rest) a w := by
  obtain ⟨i0, hi, hz0, hz1, hz2⟩ := info_parts Tryz.info61
  obtain ⟨v', w', hr, h3, h4, -, h5⟩ := run_append_own_at w base 69 69 61 i0 _ 10 40 Tryz.underlying69 hi hz0 hz1 hz2 rfl (by decide) v n (es xs) hown ad m c (es ns) (by rw [es_length, hB.len]) (hB.src ad rfl) (one_es ns) (by unfold maxLen; omega) (by omega) hbase
  have hk := h v' w' (by rw [es_append]; exact h3) h4 h5
  refine wpList_plain hgd fun K hK => ?_
  unfold Oper.wp execOp
  simp only [ho, hty, resolve, invoke, builtin, Sem.run_bind, Sem.run_pure, Result.andThen_ok, List.map_toArray, List.map_cons, List.map_nil, fhs, hx, hr]
  exact hK _ _ hk
theorem gT_wf {T : FT} (H : FW T) (f : En → Bool) : FW (gT T f) := ⟨H.n1, H.n2, Nat.le_trans (List.length_filter_le _ _) H.le, H.srt.filter _, fun x hx => H.gd x (List.mem_filter.1 hx).1⟩
theorem fin58 {w wr : World} {g : Nat} {lv kv gv : Value} {T : FT} {f : En → Bool} (H : RF w g lv T) (HW : FW (gT T f)) (B : Below w.heap.size w wr) (K : wr.ownsRow w.heap.size 61 10 kv (T.l.filter (fun x => !gof f x)).length (es (T.l.filter (fun x => !gof f x)))) (G : wr.ownsRow w.heap.size 61 10 gv (gG T f).length (es (gG T f))) :
    ∃ ao c, gv = .slice ao (gG T f).length c ∧ Ets (wr.setCell ⟨g, 1, none⟩ kv) w.heap.size ao (gG T f).length c (gG T f) ∧ (∃ lv', RF (wr.setCell ⟨g, 1, none⟩ kv) g lv' (gT T f) ∧ Fr [g] lv lv' w (wr.setCell ⟨g, 1, none⟩ kv)) ∧ Mid g (g + 1) w (wr.setCell ⟨g, 1, none⟩ kv) := by
  have hl := H.lt
  obtain ⟨r1, -⟩ := H.fresh (T' := gT T f) (B.mono hl) rfl HW (rowMono hl K)
  have g1 := setCell_grown wr g 1 kv
  have G2 : (wr.setCell ⟨g, 1, none⟩ kv).ownsRow w.heap.size 61 10 gv (gG T f).length (es (gG T f)) := World.ownsRow.kept G g1 (by
    cases hb : gv.ownBlock with
    | none => exact Or.inl rfl
    | some r =>
      refine Or.inr (fun e => ?_)
      have := (G.lt r hb).1
      have := Option.some.inj e
      omega)
  obtain ⟨ao, c, e, E⟩ := row_ets G2
  exact ⟨ao, c, e, E, ⟨_, r1, Fr.fresh B K (by simp) 1 kv⟩, Mid.grown ⟨B.os, B.tape, B.output, B.size, fun i hi _ => B.block i hi⟩ g1 (Or.inr ⟨Nat.le_refl _, Nat.lt_succ_self _⟩)⟩
set_option maxRecDepth 100000 in
set_option maxHeartbeats 4000000 in
theorem forget58_0 (g : Nat) (lv : Value) (T : FT) (a b : Int) (w : World) (H : RF w g lv T) (hr : aOk a b = true) :
    Calls Tryz.prog 72 #[.pointer (some ⟨g, 0, none⟩), .int .i64 0, .int .i64 a, .int .i64 b] w fun e w' => ∃ ao c, e = .returned (.slice ao (gG T (gA a b)).length c) ∧ Ets w' w.heap.size ao (gG T (gA a b)).length c (gG T (gA a b)) ∧ (∃ lv', RF w' g lv' (gT T (gA a b)) ∧ Fr [g] lv lv' w w') ∧ Mid g (g + 1) w w' := by
  have hlt := H.lt
  have n2 := H.wf.n2
  have hle := H.wf.le
  have e2 : IntKind.i64.wrap (a - b) = a - b := by
    rw [aOk, Bool.and_eq_true, isT_iff, isT_iff] at hr
    exact IntWalk.i64_in _ (by omega)
  have HH := hide H
  have HWF := hide (gT_wf H.wf (gA a b))
  clear H
  have GG : Hid (∀ wr kv gv, Below w.heap.size w wr → wr.ownsRow w.heap.size 61 10 kv (T.l.filter (fun x => !gof (gA a b) x)).length (es (T.l.filter (fun x => !gof (gA a b) x))) → wr.ownsRow w.heap.size 61 10 gv (gG T (gA a b)).length (es (gG T (gA a b))) → ∃ ao c, gv = .slice ao (gG T (gA a b)).length c ∧ Ets (wr.setCell ⟨g, 1, none⟩ kv) w.heap.size ao (gG T (gA a b)).length c (gG T (gA a b)) ∧ (∃ lv', RF (wr.setCell ⟨g, 1, none⟩ kv) g lv' (gT T (gA a b)) ∧ Fr [g] lv lv' w (wr.setCell ⟨g, 1, none⟩ kv)) ∧ Mid g (g + 1) w (wr.setCell ⟨g, 1, none⟩ kv)) := hide (fun wr kv gv B K G => fin58 HH.out HWF.out B K G)
  go_enter Tryz.func72, Tryz.ntmps72
  go_wp2
  go_loopw [9, 10, 11, 12, 13] (fun kv gv i _ _ wr => ∃ k : Nat, k ≤ T.l.length ∧ i = .int .i64 k ∧ wr.ownsRow w.heap.size 61 10 kv ((T.l.take k).filter (fun x => !gof (gA a b) x)).length (es ((T.l.take k).filter (fun x => !gof (gA a b) x))) ∧ wr.ownsRow w.heap.size 61 10 gv ((T.l.take k).filter (gof (gA a b))).length (es ((T.l.take k).filter (gof (gA a b)))) ∧ Dj kv gv ∧ Below w.heap.size w wr) (fun _ _ i _ _ _ => T.l.length - (intOf i).toNat)
  case atStart => exact ⟨0, Nat.zero_le _, rfl, World.ownsRow_nil _ _ _ _, World.ownsRow_nil _ _ _ _, (fun r h => by cases h), Below.refl _ _⟩
  case round =>
    obtain ⟨k, hk, rfl, K, G, D, B⟩ := hrel
    obtain ⟨ak, ck, rfl⟩ := own_form K
    obtain ⟨ag, cg, rfl⟩ := own_form G
    have H1 := HH.out.on B
    have c1 := H1.bx.cell 1 _ rfl
    have hBs := B.size
    by_cases hkl : k < T.l.length
    · obtain ⟨x, hx⟩ : ∃ x, T.l[k]? = some x := ⟨_, List.getElem?_eq_getElem hkl⟩
      rcases H1.at with ⟨_, hl⟩ | ⟨bb, cap, rfl, hgb, hbl, hn, hmx, hbx⟩
      · rw [hl] at hkl; simp at hkl
      · have A1 := hbx.ent hx
        have hk2 : (k : Int) < T.l.length := by omega
        have e1 : IntKind.i64.wrap ((k : Int) + 1) = (k : Int) + 1 := IntWalk.i64_in _ (by omega)
        have htk : T.l.take (k + 1) = T.l.take k ++ [x] := by rw [List.take_add_one, hx]; rfl
        have hFK : Hid ((T.l.take (k + 1)).filter (fun x => !gof (gA a b) x) = (T.l.take k).filter (fun x => !gof (gA a b) x) ++ (if gof (gA a b) x then [] else [x])) := hide (by rw [htk, List.filter_append]; congr 1; rw [List.filter_cons]; cases gof (gA a b) x <;> simp)
        have hFG : Hid ((T.l.take (k + 1)).filter (gof (gA a b)) = (T.l.take k).filter (gof (gA a b)) ++ (if gof (gA a b) x then [x] else [])) := hide (by rw [htk, List.filter_append]; congr 1; rw [List.filter_cons]; cases gof (gA a b) x <;> simp)
        have hKl : Hid (((T.l.take k).filter (fun x => !gof (gA a b) x)).length ≤ 1024) := hide (Nat.le_trans (List.length_filter_le _ _) (by rw [List.length_take]; omega))
        have hGl : Hid (((T.l.take k).filter (gof (gA a b))).length ≤ 1024) := hide (Nat.le_trans (List.length_filter_le _ _) (by rw [List.length_take]; omega))
        have HK := hide K
        have HG := hide G
        have HD := hide D
        have HB := hide B
        have HGO : Hid (gof (gA a b) x = (!x.s && (gA a b) x)) := hide rfl
        unfold maxLen at hmx
        clear K G D B H1 htk hx hbx
        have tk1 : True := trivial
        have tk2 : True := trivial
        go_wp2_with (first | (have _t := tk1; refine wpl_ent (.tmp 28) rfl A1 ?_ ?_ ?_; rfl; rfl; clear tk1) | (have _t := tk2; refine wpl_putE x zE (.tmp 12) (.tmp 29) rfl (box_e _ zE) ?_ rfl rfl ?_; rfl; clear tk2))
        intro w2 X2 G2
        have B2a := up2 (Below.refl wr.heap.size wr) G2 (Nat.le_refl _)
        have K2 := hide (row_on HK.out B2a)
        have R2 := hide (row_on HG.out B2a)
        have B2 := hide (below_more HB.out B2a HB.out.size)
        have d8 := X2.cell 8 _ rfl
        have d9 := X2.cell 9 _ rfl
        have X3 := X2.at_
        clear G2 X2 B2a A1 HK HG HB c1
        have hs2 : Hid (w.heap.size ≤ (w2.alloc (.cells (EC x) 61)).heap.size) := hide (by have := B2.out.size; simp; omega)
        have K3 := hide (K2.out.alloc (.cells (EC x) 61))
        have R3 := hide (R2.out.alloc (.cells (EC x) 61))
        have B3 := hide (below_more B2.out (below_alloc w2 (.cells (EC x) 61)) B2.out.size)
        have M3 := hide (ersOne w2 x)
        have tk3 : True := trivial
        have tk4 : True := trivial
        have tk5 : True := trivial
        rcases Bool.eq_false_or_eq_true (gof (gA a b) x) with hg | hg
        · have hF1 := hFK.out
          have hF2 := hFG.out
          rw [hg, if_pos rfl, List.append_nil] at hF1
          rw [hg, if_pos rfl] at hF2
          have HF1 := hide hF1
          have HF2 := hide hF2
          rw [HGO.out, Bool.and_eq_true, Bool.not_eq_true'] at hg
          obtain ⟨hg1, hg2⟩ := hg
          rw [hg1] at d9
          unfold gA at hg2
          clear hF1 hF2 hFK hFG HGO hg1
          go_wp2_with (first | (have _t := tk3; refine wpl_ent (.tmp 12) rfl X3 ?_ ?_ ?_; rfl; rfl; clear tk3) | (have _t := tk4; refine wpl_bs rfl (.tmp 58) x rfl rfl ?_; clear tk4) | (have _t := tk5; at_builtin; refine wpl_eapp2 rfl rfl (.tmp 57) (.tmp 59) rfl w.heap.size _ _ _ rfl R3.out _ 1 1 _ rfl M3.out (by have := hGl.out; omega) hs2.out ?_; clear tk5))
          intro v4 w4 R4 G4 D4
          obtain ⟨a4, c4, rfl⟩ := own_form R4
          have K5 := hide (World.ownsRow.kept K3.out G4 (HD.out.or))
          have D5 := hide (HD.out.right D4 (fun r hr => by have := (K3.out.lt r hr).2; simpa using this))
          have B5 := hide (B3.out.grown G4 hs2.out (fun r hr => (R3.out.lt r hr).1))
          have R5 := hide R4
          clear R4 G4 D4 K3 R3 B3 M3 K2 R2 B2
          go_wp2
          go_roundw
          case rel => exact ⟨k + 1, by omega, by go_num, by rw [HF1.out]; exact K5.out, by rw [HF2.out, List.length_append]; exact R5.out, D5.out, B5.out⟩
          case measure => simp [intOf]; omega
        · have hF1 := hFK.out
          have hF2 := hFG.out
          rw [hg, if_neg (by simp)] at hF1 hF2
          rw [List.append_nil] at hF2
          have HF1 := hide hF1
          have HF2 := hide hF2
          rw [HGO.out] at hg
          clear hF1 hF2 hFK hFG HGO
          have tail : True := trivial
          rcases Bool.eq_false_or_eq_true (gA a b x) with hfx | hfx
          · have hsx : x.s = true := by rw [hfx] at hg; simpa using hg
            rw [hsx] at d9
            unfold gA at hfx
            clear hg hsx
            go_wp2_with (first | (have _t := tk3; refine wpl_ent (.tmp 12) rfl X3 ?_ ?_ ?_; rfl; rfl; clear tk3) | (have _t := tk4; refine wpl_bs rfl (.tmp 62) x rfl rfl ?_; clear tk4) | (have _t := tk5; at_builtin; refine wpl_eapp2 rfl rfl (.tmp 61) (.tmp 63) rfl w.heap.size _ _ _ rfl K3.out _ 1 1 _ rfl M3.out (by have := hKl.out; omega) hs2.out ?_; clear tk5))
            intro v4 w4 R4 G4 D4
            obtain ⟨a4, c4, rfl⟩ := own_form R4
            have R5 := hide (World.ownsRow.kept R3.out G4 (HD.out.symm.or))
            have D5 := hide ((HD.out.symm.right D4 (fun r hr => by have := (R3.out.lt r hr).2; simpa using this)).symm)
            have B5 := hide (B3.out.grown G4 hs2.out (fun r hr => (K3.out.lt r hr).1))
            have K5 := hide R4
            clear R4 G4 D4 K3 R3 B3 M3 K2 R2 B2
            go_wp2
            go_roundw
            case rel => exact ⟨k + 1, by omega, by go_num, by rw [HF1.out, List.length_append]; exact K5.out, by rw [HF2.out]; exact R5.out, D5.out, B5.out⟩
            case measure => simp [intOf]; omega
          · unfold gA at hfx
            clear hg
            go_wp2_with (first | (have _t := tk3; refine wpl_ent (.tmp 12) rfl X3 ?_ ?_ ?_; rfl; rfl; clear tk3) | (have _t := tk4; refine wpl_bs rfl (.tmp 62) x rfl rfl ?_; clear tk4) | (have _t := tk5; at_builtin; refine wpl_eapp2 rfl rfl (.tmp 61) (.tmp 63) rfl w.heap.size _ _ _ rfl K3.out _ 1 1 _ rfl M3.out (by have := hKl.out; omega) hs2.out ?_; clear tk5))
            intro v4 w4 R4 G4 D4
            obtain ⟨a4, c4, rfl⟩ := own_form R4
            have R5 := hide (World.ownsRow.kept R3.out G4 (HD.out.symm.or))
            have D5 := hide ((HD.out.symm.right D4 (fun r hr => by have := (R3.out.lt r hr).2; simpa using this)).symm)
            have B5 := hide (B3.out.grown G4 hs2.out (fun r hr => (K3.out.lt r hr).1))
            have K5 := hide R4
            clear R4 G4 D4 K3 R3 B3 M3 K2 R2 B2
            go_wp2
            go_roundw
            case rel => exact ⟨k + 1, by omega, by go_num, by rw [HF1.out, List.length_append]; exact K5.out, by rw [HF2.out]; exact R5.out, D5.out, B5.out⟩
            case measure => simp [intOf]; omega
    · have hk2 : ¬ (k : Int) < T.l.length := by omega
      have hall : T.l.take k = T.l := List.take_of_length_le (by omega)
      rw [hall] at K G
      have HALL := hide hall
      have F := hide (GG.out wr _ _ B K G)
      have c1f := H1.bx.free 1 (by simp)
      have hcl : ∃ s1 n1 c2, lv = .slice s1 n1 c2 := by
        obtain ⟨ao, c, e, _⟩ := HH.out.ers
        exact ⟨ao, _, c, e⟩
      obtain ⟨s1, n1, c2, rfl⟩ := hcl
      have hlen2 : n1 = T.l.length := by
        obtain ⟨ao, c, e, _⟩ := HH.out.ers
        injection e
      subst hlen2
      clear K G D B H1 hall
      go_wp2
      go_ret
      rw [HALL.out]
      obtain ⟨ao, c, e, r⟩ := F.out
      exact ⟨ao, c, congrArg Ending.returned e, r⟩
set_option maxRecDepth 100000 in
set_option maxHeartbeats 4000000 in
theorem forget58_1 (g : Nat) (lv : Value) (T : FT) (a b : Int) (w : World) (H : RF w g lv T) :
    Calls Tryz.prog 72 #[.pointer (some ⟨g, 0, none⟩), .int .i64 1, .int .i64 a, .int .i64 b] w fun e w' => ∃ ao c, e = .returned (.slice ao (gG T (gP a)).length c) ∧ Ets w' w.heap.size ao (gG T (gP a)).length c (gG T (gP a)) ∧ (∃ lv', RF w' g lv' (gT T (gP a)) ∧ Fr [g] lv lv' w w') ∧ Mid g (g + 1) w w' := by
  have hlt := H.lt
  have n2 := H.wf.n2
  have hle := H.wf.le
  have HH := hide H
  have HWF := hide (gT_wf H.wf (gP a))
  clear H
  have GG : Hid (∀ wr kv gv, Below w.heap.size w wr → wr.ownsRow w.heap.size 61 10 kv (T.l.filter (fun x => !gof (gP a) x)).length (es (T.l.filter (fun x => !gof (gP a) x))) → wr.ownsRow w.heap.size 61 10 gv (gG T (gP a)).length (es (gG T (gP a))) → ∃ ao c, gv = .slice ao (gG T (gP a)).length c ∧ Ets (wr.setCell ⟨g, 1, none⟩ kv) w.heap.size ao (gG T (gP a)).length c (gG T (gP a)) ∧ (∃ lv', RF (wr.setCell ⟨g, 1, none⟩ kv) g lv' (gT T (gP a)) ∧ Fr [g] lv lv' w (wr.setCell ⟨g, 1, none⟩ kv)) ∧ Mid g (g + 1) w (wr.setCell ⟨g, 1, none⟩ kv)) := hide (fun wr kv gv B K G => fin58 HH.out HWF.out B K G)
  go_enter Tryz.func72, Tryz.ntmps72
  go_wp2
  go_loopw [9, 10, 11, 12, 13] (fun kv gv i _ _ wr => ∃ k : Nat, k ≤ T.l.length ∧ i = .int .i64 k ∧ wr.ownsRow w.heap.size 61 10 kv ((T.l.take k).filter (fun x => !gof (gP a) x)).length (es ((T.l.take k).filter (fun x => !gof (gP a) x))) ∧ wr.ownsRow w.heap.size 61 10 gv ((T.l.take k).filter (gof (gP a))).length (es ((T.l.take k).filter (gof (gP a)))) ∧ Dj kv gv ∧ Below w.heap.size w wr) (fun _ _ i _ _ _ => T.l.length - (intOf i).toNat)
  case atStart => exact ⟨0, Nat.zero_le _, rfl, World.ownsRow_nil _ _ _ _, World.ownsRow_nil _ _ _ _, (fun r h => by cases h), Below.refl _ _⟩
  case round =>
    obtain ⟨k, hk, rfl, K, G, D, B⟩ := hrel
    obtain ⟨ak, ck, rfl⟩ := own_form K
    obtain ⟨ag, cg, rfl⟩ := own_form G
    have H1 := HH.out.on B
    have c1 := H1.bx.cell 1 _ rfl
    have hBs := B.size
    by_cases hkl : k < T.l.length
    · obtain ⟨x, hx⟩ : ∃ x, T.l[k]? = some x := ⟨_, List.getElem?_eq_getElem hkl⟩
      rcases H1.at with ⟨_, hl⟩ | ⟨bb, cap, rfl, hgb, hbl, hn, hmx, hbx⟩
      · rw [hl] at hkl; simp at hkl
      · have A1 := hbx.ent hx
        have hk2 : (k : Int) < T.l.length := by omega
        have e1 : IntKind.i64.wrap ((k : Int) + 1) = (k : Int) + 1 := IntWalk.i64_in _ (by omega)
        have htk : T.l.take (k + 1) = T.l.take k ++ [x] := by rw [List.take_add_one, hx]; rfl
        have hFK : Hid ((T.l.take (k + 1)).filter (fun x => !gof (gP a) x) = (T.l.take k).filter (fun x => !gof (gP a) x) ++ (if gof (gP a) x then [] else [x])) := hide (by rw [htk, List.filter_append]; congr 1; rw [List.filter_cons]; cases gof (gP a) x <;> simp)
        have hFG : Hid ((T.l.take (k + 1)).filter (gof (gP a)) = (T.l.take k).filter (gof (gP a)) ++ (if gof (gP a) x then [x] else [])) := hide (by rw [htk, List.filter_append]; congr 1; rw [List.filter_cons]; cases gof (gP a) x <;> simp)
        have hKl : Hid (((T.l.take k).filter (fun x => !gof (gP a) x)).length ≤ 1024) := hide (Nat.le_trans (List.length_filter_le _ _) (by rw [List.length_take]; omega))
        have hGl : Hid (((T.l.take k).filter (gof (gP a))).length ≤ 1024) := hide (Nat.le_trans (List.length_filter_le _ _) (by rw [List.length_take]; omega))
        have HK := hide K
        have HG := hide G
        have HD := hide D
        have HB := hide B
        have HGO : Hid (gof (gP a) x = (!x.s && (gP a) x)) := hide rfl
        unfold maxLen at hmx
        clear K G D B H1 htk hx hbx
        have tk1 : True := trivial
        have tk2 : True := trivial
        go_wp2_with (first | (have _t := tk1; refine wpl_ent (.tmp 28) rfl A1 ?_ ?_ ?_; rfl; rfl; clear tk1) | (have _t := tk2; refine wpl_putE x zE (.tmp 12) (.tmp 29) rfl (box_e _ zE) ?_ rfl rfl ?_; rfl; clear tk2))
        intro w2 X2 G2
        have B2a := up2 (Below.refl wr.heap.size wr) G2 (Nat.le_refl _)
        have K2 := hide (row_on HK.out B2a)
        have R2 := hide (row_on HG.out B2a)
        have B2 := hide (below_more HB.out B2a HB.out.size)
        have d7 := X2.cell 7 _ rfl
        have d9 := X2.cell 9 _ rfl
        have X3 := X2.at_
        clear G2 X2 B2a A1 HK HG HB c1
        have hs2 : Hid (w.heap.size ≤ (w2.alloc (.cells (EC x) 61)).heap.size) := hide (by have := B2.out.size; simp; omega)
        have K3 := hide (K2.out.alloc (.cells (EC x) 61))
        have R3 := hide (R2.out.alloc (.cells (EC x) 61))
        have B3 := hide (below_more B2.out (below_alloc w2 (.cells (EC x) 61)) B2.out.size)
        have M3 := hide (ersOne w2 x)
        have tk3 : True := trivial
        have tk4 : True := trivial
        have tk5 : True := trivial
        rcases Bool.eq_false_or_eq_true (gof (gP a) x) with hg | hg
        · have hF1 := hFK.out
          have hF2 := hFG.out
          rw [hg, if_pos rfl, List.append_nil] at hF1
          rw [hg, if_pos rfl] at hF2
          have HF1 := hide hF1
          have HF2 := hide hF2
          rw [HGO.out, Bool.and_eq_true, Bool.not_eq_true'] at hg
          obtain ⟨hg1, hg2⟩ := hg
          rw [hg1] at d9
          unfold gP at hg2
          clear hF1 hF2 hFK hFG HGO hg1
          go_wp2_with (first | (have _t := tk3; refine wpl_ent (.tmp 12) rfl X3 ?_ ?_ ?_; rfl; rfl; clear tk3) | (have _t := tk4; refine wpl_bs rfl (.tmp 58) x rfl rfl ?_; clear tk4) | (have _t := tk5; at_builtin; refine wpl_eapp2 rfl rfl (.tmp 57) (.tmp 59) rfl w.heap.size _ _ _ rfl R3.out _ 1 1 _ rfl M3.out (by have := hGl.out; omega) hs2.out ?_; clear tk5))
          intro v4 w4 R4 G4 D4
          obtain ⟨a4, c4, rfl⟩ := own_form R4
          have K5 := hide (World.ownsRow.kept K3.out G4 (HD.out.or))
          have D5 := hide (HD.out.right D4 (fun r hr => by have := (K3.out.lt r hr).2; simpa using this))
          have B5 := hide (B3.out.grown G4 hs2.out (fun r hr => (R3.out.lt r hr).1))
          have R5 := hide R4
          clear R4 G4 D4 K3 R3 B3 M3 K2 R2 B2
          go_wp2
          go_roundw
          case rel => exact ⟨k + 1, by omega, by go_num, by rw [HF1.out]; exact K5.out, by rw [HF2.out, List.length_append]; exact R5.out, D5.out, B5.out⟩
          case measure => simp [intOf]; omega
        · have hF1 := hFK.out
          have hF2 := hFG.out
          rw [hg, if_neg (by simp)] at hF1 hF2
          rw [List.append_nil] at hF2
          have HF1 := hide hF1
          have HF2 := hide hF2
          rw [HGO.out] at hg
          clear hF1 hF2 hFK hFG HGO
          have tail : True := trivial
          rcases Bool.eq_false_or_eq_true (gP a x) with hfx | hfx
          · have hsx : x.s = true := by rw [hfx] at hg; simpa using hg
            rw [hsx] at d9
            unfold gP at hfx
            clear hg hsx
            go_wp2_with (first | (have _t := tk3; refine wpl_ent (.tmp 12) rfl X3 ?_ ?_ ?_; rfl; rfl; clear tk3) | (have _t := tk4; refine wpl_bs rfl (.tmp 62) x rfl rfl ?_; clear tk4) | (have _t := tk5; at_builtin; refine wpl_eapp2 rfl rfl (.tmp 61) (.tmp 63) rfl w.heap.size _ _ _ rfl K3.out _ 1 1 _ rfl M3.out (by have := hKl.out; omega) hs2.out ?_; clear tk5))
            intro v4 w4 R4 G4 D4
            obtain ⟨a4, c4, rfl⟩ := own_form R4
            have R5 := hide (World.ownsRow.kept R3.out G4 (HD.out.symm.or))
            have D5 := hide ((HD.out.symm.right D4 (fun r hr => by have := (R3.out.lt r hr).2; simpa using this)).symm)
            have B5 := hide (B3.out.grown G4 hs2.out (fun r hr => (K3.out.lt r hr).1))
            have K5 := hide R4
            clear R4 G4 D4 K3 R3 B3 M3 K2 R2 B2
            go_wp2
            go_roundw
            case rel => exact ⟨k + 1, by omega, by go_num, by rw [HF1.out, List.length_append]; exact K5.out, by rw [HF2.out]; exact R5.out, D5.out, B5.out⟩
            case measure => simp [intOf]; omega
          · unfold gP at hfx
            clear hg
            go_wp2_with (first | (have _t := tk3; refine wpl_ent (.tmp 12) rfl X3 ?_ ?_ ?_; rfl; rfl; clear tk3) | (have _t := tk4; refine wpl_bs rfl (.tmp 62) x rfl rfl ?_; clear tk4) | (have _t := tk5; at_builtin; refine wpl_eapp2 rfl rfl (.tmp 61) (.tmp 63) rfl w.heap.size _ _ _ rfl K3.out _ 1 1 _ rfl M3.out (by have := hKl.out; omega) hs2.out ?_; clear tk5))
            intro v4 w4 R4 G4 D4
            obtain ⟨a4, c4, rfl⟩ := own_form R4
            have R5 := hide (World.ownsRow.kept R3.out G4 (HD.out.symm.or))
            have D5 := hide ((HD.out.symm.right D4 (fun r hr => by have := (R3.out.lt r hr).2; simpa using this)).symm)
            have B5 := hide (B3.out.grown G4 hs2.out (fun r hr => (K3.out.lt r hr).1))
            have K5 := hide R4
            clear R4 G4 D4 K3 R3 B3 M3 K2 R2 B2
            go_wp2
            go_roundw
            case rel => exact ⟨k + 1, by omega, by go_num, by rw [HF1.out, List.length_append]; exact K5.out, by rw [HF2.out]; exact R5.out, D5.out, B5.out⟩
            case measure => simp [intOf]; omega
    · have hk2 : ¬ (k : Int) < T.l.length := by omega
      have hall : T.l.take k = T.l := List.take_of_length_le (by omega)
      rw [hall] at K G
      have HALL := hide hall
      have F := hide (GG.out wr _ _ B K G)
      have c1f := H1.bx.free 1 (by simp)
      have hcl : ∃ s1 n1 c2, lv = .slice s1 n1 c2 := by
        obtain ⟨ao, c, e, _⟩ := HH.out.ers
        exact ⟨ao, _, c, e⟩
      obtain ⟨s1, n1, c2, rfl⟩ := hcl
      have hlen2 : n1 = T.l.length := by
        obtain ⟨ao, c, e, _⟩ := HH.out.ers
        injection e
      subst hlen2
      clear K G D B H1 hall
      go_wp2
      go_ret
      rw [HALL.out]
      obtain ⟨ao, c, e, r⟩ := F.out
      exact ⟨ao, c, congrArg Ending.returned e, r⟩
set_option maxRecDepth 100000 in
set_option maxHeartbeats 4000000 in
theorem forget58_2 (g : Nat) (lv : Value) (T : FT) (a b : Int) (w : World) (H : RF w g lv T) :
    Calls Tryz.prog 72 #[.pointer (some ⟨g, 0, none⟩), .int .i64 2, .int .i64 a, .int .i64 b] w fun e w' => ∃ ao c, e = .returned (.slice ao (gG T (gV a)).length c) ∧ Ets w' w.heap.size ao (gG T (gV a)).length c (gG T (gV a)) ∧ (∃ lv', RF w' g lv' (gT T (gV a)) ∧ Fr [g] lv lv' w w') ∧ Mid g (g + 1) w w' := by
  have hlt := H.lt
  have n2 := H.wf.n2
  have hle := H.wf.le
  have HH := hide H
  have HWF := hide (gT_wf H.wf (gV a))
  clear H
  have GG : Hid (∀ wr kv gv, Below w.heap.size w wr → wr.ownsRow w.heap.size 61 10 kv (T.l.filter (fun x => !gof (gV a) x)).length (es (T.l.filter (fun x => !gof (gV a) x))) → wr.ownsRow w.heap.size 61 10 gv (gG T (gV a)).length (es (gG T (gV a))) → ∃ ao c, gv = .slice ao (gG T (gV a)).length c ∧ Ets (wr.setCell ⟨g, 1, none⟩ kv) w.heap.size ao (gG T (gV a)).length c (gG T (gV a)) ∧ (∃ lv', RF (wr.setCell ⟨g, 1, none⟩ kv) g lv' (gT T (gV a)) ∧ Fr [g] lv lv' w (wr.setCell ⟨g, 1, none⟩ kv)) ∧ Mid g (g + 1) w (wr.setCell ⟨g, 1, none⟩ kv)) := hide (fun wr kv gv B K G => fin58 HH.out HWF.out B K G)
  go_enter Tryz.func72, Tryz.ntmps72
  go_wp2
  go_loopw [9, 10, 11, 12, 13] (fun kv gv i _ _ wr => ∃ k : Nat, k ≤ T.l.length ∧ i = .int .i64 k ∧ wr.ownsRow w.heap.size 61 10 kv ((T.l.take k).filter (fun x => !gof (gV a) x)).length (es ((T.l.take k).filter (fun x => !gof (gV a) x))) ∧ wr.ownsRow w.heap.size 61 10 gv ((T.l.take k).filter (gof (gV a))).length (es ((T.l.take k).filter (gof (gV a)))) ∧ Dj kv gv ∧ Below w.heap.size w wr) (fun _ _ i _ _ _ => T.l.length - (intOf i).toNat)
  case atStart => exact ⟨0, Nat.zero_le _, rfl, World.ownsRow_nil _ _ _ _, World.ownsRow_nil _ _ _ _, (fun r h => by cases h), Below.refl _ _⟩
  case round =>
    obtain ⟨k, hk, rfl, K, G, D, B⟩ := hrel
    obtain ⟨ak, ck, rfl⟩ := own_form K
    obtain ⟨ag, cg, rfl⟩ := own_form G
    have H1 := HH.out.on B
    have c1 := H1.bx.cell 1 _ rfl
    have hBs := B.size
    by_cases hkl : k < T.l.length
    · obtain ⟨x, hx⟩ : ∃ x, T.l[k]? = some x := ⟨_, List.getElem?_eq_getElem hkl⟩
      rcases H1.at with ⟨_, hl⟩ | ⟨bb, cap, rfl, hgb, hbl, hn, hmx, hbx⟩
      · rw [hl] at hkl; simp at hkl
      · have A1 := hbx.ent hx
        have hk2 : (k : Int) < T.l.length := by omega
        have e1 : IntKind.i64.wrap ((k : Int) + 1) = (k : Int) + 1 := IntWalk.i64_in _ (by omega)
        have htk : T.l.take (k + 1) = T.l.take k ++ [x] := by rw [List.take_add_one, hx]; rfl
        have hFK : Hid ((T.l.take (k + 1)).filter (fun x => !gof (gV a) x) = (T.l.take k).filter (fun x => !gof (gV a) x) ++ (if gof (gV a) x then [] else [x])) := hide (by rw [htk, List.filter_append]; congr 1; rw [List.filter_cons]; cases gof (gV a) x <;> simp)
        have hFG : Hid ((T.l.take (k + 1)).filter (gof (gV a)) = (T.l.take k).filter (gof (gV a)) ++ (if gof (gV a) x then [x] else [])) := hide (by rw [htk, List.filter_append]; congr 1; rw [List.filter_cons]; cases gof (gV a) x <;> simp)
        have hKl : Hid (((T.l.take k).filter (fun x => !gof (gV a) x)).length ≤ 1024) := hide (Nat.le_trans (List.length_filter_le _ _) (by rw [List.length_take]; omega))
        have hGl : Hid (((T.l.take k).filter (gof (gV a))).length ≤ 1024) := hide (Nat.le_trans (List.length_filter_le _ _) (by rw [List.length_take]; omega))
        have HK := hide K
        have HG := hide G
        have HD := hide D
        have HB := hide B
        have HGO : Hid (gof (gV a) x = (!x.s && (gV a) x)) := hide rfl
        unfold maxLen at hmx
        clear K G D B H1 htk hx hbx
        have tk1 : True := trivial
        have tk2 : True := trivial
        go_wp2_with (first | (have _t := tk1; refine wpl_ent (.tmp 28) rfl A1 ?_ ?_ ?_; rfl; rfl; clear tk1) | (have _t := tk2; refine wpl_putE x zE (.tmp 12) (.tmp 29) rfl (box_e _ zE) ?_ rfl rfl ?_; rfl; clear tk2))
        intro w2 X2 G2
        have B2a := up2 (Below.refl wr.heap.size wr) G2 (Nat.le_refl _)
        have K2 := hide (row_on HK.out B2a)
        have R2 := hide (row_on HG.out B2a)
        have B2 := hide (below_more HB.out B2a HB.out.size)
        have d0 := X2.cell 0 _ rfl
        have d9 := X2.cell 9 _ rfl
        have X3 := X2.at_
        clear G2 X2 B2a A1 HK HG HB c1
        have hs2 : Hid (w.heap.size ≤ (w2.alloc (.cells (EC x) 61)).heap.size) := hide (by have := B2.out.size; simp; omega)
        have K3 := hide (K2.out.alloc (.cells (EC x) 61))
        have R3 := hide (R2.out.alloc (.cells (EC x) 61))
        have B3 := hide (below_more B2.out (below_alloc w2 (.cells (EC x) 61)) B2.out.size)
        have M3 := hide (ersOne w2 x)
        have tk3 : True := trivial
        have tk4 : True := trivial
        have tk5 : True := trivial
        rcases Bool.eq_false_or_eq_true (gof (gV a) x) with hg | hg
        · have hF1 := hFK.out
          have hF2 := hFG.out
          rw [hg, if_pos rfl, List.append_nil] at hF1
          rw [hg, if_pos rfl] at hF2
          have HF1 := hide hF1
          have HF2 := hide hF2
          rw [HGO.out, Bool.and_eq_true, Bool.not_eq_true'] at hg
          obtain ⟨hg1, hg2⟩ := hg
          rw [hg1] at d9
          unfold gV at hg2
          clear hF1 hF2 hFK hFG HGO hg1
          go_wp2_with (first | (have _t := tk3; refine wpl_ent (.tmp 12) rfl X3 ?_ ?_ ?_; rfl; rfl; clear tk3) | (have _t := tk4; refine wpl_bs rfl (.tmp 58) x rfl rfl ?_; clear tk4) | (have _t := tk5; at_builtin; refine wpl_eapp2 rfl rfl (.tmp 57) (.tmp 59) rfl w.heap.size _ _ _ rfl R3.out _ 1 1 _ rfl M3.out (by have := hGl.out; omega) hs2.out ?_; clear tk5))
          intro v4 w4 R4 G4 D4
          obtain ⟨a4, c4, rfl⟩ := own_form R4
          have K5 := hide (World.ownsRow.kept K3.out G4 (HD.out.or))
          have D5 := hide (HD.out.right D4 (fun r hr => by have := (K3.out.lt r hr).2; simpa using this))
          have B5 := hide (B3.out.grown G4 hs2.out (fun r hr => (R3.out.lt r hr).1))
          have R5 := hide R4
          clear R4 G4 D4 K3 R3 B3 M3 K2 R2 B2
          go_wp2
          go_roundw
          case rel => exact ⟨k + 1, by omega, by go_num, by rw [HF1.out]; exact K5.out, by rw [HF2.out, List.length_append]; exact R5.out, D5.out, B5.out⟩
          case measure => simp [intOf]; omega
        · have hF1 := hFK.out
          have hF2 := hFG.out
          rw [hg, if_neg (by simp)] at hF1 hF2
          rw [List.append_nil] at hF2
          have HF1 := hide hF1
          have HF2 := hide hF2
          rw [HGO.out] at hg
          clear hF1 hF2 hFK hFG HGO
          have tail : True := trivial
          rcases Bool.eq_false_or_eq_true (gV a x) with hfx | hfx
          · have hsx : x.s = true := by rw [hfx] at hg; simpa using hg
            rw [hsx] at d9
            unfold gV at hfx
            clear hg hsx
            go_wp2_with (first | (have _t := tk3; refine wpl_ent (.tmp 12) rfl X3 ?_ ?_ ?_; rfl; rfl; clear tk3) | (have _t := tk4; refine wpl_bs rfl (.tmp 62) x rfl rfl ?_; clear tk4) | (have _t := tk5; at_builtin; refine wpl_eapp2 rfl rfl (.tmp 61) (.tmp 63) rfl w.heap.size _ _ _ rfl K3.out _ 1 1 _ rfl M3.out (by have := hKl.out; omega) hs2.out ?_; clear tk5))
            intro v4 w4 R4 G4 D4
            obtain ⟨a4, c4, rfl⟩ := own_form R4
            have R5 := hide (World.ownsRow.kept R3.out G4 (HD.out.symm.or))
            have D5 := hide ((HD.out.symm.right D4 (fun r hr => by have := (R3.out.lt r hr).2; simpa using this)).symm)
            have B5 := hide (B3.out.grown G4 hs2.out (fun r hr => (K3.out.lt r hr).1))
            have K5 := hide R4
            clear R4 G4 D4 K3 R3 B3 M3 K2 R2 B2
            go_wp2
            go_roundw
            case rel => exact ⟨k + 1, by omega, by go_num, by rw [HF1.out, List.length_append]; exact K5.out, by rw [HF2.out]; exact R5.out, D5.out, B5.out⟩
            case measure => simp [intOf]; omega
          · unfold gV at hfx
            clear hg
            go_wp2_with (first | (have _t := tk3; refine wpl_ent (.tmp 12) rfl X3 ?_ ?_ ?_; rfl; rfl; clear tk3) | (have _t := tk4; refine wpl_bs rfl (.tmp 62) x rfl rfl ?_; clear tk4) | (have _t := tk5; at_builtin; refine wpl_eapp2 rfl rfl (.tmp 61) (.tmp 63) rfl w.heap.size _ _ _ rfl K3.out _ 1 1 _ rfl M3.out (by have := hKl.out; omega) hs2.out ?_; clear tk5))
            intro v4 w4 R4 G4 D4
            obtain ⟨a4, c4, rfl⟩ := own_form R4
            have R5 := hide (World.ownsRow.kept R3.out G4 (HD.out.symm.or))
            have D5 := hide ((HD.out.symm.right D4 (fun r hr => by have := (R3.out.lt r hr).2; simpa using this)).symm)
            have B5 := hide (B3.out.grown G4 hs2.out (fun r hr => (K3.out.lt r hr).1))
            have K5 := hide R4
            clear R4 G4 D4 K3 R3 B3 M3 K2 R2 B2
            go_wp2
            go_roundw
            case rel => exact ⟨k + 1, by omega, by go_num, by rw [HF1.out, List.length_append]; exact K5.out, by rw [HF2.out]; exact R5.out, D5.out, B5.out⟩
            case measure => simp [intOf]; omega
    · have hk2 : ¬ (k : Int) < T.l.length := by omega
      have hall : T.l.take k = T.l := List.take_of_length_le (by omega)
      rw [hall] at K G
      have HALL := hide hall
      have F := hide (GG.out wr _ _ B K G)
      have c1f := H1.bx.free 1 (by simp)
      have hcl : ∃ s1 n1 c2, lv = .slice s1 n1 c2 := by
        obtain ⟨ao, c, e, _⟩ := HH.out.ers
        exact ⟨ao, _, c, e⟩
      obtain ⟨s1, n1, c2, rfl⟩ := hcl
      have hlen2 : n1 = T.l.length := by
        obtain ⟨ao, c, e, _⟩ := HH.out.ers
        injection e
      subst hlen2
      clear K G D B H1 hall
      go_wp2
      go_ret
      rw [HALL.out]
      obtain ⟨ao, c, e, r⟩ := F.out
      exact ⟨ao, c, congrArg Ending.returned e, r⟩
end Go.Proofs.YtgpdjfaklcmoiaaGreat
/- Contracts of the document's Age, FlushPort, FlushVlan, Same. -/
namespace Go.Proofs.YtgpdjfaklcmoiaaGreat
open Go.RowKit Go.PlainAid

set_option maxRecDepth 100000 in
set_option maxHeartbeats 1000000 in
theorem age43_no (g : Nat) (a b : Int) (w : World) (hr : aOk a b = false) :
    Calls Tryz.prog 47 #[.pointer (some ⟨g, 0, none⟩), .int .i64 a, .int .i64 b] w fun e w' => e = .returned (.slice none 0 0) ∧ w' = w := by
  have hc : a < 0 ∨ 1099511627776 < a ∨ b < 0 ∨ 1099511627776 < b := by
    have h : ¬ (isT a = true ∧ isT b = true) := fun h => by rw [aOk, h.1, h.2] at hr; cases hr
    rw [isT_iff, isT_iff] at h
    omega
  clear hr
  by_cases h1 : a < 0
  · clear hc
    go_enter Tryz.func47, Tryz.ntmps47
    go_wp2
    go_ret
    exact ⟨rfl, rfl⟩
  · by_cases h2 : 1099511627776 < a
    · clear hc
      go_enter Tryz.func47, Tryz.ntmps47
      go_wp2
      go_ret
      exact ⟨rfl, rfl⟩
    · by_cases h3 : b < 0
      · clear hc
        go_enter Tryz.func47, Tryz.ntmps47
        go_wp2
        go_ret
        exact ⟨rfl, rfl⟩
      · have h4 : 1099511627776 < b := by omega
        clear hc
        go_enter Tryz.func47, Tryz.ntmps47
        go_wp2
        go_ret
        exact ⟨rfl, rfl⟩
set_option maxRecDepth 100000 in
set_option maxHeartbeats 1000000 in
theorem age43 (g : Nat) (lv : Value) (T : FT) (a b : Int) (w : World) (H : RF w g lv T) :
    Calls Tryz.prog 47 #[.pointer (some ⟨g, 0, none⟩), .int .i64 a, .int .i64 b] w fun e w' => ∃ ao c, e = .returned (.slice ao (aG T a b).length c) ∧ Ets w' w.heap.size ao (aG T a b).length c (aG T a b) ∧ (∃ lv', RF w' g lv' (aT T a b) ∧ Fr [g] lv lv' w w') ∧ Mid g (g + 1) w w' := by
  rcases Bool.eq_false_or_eq_true (aOk a b) with hr | hr
  · rw [aG, aT, hr]
    have HQ := hide (forget58_0 g lv T a b w H hr)
    rw [aOk, Bool.and_eq_true, isT_iff, isT_iff] at hr
    have h1 : ¬ a < 0 := by omega
    have h2 : ¬ 1099511627776 < a := by omega
    have h3 : ¬ b < 0 := by omega
    have h4 : ¬ 1099511627776 < b := by omega
    simp only [if_true]
    clear hr H
    go_enter Tryz.func47, Tryz.ntmps47
    go_wp2_with fail
    refine HQ.out.mono ?_
    rintro e w1 ⟨ao, c, rfl, E⟩
    have HE := hide E
    clear E HQ
    go_wp2
    go_ret
    exact ⟨ao, c, rfl, HE.out⟩
  · rw [aG, aT, hr]
    refine (age43_no g a b w hr).mono ?_
    rintro e w' ⟨rfl, rfl⟩
    exact ⟨none, 0, rfl, Ets.nothing _ _, ⟨lv, H, Fr.refl _ _ _⟩, Mid.refl _ _ _⟩
set_option maxRecDepth 100000 in
set_option maxHeartbeats 2000000 in
theorem same13 (B B' : Nat) (l : List En) (ao ao' : Option Addr) (c d : Nat) (w : World) (E : Ets w B ao l.length c l) (F : Ets w B' ao' l.length d l) :
    Calls Tryz.prog 29 #[.slice ao l.length c, .slice ao' l.length d] w fun e w' => e = .returned (.bool true) ∧ Below w.heap.size w w' := by
  have HE := hide E
  have HF := hide F
  have h1 := E.le
  have h2 := E.mx
  unfold maxLen at h2
  clear E F
  have hne : ((l.length : Int) != (l.length : Int)) = false := by simp
  go_enter Tryz.func29, Tryz.ntmps29
  go_wp2
  go_loopw [5] (fun i wr => ∃ k q : Nat, k ≤ l.length ∧ i = .int .i64 k ∧ wr = w.drewN q) (fun i _ => l.length - (intOf i).toNat)
  case atStart => exact ⟨0, 0, Nat.zero_le _, rfl, rfl⟩
  case round =>
    obtain ⟨k, q, hk, rfl, rfl⟩ := hrel
    by_cases hkl : k < l.length
    · obtain ⟨x, hx⟩ : ∃ x, l[k]? = some x := ⟨_, List.getElem?_eq_getElem hkl⟩
      obtain ⟨b1, rfl, -, -, A1⟩ := HE.out.at hx
      obtain ⟨b2, rfl, -, -, A2⟩ := HF.out.at hx
      have hk2 : (k : Int) < l.length := by omega
      have e1 : IntKind.i64.wrap ((k : Int) + 1) = (k : Int) + 1 := IntWalk.i64_in _ (by omega)
      clear hx
      go_wp2_with fail
      refine wp_region_held_drew (S := fun w' => w'.rangeAt b1 (k * 10) (ecl x) ∧ w'.rangeAt b2 (k * 10) (ecl x)) (by kernel_rfl) ⟨A1, A2⟩ (fun hHeld => ?_)
      refine wpAnyH_take (i := 0) (v := .slice (some ⟨b1, 0, none⟩) l.length c) rfl (by kernel_rfl) (by kernel_rfl) (by kernel_rfl) (fun _ _ _ h => h) (Or.inl ⟨by rfl, ?_⟩) hHeld ?_
      · intro W hW; (try dsimp only at hW); go_simp
      change wpAnyH _ _ _ _ _ _ _ ⟨#[.slice (some ⟨b1, 0, none⟩) l.length c, .slice (some ⟨b2, 0, none⟩) l.length d, _, _, _, .int .i64 (k : Int), _, _, _, _, _, _, _, _, _, _, _, .slice (some ⟨b1, 0, none⟩) l.length c, _, _, _, _, _, _, _, _], []⟩ _
      refine wpAnyH_take (i := 1) (v := .int .i64 (k : Int)) rfl (by kernel_rfl) (by kernel_rfl) (by kernel_rfl) (fun _ _ _ h => h) (Or.inl ⟨by rfl, ?_⟩) hHeld ?_
      · intro W hW; (try dsimp only at hW); go_simp
      change wpAnyH _ _ _ _ _ _ _ ⟨#[.slice (some ⟨b1, 0, none⟩) l.length c, .slice (some ⟨b2, 0, none⟩) l.length d, _, _, _, .int .i64 (k : Int), _, _, _, _, _, _, _, _, _, _, _, .slice (some ⟨b1, 0, none⟩) l.length c, .int .i64 (k : Int), _, _, _, _, _, _, _], []⟩ _
      refine wpAnyH_take (i := 2) (v := .pointer (some ⟨b1, k * 10, none⟩)) rfl (by kernel_rfl) (by kernel_rfl) (by kernel_rfl) (fun _ _ _ h => h) (Or.inl ⟨by rfl, ?_⟩) hHeld ?_
      · intro W hW; (try dsimp only at hW); go_simp
      change wpAnyH _ _ _ _ _ _ _ ⟨#[.slice (some ⟨b1, 0, none⟩) l.length c, .slice (some ⟨b2, 0, none⟩) l.length d, _, _, _, .int .i64 (k : Int), _, _, _, _, _, _, _, _, _, _, _, .slice (some ⟨b1, 0, none⟩) l.length c, .int .i64 (k : Int), .pointer (some ⟨b1, k * 10, none⟩), _, _, _, _, _, _], []⟩ _
      refine wpAnyH_take (i := 3) (v := .agg (EC x)) rfl (by kernel_rfl) (by kernel_rfl) (by kernel_rfl) (fun _ _ _ h => h) (yieldsIf_load_mid (by rfl) 61 (.tmp 19) rfl b1 (k * 10) rfl (ecl x) _ (fun W hW => hW.1) Tryz.underlying61 rfl Tryz.size61) hHeld ?_
      change wpAnyH _ _ _ _ _ _ _ ⟨#[.slice (some ⟨b1, 0, none⟩) l.length c, .slice (some ⟨b2, 0, none⟩) l.length d, _, _, _, .int .i64 (k : Int), _, _, _, _, _, _, _, _, _, _, _, .slice (some ⟨b1, 0, none⟩) l.length c, .int .i64 (k : Int), .pointer (some ⟨b1, k * 10, none⟩), .agg (EC x), _, _, _, _, _], []⟩ _
      refine wpAnyH_take (i := 4) (v := .slice (some ⟨b2, 0, none⟩) l.length d) rfl (by kernel_rfl) (by kernel_rfl) (by kernel_rfl) (fun _ _ _ h => h) (Or.inl ⟨by rfl, ?_⟩) hHeld ?_
      · intro W hW; (try dsimp only at hW); go_simp
      change wpAnyH _ _ _ _ _ _ _ ⟨#[.slice (some ⟨b1, 0, none⟩) l.length c, .slice (some ⟨b2, 0, none⟩) l.length d, _, _, _, .int .i64 (k : Int), _, _, _, _, _, _, _, _, _, _, _, .slice (some ⟨b1, 0, none⟩) l.length c, .int .i64 (k : Int), .pointer (some ⟨b1, k * 10, none⟩), .agg (EC x), .slice (some ⟨b2, 0, none⟩) l.length d, _, _, _, _], []⟩ _
      refine wpAnyH_take (i := 5) (v := .int .i64 (k : Int)) rfl (by kernel_rfl) (by kernel_rfl) (by kernel_rfl) (fun _ _ _ h => h) (Or.inl ⟨by rfl, ?_⟩) hHeld ?_
      · intro W hW; (try dsimp only at hW); go_simp
      change wpAnyH _ _ _ _ _ _ _ ⟨#[.slice (some ⟨b1, 0, none⟩) l.length c, .slice (some ⟨b2, 0, none⟩) l.length d, _, _, _, .int .i64 (k : Int), _, _, _, _, _, _, _, _, _, _, _, .slice (some ⟨b1, 0, none⟩) l.length c, .int .i64 (k : Int), .pointer (some ⟨b1, k * 10, none⟩), .agg (EC x), .slice (some ⟨b2, 0, none⟩) l.length d, .int .i64 (k : Int), _, _, _], []⟩ _
      refine wpAnyH_take (i := 6) (v := .pointer (some ⟨b2, k * 10, none⟩)) rfl (by kernel_rfl) (by kernel_rfl) (by kernel_rfl) (fun _ _ _ h => h) (Or.inl ⟨by rfl, ?_⟩) hHeld ?_
      · intro W hW; (try dsimp only at hW); go_simp
      change wpAnyH _ _ _ _ _ _ _ ⟨#[.slice (some ⟨b1, 0, none⟩) l.length c, .slice (some ⟨b2, 0, none⟩) l.length d, _, _, _, .int .i64 (k : Int), _, _, _, _, _, _, _, _, _, _, _, .slice (some ⟨b1, 0, none⟩) l.length c, .int .i64 (k : Int), .pointer (some ⟨b1, k * 10, none⟩), .agg (EC x), .slice (some ⟨b2, 0, none⟩) l.length d, .int .i64 (k : Int), .pointer (some ⟨b2, k * 10, none⟩), _, _], []⟩ _
      refine wpAnyH_take (i := 7) (v := .agg (EC x)) rfl (by kernel_rfl) (by kernel_rfl) (by kernel_rfl) (fun _ _ _ h => h) (yieldsIf_load_mid (by rfl) 61 (.tmp 23) rfl b2 (k * 10) rfl (ecl x) _ (fun W hW => hW.2) Tryz.underlying61 rfl Tryz.size61) hHeld ?_
      change wpAnyH _ _ _ _ _ _ _ ⟨#[.slice (some ⟨b1, 0, none⟩) l.length c, .slice (some ⟨b2, 0, none⟩) l.length d, _, _, _, .int .i64 (k : Int), _, _, _, _, _, _, _, _, _, _, _, .slice (some ⟨b1, 0, none⟩) l.length c, .int .i64 (k : Int), .pointer (some ⟨b1, k * 10, none⟩), .agg (EC x), .slice (some ⟨b2, 0, none⟩) l.length d, .int .i64 (k : Int), .pointer (some ⟨b2, k * 10, none⟩), .agg (EC x), _], []⟩ _
      refine wpAnyH_take (i := 8) (v := .bool false) rfl (by kernel_rfl) (by kernel_rfl) (by kernel_rfl) (fun _ _ _ h => h) (Or.inl ⟨by rfl, ?_⟩) hHeld ?_
      · intro W hW; (try dsimp only at hW); clear hW; have he := eqEnt x x; rw [(eqE_iff x x).2 rfl] at he; go_simp
      change wpAnyH _ _ _ _ _ _ _ ⟨#[.slice (some ⟨b1, 0, none⟩) l.length c, .slice (some ⟨b2, 0, none⟩) l.length d, _, _, _, .int .i64 (k : Int), _, _, _, _, _, _, _, _, _, _, _, .slice (some ⟨b1, 0, none⟩) l.length c, .int .i64 (k : Int), .pointer (some ⟨b1, k * 10, none⟩), .agg (EC x), .slice (some ⟨b2, 0, none⟩) l.length d, .int .i64 (k : Int), .pointer (some ⟨b2, k * 10, none⟩), .agg (EC x), .bool false], []⟩ _
      refine wpAnyH_done (by kernel_rfl) ?_ _
      go_wp2
      go_roundw
      case rel => exact ⟨k + 1, q + 1, by omega, by go_num, rfl⟩
      case measure => simp [intOf]; omega
    · have hk2 : ¬ (k : Int) < l.length := by omega
      go_wp2
      go_ret
      exact ⟨rfl, ⟨rfl, rfl, rfl, Nat.le_refl _, fun _ _ => rfl⟩⟩
end Go.Proofs.YtgpdjfaklcmoiaaGreat
