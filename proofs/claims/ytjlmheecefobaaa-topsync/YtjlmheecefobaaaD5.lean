/- Contracts of All; of forget and its closure. -/
import Derived.Test.YtjlmheecefobaaaD4
import Derived.Test.YtjlmheecefobaaaB3
namespace Go.Proofs.Ytjlmheecefobaaa
open Go.RowKit Go.PlainAid

/-- Cells that are as they are told. -/
def CS (l : List (Nat × Value)) (w : World) : Prop := ∀ q v, (q, v) ∈ l → w.cell? ⟨q, 0, none⟩ = some v
theorem CS.on {l : List (Nat × Value)} {w w' : World} (h : CS l w) (hb : Below w.heap.size w w') : CS l w' := fun q v hq =>
  (hb.cell (p := ⟨q, 0, none⟩) (World.block_lt_of_cell? w _ (h q v hq))).trans (h q v hq)
theorem CS.grow {l : List (Nat × Value)} {w w1 w2 : World} {v : Value} {n : Nat} {xs : List Value} (h1 : CS l w1) (ho : w1.ownsRow w.heap.size 36 10 v n xs) (hg : w1.grownBy w2 v.ownBlock) (h0 : CS l w) : CS l w2 := fun q u hq =>
  hg.cell (h1 q u hq) (fun e => by
    have hlt := World.block_lt_of_cell? w _ (h0 q u hq)
    have := (ho.lt q e.symm).1
    have hlt' : q < w.heap.size := hlt
    omega)
theorem wh_of {l : List (Nat × Value)} {fn : Nat} {cb : Array Value} {f : En → Bool} (h : ∀ (x : En) (w : World), CS l w → Calls Try.prog fn (#[.agg (EC x)] ++ cb) w fun e w' => e = .returned (.bool (f x)) ∧ Below w.heap.size w w') : Wh (CS l) fn cb f :=
  ⟨h, fun _ _ h1 hb => h1.on hb, fun _ _ _ _ _ _ h1 ho hg h0 _ => h1.grow ho hg h0⟩
set_option maxRecDepth 100000 in
set_option maxHeartbeats 400000 in
theorem all30 (x : En) (w : World) : Calls Try.prog 38 #[.agg (EC x)] w fun e w' => e = .returned (.bool true) ∧ Below w.heap.size w w' := by
  have W0 := hide (below_alloc w (.cells (EC x) 36))
  go_enter Try.func38, Try.ntmps38
  go_wp2
  go_ret
  exact ⟨rfl, W0.out⟩
theorem filter_true (l : List En) : l.filter (fun _ => true) = l := by simp
set_option maxRecDepth 100000 in
set_option maxHeartbeats 1000000 in
theorem all25 (h : Nat) (ps : List En) (T : Tb) (w : World) (H : PT w h ps T) :
    Calls Try.prog 25 #[.pointer (some ⟨h + 1, 0, none⟩)] w fun e w' => ∃ ao c, e = .returned (.slice ao T.l.length c) ∧ Ets w' w.heap.size ao T.l.length c T.l ∧ Below w.heap.size w w' := by
  have q := those37a h ps T 38 (S := CS []) (fun _ => true) w H (wh_of (fun x w _ => all30 x w)) (fun q v hq => by cases hq) (enters_of Try.func38 (by kernel_rfl) rfl)
  rw [filter_true] at q
  have HQ := hide q
  clear q H
  go_enter Try.func25, Try.ntmps25
  go_wp2_with fail
  refine HQ.out.mono ?_
  rintro e w1 ⟨ao, c, rfl, E, hb⟩
  have HE := hide E
  have HB := hide hb
  clear E hb
  go_wp2
  go_ret
  exact ⟨ao, c, rfl, HE.out, HB.out⟩
section
attribute [local go_sem] EC9
set_option maxRecDepth 100000 in
set_option maxHeartbeats 1000000 in
theorem clo54a {l : List (Nat × Value)} (fn p : Nat) (a : Value) (f : En → Bool) (he : ∀ (args : Array Value) (w : World), (callFunc fn args).run Try.prog w = .ok (.enter fn args) w) (hw : Wh (CS l) fn #[a] f) (x : En) (w : World) (hS : CS ((p, .func (.func fn) #[] #[a]) :: l) w) :
    Calls Try.prog 60 #[.agg (EC x), .pointer (some ⟨p, 0, none⟩)] w fun e w' => e = .returned (.bool (!x.s && f x)) ∧ Below w.heap.size w w' := by
  have S1 := hS.on (below_alloc w (.cells (EC x) 36))
  have c0 := S1 p _ (List.Mem.head _)
  have S2 : Hid (CS l (w.alloc (.cells (EC x) 36))) := hide (fun q v hq => S1 q v (by simp [hq]))
  have A0 := (box_e w x).at_
  have W0 := hide (below_alloc w (.cells (EC x) 36))
  have HW := hide hw
  clear hS S1 hw
  have tk1 : True := trivial
  rcases Bool.eq_false_or_eq_true x.s with hs | hs
  · rw [hs]
    go_enter Try.func60, Try.ntmps60
    go_wp2
    go_ret
    exact ⟨rfl, W0.out⟩
  · rw [hs]
    go_enter Try.func60, Try.ntmps60
    go_wp2_with (first | (have _t := tk1; refine wpl_ent (.tmp 2) rfl A0 ?_ ?_ ?_; rfl; rfl; clear tk1))
    refine (HW.out.run x _ S2.out).mono ?_
    rintro e w1 ⟨rfl, hb⟩
    have B1 := hide (belowOn W0.out hb)
    clear hb A0
    go_wp2
    go_ret
    exact ⟨rfl, B1.out⟩
end
section
attribute [local go_sem] EC9
set_option maxRecDepth 100000 in
set_option maxHeartbeats 1000000 in
theorem clo54b {l : List (Nat × Value)} (fn p : Nat) (a b : Value) (f : En → Bool) (he : ∀ (args : Array Value) (w : World), (callFunc fn args).run Try.prog w = .ok (.enter fn args) w) (hw : Wh (CS l) fn #[a, b] f) (x : En) (w : World) (hS : CS ((p, .func (.func fn) #[] #[a, b]) :: l) w) :
    Calls Try.prog 60 #[.agg (EC x), .pointer (some ⟨p, 0, none⟩)] w fun e w' => e = .returned (.bool (!x.s && f x)) ∧ Below w.heap.size w w' := by
  have S1 := hS.on (below_alloc w (.cells (EC x) 36))
  have c0 := S1 p _ (List.Mem.head _)
  have S2 : Hid (CS l (w.alloc (.cells (EC x) 36))) := hide (fun q v hq => S1 q v (by simp [hq]))
  have A0 := (box_e w x).at_
  have W0 := hide (below_alloc w (.cells (EC x) 36))
  have HW := hide hw
  clear hS S1 hw
  have tk1 : True := trivial
  rcases Bool.eq_false_or_eq_true x.s with hs | hs
  · rw [hs]
    go_enter Try.func60, Try.ntmps60
    go_wp2
    go_ret
    exact ⟨rfl, W0.out⟩
  · rw [hs]
    go_enter Try.func60, Try.ntmps60
    go_wp2_with (first | (have _t := tk1; refine wpl_ent (.tmp 2) rfl A0 ?_ ?_ ?_; rfl; rfl; clear tk1))
    refine (HW.out.run x _ S2.out).mono ?_
    rintro e w1 ⟨rfl, hb⟩
    have B1 := hide (belowOn W0.out hb)
    clear hb A0
    go_wp2
    go_ret
    exact ⟨rfl, B1.out⟩
end
/-- What is asked for, and is not Static. -/
def gof (f : En → Bool) (x : En) : Bool := !x.s && f x
theorem mok_filter {T : Tb} (H : Wf T) (f : En → Bool) : ∀ x ∈ T.l.filter f, Mok x.m := fun x hx => (H.gd x (List.mem_filter.1 hx).1).ok
theorem gone_step {T : Tb} (H : Wf T) {f : En → Bool} {gone l' : List En} (hg : T.l.filter f = gone) {k : Nat} {x : En} (hx : gone[k]? = some x) (hm : ∀ z, z ∈ l' ↔ z ∈ T.l ∧ z ∉ gone.take k) : ∀ z, z ∈ rm l' x.v x.m ↔ z ∈ T.l ∧ z ∉ gone.take (k + 1) := fun z => by
  have hxm : x ∈ T.l := (List.mem_filter.1 (by rw [hg]; exact List.mem_of_getElem? hx)).1
  rw [rm_mem, hm z, List.take_add_one, hx, List.mem_append]
  simp only [Option.toList_some, List.mem_singleton]
  constructor
  · rintro ⟨⟨a, b⟩, c⟩
    refine ⟨a, fun e => ?_⟩
    rcases e with e | e
    · exact b e
    · rw [e, (ky_iff x x.v x.m).2 ⟨rfl, rfl⟩] at c; cases c
  · rintro ⟨a, b⟩
    refine ⟨⟨a, fun e => b (Or.inl e)⟩, ?_⟩
    rw [Bool.eq_false_iff]
    intro c
    have e := (ky_iff _ _ _).1 c
    exact b (Or.inr (H.srt.one a hxm (by simp [ke, e.1, e.2])))
theorem gone_end {T : Tb} {l' : List En} (H : Wf T) {n : Nat} (H' : Wf ⟨n, l'⟩) {f : En → Bool} {gone : List En} (hg : T.l.filter f = gone) (hm : ∀ z, z ∈ l' ↔ z ∈ T.l ∧ z ∉ gone) : l' = T.l.filter (fun x => !f x) := by
  refine Srt.ext H'.srt (H.srt.filter _) (fun x => ?_)
  rw [hm x, ← hg]
  simp only [List.mem_filter]
  constructor
  · rintro ⟨a, b⟩
    refine ⟨a, ?_⟩
    cases hfx : f x
    · rfl
    · exact absurd ⟨a, hfx⟩ b
  · rintro ⟨a, b⟩
    exact ⟨a, fun c => by rw [c.2] at b; cases b⟩
set_option maxRecDepth 100000 in
set_option maxHeartbeats 4000000 in
theorem forget45a {l : List (Nat × Value)} (h : Nat) (ps : List En) (T : Tb) (fn : Nat) (a : Value) (f : En → Bool) (w : World) (H : PT w h ps T) (he : ∀ (args : Array Value) (w : World), (callFunc fn args).run Try.prog w = .ok (.enter fn args) w) (hw : Wh (CS l) fn #[a] f) (hS : CS l w) :
    Calls Try.prog 45 #[.pointer (some ⟨h + 1, 0, none⟩), .func (.func fn) #[] #[a]] w fun e w' => ∃ ao c, e = .returned (.slice ao (T.l.filter (gof f)).length c) ∧ Ets w' w.heap.size ao (T.l.filter (gof f)).length c (T.l.filter (gof f)) ∧ (∃ ps', PT w' h ps' ⟨T.n, T.l.filter (fun x => !gof f x)⟩) ∧ Mid h (h + 2) w w' := by
  have S1 := hS.on (below_alloc w (.cells #[.func (.func fn) #[] #[a]] 89))
  have c0 : (w.alloc (.cells #[.func (.func fn) #[] #[a]] 89)).cell? ⟨w.heap.size, 0, none⟩ = some (.func (.func fn) #[] #[a]) := by rw [World.cell?_alloc_at _ _ _ _ rfl]; rfl
  have S2 : CS ((w.heap.size, .func (.func fn) #[] #[a]) :: l) (w.alloc (.cells #[.func (.func fn) #[] #[a]] 89)) := fun q v hq => by
    rcases List.mem_cons.1 hq with e | hq
    · injection e with e1 e2
      subst e1 e2
      exact c0
    · exact S1 q v hq
  have W0 := hide (below_alloc w (.cells #[.func (.func fn) #[] #[a]] 89))
  have hw2 : Wh (CS ((w.heap.size, .func (.func fn) #[] #[a]) :: l)) 60 #[.pointer (some ⟨w.heap.size, 0, none⟩)] (gof f) := wh_of (fun x w' hS' => clo54a fn w.heap.size a f he hw x w' hS')
  have q := those37b h ps T 60 (.pointer (some ⟨w.heap.size, 0, none⟩)) (gof f) _ (H.on W0.out) hw2 S2 (enters_of Try.func60 (by kernel_rfl) rfl)
  have HQ := hide q
  have HH := hide H
  have hlt := H.lt
  have hml := hide (mok_filter H.wf (gof f))
  clear H S1 S2 hS c0 hw hw2 q
  go_enter Try.func45, Try.ntmps45
  go_wp2_with fail
  refine HQ.out.mono ?_
  rintro e w1 ⟨ao, c, rfl, E, hb⟩
  have HP1 := hide ((HH.out.on W0.out).on hb)
  have HB1 := hide (belowOn W0.out hb)
  have HE := hide (E.mono (show w.heap.size ≤ _ by simp))
  have hel := E.le
  have hem := E.mx
  have hgl : (T.l.filter (gof f)).length ≤ 1024 := Nat.le_trans (List.length_filter_le _ _) (Nat.le_trans HH.out.wf.le HH.out.wf.n2)
  unfold maxLen at hem
  clear hb E HQ
  generalize hgo : T.l.filter (gof f) = gone at *
  have HGO := hide hgo
  clear hgo
  go_wp2
  go_loopw [7, 13] (fun _ i wr => ∃ (k : Nat) (ps' l' : List En), k ≤ gone.length ∧ i = .int .i64 k ∧ PT wr h ps' ⟨T.n, l'⟩ ∧ (∀ x, x ∈ l' ↔ x ∈ T.l ∧ x ∉ gone.take k) ∧ Mid h (h + 2) w1 wr) (fun _ i _ => gone.length - (intOf i).toNat)
  case atStart => exact ⟨0, ps, T.l, Nat.zero_le _, rfl, HP1.out, fun x => by simp, Mid.refl _ _ _⟩
  case round =>
    obtain ⟨k, ps', l', hk, rfl, P2, hmem, M2⟩ := hrel
    have E2 := HE.out.mid M2 (by omega)
    by_cases hkl : k < gone.length
    · obtain ⟨x, hx⟩ : ∃ x, gone[k]? = some x := ⟨_, List.getElem?_eq_getElem hkl⟩
      obtain ⟨b, rfl, hb1, hb2, A1⟩ := E2.at hx
      have hk2 : (k : Int) < gone.length := by omega
      have e1 : IntKind.i64.wrap ((k : Int) + 1) = (k : Int) + 1 := IntWalk.i64_in _ (by omega)
      have HP2 := hide P2
      have HM2 := hide M2
      have HME := hide hmem
      have HX := hide hx
      have hxo : Hid (Mok x.m) := hide (hml.out x (List.mem_of_getElem? hx))
      clear P2 M2 E2 hmem hx
      have tk1 : True := trivial
      have tk2 : True := trivial
      have tk3 : True := trivial
      go_wp2_with (first | (have _t := tk1; refine wpl_ent (.tmp 15) rfl A1 ?_ ?_ ?_; rfl; rfl; clear tk1) | (have _t := tk2; refine wpl_putE x zE (.tmp 7) (.tmp 16) rfl (box_e _ zE) ?_ rfl rfl ?_; rfl; clear tk2))
      intro w2 X2 G2
      have B2 := up2 (Below.refl wr.heap.size wr) G2 (Nat.le_refl _)
      have HP3 := hide (HP2.out.on B2)
      have HM3 := hide (HM2.out.on B2)
      have c2 := X2.cell 0 _ rfl
      have m2 := mac_of X2
      clear G2 X2 B2 A1 HP2 HM2
      go_wp2_with (first | (have _t := tk3; refine wpl_mac (.tmp 20) rfl m2 ?_ ?_ ?_; rfl; rfl; clear tk3))
      refine (remove28 h ps' ⟨T.n, l'⟩ x.v x.m _ hxo.out HP3.out).mono ?_
      rintro e w3 ⟨rfl, ⟨ps3, P4⟩, M4⟩
      have HP4 := hide P4
      have HM4 := hide (Mid.trans HM3.out M4)
      have HN : Hid (∀ z, z ∈ rm l' x.v x.m ↔ z ∈ T.l ∧ z ∉ gone.take (k + 1)) := hide (gone_step HH.out.wf HGO.out HX.out HME.out)
      clear P4 M4 c2 m2 HP3 HM3
      go_wp2
      go_roundw
      case rel => exact ⟨k + 1, ps3, _, by omega, by go_num, HP4.out, HN.out, HM4.out⟩
      case measure => simp [intOf]; omega
    · have hk2 : ¬ (k : Int) < gone.length := by omega
      have hl : l' = T.l.filter (fun x => !gof f x) := gone_end HH.out.wf P2.wf HGO.out (fun x => by rw [hmem x, List.take_of_length_le (by omega)])
      rw [hl] at P2
      have HP2 := hide P2
      have HM2 := hide (Mid.trans (Mid.on (Mid.refl h (h + 2) w) HB1.out) M2)
      have HE2 := hide E2
      clear P2 M2 E2 hmem hl
      go_wp2
      go_ret
      have hg := HGO.out
      subst hg
      exact ⟨ao, c, rfl, HE2.out, ⟨ps', HP2.out⟩, HM2.out⟩
set_option maxRecDepth 100000 in
set_option maxHeartbeats 4000000 in
theorem forget45b {l : List (Nat × Value)} (h : Nat) (ps : List En) (T : Tb) (fn : Nat) (a b : Value) (f : En → Bool) (w : World) (H : PT w h ps T) (he : ∀ (args : Array Value) (w : World), (callFunc fn args).run Try.prog w = .ok (.enter fn args) w) (hw : Wh (CS l) fn #[a, b] f) (hS : CS l w) :
    Calls Try.prog 45 #[.pointer (some ⟨h + 1, 0, none⟩), .func (.func fn) #[] #[a, b]] w fun e w' => ∃ ao c, e = .returned (.slice ao (T.l.filter (gof f)).length c) ∧ Ets w' w.heap.size ao (T.l.filter (gof f)).length c (T.l.filter (gof f)) ∧ (∃ ps', PT w' h ps' ⟨T.n, T.l.filter (fun x => !gof f x)⟩) ∧ Mid h (h + 2) w w' := by
  have S1 := hS.on (below_alloc w (.cells #[.func (.func fn) #[] #[a, b]] 89))
  have c0 : (w.alloc (.cells #[.func (.func fn) #[] #[a, b]] 89)).cell? ⟨w.heap.size, 0, none⟩ = some (.func (.func fn) #[] #[a, b]) := by rw [World.cell?_alloc_at _ _ _ _ rfl]; rfl
  have S2 : CS ((w.heap.size, .func (.func fn) #[] #[a, b]) :: l) (w.alloc (.cells #[.func (.func fn) #[] #[a, b]] 89)) := fun q v hq => by
    rcases List.mem_cons.1 hq with e | hq
    · injection e with e1 e2
      subst e1 e2
      exact c0
    · exact S1 q v hq
  have W0 := hide (below_alloc w (.cells #[.func (.func fn) #[] #[a, b]] 89))
  have hw2 : Wh (CS ((w.heap.size, .func (.func fn) #[] #[a, b]) :: l)) 60 #[.pointer (some ⟨w.heap.size, 0, none⟩)] (gof f) := wh_of (fun x w' hS' => clo54b fn w.heap.size a b f he hw x w' hS')
  have q := those37b h ps T 60 (.pointer (some ⟨w.heap.size, 0, none⟩)) (gof f) _ (H.on W0.out) hw2 S2 (enters_of Try.func60 (by kernel_rfl) rfl)
  have HQ := hide q
  have HH := hide H
  have hlt := H.lt
  have hml := hide (mok_filter H.wf (gof f))
  clear H S1 S2 hS c0 hw hw2 q
  go_enter Try.func45, Try.ntmps45
  go_wp2_with fail
  refine HQ.out.mono ?_
  rintro e w1 ⟨ao, c, rfl, E, hb⟩
  have HP1 := hide ((HH.out.on W0.out).on hb)
  have HB1 := hide (belowOn W0.out hb)
  have HE := hide (E.mono (show w.heap.size ≤ _ by simp))
  have hel := E.le
  have hem := E.mx
  have hgl : (T.l.filter (gof f)).length ≤ 1024 := Nat.le_trans (List.length_filter_le _ _) (Nat.le_trans HH.out.wf.le HH.out.wf.n2)
  unfold maxLen at hem
  clear hb E HQ
  generalize hgo : T.l.filter (gof f) = gone at *
  have HGO := hide hgo
  clear hgo
  go_wp2
  go_loopw [7, 13] (fun _ i wr => ∃ (k : Nat) (ps' l' : List En), k ≤ gone.length ∧ i = .int .i64 k ∧ PT wr h ps' ⟨T.n, l'⟩ ∧ (∀ x, x ∈ l' ↔ x ∈ T.l ∧ x ∉ gone.take k) ∧ Mid h (h + 2) w1 wr) (fun _ i _ => gone.length - (intOf i).toNat)
  case atStart => exact ⟨0, ps, T.l, Nat.zero_le _, rfl, HP1.out, fun x => by simp, Mid.refl _ _ _⟩
  case round =>
    obtain ⟨k, ps', l', hk, rfl, P2, hmem, M2⟩ := hrel
    have E2 := HE.out.mid M2 (by omega)
    by_cases hkl : k < gone.length
    · obtain ⟨x, hx⟩ : ∃ x, gone[k]? = some x := ⟨_, List.getElem?_eq_getElem hkl⟩
      obtain ⟨b, rfl, hb1, hb2, A1⟩ := E2.at hx
      have hk2 : (k : Int) < gone.length := by omega
      have e1 : IntKind.i64.wrap ((k : Int) + 1) = (k : Int) + 1 := IntWalk.i64_in _ (by omega)
      have HP2 := hide P2
      have HM2 := hide M2
      have HME := hide hmem
      have HX := hide hx
      have hxo : Hid (Mok x.m) := hide (hml.out x (List.mem_of_getElem? hx))
      clear P2 M2 E2 hmem hx
      have tk1 : True := trivial
      have tk2 : True := trivial
      have tk3 : True := trivial
      go_wp2_with (first | (have _t := tk1; refine wpl_ent (.tmp 15) rfl A1 ?_ ?_ ?_; rfl; rfl; clear tk1) | (have _t := tk2; refine wpl_putE x zE (.tmp 7) (.tmp 16) rfl (box_e _ zE) ?_ rfl rfl ?_; rfl; clear tk2))
      intro w2 X2 G2
      have B2 := up2 (Below.refl wr.heap.size wr) G2 (Nat.le_refl _)
      have HP3 := hide (HP2.out.on B2)
      have HM3 := hide (HM2.out.on B2)
      have c2 := X2.cell 0 _ rfl
      have m2 := mac_of X2
      clear G2 X2 B2 A1 HP2 HM2
      go_wp2_with (first | (have _t := tk3; refine wpl_mac (.tmp 20) rfl m2 ?_ ?_ ?_; rfl; rfl; clear tk3))
      refine (remove28 h ps' ⟨T.n, l'⟩ x.v x.m _ hxo.out HP3.out).mono ?_
      rintro e w3 ⟨rfl, ⟨ps3, P4⟩, M4⟩
      have HP4 := hide P4
      have HM4 := hide (Mid.trans HM3.out M4)
      have HN : Hid (∀ z, z ∈ rm l' x.v x.m ↔ z ∈ T.l ∧ z ∉ gone.take (k + 1)) := hide (gone_step HH.out.wf HGO.out HX.out HME.out)
      clear P4 M4 c2 m2 HP3 HM3
      go_wp2
      go_roundw
      case rel => exact ⟨k + 1, ps3, _, by omega, by go_num, HP4.out, HN.out, HM4.out⟩
      case measure => simp [intOf]; omega
    · have hk2 : ¬ (k : Int) < gone.length := by omega
      have hl : l' = T.l.filter (fun x => !gof f x) := gone_end HH.out.wf P2.wf HGO.out (fun x => by rw [hmem x, List.take_of_length_le (by omega)])
      rw [hl] at P2
      have HP2 := hide P2
      have HM2 := hide (Mid.trans (Mid.on (Mid.refl h (h + 2) w) HB1.out) M2)
      have HE2 := hide E2
      clear P2 M2 E2 hmem hl
      go_wp2
      go_ret
      have hg := HGO.out
      subst hg
      exact ⟨ao, c, rfl, HE2.out, ⟨ps', HP2.out⟩, HM2.out⟩
end Go.Proofs.Ytjlmheecefobaaa
