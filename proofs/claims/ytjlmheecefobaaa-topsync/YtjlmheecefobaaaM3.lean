/- Contract of inOrder. -/
import Derived.Test.YtjlmheecefobaaaM2
import Derived.Test.YtjlmheecefobaaaD2
import Derived.Test.YtjlmheecefobaaaD3
import Derived.Shelf.SlSortCmp.NoneTotal
namespace Go.Proofs.Ytjlmheecefobaaa
open Go.RowKit Go.PlainAid

set_option maxRecDepth 100000 in
theorem run_bs (e : En) (w : World) : (Instr.buildSlice 47 1 #[(0, .agg (EC e))]).run Try.prog w = .ok (.slice (some ⟨w.heap.size, 0, none⟩) 1 1) (w.alloc (.cells (EC e) 36)) := by kernel_rfl
theorem wpl_bs {ops : Array Oper} {rest : List Oper} {o : Oper} {a : Act} {w : World} {Q : Exit → Act → World → Prop} (hgd : o.guard = none) (x : Operand) (e : En) (ho : o.op = .buildSlice 47 1 #[(0, x)]) (hx : a.eval x = .agg (EC e))
    (h : wpList Try.prog ops Q rest (a.put o.dst (.slice (some ⟨w.heap.size, 0, none⟩) 1 1)) (w.alloc (.cells (EC e) 36))) : wpList Try.prog ops Q (o :: rest) a w := by
  refine wpList_plain hgd fun K hK => ?_
  unfold Oper.wp execOp
  simp only [ho, List.map_toArray, List.map_cons, List.map_nil, hx, run_bs, Sem.run_bind, Sem.run_pure, Result.andThen_ok]
  exact hK _ _ h
theorem ers_one (w : World) (x : En) : Ers (w.alloc (.cells (EC x) 36)) (some ⟨w.heap.size, 0, none⟩) 1 1 [x] := ⟨rfl, fun e => (by cases e), fun a e j u hj => by
  obtain rfl := Option.some.inj e
  rw [Addr.add_lit, Nat.zero_add, World.cell?_alloc_at _ _ _ _ rfl]
  have hj' : (ecl x ++ [])[j]? = some u := hj
  rw [List.append_nil] at hj'
  show (ecl x).toArray[j]? = some u
  rw [List.getElem?_toArray]
  exact hj'⟩
theorem below_grow {w w0 : World} (g : w.grownBy w0 none) : Below w.heap.size w w0 := (Below.refl _ w).grown g (Nat.le_refl _) (fun k hk => by cases hk)
set_option maxRecDepth 100000 in
set_option maxHeartbeats 4000000 in
theorem inOrder34 (b : Nat) (l s : List En) (w : World) (H : Mp w b l) (ha : Apt l) (ho : Ok l) (hs : Srt s) (he : Eqv l s) (hL : l.length ≤ 50000) :
    Calls Try.prog 34 #[.map (some b)] w fun e w' => ∃ ao c, e = .returned (.slice ao s.length c) ∧ Ets w' w.heap.size ao s.length c s ∧ Below w.heap.size w w' := by
  have hbw := H.lt
  have HH := hide (And.intro ha (And.intro ho (And.intro hs he)))
  clear ha ho hs he
  go_enter Try.func34, Try.ntmps34
  go_wp2_with (first | (at_range; refine wpl_range _ rfl _ rfl b l rfl H ?_; intro w0 R0 g0 z0))
  go_frame
  have B0 := hide (below_grow g0)
  have HR0 := hide R0
  have HZ0 := hide z0
  clear R0 g0 z0 H
  go_loopw [3, 5] (fun lv _ wr => ∃ gone : List En, Rn wr b w.heap.size l gone ∧ (∀ x ∈ gone, x ∈ l) ∧ wr.ownsRow (w.heap.size + 1) 36 10 lv gone.length (es gone) ∧ Below w.heap.size w wr ∧ w.heap.size + 1 ≤ wr.heap.size) (fun _ _ wr => wr.rangeLeft b w.heap.size)
  case atStart => exact ⟨[], HR0.out, fun x hx => by simp at hx, World.ownsRow_nil _ _ _ _, B0.out, by have := HZ0.out; omega⟩
  case round =>
    obtain ⟨gone, R1, hin, O1, B1, z1⟩ := hrel
    obtain ⟨ao0, cc0, hlv⟩ := own_form O1
    have HIN := hide hin
    have HO1 := hide O1
    have HB1 := hide B1
    have HZ1 := hide z1
    clear hin O1 B1 z1 HR0 B0 HZ0
    subst hlv
    go_wp2_with (first | (at_next; refine wpl_next _ rfl _ rfl b w.heap.size l gone rfl R1 ?_ ?_))
    · intro hp
      have HP := hide hp
      have hgl : gone.length ≤ 50000 := by rw [hp.length_eq]; exact hL
      clear R1 hp
      cases ao0 with
      | none =>
        have hl0 : gone.length = 0 ∧ cc0 = 0 := by
          rcases HO1.out.2 with ⟨h1, h2⟩ | ⟨b, cap, cur, h1, _⟩
          · injection h1 with _ _ h3
            exact ⟨h2, h3⟩
          · injection h1 with h3
            cases h3
        obtain ⟨hl1, rfl⟩ := hl0
        have hnil : gone = [] := List.eq_nil_of_length_eq_zero hl1
        subst hnil
        have HFN : Hid (s = []) := hide (sorted_eq HH.out.2.2.2 HH.out.1 HH.out.2.2.1 HP.out List.Pairwise.nil).symm
        rw [show ([] : List En).length = 0 from rfl]
        clear hl1
        go_wp2_with (first | (go_at_call 49; refine (AnyF.slices_SortFunc_none Try.sortE none 0 (.func (.func 50) #[] #[]) _).mono ?_; rintro e w' ⟨rfl, rfl⟩))
        go_ret
        rw [HFN.out]
        exact ⟨none, 0, rfl, ⟨rfl, fun _ => rfl, fun a e => (by cases e), Nat.le_refl _, Nat.zero_le _⟩, HB1.out⟩
      | some a0 =>
        obtain ⟨k, rfl⟩ : ∃ k, a0 = ⟨k, 0, none⟩ := by
          rcases HO1.out.2 with ⟨h1, h2⟩ | ⟨b, cap, cur, h1, _⟩
          · cases h1
          · injection h1 with h3
            exact ⟨b, Option.some.inj h3⟩
        obtain ⟨p1, p2, p3, p4, p5⟩ := box_of_row HO1.out (es_length _)
        have HP1 := hide p1
        have HP2 := hide (And.intro p4 p5)
        have HP3 := hide p2
        clear p1 p4 p5 p2
        have eg : ∀ (args : Array Value) (w : World), (callFunc 50 args).run Try.prog w = .ok (.enter 50 args) w := enters_of Try.func50 (by kernel_rfl) rfl
        go_wp2_with fail
        refine (sort49 50 k cc0 gone _ eg (fun x y w hx hy => order50 x y w hx hy) (by omega) HP1.out (fun x hx => (HH.out.2.1 x (HIN.out x hx)).m)).mono ?_
        rintro e w2 ⟨rfl, l', hp, hso, hb2, G2⟩
        have el := sorted_eq HH.out.2.2.2 HH.out.1 HH.out.2.2.1 (hp.trans HP.out) hso
        have hl2 := hp.length_eq
        rw [el] at hb2 hl2
        have F : Hid (∃ ao c, (.slice (some ⟨k, 0, none⟩) gone.length cc0 : Value) = .slice ao s.length c ∧ Ets w2 w.heap.size ao s.length c s) := hide ⟨_, cc0, by rw [hl2], ⟨rfl, fun e => (by cases e), fun a e => ⟨k, (Option.some.inj e).symm, by have := HP3.out; omega, hb2⟩, by rw [hl2]; exact HP2.out.1, HP2.out.2⟩⟩
        have HB2 := hide (below_grown HB1.out G2 (by have := HP3.out; omega) HB1.out.size)
        clear hp hso hb2 G2 el hl2 eg
        go_wp2
        go_ret
        obtain ⟨ao, c, e1, e2⟩ := F.out
        exact ⟨ao, c, congrArg Ending.returned e1, e2, HB2.out⟩
    · intro x w2 hx R2 hlt hm g2 z2 hen
      have HM := hide hm
      have HX := hide hx
      have hgl : gone.length ≤ 50000 := by omega
      have B2 : Hid (Below w.heap.size w w2) := hide (below_grown HB1.out g2 (Nat.le_refl _) HB1.out.size)
      have O2 : Hid (w2.ownsRow (w.heap.size + 1) 36 10 (.slice ao0 gone.length cc0) gone.length (es gone)) := hide (HO1.out.kept g2 (by
        rcases HO1.out.2 with ⟨h, _⟩ | ⟨q, _, _, h, hq, _⟩
        · rw [h]; exact Or.inl rfl
        · rw [h]
          refine Or.inr (fun e => ?_)
          have := Option.some.inj e
          simp at this
          omega))
      have Z2 : Hid (w.heap.size + 1 ≤ w2.heap.size) := hide (by have := HZ1.out; omega)
      have HR2 := hide R2
      clear hm hx g2 z2 R2 R1 HB1 HO1 HZ1
      have tk1 : True := trivial
      have tk2 : True := trivial
      have tk3 : True := trivial
      have tk4 : True := trivial
      go_wp2_with (first | (have _t := tk2; refine wpl_putE x zE (.tmp 5) (.tmp 11) rfl (box_e _ zE) ?_ rfl rfl ?_; rfl; clear tk2))
      intro w3 X3 G3
      have C3 : Hid (Below w2.heap.size w2 w3) := hide (below_grown (below_alloc w2 (.cells (EC zE) 36)) G3 (Nat.le_refl _) (by simp))
      have A3 := X3.at_
      have O3 := hide (row_on O2.out C3.out)
      have O4 := hide (O3.out.alloc (.cells (EC x) 36))
      have M4 := hide (ers_one w3 x)
      have Z4 : Hid (w.heap.size + 1 ≤ (w3.alloc (.cells (EC x) 36)).heap.size) := hide (by have := C3.out.size; have := Z2.out; simp; omega)
      have C4 : Hid (Below w2.heap.size w2 (w3.alloc (.cells (EC x) 36))) := hide (C3.out.alloc C3.out.size _)
      clear X3 G3 hen
      go_wp2_with (first | (have _t := tk1; refine wpl_ent (.tmp 5) rfl A3 ?_ ?_ ?_; rfl; rfl; clear tk1) | (have _t := tk3; refine wpl_bs rfl (.tmp 13) x rfl rfl ?_; clear tk3) | (have _t := tk4; at_builtin; refine wpl_eapp rfl rfl (.tmp 12) (.tmp 14) rfl (w.heap.size + 1) _ _ _ rfl O4.out _ 1 1 _ rfl M4.out (by omega) Z4.out ?_; clear tk4))
      intro v6 w6 O6 G6
      have C6 : Hid (Below (w.heap.size + 1) w2 w6) := hide ((C4.out.mono Z2.out).grown G6 (by have := Z4.out; omega) (fun r hr => (O4.out.lt r hr).1))
      have R6 := HR2.out.below C6.out (by omega) (by omega)
      have HR6 := hide R6.1
      have HL6 := hide R6.2
      have O7 : Hid (w6.ownsRow (w.heap.size + 1) 36 10 v6 (gone ++ [x]).length (es (gone ++ [x]))) := hide (by rw [List.length_append]; exact O6)
      have B6 : Hid (Below w.heap.size w w6) := hide (B2.out.trans (C6.out.mono (Nat.le_succ _)))
      clear O6 G6 O4 M4 C4 C3 O3 A3 R6
      go_wp2
      go_roundw
      case rel => exact ⟨gone ++ [x], HR6.out, fun z hz => by rcases List.mem_append.1 hz with h | h; exact HIN.out z h; rw [List.mem_singleton.1 h]; exact HX.out, O7.out, B6.out, Nat.le_trans Z2.out C6.out.size⟩
      case measure => rw [HL6.out]; exact HM.out
end Go.Proofs.Ytjlmheecefobaaa
