/- Contract of those. -/
import Derived.Test.YtjlmheecefobaaaD2
import Derived.Test.YtjlmheecefobaaaD1b
import Derived.Test.YtjlmheecefobaaaM3
import Derived.Test.YtjlmheecefobaaaD3
import Derived.Test.YtjlmheecefobaaaB4
import Derived.Shelf.SlSortCmp.NoneTotal
namespace Go.Proofs.Ytjlmheecefobaaa
open Go.RowKit Go.PlainAid

theorem up2 {N : Nat} {w0 wr w2 : World} {o : Obj} (hB : Below N w0 wr) (hg : (wr.alloc o).grownBy w2 (some wr.heap.size)) (hN : N ≤ w0.heap.size := by simp) : Below N w0 w2 := by
  have h1 := hB.size
  have h2 : Below N w0 (wr.alloc o) := hB.alloc (by omega) o
  exact below_grown h2 hg (by omega) (by simp; omega)
/-- A function that tells of each entry; S: what it wants of the world. -/
structure Wh (S : World → Prop) (fn : Nat) (cb : Array Value) (f : En → Bool) : Prop where
  run : ∀ (x : En) (w : World), S w → Calls Try.prog fn (#[.agg (EC x)] ++ cb) w fun e w' => e = .returned (.bool (f x)) ∧ Below w.heap.size w w'
  on : ∀ (w w' : World), S w → Below w.heap.size w w' → S w'
  grow : ∀ (w w1 w2 : World) (v : Value) (n : Nat) (xs : List Value), S w1 → w1.ownsRow w.heap.size 36 10 v n xs → w1.grownBy w2 v.ownBlock → S w → w.heap.size ≤ w1.heap.size → S w2
set_option maxRecDepth 100000 in
set_option maxHeartbeats 4000000 in
theorem those37a (h : Nat) (ps : List En) (T : Tb) (fn : Nat) {S : World → Prop} (f : En → Bool) (w : World) (H : PT w h ps T) (hw : Wh S fn #[] f) (hS : S w) (he : ∀ (args : Array Value) (w : World), (callFunc fn args).run Try.prog w = .ok (.enter fn args) w) :
    Calls Try.prog 37 #[.pointer (some ⟨h + 1, 0, none⟩), .func (.func fn) #[] #[]] w fun e w' => ∃ ao c, e = .returned (.slice ao (T.l.filter f).length c) ∧ Ets w' w.heap.size ao (T.l.filter f).length c (T.l.filter f) ∧ Below w.heap.size w w' := by
  have n1 := H.wf.n1
  have n2 := H.wf.n2
  have c0 := H.bx.cell 0 _ rfl
  have hlen := H.rp.len
  have HH := hide H
  have HS := hide hS
  have HW := hide hw
  have hlt := H.lt
  clear H hS hw
  go_enter Try.func37, Try.ntmps37
  go_wp2
  clear c0
  go_loopw [5, 7, 13] (fun lv _ i wr => ∃ k : Nat, k ≤ 2 * T.n ∧ i = .int .i64 k ∧ wr.ownsRow w.heap.size 36 10 lv ((ps.take k).filter (fun x => !fre x && f x)).length (es ((ps.take k).filter (fun x => !fre x && f x))) ∧ S wr ∧ Below w.heap.size w wr) (fun _ _ i _ => 2 * T.n - (intOf i).toNat)
  case atStart => exact ⟨0, Nat.zero_le _, rfl, World.ownsRow_nil _ _ _ _, HS.out, Below.refl _ _⟩
  case round =>
    obtain ⟨k, hk, rfl, O, S1, B1⟩ := hrel
    obtain ⟨ao0, cc0, hlv⟩ := own_form O
    by_cases hkl : k < 2 * T.n
    · have P1 := HH.out.on B1
      obtain ⟨x, hx, A1⟩ := P1.get hkl
      have hk2 : (k : Int) < 2 * (T.n : Int) := by omega
      have e1 : IntKind.i64.wrap ((k : Int) + 1) = (k : Int) + 1 := IntWalk.i64_in _ (by omega)
      have HO := hide O
      have HS1 := hide S1
      have HB1 := hide B1
      have htk : ps.take (k + 1) = ps.take k ++ [x] := by
        obtain ⟨h1, h2⟩ := List.getElem?_eq_some_iff.1 hx
        rw [List.take_add_one, hx]; rfl
      have hF : Hid ((ps.take (k + 1)).filter (fun x => !fre x && f x) = (ps.take k).filter (fun x => !fre x && f x) ++ (if !fre x && f x then [x] else [])) := hide (by
        rw [htk, List.filter_append]
        congr 1
        rw [List.filter_cons]
        split <;> simp_all)
      have hql : Hid (((ps.take k).filter (fun x => !fre x && f x)).length ≤ 2048) := hide (Nat.le_trans (List.length_filter_le _ _) (by rw [List.length_take]; omega))
      clear O S1 B1 P1 htk hx
      subst hlv
      have q2 := fun w => free43 x w
      have q3 := fun w hS => HW.out.run x w hS
      have tk1 : True := trivial
      have tk2 : True := trivial
      have tk3 : True := trivial
      have tk4 : True := trivial
      go_wp2_with (first | (have _t := tk1; refine wpl_ent (.tmp 15) rfl A1 ?_ ?_ ?_; rfl; rfl; clear tk1) | (have _t := tk2; refine wpl_putE x zE (.tmp 7) (.tmp 16) rfl (box_e _ zE) ?_ rfl rfl ?_; rfl; clear tk2))
      intro w2 X2 G2
      have B2 := hide (up2 HB1.out G2)
      have S2 := hide (HW.out.on _ _ HS1.out (up2 (Below.refl _ _) G2))
      have O2 := hide (row_on HO.out (up2 (Below.refl _ _) G2))
      have X3 := X2.at_
      have HX2 := hide X2
      clear G2 X2 HB1 HS1 HO A1
      go_wp2_with (first | (have _t := tk3; refine wpl_ent (.tmp 7) rfl X3 ?_ ?_ ?_; rfl; rfl; clear tk3))
      refine (q2 _).mono ?_
      rintro e w3 ⟨rfl, hb⟩
      have B3 := hide (below_more B2.out hb B2.out.size)
      have S3 := hide (HW.out.on _ _ S2.out hb)
      have O3 := hide (row_on O2.out hb)
      have HX3 := hide (HX2.out.on hb)
      have X4 := HX3.out.at_
      clear hb B2 S2 O2 HX2 X3 q2
      rcases Bool.eq_false_or_eq_true (fre x) with hfr | hfr
      · rw [hfr]
        have hF2 := hF.out
        rw [hfr] at hF2
        simp only [Bool.not_true, Bool.false_and, Bool.false_eq_true, if_false, List.append_nil] at hF2
        have HF2 := hide hF2
        clear hF2 hF
        go_wp2
        go_roundw
        case rel => exact ⟨k + 1, by omega, by go_num, by rw [HF2.out]; exact O3.out, S3.out, B3.out⟩
        case measure => simp [intOf]; omega
      · rw [hfr]
        have hF2 := hF.out
        rw [hfr] at hF2
        simp only [Bool.not_false, Bool.true_and] at hF2
        have HF2 := hide hF2
        clear hF2 hF
        go_wp2_with (first | (have _t := tk4; refine wpl_ent (.tmp 7) rfl X4 ?_ ?_ ?_; rfl; rfl; clear tk4))
        refine (q3 _ S3.out).mono ?_
        rintro e w4 ⟨rfl, hb⟩
        have B4 := hide (below_more B3.out hb B3.out.size)
        have S4 := hide (HW.out.on _ _ S3.out hb)
        have O4 := hide (row_on O3.out hb)
        have HX4 := hide (HX3.out.on hb)
        have X5 := HX4.out.at_
        clear hb B3 S3 O3 HX3 X4 q3
        rcases Bool.eq_false_or_eq_true (f x) with hfx | hfx
        · rw [hfx]
          have hF2 := HF2.out
          rw [hfx, if_pos rfl] at hF2
          have HF3 := hide hF2
          clear hF2 HF2
          have O5 := hide (O4.out.alloc (.cells (EC x) 36))
          have M5 : Hid (Ers (w4.alloc (.cells (EC x) 36)) (some ⟨w4.heap.size, 0, none⟩) 1 1 [x]) := hide ⟨rfl, fun e => (by cases e), fun a e j u hj => by
            obtain rfl := Option.some.inj e
            rw [Addr.add_lit, Nat.zero_add, World.cell?_alloc_at _ _ _ _ rfl]
            have hj' : (ecl x ++ [])[j]? = some u := hj
            rw [List.append_nil] at hj'
            show (ecl x).toArray[j]? = some u
            rw [List.getElem?_toArray]
            exact hj'⟩
          have hs5 : Hid (w.heap.size ≤ (w4.alloc (.cells (EC x) 36)).heap.size) := hide (by have := B4.out.size; simp; omega)
          have tk5 : True := trivial
          have tk6 : True := trivial
          have tk7 : True := trivial
          go_wp2_with (first | (have _t := tk5; refine wpl_ent (.tmp 7) rfl X5 ?_ ?_ ?_; rfl; rfl; clear tk5) | (have _t := tk7; refine wpl_bs rfl (.tmp 26) x rfl rfl ?_; clear tk7) | (have _t := tk6; at_builtin; refine wpl_eapp rfl rfl (.tmp 25) (.tmp 27) rfl w.heap.size _ _ _ rfl O5.out _ 1 1 _ rfl M5.out (by have := hql.out; omega) hs5.out ?_; clear tk6))
          intro v6 w6 O6 G6
          have B6 := hide ((below_more B4.out (below_alloc w4 (.cells (EC x) 36)) B4.out.size).grown G6 hs5.out (fun r hr => (O5.out.lt r hr).1))
          have S6 := hide (HW.out.grow _ _ _ _ _ _ (HW.out.on _ _ S4.out (below_alloc w4 (.cells (EC x) 36))) O5.out G6 HS.out hs5.out)
          have O7 : Hid (w6.ownsRow w.heap.size 36 10 v6 ((ps.take (k + 1)).filter (fun x => !fre x && f x)).length (es ((ps.take (k + 1)).filter (fun x => !fre x && f x)))) := hide (by rw [HF3.out, List.length_append]; exact O6)
          clear O6 G6 O5 M5 B4 S4 O4 HF3
          go_wp2
          go_roundw
          case rel => exact ⟨k + 1, by omega, by go_num, O7.out, S6.out, B6.out⟩
          case measure => simp [intOf]; omega
        · rw [hfx]
          have hF2 := HF2.out
          rw [hfx] at hF2
          simp only [Bool.false_eq_true, if_false, List.append_nil] at hF2
          have HF3 := hide hF2
          clear hF2 HF2
          go_wp2
          go_roundw
          case rel => exact ⟨k + 1, by omega, by go_num, by rw [HF3.out]; exact O4.out, S4.out, B4.out⟩
          case measure => simp [intOf]; omega
    · have hk2 : ¬ (k : Int) < 2 * (T.n : Int) := by omega
      have hall : ps.take k = ps := List.take_of_length_le (by omega)
      rw [hall] at O hlv
      have HO := hide O
      have HB1 := hide B1
      clear S1 B1 hall O
      subst hlv
      have hlq : ((ps.filter (fun x => !fre x && f x)).length : Int) ≤ 2048 := by
        have := List.length_filter_le (fun x => !fre x && f x) ps
        omega
      cases ao0 with
      | none =>
        have hl0 : (ps.filter (fun x => !fre x && f x)).length = 0 ∧ cc0 = 0 := by
          rcases HO.out.2 with ⟨h1, h2⟩ | ⟨b, cap, cur, h1, _⟩
          · injection h1 with _ _ h3
            exact ⟨h2, h3⟩
          · injection h1 with h3
            cases h3
        obtain ⟨hl1, rfl⟩ := hl0
        have hnil : ps.filter (fun x => !fre x && f x) = [] := List.eq_nil_of_length_eq_zero hl1
        have hfn : T.l.filter f = [] := (those_eq HH.out.rp HH.out.wf f (l := []) (by rw [hnil]) List.Pairwise.nil).symm
        have HFN := hide hfn
        rw [hl1]
        clear hl1 hnil hlq hfn
        go_wp2_with (first | (go_at_call 49; refine (AnyF.slices_SortFunc_none Try.sortE none 0 (.func (.func 55) #[] #[]) _).mono ?_; rintro e w' ⟨rfl, rfl⟩))
        go_ret
        rw [HFN.out]
        exact ⟨none, 0, rfl, ⟨rfl, fun _ => rfl, fun a e => (by cases e), Nat.le_refl _, Nat.zero_le _⟩, HB1.out⟩
      | some a0 =>
        obtain ⟨b, rfl⟩ : ∃ b, a0 = ⟨b, 0, none⟩ := by
          rcases HO.out.2 with ⟨h1, h2⟩ | ⟨b, cap, cur, h1, _⟩
          · cases h1
          · injection h1 with h3
            exact ⟨b, Option.some.inj h3⟩
        obtain ⟨p1, p2, p3, p4, p5⟩ := box_of_row HO.out (es_length _)
        have HP1 := hide p1
        have HP2 := hide (And.intro p4 p5)
        clear p1 p4 p5
        have eg : ∀ (args : Array Value) (w : World), (callFunc 55 args).run Try.prog w = .ok (.enter 55 args) w := enters_of Try.func55 (by kernel_rfl) rfl
        go_wp2_with fail
        refine (sort49 55 b cc0 (ps.filter (fun x => !fre x && f x)) _ eg (fun x y w hx hy => order55 x y w hx hy) (by omega) HP1.out (mok_those HH.out.rp HH.out.wf f)).mono ?_
        rintro e w2 ⟨rfl, l', hp, hs, hb2, G2⟩
        have el := those_eq HH.out.rp HH.out.wf f hp hs
        have hl2 := hp.length_eq
        rw [el] at hb2 hl2
        have F : Hid (∃ ao c, (.slice (some ⟨b, 0, none⟩) (ps.filter (fun x => !fre x && f x)).length cc0 : Value) = .slice ao (T.l.filter f).length c ∧ Ets w2 w.heap.size ao (T.l.filter f).length c (T.l.filter f)) := hide ⟨_, cc0, by rw [hl2], ⟨rfl, fun e => (by cases e), fun a e => ⟨b, (Option.some.inj e).symm, p2, hb2⟩, by rw [hl2]; exact HP2.out.1, HP2.out.2⟩⟩
        have HB2 := hide (below_grown HB1.out G2 p2 HB1.out.size)
        clear hp hs hb2 G2 el hl2
        go_wp2
        go_ret
        obtain ⟨ao, c, e1, e2⟩ := F.out
        exact ⟨ao, c, congrArg Ending.returned e1, e2, HB2.out⟩
set_option maxRecDepth 100000 in
set_option maxHeartbeats 4000000 in
theorem those37b (h : Nat) (ps : List En) (T : Tb) (fn : Nat) {S : World → Prop} (y : Value) (f : En → Bool) (w : World) (H : PT w h ps T) (hw : Wh S fn #[y] f) (hS : S w) (he : ∀ (args : Array Value) (w : World), (callFunc fn args).run Try.prog w = .ok (.enter fn args) w) :
    Calls Try.prog 37 #[.pointer (some ⟨h + 1, 0, none⟩), .func (.func fn) #[] #[y]] w fun e w' => ∃ ao c, e = .returned (.slice ao (T.l.filter f).length c) ∧ Ets w' w.heap.size ao (T.l.filter f).length c (T.l.filter f) ∧ Below w.heap.size w w' := by
  have n1 := H.wf.n1
  have n2 := H.wf.n2
  have c0 := H.bx.cell 0 _ rfl
  have hlen := H.rp.len
  have HH := hide H
  have HS := hide hS
  have HW := hide hw
  have hlt := H.lt
  clear H hS hw
  go_enter Try.func37, Try.ntmps37
  go_wp2
  clear c0
  go_loopw [5, 7, 13] (fun lv _ i wr => ∃ k : Nat, k ≤ 2 * T.n ∧ i = .int .i64 k ∧ wr.ownsRow w.heap.size 36 10 lv ((ps.take k).filter (fun x => !fre x && f x)).length (es ((ps.take k).filter (fun x => !fre x && f x))) ∧ S wr ∧ Below w.heap.size w wr) (fun _ _ i _ => 2 * T.n - (intOf i).toNat)
  case atStart => exact ⟨0, Nat.zero_le _, rfl, World.ownsRow_nil _ _ _ _, HS.out, Below.refl _ _⟩
  case round =>
    obtain ⟨k, hk, rfl, O, S1, B1⟩ := hrel
    obtain ⟨ao0, cc0, hlv⟩ := own_form O
    by_cases hkl : k < 2 * T.n
    · have P1 := HH.out.on B1
      obtain ⟨x, hx, A1⟩ := P1.get hkl
      have hk2 : (k : Int) < 2 * (T.n : Int) := by omega
      have e1 : IntKind.i64.wrap ((k : Int) + 1) = (k : Int) + 1 := IntWalk.i64_in _ (by omega)
      have HO := hide O
      have HS1 := hide S1
      have HB1 := hide B1
      have htk : ps.take (k + 1) = ps.take k ++ [x] := by
        obtain ⟨h1, h2⟩ := List.getElem?_eq_some_iff.1 hx
        rw [List.take_add_one, hx]; rfl
      have hF : Hid ((ps.take (k + 1)).filter (fun x => !fre x && f x) = (ps.take k).filter (fun x => !fre x && f x) ++ (if !fre x && f x then [x] else [])) := hide (by
        rw [htk, List.filter_append]
        congr 1
        rw [List.filter_cons]
        split <;> simp_all)
      have hql : Hid (((ps.take k).filter (fun x => !fre x && f x)).length ≤ 2048) := hide (Nat.le_trans (List.length_filter_le _ _) (by rw [List.length_take]; omega))
      clear O S1 B1 P1 htk hx
      subst hlv
      have q2 := fun w => free43 x w
      have q3 := fun w hS => HW.out.run x w hS
      have tk1 : True := trivial
      have tk2 : True := trivial
      have tk3 : True := trivial
      have tk4 : True := trivial
      go_wp2_with (first | (have _t := tk1; refine wpl_ent (.tmp 15) rfl A1 ?_ ?_ ?_; rfl; rfl; clear tk1) | (have _t := tk2; refine wpl_putE x zE (.tmp 7) (.tmp 16) rfl (box_e _ zE) ?_ rfl rfl ?_; rfl; clear tk2))
      intro w2 X2 G2
      have B2 := hide (up2 HB1.out G2)
      have S2 := hide (HW.out.on _ _ HS1.out (up2 (Below.refl _ _) G2))
      have O2 := hide (row_on HO.out (up2 (Below.refl _ _) G2))
      have X3 := X2.at_
      have HX2 := hide X2
      clear G2 X2 HB1 HS1 HO A1
      go_wp2_with (first | (have _t := tk3; refine wpl_ent (.tmp 7) rfl X3 ?_ ?_ ?_; rfl; rfl; clear tk3))
      refine (q2 _).mono ?_
      rintro e w3 ⟨rfl, hb⟩
      have B3 := hide (below_more B2.out hb B2.out.size)
      have S3 := hide (HW.out.on _ _ S2.out hb)
      have O3 := hide (row_on O2.out hb)
      have HX3 := hide (HX2.out.on hb)
      have X4 := HX3.out.at_
      clear hb B2 S2 O2 HX2 X3 q2
      rcases Bool.eq_false_or_eq_true (fre x) with hfr | hfr
      · rw [hfr]
        have hF2 := hF.out
        rw [hfr] at hF2
        simp only [Bool.not_true, Bool.false_and, Bool.false_eq_true, if_false, List.append_nil] at hF2
        have HF2 := hide hF2
        clear hF2 hF
        go_wp2
        go_roundw
        case rel => exact ⟨k + 1, by omega, by go_num, by rw [HF2.out]; exact O3.out, S3.out, B3.out⟩
        case measure => simp [intOf]; omega
      · rw [hfr]
        have hF2 := hF.out
        rw [hfr] at hF2
        simp only [Bool.not_false, Bool.true_and] at hF2
        have HF2 := hide hF2
        clear hF2 hF
        go_wp2_with (first | (have _t := tk4; refine wpl_ent (.tmp 7) rfl X4 ?_ ?_ ?_; rfl; rfl; clear tk4))
        refine (q3 _ S3.out).mono ?_
        rintro e w4 ⟨rfl, hb⟩
        have B4 := hide (below_more B3.out hb B3.out.size)
        have S4 := hide (HW.out.on _ _ S3.out hb)
        have O4 := hide (row_on O3.out hb)
        have HX4 := hide (HX3.out.on hb)
        have X5 := HX4.out.at_
        clear hb B3 S3 O3 HX3 X4 q3
        rcases Bool.eq_false_or_eq_true (f x) with hfx | hfx
        · rw [hfx]
          have hF2 := HF2.out
          rw [hfx, if_pos rfl] at hF2
          have HF3 := hide hF2
          clear hF2 HF2
          have O5 := hide (O4.out.alloc (.cells (EC x) 36))
          have M5 : Hid (Ers (w4.alloc (.cells (EC x) 36)) (some ⟨w4.heap.size, 0, none⟩) 1 1 [x]) := hide ⟨rfl, fun e => (by cases e), fun a e j u hj => by
            obtain rfl := Option.some.inj e
            rw [Addr.add_lit, Nat.zero_add, World.cell?_alloc_at _ _ _ _ rfl]
            have hj' : (ecl x ++ [])[j]? = some u := hj
            rw [List.append_nil] at hj'
            show (ecl x).toArray[j]? = some u
            rw [List.getElem?_toArray]
            exact hj'⟩
          have hs5 : Hid (w.heap.size ≤ (w4.alloc (.cells (EC x) 36)).heap.size) := hide (by have := B4.out.size; simp; omega)
          have tk5 : True := trivial
          have tk6 : True := trivial
          have tk7 : True := trivial
          go_wp2_with (first | (have _t := tk5; refine wpl_ent (.tmp 7) rfl X5 ?_ ?_ ?_; rfl; rfl; clear tk5) | (have _t := tk7; refine wpl_bs rfl (.tmp 26) x rfl rfl ?_; clear tk7) | (have _t := tk6; at_builtin; refine wpl_eapp rfl rfl (.tmp 25) (.tmp 27) rfl w.heap.size _ _ _ rfl O5.out _ 1 1 _ rfl M5.out (by have := hql.out; omega) hs5.out ?_; clear tk6))
          intro v6 w6 O6 G6
          have B6 := hide ((below_more B4.out (below_alloc w4 (.cells (EC x) 36)) B4.out.size).grown G6 hs5.out (fun r hr => (O5.out.lt r hr).1))
          have S6 := hide (HW.out.grow _ _ _ _ _ _ (HW.out.on _ _ S4.out (below_alloc w4 (.cells (EC x) 36))) O5.out G6 HS.out hs5.out)
          have O7 : Hid (w6.ownsRow w.heap.size 36 10 v6 ((ps.take (k + 1)).filter (fun x => !fre x && f x)).length (es ((ps.take (k + 1)).filter (fun x => !fre x && f x)))) := hide (by rw [HF3.out, List.length_append]; exact O6)
          clear O6 G6 O5 M5 B4 S4 O4 HF3
          go_wp2
          go_roundw
          case rel => exact ⟨k + 1, by omega, by go_num, O7.out, S6.out, B6.out⟩
          case measure => simp [intOf]; omega
        · rw [hfx]
          have hF2 := HF2.out
          rw [hfx] at hF2
          simp only [Bool.false_eq_true, if_false, List.append_nil] at hF2
          have HF3 := hide hF2
          clear hF2 HF2
          go_wp2
          go_roundw
          case rel => exact ⟨k + 1, by omega, by go_num, by rw [HF3.out]; exact O4.out, S4.out, B4.out⟩
          case measure => simp [intOf]; omega
    · have hk2 : ¬ (k : Int) < 2 * (T.n : Int) := by omega
      have hall : ps.take k = ps := List.take_of_length_le (by omega)
      rw [hall] at O hlv
      have HO := hide O
      have HB1 := hide B1
      clear S1 B1 hall O
      subst hlv
      have hlq : ((ps.filter (fun x => !fre x && f x)).length : Int) ≤ 2048 := by
        have := List.length_filter_le (fun x => !fre x && f x) ps
        omega
      cases ao0 with
      | none =>
        have hl0 : (ps.filter (fun x => !fre x && f x)).length = 0 ∧ cc0 = 0 := by
          rcases HO.out.2 with ⟨h1, h2⟩ | ⟨b, cap, cur, h1, _⟩
          · injection h1 with _ _ h3
            exact ⟨h2, h3⟩
          · injection h1 with h3
            cases h3
        obtain ⟨hl1, rfl⟩ := hl0
        have hnil : ps.filter (fun x => !fre x && f x) = [] := List.eq_nil_of_length_eq_zero hl1
        have hfn : T.l.filter f = [] := (those_eq HH.out.rp HH.out.wf f (l := []) (by rw [hnil]) List.Pairwise.nil).symm
        have HFN := hide hfn
        rw [hl1]
        clear hl1 hnil hlq hfn
        go_wp2_with (first | (go_at_call 49; refine (AnyF.slices_SortFunc_none Try.sortE none 0 (.func (.func 55) #[] #[]) _).mono ?_; rintro e w' ⟨rfl, rfl⟩))
        go_ret
        rw [HFN.out]
        exact ⟨none, 0, rfl, ⟨rfl, fun _ => rfl, fun a e => (by cases e), Nat.le_refl _, Nat.zero_le _⟩, HB1.out⟩
      | some a0 =>
        obtain ⟨b, rfl⟩ : ∃ b, a0 = ⟨b, 0, none⟩ := by
          rcases HO.out.2 with ⟨h1, h2⟩ | ⟨b, cap, cur, h1, _⟩
          · cases h1
          · injection h1 with h3
            exact ⟨b, Option.some.inj h3⟩
        obtain ⟨p1, p2, p3, p4, p5⟩ := box_of_row HO.out (es_length _)
        have HP1 := hide p1
        have HP2 := hide (And.intro p4 p5)
        clear p1 p4 p5
        have eg : ∀ (args : Array Value) (w : World), (callFunc 55 args).run Try.prog w = .ok (.enter 55 args) w := enters_of Try.func55 (by kernel_rfl) rfl
        go_wp2_with fail
        refine (sort49 55 b cc0 (ps.filter (fun x => !fre x && f x)) _ eg (fun x y w hx hy => order55 x y w hx hy) (by omega) HP1.out (mok_those HH.out.rp HH.out.wf f)).mono ?_
        rintro e w2 ⟨rfl, l', hp, hs, hb2, G2⟩
        have el := those_eq HH.out.rp HH.out.wf f hp hs
        have hl2 := hp.length_eq
        rw [el] at hb2 hl2
        have F : Hid (∃ ao c, (.slice (some ⟨b, 0, none⟩) (ps.filter (fun x => !fre x && f x)).length cc0 : Value) = .slice ao (T.l.filter f).length c ∧ Ets w2 w.heap.size ao (T.l.filter f).length c (T.l.filter f)) := hide ⟨_, cc0, by rw [hl2], ⟨rfl, fun e => (by cases e), fun a e => ⟨b, (Option.some.inj e).symm, p2, hb2⟩, by rw [hl2]; exact HP2.out.1, HP2.out.2⟩⟩
        have HB2 := hide (below_grown HB1.out G2 p2 HB1.out.size)
        clear hp hs hb2 G2 el hl2
        go_wp2
        go_ret
        obtain ⟨ao, c, e1, e2⟩ := F.out
        exact ⟨ao, c, congrArg Ending.returned e1, e2, HB2.out⟩
end Go.Proofs.Ytjlmheecefobaaa
