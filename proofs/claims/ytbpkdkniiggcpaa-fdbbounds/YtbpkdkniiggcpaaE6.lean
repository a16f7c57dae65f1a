/- Contracts of the document's forget. -/
import Derived.Test.YtbpkdkniiggcpaaE5
import Derived.Maps.AppendAt
namespace Go.Proofs.Ytbpkdkniiggcpaa
open Go.RowKit Go.PlainAid

/-- Two rows of unlike blocks. -/
def Dj (a b : Value) : Prop := ∀ r, a.ownBlock = some r → b.ownBlock ≠ some r
theorem Dj.symm {a b : Value} (h : Dj a b) : Dj b a := fun r h1 h2 => h r h2 h1
theorem Dj.or {a b : Value} (h : Dj a b) : a.ownBlock = none ∨ a.ownBlock ≠ b.ownBlock := by
  cases ha : a.ownBlock with
  | none => exact Or.inl rfl
  | some r => exact Or.inr (fun e => h r ha e.symm)
theorem Dj.right {a b b' : Value} {n : Nat} (h : Dj a b) (h1 : b'.ownBlock = b.ownBlock ∨ b'.ownBlock = some n) (h2 : ∀ r, a.ownBlock = some r → r < n) : Dj a b' := fun r hr e => by
  rcases h1 with h1 | h1
  · exact h r hr (h1 ▸ e)
  · rw [h1] at e
    have := Option.some.inj e
    have := h2 r hr
    omega
theorem wpl_eapp2 {ops : Array Oper} {rest : List Oper} {o : Oper} {a : Act} {w : World} {Q : Exit → Act → World → Prop} (hgd : o.guard = none) (hty : o.type = 37) (s x : Operand)
    (ho : o.op = .call { callee := .builtin .append, args := #[s, x], argTypes := #[37, 37] })
    (base : Nat) (v : Value) (n : Nat) (xs : List En) (hs : a.eval s = v) (hown : w.ownsRow base 33 10 v n (es xs)) (ad : Addr) (m c : Nat) (ns : List En) (hx : a.eval x = .slice (some ad) m c) (hB : Ers w (some ad) m c ns)
    (h1 : n + m ≤ 100000) (hbase : base ≤ w.heap.size)
    (h : ∀ v' w', w'.ownsRow base 33 10 v' (n + m) (es (xs ++ ns)) → w.grownBy w' v.ownBlock → (v'.ownBlock = v.ownBlock ∨ v'.ownBlock = some w.heap.size) → wpList Try.prog ops Q rest (a.put o.dst v') w') : wpList Try.prog ops Q (o :: rest) a w := by
  obtain ⟨i0, hi, hz0, hz1, hz2⟩ := info_parts Try.info33
  obtain ⟨v', w', hr, h3, h4, -, h5⟩ := run_append_own_at w base 37 37 33 i0 _ 10 40 Try.underlying37 hi hz0 hz1 hz2 rfl (by decide) v n (es xs) hown ad m c (es ns) (by rw [es_length, hB.len]) (hB.src ad rfl) (one_es ns) (by unfold maxLen; omega) (by omega) hbase
  have hk := h v' w' (by rw [es_append]; exact h3) h4 h5
  refine wpList_plain hgd fun K hK => ?_
  unfold Oper.wp execOp
  simp only [ho, hty, resolve, invoke, builtin, Sem.run_bind, Sem.run_pure, Result.andThen_ok, List.map_toArray, List.map_cons, List.map_nil, hs, hx, hr]
  exact hK _ _ hk
theorem gT_wf {T : Tb} (H : Wf T) (f : En → Bool) : Wf (gT T f) := ⟨H.n1, H.n2, Nat.le_trans (List.length_filter_le _ _) H.le, H.srt.filter _, fun x hx => H.gd x (List.mem_filter.1 hx).1⟩
theorem fin58 {w wr : World} {g : Nat} {lv kv gv : Value} {T : Tb} {f : En → Bool} (H : RT w g lv T) (HW : Wf (gT T f)) (B : Below w.heap.size w wr) (K : wr.ownsRow w.heap.size 33 10 kv (T.l.filter (fun x => !gof f x)).length (es (T.l.filter (fun x => !gof f x)))) (G : wr.ownsRow w.heap.size 33 10 gv (gG T f).length (es (gG T f))) :
    ∃ ao c, gv = .slice ao (gG T f).length c ∧ Ets (wr.setCell ⟨g, 1, none⟩ kv) w.heap.size ao (gG T f).length c (gG T f) ∧ (∃ lv', RT (wr.setCell ⟨g, 1, none⟩ kv) g lv' (gT T f)) ∧ Mid g (g + 1) w (wr.setCell ⟨g, 1, none⟩ kv) := by
  have hl := H.lt
  obtain ⟨r1, -⟩ := H.fresh (T' := gT T f) (B.mono hl) rfl HW (rowMono hl K)
  have g1 := setCell_grown wr g 1 kv
  have G2 : (wr.setCell ⟨g, 1, none⟩ kv).ownsRow w.heap.size 33 10 gv (gG T f).length (es (gG T f)) := World.ownsRow.kept G g1 (by
    cases hb : gv.ownBlock with
    | none => exact Or.inl rfl
    | some r =>
      refine Or.inr (fun e => ?_)
      have := (G.lt r hb).1
      have := Option.some.inj e
      omega)
  obtain ⟨ao, c, e, E⟩ := row_ets G2
  exact ⟨ao, c, e, E, ⟨_, r1⟩, Mid.grown ⟨B.os, B.tape, B.output, B.size, fun i hi _ => B.block i hi⟩ g1 (Or.inr ⟨Nat.le_refl _, Nat.lt_succ_self _⟩)⟩
set_option maxRecDepth 100000 in
set_option maxHeartbeats 4000000 in
theorem forget58_0 (g : Nat) (lv : Value) (T : Tb) (a b : Int) (w : World) (H : RT w g lv T) (hr : aOk a b = true) :
    Calls Try.prog 58 #[.pointer (some ⟨g, 0, none⟩), .int .i64 0, .int .i64 a, .int .i64 b] w fun e w' => ∃ ao c, e = .returned (.slice ao (gG T (gA a b)).length c) ∧ Ets w' w.heap.size ao (gG T (gA a b)).length c (gG T (gA a b)) ∧ (∃ lv', RT w' g lv' (gT T (gA a b))) ∧ Mid g (g + 1) w w' := by
  have hlt := H.lt
  have n2 := H.wf.n2
  have hle := H.wf.le
  have e2 : IntKind.i64.wrap (a - b) = a - b := by
    rw [aOk, Bool.and_eq_true, isT_iff, isT_iff] at hr
    exact IntWalk.i64_in _ (by omega)
  have HH := hide H
  have HWF := hide (gT_wf H.wf (gA a b))
  clear H
  have GG : Hid (∀ wr kv gv, Below w.heap.size w wr → wr.ownsRow w.heap.size 33 10 kv (T.l.filter (fun x => !gof (gA a b) x)).length (es (T.l.filter (fun x => !gof (gA a b) x))) → wr.ownsRow w.heap.size 33 10 gv (gG T (gA a b)).length (es (gG T (gA a b))) → ∃ ao c, gv = .slice ao (gG T (gA a b)).length c ∧ Ets (wr.setCell ⟨g, 1, none⟩ kv) w.heap.size ao (gG T (gA a b)).length c (gG T (gA a b)) ∧ (∃ lv', RT (wr.setCell ⟨g, 1, none⟩ kv) g lv' (gT T (gA a b))) ∧ Mid g (g + 1) w (wr.setCell ⟨g, 1, none⟩ kv)) := hide (fun wr kv gv B K G => fin58 HH.out HWF.out B K G)
  go_enter Try.func58, Try.ntmps58
  go_wp2
  go_loopw [9, 10, 11, 12, 13] (fun kv gv i _ _ wr => ∃ k : Nat, k ≤ T.l.length ∧ i = .int .i64 k ∧ wr.ownsRow w.heap.size 33 10 kv ((T.l.take k).filter (fun x => !gof (gA a b) x)).length (es ((T.l.take k).filter (fun x => !gof (gA a b) x))) ∧ wr.ownsRow w.heap.size 33 10 gv ((T.l.take k).filter (gof (gA a b))).length (es ((T.l.take k).filter (gof (gA a b)))) ∧ Dj kv gv ∧ Below w.heap.size w wr) (fun _ _ i _ _ _ => T.l.length - (intOf i).toNat)
  case atStart => exact ⟨0, Nat.zero_le _, rfl, World.ownsRow_nil _ _ _ _, World.ownsRow_nil _ _ _ _, (fun r h => by cases h), Below.refl _ _⟩
  case round =>
    obtain ⟨k, hk, rfl, K, G, D, B⟩ := hrel
    obtain ⟨ak, ck, rfl⟩ := own_form K
    obtain ⟨ag, cg, rfl⟩ := own_form G
    have H1 := HH.out.on B
    have c1 := H1.bx.cell 1 _ rfl
    have hBs := B.size
    by_cases hkl : k < T.l.length
    · obtain ⟨x, hx⟩ : ∃ x, T.l[k]? = some x := ⟨_, List.getElem?_eq_getElem hkl⟩
      rcases H1.at with ⟨_, hl⟩ | ⟨bb, cap, rfl, hgb, hbl, hn, hmx, hbx⟩
      · rw [hl] at hkl; simp at hkl
      · have A1 := hbx.ent hx
        have hk2 : (k : Int) < T.l.length := by omega
        have e1 : IntKind.i64.wrap ((k : Int) + 1) = (k : Int) + 1 := IntWalk.i64_in _ (by omega)
        have htk : T.l.take (k + 1) = T.l.take k ++ [x] := by rw [List.take_add_one, hx]; rfl
        have hFK : Hid ((T.l.take (k + 1)).filter (fun x => !gof (gA a b) x) = (T.l.take k).filter (fun x => !gof (gA a b) x) ++ (if gof (gA a b) x then [] else [x])) := hide (by rw [htk, List.filter_append]; congr 1; rw [List.filter_cons]; cases gof (gA a b) x <;> simp)
        have hFG : Hid ((T.l.take (k + 1)).filter (gof (gA a b)) = (T.l.take k).filter (gof (gA a b)) ++ (if gof (gA a b) x then [x] else [])) := hide (by rw [htk, List.filter_append]; congr 1; rw [List.filter_cons]; cases gof (gA a b) x <;> simp)
        have hKl : Hid (((T.l.take k).filter (fun x => !gof (gA a b) x)).length ≤ 1024) := hide (Nat.le_trans (List.length_filter_le _ _) (by rw [List.length_take]; omega))
        have hGl : Hid (((T.l.take k).filter (gof (gA a b))).length ≤ 1024) := hide (Nat.le_trans (List.length_filter_le _ _) (by rw [List.length_take]; omega))
        have HK := hide K
        have HG := hide G
        have HD := hide D
        have HB := hide B
        have HGO : Hid (gof (gA a b) x = (!x.s && (gA a b) x)) := hide rfl
        unfold maxLen at hmx
        clear K G D B H1 htk hx hbx
        have tk1 : True := trivial
        have tk2 : True := trivial
        go_wp2_with (first | (have _t := tk1; refine wpl_ent (.tmp 28) rfl A1 ?_ ?_ ?_; rfl; rfl; clear tk1) | (have _t := tk2; refine wpl_putE x zE (.tmp 12) (.tmp 29) rfl (box_e _ zE) ?_ rfl rfl ?_; rfl; clear tk2))
        intro w2 X2 G2
        have B2a := up2 (Below.refl wr.heap.size wr) G2 (Nat.le_refl _)
        have K2 := hide (row_on HK.out B2a)
        have R2 := hide (row_on HG.out B2a)
        have B2 := hide (below_more HB.out B2a HB.out.size)
        have d8 := X2.cell 8 _ rfl
        have d9 := X2.cell 9 _ rfl
        have X3 := X2.at_
        clear G2 X2 B2a A1 HK HG HB c1
        have hs2 : Hid (w.heap.size ≤ (w2.alloc (.cells (EC x) 33)).heap.size) := hide (by have := B2.out.size; simp; omega)
        have K3 := hide (K2.out.alloc (.cells (EC x) 33))
        have R3 := hide (R2.out.alloc (.cells (EC x) 33))
        have B3 := hide (below_more B2.out (below_alloc w2 (.cells (EC x) 33)) B2.out.size)
        have M3 := hide (ersOne w2 x)
        have tk3 : True := trivial
        have tk4 : True := trivial
        have tk5 : True := trivial
        rcases Bool.eq_false_or_eq_true (gof (gA a b) x) with hg | hg
        · have hF1 := hFK.out
          have hF2 := hFG.out
          rw [hg, if_pos rfl, List.append_nil] at hF1
          rw [hg, if_pos rfl] at hF2
          have HF1 := hide hF1
          have HF2 := hide hF2
          rw [HGO.out, Bool.and_eq_true, Bool.not_eq_true'] at hg
          obtain ⟨hg1, hg2⟩ := hg
          rw [hg1] at d9
          unfold gA at hg2
          clear hF1 hF2 hFK hFG HGO hg1
          go_wp2_with (first | (have _t := tk3; refine wpl_ent (.tmp 12) rfl X3 ?_ ?_ ?_; rfl; rfl; clear tk3) | (have _t := tk4; refine wpl_bs rfl (.tmp 58) x rfl rfl ?_; clear tk4) | (have _t := tk5; at_builtin; refine wpl_eapp2 rfl rfl (.tmp 57) (.tmp 59) rfl w.heap.size _ _ _ rfl R3.out _ 1 1 _ rfl M3.out (by have := hGl.out; omega) hs2.out ?_; clear tk5))
          intro v4 w4 R4 G4 D4
          obtain ⟨a4, c4, rfl⟩ := own_form R4
          have K5 := hide (World.ownsRow.kept K3.out G4 (HD.out.or))
          have D5 := hide (HD.out.right D4 (fun r hr => by have := (K3.out.lt r hr).2; simpa using this))
          have B5 := hide (B3.out.grown G4 hs2.out (fun r hr => (R3.out.lt r hr).1))
          have R5 := hide R4
          clear R4 G4 D4 K3 R3 B3 M3 K2 R2 B2
          go_wp2
          go_roundw
          case rel => exact ⟨k + 1, by omega, by go_num, by rw [HF1.out]; exact K5.out, by rw [HF2.out, List.length_append]; exact R5.out, D5.out, B5.out⟩
          case measure => simp [intOf]; omega
        · have hF1 := hFK.out
          have hF2 := hFG.out
          rw [hg, if_neg (by simp)] at hF1 hF2
          rw [List.append_nil] at hF2
          have HF1 := hide hF1
          have HF2 := hide hF2
          rw [HGO.out] at hg
          clear hF1 hF2 hFK hFG HGO
          have tail : True := trivial
          rcases Bool.eq_false_or_eq_true (gA a b x) with hfx | hfx
          · have hsx : x.s = true := by rw [hfx] at hg; simpa using hg
            rw [hsx] at d9
            unfold gA at hfx
            clear hg hsx
            go_wp2_with (first | (have _t := tk3; refine wpl_ent (.tmp 12) rfl X3 ?_ ?_ ?_; rfl; rfl; clear tk3) | (have _t := tk4; refine wpl_bs rfl (.tmp 62) x rfl rfl ?_; clear tk4) | (have _t := tk5; at_builtin; refine wpl_eapp2 rfl rfl (.tmp 61) (.tmp 63) rfl w.heap.size _ _ _ rfl K3.out _ 1 1 _ rfl M3.out (by have := hKl.out; omega) hs2.out ?_; clear tk5))
            intro v4 w4 R4 G4 D4
            obtain ⟨a4, c4, rfl⟩ := own_form R4
            have R5 := hide (World.ownsRow.kept R3.out G4 (HD.out.symm.or))
            have D5 := hide ((HD.out.symm.right D4 (fun r hr => by have := (R3.out.lt r hr).2; simpa using this)).symm)
            have B5 := hide (B3.out.grown G4 hs2.out (fun r hr => (K3.out.lt r hr).1))
            have K5 := hide R4
            clear R4 G4 D4 K3 R3 B3 M3 K2 R2 B2
            go_wp2
            go_roundw
            case rel => exact ⟨k + 1, by omega, by go_num, by rw [HF1.out, List.length_append]; exact K5.out, by rw [HF2.out]; exact R5.out, D5.out, B5.out⟩
            case measure => simp [intOf]; omega
          · unfold gA at hfx
            clear hg
            go_wp2_with (first | (have _t := tk3; refine wpl_ent (.tmp 12) rfl X3 ?_ ?_ ?_; rfl; rfl; clear tk3) | (have _t := tk4; refine wpl_bs rfl (.tmp 62) x rfl rfl ?_; clear tk4) | (have _t := tk5; at_builtin; refine wpl_eapp2 rfl rfl (.tmp 61) (.tmp 63) rfl w.heap.size _ _ _ rfl K3.out _ 1 1 _ rfl M3.out (by have := hKl.out; omega) hs2.out ?_; clear tk5))
            intro v4 w4 R4 G4 D4
            obtain ⟨a4, c4, rfl⟩ := own_form R4
            have R5 := hide (World.ownsRow.kept R3.out G4 (HD.out.symm.or))
            have D5 := hide ((HD.out.symm.right D4 (fun r hr => by have := (R3.out.lt r hr).2; simpa using this)).symm)
            have B5 := hide (B3.out.grown G4 hs2.out (fun r hr => (K3.out.lt r hr).1))
            have K5 := hide R4
            clear R4 G4 D4 K3 R3 B3 M3 K2 R2 B2
            go_wp2
            go_roundw
            case rel => exact ⟨k + 1, by omega, by go_num, by rw [HF1.out, List.length_append]; exact K5.out, by rw [HF2.out]; exact R5.out, D5.out, B5.out⟩
            case measure => simp [intOf]; omega
    · have hk2 : ¬ (k : Int) < T.l.length := by omega
      have hall : T.l.take k = T.l := List.take_of_length_le (by omega)
      rw [hall] at K G
      have HALL := hide hall
      have F := hide (GG.out wr _ _ B K G)
      have c1f := H1.bx.free 1 (by simp)
      have hcl : ∃ s1 n1 c2, lv = .slice s1 n1 c2 := by
        obtain ⟨ao, c, e, _⟩ := HH.out.ers
        exact ⟨ao, _, c, e⟩
      obtain ⟨s1, n1, c2, rfl⟩ := hcl
      have hlen2 : n1 = T.l.length := by
        obtain ⟨ao, c, e, _⟩ := HH.out.ers
        injection e
      subst hlen2
      clear K G D B H1 hall
      go_wp2
      go_ret
      rw [HALL.out]
      obtain ⟨ao, c, e, r⟩ := F.out
      exact ⟨ao, c, congrArg Ending.returned e, r⟩
set_option maxRecDepth 100000 in
set_option maxHeartbeats 4000000 in
theorem forget58_1 (g : Nat) (lv : Value) (T : Tb) (a b : Int) (w : World) (H : RT w g lv T) :
    Calls Try.prog 58 #[.pointer (some ⟨g, 0, none⟩), .int .i64 1, .int .i64 a, .int .i64 b] w fun e w' => ∃ ao c, e = .returned (.slice ao (gG T (gP a)).length c) ∧ Ets w' w.heap.size ao (gG T (gP a)).length c (gG T (gP a)) ∧ (∃ lv', RT w' g lv' (gT T (gP a))) ∧ Mid g (g + 1) w w' := by
  have hlt := H.lt
  have n2 := H.wf.n2
  have hle := H.wf.le
  have HH := hide H
  have HWF := hide (gT_wf H.wf (gP a))
  clear H
  have GG : Hid (∀ wr kv gv, Below w.heap.size w wr → wr.ownsRow w.heap.size 33 10 kv (T.l.filter (fun x => !gof (gP a) x)).length (es (T.l.filter (fun x => !gof (gP a) x))) → wr.ownsRow w.heap.size 33 10 gv (gG T (gP a)).length (es (gG T (gP a))) → ∃ ao c, gv = .slice ao (gG T (gP a)).length c ∧ Ets (wr.setCell ⟨g, 1, none⟩ kv) w.heap.size ao (gG T (gP a)).length c (gG T (gP a)) ∧ (∃ lv', RT (wr.setCell ⟨g, 1, none⟩ kv) g lv' (gT T (gP a))) ∧ Mid g (g + 1) w (wr.setCell ⟨g, 1, none⟩ kv)) := hide (fun wr kv gv B K G => fin58 HH.out HWF.out B K G)
  go_enter Try.func58, Try.ntmps58
  go_wp2
  go_loopw [9, 10, 11, 12, 13] (fun kv gv i _ _ wr => ∃ k : Nat, k ≤ T.l.length ∧ i = .int .i64 k ∧ wr.ownsRow w.heap.size 33 10 kv ((T.l.take k).filter (fun x => !gof (gP a) x)).length (es ((T.l.take k).filter (fun x => !gof (gP a) x))) ∧ wr.ownsRow w.heap.size 33 10 gv ((T.l.take k).filter (gof (gP a))).length (es ((T.l.take k).filter (gof (gP a)))) ∧ Dj kv gv ∧ Below w.heap.size w wr) (fun _ _ i _ _ _ => T.l.length - (intOf i).toNat)
  case atStart => exact ⟨0, Nat.zero_le _, rfl, World.ownsRow_nil _ _ _ _, World.ownsRow_nil _ _ _ _, (fun r h => by cases h), Below.refl _ _⟩
  case round =>
    obtain ⟨k, hk, rfl, K, G, D, B⟩ := hrel
    obtain ⟨ak, ck, rfl⟩ := own_form K
    obtain ⟨ag, cg, rfl⟩ := own_form G
    have H1 := HH.out.on B
    have c1 := H1.bx.cell 1 _ rfl
    have hBs := B.size
    by_cases hkl : k < T.l.length
    · obtain ⟨x, hx⟩ : ∃ x, T.l[k]? = some x := ⟨_, List.getElem?_eq_getElem hkl⟩
      rcases H1.at with ⟨_, hl⟩ | ⟨bb, cap, rfl, hgb, hbl, hn, hmx, hbx⟩
      · rw [hl] at hkl; simp at hkl
      · have A1 := hbx.ent hx
        have hk2 : (k : Int) < T.l.length := by omega
        have e1 : IntKind.i64.wrap ((k : Int) + 1) = (k : Int) + 1 := IntWalk.i64_in _ (by omega)
        have htk : T.l.take (k + 1) = T.l.take k ++ [x] := by rw [List.take_add_one, hx]; rfl
        have hFK : Hid ((T.l.take (k + 1)).filter (fun x => !gof (gP a) x) = (T.l.take k).filter (fun x => !gof (gP a) x) ++ (if gof (gP a) x then [] else [x])) := hide (by rw [htk, List.filter_append]; congr 1; rw [List.filter_cons]; cases gof (gP a) x <;> simp)
        have hFG : Hid ((T.l.take (k + 1)).filter (gof (gP a)) = (T.l.take k).filter (gof (gP a)) ++ (if gof (gP a) x then [x] else [])) := hide (by rw [htk, List.filter_append]; congr 1; rw [List.filter_cons]; cases gof (gP a) x <;> simp)
        have hKl : Hid (((T.l.take k).filter (fun x => !gof (gP a) x)).length ≤ 1024) := hide (Nat.le_trans (List.length_filter_le _ _) (by rw [List.length_take]; omega))
        have hGl : Hid (((T.l.take k).filter (gof (gP a))).length ≤ 1024) := hide (Nat.le_trans (List.length_filter_le _ _) (by rw [List.length_take]; omega))
        have HK := hide K
        have HG := hide G
        have HD := hide D
        have HB := hide B
        have HGO : Hid (gof (gP a) x = (!x.s && (gP a) x)) := hide rfl
        unfold maxLen at hmx
        clear K G D B H1 htk hx hbx
        have tk1 : True := trivial
        have tk2 : True := trivial
        go_wp2_with (first | (have _t := tk1; refine wpl_ent (.tmp 28) rfl A1 ?_ ?_ ?_; rfl; rfl; clear tk1) | (have _t := tk2; refine wpl_putE x zE (.tmp 12) (.tmp 29) rfl (box_e _ zE) ?_ rfl rfl ?_; rfl; clear tk2))
        intro w2 X2 G2
        have B2a := up2 (Below.refl wr.heap.size wr) G2 (Nat.le_refl _)
        have K2 := hide (row_on HK.out B2a)
        have R2 := hide (row_on HG.out B2a)
        have B2 := hide (below_more HB.out B2a HB.out.size)
        have d7 := X2.cell 7 _ rfl
        have d9 := X2.cell 9 _ rfl
        have X3 := X2.at_
        clear G2 X2 B2a A1 HK HG HB c1
        have hs2 : Hid (w.heap.size ≤ (w2.alloc (.cells (EC x) 33)).heap.size) := hide (by have := B2.out.size; simp; omega)
        have K3 := hide (K2.out.alloc (.cells (EC x) 33))
        have R3 := hide (R2.out.alloc (.cells (EC x) 33))
        have B3 := hide (below_more B2.out (below_alloc w2 (.cells (EC x) 33)) B2.out.size)
        have M3 := hide (ersOne w2 x)
        have tk3 : True := trivial
        have tk4 : True := trivial
        have tk5 : True := trivial
        rcases Bool.eq_false_or_eq_true (gof (gP a) x) with hg | hg
        · have hF1 := hFK.out
          have hF2 := hFG.out
          rw [hg, if_pos rfl, List.append_nil] at hF1
          rw [hg, if_pos rfl] at hF2
          have HF1 := hide hF1
          have HF2 := hide hF2
          rw [HGO.out, Bool.and_eq_true, Bool.not_eq_true'] at hg
          obtain ⟨hg1, hg2⟩ := hg
          rw [hg1] at d9
          unfold gP at hg2
          clear hF1 hF2 hFK hFG HGO hg1
          go_wp2_with (first | (have _t := tk3; refine wpl_ent (.tmp 12) rfl X3 ?_ ?_ ?_; rfl; rfl; clear tk3) | (have _t := tk4; refine wpl_bs rfl (.tmp 58) x rfl rfl ?_; clear tk4) | (have _t := tk5; at_builtin; refine wpl_eapp2 rfl rfl (.tmp 57) (.tmp 59) rfl w.heap.size _ _ _ rfl R3.out _ 1 1 _ rfl M3.out (by have := hGl.out; omega) hs2.out ?_; clear tk5))
          intro v4 w4 R4 G4 D4
          obtain ⟨a4, c4, rfl⟩ := own_form R4
          have K5 := hide (World.ownsRow.kept K3.out G4 (HD.out.or))
          have D5 := hide (HD.out.right D4 (fun r hr => by have := (K3.out.lt r hr).2; simpa using this))
          have B5 := hide (B3.out.grown G4 hs2.out (fun r hr => (R3.out.lt r hr).1))
          have R5 := hide R4
          clear R4 G4 D4 K3 R3 B3 M3 K2 R2 B2
          go_wp2
          go_roundw
          case rel => exact ⟨k + 1, by omega, by go_num, by rw [HF1.out]; exact K5.out, by rw [HF2.out, List.length_append]; exact R5.out, D5.out, B5.out⟩
          case measure => simp [intOf]; omega
        · have hF1 := hFK.out
          have hF2 := hFG.out
          rw [hg, if_neg (by simp)] at hF1 hF2
          rw [List.append_nil] at hF2
          have HF1 := hide hF1
          have HF2 := hide hF2
          rw [HGO.out] at hg
          clear hF1 hF2 hFK hFG HGO
          have tail : True := trivial
          rcases Bool.eq_false_or_eq_true (gP a x) with hfx | hfx
          · have hsx : x.s = true := by rw [hfx] at hg; simpa using hg
            rw [hsx] at d9
            unfold gP at hfx
            clear hg hsx
            go_wp2_with (first | (have _t := tk3; refine wpl_ent (.tmp 12) rfl X3 ?_ ?_ ?_; rfl; rfl; clear tk3) | (have _t := tk4; refine wpl_bs rfl (.tmp 62) x rfl rfl ?_; clear tk4) | (have _t := tk5; at_builtin; refine wpl_eapp2 rfl rfl (.tmp 61) (.tmp 63) rfl w.heap.size _ _ _ rfl K3.out _ 1 1 _ rfl M3.out (by have := hKl.out; omega) hs2.out ?_; clear tk5))
            intro v4 w4 R4 G4 D4
            obtain ⟨a4, c4, rfl⟩ := own_form R4
            have R5 := hide (World.ownsRow.kept R3.out G4 (HD.out.symm.or))
            have D5 := hide ((HD.out.symm.right D4 (fun r hr => by have := (R3.out.lt r hr).2; simpa using this)).symm)
            have B5 := hide (B3.out.grown G4 hs2.out (fun r hr => (K3.out.lt r hr).1))
            have K5 := hide R4
            clear R4 G4 D4 K3 R3 B3 M3 K2 R2 B2
            go_wp2
            go_roundw
            case rel => exact ⟨k + 1, by omega, by go_num, by rw [HF1.out, List.length_append]; exact K5.out, by rw [HF2.out]; exact R5.out, D5.out, B5.out⟩
            case measure => simp [intOf]; omega
          · unfold gP at hfx
            clear hg
            go_wp2_with (first | (have _t := tk3; refine wpl_ent (.tmp 12) rfl X3 ?_ ?_ ?_; rfl; rfl; clear tk3) | (have _t := tk4; refine wpl_bs rfl (.tmp 62) x rfl rfl ?_; clear tk4) | (have _t := tk5; at_builtin; refine wpl_eapp2 rfl rfl (.tmp 61) (.tmp 63) rfl w.heap.size _ _ _ rfl K3.out _ 1 1 _ rfl M3.out (by have := hKl.out; omega) hs2.out ?_; clear tk5))
            intro v4 w4 R4 G4 D4
            obtain ⟨a4, c4, rfl⟩ := own_form R4
            have R5 := hide (World.ownsRow.kept R3.out G4 (HD.out.symm.or))
            have D5 := hide ((HD.out.symm.right D4 (fun r hr => by have := (R3.out.lt r hr).2; simpa using this)).symm)
            have B5 := hide (B3.out.grown G4 hs2.out (fun r hr => (K3.out.lt r hr).1))
            have K5 := hide R4
            clear R4 G4 D4 K3 R3 B3 M3 K2 R2 B2
            go_wp2
            go_roundw
            case rel => exact ⟨k + 1, by omega, by go_num, by rw [HF1.out, List.length_append]; exact K5.out, by rw [HF2.out]; exact R5.out, D5.out, B5.out⟩
            case measure => simp [intOf]; omega
    · have hk2 : ¬ (k : Int) < T.l.length := by omega
      have hall : T.l.take k = T.l := List.take_of_length_le (by omega)
      rw [hall] at K G
      have HALL := hide hall
      have F := hide (GG.out wr _ _ B K G)
      have c1f := H1.bx.free 1 (by simp)
      have hcl : ∃ s1 n1 c2, lv = .slice s1 n1 c2 := by
        obtain ⟨ao, c, e, _⟩ := HH.out.ers
        exact ⟨ao, _, c, e⟩
      obtain ⟨s1, n1, c2, rfl⟩ := hcl
      have hlen2 : n1 = T.l.length := by
        obtain ⟨ao, c, e, _⟩ := HH.out.ers
        injection e
      subst hlen2
      clear K G D B H1 hall
      go_wp2
      go_ret
      rw [HALL.out]
      obtain ⟨ao, c, e, r⟩ := F.out
      exact ⟨ao, c, congrArg Ending.returned e, r⟩
set_option maxRecDepth 100000 in
set_option maxHeartbeats 4000000 in
theorem forget58_2 (g : Nat) (lv : Value) (T : Tb) (a b : Int) (w : World) (H : RT w g lv T) :
    Calls Try.prog 58 #[.pointer (some ⟨g, 0, none⟩), .int .i64 2, .int .i64 a, .int .i64 b] w fun e w' => ∃ ao c, e = .returned (.slice ao (gG T (gV a)).length c) ∧ Ets w' w.heap.size ao (gG T (gV a)).length c (gG T (gV a)) ∧ (∃ lv', RT w' g lv' (gT T (gV a))) ∧ Mid g (g + 1) w w' := by
  have hlt := H.lt
  have n2 := H.wf.n2
  have hle := H.wf.le
  have HH := hide H
  have HWF := hide (gT_wf H.wf (gV a))
  clear H
  have GG : Hid (∀ wr kv gv, Below w.heap.size w wr → wr.ownsRow w.heap.size 33 10 kv (T.l.filter (fun x => !gof (gV a) x)).length (es (T.l.filter (fun x => !gof (gV a) x))) → wr.ownsRow w.heap.size 33 10 gv (gG T (gV a)).length (es (gG T (gV a))) → ∃ ao c, gv = .slice ao (gG T (gV a)).length c ∧ Ets (wr.setCell ⟨g, 1, none⟩ kv) w.heap.size ao (gG T (gV a)).length c (gG T (gV a)) ∧ (∃ lv', RT (wr.setCell ⟨g, 1, none⟩ kv) g lv' (gT T (gV a))) ∧ Mid g (g + 1) w (wr.setCell ⟨g, 1, none⟩ kv)) := hide (fun wr kv gv B K G => fin58 HH.out HWF.out B K G)
  go_enter Try.func58, Try.ntmps58
  go_wp2
  go_loopw [9, 10, 11, 12, 13] (fun kv gv i _ _ wr => ∃ k : Nat, k ≤ T.l.length ∧ i = .int .i64 k ∧ wr.ownsRow w.heap.size 33 10 kv ((T.l.take k).filter (fun x => !gof (gV a) x)).length (es ((T.l.take k).filter (fun x => !gof (gV a) x))) ∧ wr.ownsRow w.heap.size 33 10 gv ((T.l.take k).filter (gof (gV a))).length (es ((T.l.take k).filter (gof (gV a)))) ∧ Dj kv gv ∧ Below w.heap.size w wr) (fun _ _ i _ _ _ => T.l.length - (intOf i).toNat)
  case atStart => exact ⟨0, Nat.zero_le _, rfl, World.ownsRow_nil _ _ _ _, World.ownsRow_nil _ _ _ _, (fun r h => by cases h), Below.refl _ _⟩
  case round =>
    obtain ⟨k, hk, rfl, K, G, D, B⟩ := hrel
    obtain ⟨ak, ck, rfl⟩ := own_form K
    obtain ⟨ag, cg, rfl⟩ := own_form G
    have H1 := HH.out.on B
    have c1 := H1.bx.cell 1 _ rfl
    have hBs := B.size
    by_cases hkl : k < T.l.length
    · obtain ⟨x, hx⟩ : ∃ x, T.l[k]? = some x := ⟨_, List.getElem?_eq_getElem hkl⟩
      rcases H1.at with ⟨_, hl⟩ | ⟨bb, cap, rfl, hgb, hbl, hn, hmx, hbx⟩
      · rw [hl] at hkl; simp at hkl
      · have A1 := hbx.ent hx
        have hk2 : (k : Int) < T.l.length := by omega
        have e1 : IntKind.i64.wrap ((k : Int) + 1) = (k : Int) + 1 := IntWalk.i64_in _ (by omega)
        have htk : T.l.take (k + 1) = T.l.take k ++ [x] := by rw [List.take_add_one, hx]; rfl
        have hFK : Hid ((T.l.take (k + 1)).filter (fun x => !gof (gV a) x) = (T.l.take k).filter (fun x => !gof (gV a) x) ++ (if gof (gV a) x then [] else [x])) := hide (by rw [htk, List.filter_append]; congr 1; rw [List.filter_cons]; cases gof (gV a) x <;> simp)
        have hFG : Hid ((T.l.take (k + 1)).filter (gof (gV a)) = (T.l.take k).filter (gof (gV a)) ++ (if gof (gV a) x then [x] else [])) := hide (by rw [htk, List.filter_append]; congr 1; rw [List.filter_cons]; cases gof (gV a) x <;> simp)
        have hKl : Hid (((T.l.take k).filter (fun x => !gof (gV a) x)).length ≤ 1024) := hide (Nat.le_trans (List.length_filter_le _ _) (by rw [List.length_take]; omega))
        have hGl : Hid (((T.l.take k).filter (gof (gV a))).length ≤ 1024) := hide (Nat.le_trans (List.length_filter_le _ _) (by rw [List.length_take]; omega))
        have HK := hide K
        have HG := hide G
        have HD := hide D
        have HB := hide B
        have HGO : Hid (gof (gV a) x = (!x.s && (gV a) x)) := hide rfl
        unfold maxLen at hmx
        clear K G D B H1 htk hx hbx
        have tk1 : True := trivial
        have tk2 : True := trivial
        go_wp2_with (first | (have _t := tk1; refine wpl_ent (.tmp 28) rfl A1 ?_ ?_ ?_; rfl; rfl; clear tk1) | (have _t := tk2; refine wpl_putE x zE (.tmp 12) (.tmp 29) rfl (box_e _ zE) ?_ rfl rfl ?_; rfl; clear tk2))
        intro w2 X2 G2
        have B2a := up2 (Below.refl wr.heap.size wr) G2 (Nat.le_refl _)
        have K2 := hide (row_on HK.out B2a)
        have R2 := hide (row_on HG.out B2a)
        have B2 := hide (below_more HB.out B2a HB.out.size)
        have d0 := X2.cell 0 _ rfl
        have d9 := X2.cell 9 _ rfl
        have X3 := X2.at_
        clear G2 X2 B2a A1 HK HG HB c1
        have hs2 : Hid (w.heap.size ≤ (w2.alloc (.cells (EC x) 33)).heap.size) := hide (by have := B2.out.size; simp; omega)
        have K3 := hide (K2.out.alloc (.cells (EC x) 33))
        have R3 := hide (R2.out.alloc (.cells (EC x) 33))
        have B3 := hide (below_more B2.out (below_alloc w2 (.cells (EC x) 33)) B2.out.size)
        have M3 := hide (ersOne w2 x)
        have tk3 : True := trivial
        have tk4 : True := trivial
        have tk5 : True := trivial
        rcases Bool.eq_false_or_eq_true (gof (gV a) x) with hg | hg
        · have hF1 := hFK.out
          have hF2 := hFG.out
          rw [hg, if_pos rfl, List.append_nil] at hF1
          rw [hg, if_pos rfl] at hF2
          have HF1 := hide hF1
          have HF2 := hide hF2
          rw [HGO.out, Bool.and_eq_true, Bool.not_eq_true'] at hg
          obtain ⟨hg1, hg2⟩ := hg
          rw [hg1] at d9
          unfold gV at hg2
          clear hF1 hF2 hFK hFG HGO hg1
          go_wp2_with (first | (have _t := tk3; refine wpl_ent (.tmp 12) rfl X3 ?_ ?_ ?_; rfl; rfl; clear tk3) | (have _t := tk4; refine wpl_bs rfl (.tmp 58) x rfl rfl ?_; clear tk4) | (have _t := tk5; at_builtin; refine wpl_eapp2 rfl rfl (.tmp 57) (.tmp 59) rfl w.heap.size _ _ _ rfl R3.out _ 1 1 _ rfl M3.out (by have := hGl.out; omega) hs2.out ?_; clear tk5))
          intro v4 w4 R4 G4 D4
          obtain ⟨a4, c4, rfl⟩ := own_form R4
          have K5 := hide (World.ownsRow.kept K3.out G4 (HD.out.or))
          have D5 := hide (HD.out.right D4 (fun r hr => by have := (K3.out.lt r hr).2; simpa using this))
          have B5 := hide (B3.out.grown G4 hs2.out (fun r hr => (R3.out.lt r hr).1))
          have R5 := hide R4
          clear R4 G4 D4 K3 R3 B3 M3 K2 R2 B2
          go_wp2
          go_roundw
          case rel => exact ⟨k + 1, by omega, by go_num, by rw [HF1.out]; exact K5.out, by rw [HF2.out, List.length_append]; exact R5.out, D5.out, B5.out⟩
          case measure => simp [intOf]; omega
        · have hF1 := hFK.out
          have hF2 := hFG.out
          rw [hg, if_neg (by simp)] at hF1 hF2
          rw [List.append_nil] at hF2
          have HF1 := hide hF1
          have HF2 := hide hF2
          rw [HGO.out] at hg
          clear hF1 hF2 hFK hFG HGO
          have tail : True := trivial
          rcases Bool.eq_false_or_eq_true (gV a x) with hfx | hfx
          · have hsx : x.s = true := by rw [hfx] at hg; simpa using hg
            rw [hsx] at d9
            unfold gV at hfx
            clear hg hsx
            go_wp2_with (first | (have _t := tk3; refine wpl_ent (.tmp 12) rfl X3 ?_ ?_ ?_; rfl; rfl; clear tk3) | (have _t := tk4; refine wpl_bs rfl (.tmp 62) x rfl rfl ?_; clear tk4) | (have _t := tk5; at_builtin; refine wpl_eapp2 rfl rfl (.tmp 61) (.tmp 63) rfl w.heap.size _ _ _ rfl K3.out _ 1 1 _ rfl M3.out (by have := hKl.out; omega) hs2.out ?_; clear tk5))
            intro v4 w4 R4 G4 D4
            obtain ⟨a4, c4, rfl⟩ := own_form R4
            have R5 := hide (World.ownsRow.kept R3.out G4 (HD.out.symm.or))
            have D5 := hide ((HD.out.symm.right D4 (fun r hr => by have := (R3.out.lt r hr).2; simpa using this)).symm)
            have B5 := hide (B3.out.grown G4 hs2.out (fun r hr => (K3.out.lt r hr).1))
            have K5 := hide R4
            clear R4 G4 D4 K3 R3 B3 M3 K2 R2 B2
            go_wp2
            go_roundw
            case rel => exact ⟨k + 1, by omega, by go_num, by rw [HF1.out, List.length_append]; exact K5.out, by rw [HF2.out]; exact R5.out, D5.out, B5.out⟩
            case measure => simp [intOf]; omega
          · unfold gV at hfx
            clear hg
            go_wp2_with (first | (have _t := tk3; refine wpl_ent (.tmp 12) rfl X3 ?_ ?_ ?_; rfl; rfl; clear tk3) | (have _t := tk4; refine wpl_bs rfl (.tmp 62) x rfl rfl ?_; clear tk4) | (have _t := tk5; at_builtin; refine wpl_eapp2 rfl rfl (.tmp 61) (.tmp 63) rfl w.heap.size _ _ _ rfl K3.out _ 1 1 _ rfl M3.out (by have := hKl.out; omega) hs2.out ?_; clear tk5))
            intro v4 w4 R4 G4 D4
            obtain ⟨a4, c4, rfl⟩ := own_form R4
            have R5 := hide (World.ownsRow.kept R3.out G4 (HD.out.symm.or))
            have D5 := hide ((HD.out.symm.right D4 (fun r hr => by have := (R3.out.lt r hr).2; simpa using this)).symm)
            have B5 := hide (B3.out.grown G4 hs2.out (fun r hr => (K3.out.lt r hr).1))
            have K5 := hide R4
            clear R4 G4 D4 K3 R3 B3 M3 K2 R2 B2
            go_wp2
            go_roundw
            case rel => exact ⟨k + 1, by omega, by go_num, by rw [HF1.out, List.length_append]; exact K5.out, by rw [HF2.out]; exact R5.out, D5.out, B5.out⟩
            case measure => simp [intOf]; omega
    · have hk2 : ¬ (k : Int) < T.l.length := by omega
      have hall : T.l.take k = T.l := List.take_of_length_le (by omega)
      rw [hall] at K G
      have HALL := hide hall
      have F := hide (GG.out wr _ _ B K G)
      have c1f := H1.bx.free 1 (by simp)
      have hcl : ∃ s1 n1 c2, lv = .slice s1 n1 c2 := by
        obtain ⟨ao, c, e, _⟩ := HH.out.ers
        exact ⟨ao, _, c, e⟩
      obtain ⟨s1, n1, c2, rfl⟩ := hcl
      have hlen2 : n1 = T.l.length := by
        obtain ⟨ao, c, e, _⟩ := HH.out.ers
        injection e
      subst hlen2
      clear K G D B H1 hall
      go_wp2
      go_ret
      rw [HALL.out]
      obtain ⟨ao, c, e, r⟩ := F.out
      exact ⟨ao, c, congrArg Ending.returned e, r⟩
end Go.Proofs.Ytbpkdkniiggcpaa
