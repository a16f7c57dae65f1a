/- Contracts: Add, Remove, Native as the document has them. · Contract: Remove as the document has it. · Contracts: Members, of both; SameInts. · Memory: addresses, entries and steps as cells; rows of entries; how worlds grow. · Contracts of the small functions: numbers of addresses and their order, of the program and of the document; equality; next, way, isMoment, mayBe, right. · Contracts of Compare, mayBe, right; the program's table in memory; next, way, first. · The program's table in memory; next, way, first. · The program's table; contract of place. · The document's table in memory; rows of entries that grow. · Contracts of the document's Find and Look. · Contract of set: one that is there. · Contract of set. -/
import Derived.Test.YtgpdjfaklcmoiaaGreatM00
import Derived.Deep.RegionLaw
import Derived.Deep.DrawnRows
import Derived.Test.YtgpdjfaklcmoiaaGreatM02
import Derived.Deep.RegionHeld3
import Derived.ChangeKeysEq
import Derived.Laws.BytesArg
import Derived.BigQuiet
import Derived.Deep.MidRow
import Derived.Laws.AppendOwnNone
import Derived.Laws.OwnMore
import Derived.Laws.StructEq
import Derived.OwnWalk
import Derived.WalkLawsBesides
import Derived.PlainAid
import Derived.WalkMore
/- Contracts: Add, Remove, Native as the document has them. -/
namespace Go.Proofs.YtgpdjfaklcmoiaaGreat
open Go.RowKit Go.PlainAid

/-- A slice of members, to be put behind others. -/
structure Mrs (w : World) (ao : Option Addr) (n c : Nat) (l : List Mm) : Prop where
  len : l.length = n
  nil : ao = none → n = 0 ∧ c = 0
  src : ∀ a, ao = some a → ∀ j u, (mml l)[j]? = some u → w.cell? (a.add j) = some u
theorem one_mml (l : List Mm) : ∀ u ∈ mml l, u.oneCell' = true := by
  intro u hu
  simp only [mml, List.mem_flatMap] at hu
  obtain ⟨m, _, hm⟩ := hu
  simp at hm
  rcases hm with rfl | rfl | rfl <;> rfl
theorem mapp_run {w : World} {base : Nat} {v : Value} {n : Nat} {xs : List Mm} (hown : w.ownsRow base 119 3 v n (mml xs)) {ao : Option Addr} {m c : Nat} {ns : List Mm} (hB : Mrs w ao m c ns) (h1 : n + m ≤ 100000) (hbase : base ≤ w.heap.size) :
    ∃ v' w', (Builtin.append_ #[110, 110] 110 #[v, .slice ao m c]).run Tryz.prog w = .ok v' w' ∧ w'.ownsRow base 119 3 v' (n + m) (mml (xs ++ ns)) ∧ w.grownBy w' v.ownBlock := by
  obtain ⟨i0, hi, hz0, hz1, hz2⟩ := info_parts Tryz.info119
  cases ao with
  | none =>
    obtain ⟨rfl, rfl⟩ := hB.nil rfl
    obtain rfl : ns = [] := List.eq_nil_of_length_eq_zero hB.len
    refine ⟨v, w, run_append_owned_none w base 110 110 119 i0 3 Tryz.underlying110 hi v n _ hown, ?_, World.grownBy.refl _ _⟩
    rw [List.append_nil]
    exact hown
  | some a =>
    obtain ⟨v', w', h2, h3, h4, -⟩ := run_append_own w base 110 110 119 i0 _ 3 24 Tryz.underlying110 hi hz0 hz1 hz2 rfl (by decide) v n (mml xs) hown a m c (mml ns) (by rw [mml_length, hB.len]) (hB.src a rfl) (one_mml ns) (by unfold maxLen; omega) (by omega) hbase
    refine ⟨v', w', h2, ?_, h4⟩
    rw [mml_append]
    exact h3
/-- At a plain region's list. -/
theorem wpl_mapp {ops : Array Oper} {rest : List Oper} {o : Oper} {a : Act} {w : World} {Q : Exit → Act → World → Prop} (hgd : o.guard = none) (hty : o.type = 110) (s x : Operand)
    (ho : o.op = .call { callee := .builtin .append, args := #[s, x], argTypes := #[110, 110] })
    (base : Nat) (v : Value) (n : Nat) (xs : List Mm) (hs : a.eval s = v) (hown : w.ownsRow base 119 3 v n (mml xs)) (ao : Option Addr) (m c : Nat) (ns : List Mm) (hx : a.eval x = .slice ao m c) (hB : Mrs w ao m c ns)
    (h1 : n + m ≤ 100000) (hbase : base ≤ w.heap.size)
    (h : ∀ v' w', w'.ownsRow base 119 3 v' (n + m) (mml (xs ++ ns)) → w.grownBy w' v.ownBlock → wpList Tryz.prog ops Q rest (a.put o.dst v') w') : wpList Tryz.prog ops Q (o :: rest) a w := by
  obtain ⟨v', w', hr, h2, h3⟩ := mapp_run hown hB h1 hbase
  have hk := h v' w' h2 h3
  refine wpList_plain hgd fun K hK => ?_
  unfold Oper.wp execOp
  simp only [ho, hty, resolve, invoke, builtin, Sem.run_bind, Sem.run_pure, Result.andThen_ok, List.map_toArray, List.map_cons, List.map_nil, hs, hx, hr]
  exact hK _ _ hk
/-- At a step of a region that draws its order. -/
theorem step_mapp {ops : Array Oper} {o : Oper} {a : Act} {w : World} {C : Act → World → Prop} {Q : Exit → Act → World → Prop} {E : Prop} (hgd : o.guard = none) (hty : o.type = 110) (s x : Operand)
    (ho : o.op = .call { callee := .builtin .append, args := #[s, x], argTypes := #[110, 110] })
    (base : Nat) (v : Value) (n : Nat) (xs : List Mm) (hs : a.eval s = v) (hown : w.ownsRow base 119 3 v n (mml xs)) (ao : Option Addr) (m c : Nat) (ns : List Mm) (hx : a.eval x = .slice ao m c) (hB : Mrs w ao m c ns)
    (h1 : n + m ≤ 100000) (hbase : base ≤ w.heap.size)
    (h : ∀ v' w', w'.ownsRow base 119 3 v' (n + m) (mml (xs ++ ns)) → w.grownBy w' v.ownBlock → C (a.put o.dst v') w') : if Region.wanted o (yielded ops a.tmps) = true then Oper.wp Tryz.prog o a w C Q else E := by
  have hw : Region.wanted o (yielded ops a.tmps) = true := by simp [Region.wanted, hgd]
  rw [if_pos hw]
  obtain ⟨v', w', hr, h2, h3⟩ := mapp_run hown hB h1 hbase
  have hk := h v' w' h2 h3
  unfold Oper.wp execOp
  simp only [ho, hty, resolve, invoke, builtin, Sem.run_bind, Sem.run_pure, Result.andThen_ok, List.map_toArray, List.map_cons, List.map_nil, hs, hx, hr]
  exact hk
theorem own_form {w : World} {base : Nat} {e : TypeId} {size : Nat} {v : Value} {n : Nat} {xs : List Value} (h : w.ownsRow base e size v n xs) : ∃ ao c, v = .slice ao n c := by
  rcases h.2 with ⟨h1, h2⟩ | ⟨b, cap, cur, h1, _⟩
  · exact ⟨none, 0, by rw [h1, h2]⟩
  · exact ⟨_, _, h1⟩
theorem RT.mrs {w : World} {g : Nat} {lv : Value} {T : Tb} (H : RT w g lv T) : ∃ ao c, lv = .slice ao T.l.length c ∧ Mrs w ao T.l.length c T.l ∧ (∀ a, ao = some a → ∃ b, a = ⟨b, 0, none⟩ ∧ g + 2 ≤ b ∧ b < w.heap.size) := by
  have hr := H.row
  rcases hr.2 with ⟨h1, h2⟩ | ⟨b, cap, cur, h1, hb, hc, r⟩
  · refine ⟨none, 0, by rw [h1, h2], ⟨rfl, fun _ => ⟨h2, rfl⟩, fun a e => (by cases e)⟩, fun a e => (by cases e)⟩
  · subst h1
    refine ⟨_, cap, rfl, ⟨rfl, fun e => (by cases e), fun a e => ?_⟩, fun a e => ?_⟩
    · obtain rfl := Option.some.inj e
      exact hr.cells (g := b) rfl
    · obtain rfl := Option.some.inj e
      exact ⟨b, rfl, hb, (Array.getElem?_eq_some_iff.1 hc).1⟩
theorem Mrs.grown {w w1 : World} {row : Option Nat} {ao : Option Addr} {n c : Nat} {l : List Mm} (h : Mrs w ao n c l) (g : w.grownBy w1 row) (hne : ∀ a, ao = some a → ∃ b o, a = ⟨b, o, none⟩ ∧ some b ≠ row) : Mrs w1 ao n c l :=
  ⟨h.len, h.nil, fun a e j u hj => by
    obtain ⟨b, o, rfl, hb⟩ := hne a e
    have := h.src _ e j u hj
    rw [Addr.add_lit] at this ⊢
    exact g.cell this hb⟩
theorem RT.stored {w : World} {g : Nat} {lv : Value} {T : Tb} (H : RT w g lv T) {b cap : Nat} (hlv : lv = .slice (some ⟨b, 0, none⟩) T.l.length cap) (hb : g + 2 ≤ b) {v p : Int} {t : Bool} (hv : isV v = true) (hh : hp T p = true) (hm : hs T.l v p = true) :
    RT (w.setCell ⟨b, ix T.l v p * 3 + 2, none⟩ (.bool t)) g lv (tAdd T v p t) ∧ Below g w (w.setCell ⟨b, ix T.l v p * 3 + 2, none⟩ (.bool t)) := by
  subst hlv
  have e : tAdd T v p t = ⟨T.n, ad T.l v p t, T.ns⟩ := by rw [tAdd, hv, hh]; rfl
  have hw := H.wf.add v p t
  have hl := H.lt
  obtain ⟨s1, s2⟩ := H.row.stored (ix T.l v p * 3 + 2) (.bool t)
  have hl2 : (ad T.l v p t).length = T.l.length := by rw [ad_set _ _ _ _ hm]; simp
  rw [e] at hw ⊢
  refine ⟨⟨H.bx.block (s2.block _ (by omega) (fun e => by have := Option.some.inj e; omega)), H.nt.block (s2.block _ (by omega) (fun e => by have := Option.some.inj e; omega)), ?_, hw⟩, (Below.refl _ _).grown s2 (by omega) (fun k hk => by have := Option.some.inj hk; omega)⟩
  rw [Nat.mul_comm, mml_set T.l _ _ t (ix_get T.l v p hm), ← ad_set _ _ _ _ hm, Nat.mul_comm] at s1
  rw [hl2]
  exact s1
/-- The members stand in a new block. -/
theorem RT.fresh {w w1 : World} {g : Nat} {lv lv' : Value} {T T' : Tb} (H : RT w g lv T) (hB : Below (g + 2) w w1) (hn : T'.n = T.n) (hs : T'.ns = T.ns) (hw : Wf T') (hr : w1.ownsRow (g + 2) 119 3 lv' T'.l.length (mml T'.l)) :
    RT (w1.setCell ⟨g + 1, 1, none⟩ lv') g lv' T' ∧ Below g w (w1.setCell ⟨g + 1, 1, none⟩ lv') := by
  have hl := H.lt
  have g1 := setCell_grown w1 (g + 1) 1 lv'
  have hl1 := hB.size
  refine ⟨⟨?_, ?_, ?_, hw⟩, (hB.mono (by omega)).grown g1 (by omega) (fun k hk => by have := Option.some.inj hk; omega)⟩
  · have b := H.bx.below (g := g + 2) (by omega) hB
    rw [hn]
    exact Box.set (A := [.int .i64 T.n]) (C := [.slice (some ⟨g, 0, none⟩) T.n T.n]) b rfl
  · rw [hs]
    exact (H.nt.below (g := g + 2) (by omega) hB).kept (by omega) g1
  · refine World.ownsRow.kept hr g1 ?_
    rcases hr.2 with ⟨h, _⟩ | ⟨b, _, _, h, hb, _⟩
    · rw [h]; exact Or.inl rfl
    · rw [h]
      refine Or.inr (fun e => ?_)
      have := Option.some.inj e
      simp at this
      omega
set_option maxRecDepth 100000 in
set_option maxHeartbeats 2000000 in
theorem add42_no (g : Nat) (lv : Value) (T : Tb) (v p : Int) (t : Bool) (w : World) (H : RT w g lv T) (hc : (isV v && hp T p) = false) : Calls Tryz.prog 41 #[.pointer (some ⟨g + 1, 0, none⟩), .int .i64 v, .int .i64 p, .bool t] w
    fun e w' => e = .returned (.int .i64 1) ∧ w' = w := by
  have q1 := fun w H => right39 g lv T v p w H
  rw [hc] at q1
  have HH := hide H
  clear H
  go_enter Tryz.func41, Tryz.ntmps41
  go_wp2_with (first | (go_at_call 67; refine (q1 _ HH.out).mono ?_; rintro e w' ⟨rfl, rfl⟩))
  go_ret
  exact ⟨rfl, rfl⟩
set_option maxRecDepth 100000 in
set_option maxHeartbeats 2000000 in
theorem add42_set (g : Nat) (lv : Value) (T : Tb) (v p : Int) (t : Bool) (w : World) (H : RT w g lv T) (hv : isV v = true) (hh : hp T p = true) (hm : hs T.l v p = true) : Calls Tryz.prog 41 #[.pointer (some ⟨g + 1, 0, none⟩), .int .i64 v, .int .i64 p, .bool t] w
    fun e w' => e = .returned (.int .i64 0) ∧ (∃ lv', RT w' g lv' (tAdd T v p t) ∧ Fr [g, g + 1] lv lv' w w') ∧ Below g w w' := by
  have q1 := fun w H => right39 g lv T v p w H
  rw [hv, hh, Bool.true_and] at q1
  have q2 := fun w H => find29 g lv T v p w H
  have hfx : fx T.l v p = (ix T.l v p : Int) := by rw [fx, hm]; rfl
  rw [hfx] at q2
  have hix := (hs_ix T.l v p).1 hm
  rcases H.at with ⟨_, hl⟩ | ⟨b, cap, hlv, hb, hn, hmx, hcell⟩
  · rw [hl] at hm; cases hm
  · obtain ⟨r1, r2⟩ := H.stored (t := t) hlv hb hv hh hm
    have R1 := hide r1
    have R2 := hide r2
    have R3 : Hid (Fr [g, g + 1] lv lv w (w.setCell ⟨b, ix T.l v p * 3 + 2, none⟩ (.bool t))) := hide (Fr.grown (setCell_grown w b _ _) (by rw [hlv]; rfl))
    obtain ⟨-, -, d2, d3⟩ := hcell _ _ (ix_get T.l v p hm)
    have c1 := H.bx.cell 1 _ rfl
    have hix' : (ix T.l v p : Int) < T.l.length := by omega
    have HH := hide H
    rw [hlv] at c1
    clear H hcell r1 r2 hfx
    unfold maxLen at hmx
    generalize ix T.l v p = k at *
    go_enter Tryz.func41, Tryz.ntmps41
    go_wp2_with (first | (go_at_call 67; refine (q1 _ HH.out).mono ?_; rintro e w' ⟨rfl, rfl⟩) | (go_at_call 68; refine (q2 _ HH.out).mono ?_; rintro e w' ⟨rfl, rfl⟩))
    go_ret
    exact ⟨rfl, ⟨_, R1.out, R3.out⟩, R2.out⟩
set_option maxRecDepth 100000 in
set_option maxHeartbeats 4000000 in
theorem add42_push (g : Nat) (lv : Value) (T : Tb) (v p : Int) (t : Bool) (w : World) (H : RT w g lv T) (hL : T.l.length ≤ 1000) (hv : isV v = true) (hh : hp T p = true) (hm : hs T.l v p = false) : Calls Tryz.prog 41 #[.pointer (some ⟨g + 1, 0, none⟩), .int .i64 v, .int .i64 p, .bool t] w
    fun e w' => e = .returned (.int .i64 0) ∧ (∃ lv', RT w' g lv' (tAdd T v p t) ∧ Fr [g, g + 1] lv lv' w w') ∧ Below g w w' := by
  have q1 := fun w H => right39 g lv T v p w H
  rw [hv, hh, Bool.true_and] at q1
  have q2 := fun w H => find29 g lv T v p w H
  have hfx : fx T.l v p = -1 := by rw [fx, hm]; rfl
  rw [hfx] at q2
  have e0 : tAdd T v p t = ⟨T.n, T.l ++ [⟨v, p, t⟩], T.ns⟩ := by rw [tAdd, hv, hh, ad_push _ _ _ _ hm]; rfl
  have hw := H.wf.add v p t
  rw [e0] at hw ⊢
  obtain ⟨ao, c, hlv, hM, hao⟩ := H.mrs
  have hl := H.lt
  have c1 := H.bx.cell 1 _ rfl
  have c1f := H.bx.free 1 (by simp)
  subst hlv
  have ga := World.grownBy_alloc w (.cells #[] 119) none
  have M1 := hide (hM.grown ga (fun a e => by obtain ⟨b, h, _⟩ := hao a e; exact ⟨b, 0, h, by simp⟩))
  have O1 : Hid ((w.alloc (.cells #[] 119)).ownsRow w.heap.size 119 3 (.slice (some ⟨w.heap.size, 0, none⟩) 0 0) 0 (mml [])) := hide (World.ownsRow_lit w #[] 0 (by omega) (by unfold maxLen; omega) rfl)
  have hlt1 : Hid (w.heap.size ≤ (w.alloc (.cells #[] 119)).heap.size) := hide (by simp)
  have b0 : Below w.heap.size w (w.alloc (.cells #[] 119)) := below_alloc w _
  have B0 := hide b0
  have c1a : (w.alloc (.cells #[] 119)).cell? ⟨g + 1, 1, none⟩ = some (.slice ao T.l.length c) := (b0.cell (p := ⟨g + 1, 1, none⟩) (by show g + 1 < w.heap.size; omega)).trans c1
  have HH := hide H
  have HW := hide hw
  clear H hM hfx hw ga e0 b0 c1
  have tk1 : True := trivial
  have tk2 : True := trivial
  go_enter Tryz.func41, Tryz.ntmps41
  go_wp2_with (first | (go_at_call 67; refine (q1 _ HH.out).mono ?_; rintro e w' ⟨rfl, rfl⟩) | (go_at_call 68; refine (q2 _ HH.out).mono ?_; rintro e w' ⟨rfl, rfl⟩) | (have _t := tk1; at_builtin; refine wpl_mapp rfl rfl (.tmp 32) (.tmp 36) rfl _ _ 0 [] rfl O1.out _ _ _ _ rfl M1.out (by omega) hlt1.out ?_; clear tk1))
  intro v1 w1 R1 G1
  have B1 := B0.out.grown G1 hlt1.out (fun k hk => (O1.out.lt k hk).1)
  have hs1 := B1.size
  have hlt2 : Hid (w'.heap.size ≤ (w1.alloc (.cells #[.int .i64 v, .int .i64 p, .bool t] 119)).heap.size) := hide (by simp; omega)
  have O2 := hide (R1.alloc (.cells #[.int .i64 v, .int .i64 p, .bool t] 119))
  have M2 : Hid (Mrs (w1.alloc (.cells #[.int .i64 v, .int .i64 p, .bool t] 119)) (some ⟨w1.heap.size, 0, none⟩) 1 1 [⟨v, p, t⟩]) := hide ⟨rfl, fun e => (by cases e), fun a e j u hj => by
    obtain rfl := Option.some.inj e
    rw [Addr.add_lit, Nat.zero_add, World.cell?_alloc_at _ _ _ _ rfl]
    have hj' : [Value.int .i64 v, .int .i64 p, .bool t][j]? = some u := hj
    simpa using hj'⟩
  have B2 : Hid (Below _ _ (w1.alloc (.cells #[.int .i64 v, .int .i64 p, .bool t] 119))) := hide (B1.alloc (by omega) _)
  clear R1 G1 B1 B0 M1 O1
  go_wp2_with (first | (have _t := tk2; at_builtin; refine wpl_mapp rfl rfl (.tmp 37) (.tmp 42) rfl _ _ _ _ rfl O2.out _ 1 1 _ rfl M2.out (by omega) hlt2.out ?_; clear tk2))
  intro v2 w2 R2 G2
  obtain ⟨ao2, c2, rfl⟩ := own_form R2
  have B3 := B2.out.grown G2 hlt2.out (fun k hk => (O2.out.lt k hk).1)
  have F := hide (HH.out.fresh (T' := ⟨T.n, T.l ++ [⟨v, p, t⟩], T.ns⟩) (B3.mono hl) rfl rfl HW.out (row_low hl (by simpa using R2)))
  have F3 : Hid (Fr [g, g + 1] _ _ _ (w2.setCell ⟨g + 1, 1, none⟩ (.slice ao2 (T.l.length + 1) c2))) := hide (Fr.fresh (lv := .slice ao T.l.length c) B3 R2 (by simp) 1 _)
  have th := (HH.out.bx.below (g := w'.heap.size) (by omega) B3).th 1 (by simp)
  rw [Nat.zero_add] at th
  obtain ⟨th1, th2⟩ := th
  have th3 := (HH.out.bx.below (g := w'.heap.size) (by omega) B3).cell 1 _ rfl
  clear R2 G2 B3 B2 O2 M2 th1
  go_wp2
  go_ret
  exact ⟨rfl, ⟨_, F.out.1, F3.out⟩, F.out.2⟩
theorem add42 (g : Nat) (lv : Value) (T : Tb) (v p : Int) (t : Bool) (w : World) (H : RT w g lv T) (hL : T.l.length ≤ 1000) : Calls Tryz.prog 41 #[.pointer (some ⟨g + 1, 0, none⟩), .int .i64 v, .int .i64 p, .bool t] w
    fun e w' => e = .returned (.int .i64 (eAdd T v p)) ∧ (∃ lv', RT w' g lv' (tAdd T v p t) ∧ Fr [g, g + 1] lv lv' w w') ∧ Below g w w' := by
  rcases Bool.eq_false_or_eq_true (isV v && hp T p) with hc | hc
  · have e1 : eAdd T v p = 0 := by rw [eAdd, hc]; rfl
    rw [e1]
    simp only [Bool.and_eq_true] at hc
    rcases Bool.eq_false_or_eq_true (hs T.l v p) with hm | hm
    · exact add42_set g lv T v p t w H hc.1 hc.2 hm
    · exact add42_push g lv T v p t w H hL hc.1 hc.2 hm
  · have e1 : eAdd T v p = 1 := by rw [eAdd, hc]; rfl
    have e2 : tAdd T v p t = T := by rw [tAdd, hc]; rfl
    rw [e1, e2]
    refine (add42_no g lv T v p t w H hc).mono ?_
    rintro e w' ⟨rfl, rfl⟩
    exact ⟨rfl, ⟨lv, H, Fr.refl _ _ _⟩, Below.refl _ _⟩
set_option maxRecDepth 100000 in
set_option maxHeartbeats 2000000 in
theorem native44 (g : Nat) (lv : Value) (T : Tb) (p v : Int) (w : World) (H : RT w g lv T) : Calls Tryz.prog 43 #[.pointer (some ⟨g + 1, 0, none⟩), .int .i64 p, .int .i64 v] w
    fun e w' => e = .returned (.int .i64 (eNat T p v)) ∧ (∃ lv', RT w' g lv' (tNat T p v) ∧ Fr [g, g + 1] lv lv' w w') ∧ Below g w w' := by
  have c0 := H.bx.cell 0 _ rfl
  have c2 := H.bx.cell 2 _ rfl
  have hl := H.lt
  rcases Bool.eq_false_or_eq_true (hp T p && (v == 0 || isV v)) with hc | hc
  · have e1 : eNat T p v = 0 := by rw [eNat, hc]; rfl
    have e2 : tNat T p v = ⟨T.n, T.l, T.ns.set p.toNat v⟩ := by rw [tNat, hc]; rfl
    have hw := H.wf.nati p v
    rw [e1]
    rw [e2] at hw ⊢
    rw [nat_ok, Bool.and_eq_true, hp_iff, decide_eq_true_eq] at hc
    obtain ⟨⟨p0, p1⟩, v0, v1⟩ := hc
    obtain ⟨k, rfl⟩ := Int.eq_ofNat_of_zero_le p0
    have hn := H.wf.ns
    have hk : k < T.ns.length := by omega
    have n1 := H.nt.cell k _ (nsl_get hk)
    have f1 := H.nt.free k (by simp [nsl]; omega)
    have g1 := setCell_grown w g k (.int .i64 v)
    have R : Hid (RT (w.setCell ⟨g, k, none⟩ (.int .i64 v)) g lv ⟨T.n, T.l, T.ns.set k v⟩) := by
      refine hide ⟨H.bx.kept (by omega) g1, ?_, ?_, by simpa using hw⟩
      · have b := H.nt.setAt (j := k) (by simp [nsl]; omega) (.int .i64 v)
        rw [nsl_set] at b
        exact b
      · have hr := H.row
        refine World.ownsRow.kept hr g1 ?_
        rcases hr.2 with ⟨h, _⟩ | ⟨b, _, _, h, hb, _⟩
        · rw [h]; exact Or.inl rfl
        · rw [h]
          refine Or.inr (fun e => ?_)
          have := Option.some.inj e
          simp at this
          omega
    have B : Hid (Below g w (w.setCell ⟨g, k, none⟩ (.int .i64 v))) := hide ((Below.refl _ _).grown g1 (by omega) (fun k hk => by have := Option.some.inj hk; omega))
    have a1 : ¬ ((k : Int) < 0) := by omega
    have a2 : ¬ ((T.n : Int) ≤ k) := by omega
    have a3 : ¬ (v < 0) := by omega
    have a4 : ¬ ((4094 : Int) < v) := by omega
    clear H hw e1 e2 g1
    go_enter Tryz.func43, Tryz.ntmps43
    go_wp2
    go_ret
    exact ⟨rfl, ⟨lv, by simpa using R.out, Fr.set (by simp) k _⟩, B.out⟩
  · have e1 : eNat T p v = 1 := by rw [eNat, hc]; rfl
    have e2 : tNat T p v = T := by rw [tNat, hc]; rfl
    rw [e1, e2]
    have HH := hide H
    rw [nat_ok] at hc
    have hc' : p < 0 ∨ (T.n : Int) ≤ p ∨ v < 0 ∨ 4094 < v := by
      rw [Bool.and_eq_false_iff] at hc
      rcases hc with hc | hc
      · have : ¬ (0 ≤ p ∧ p < T.n) := fun h => by rw [(hp_iff T p).2 h] at hc; cases hc
        omega
      · simp at hc
        omega
    clear H hc e1 e2
    by_cases a1 : p < 0
    · clear hc'
      go_enter Tryz.func43, Tryz.ntmps43
      go_wp2
      go_ret
      exact ⟨rfl, ⟨lv, HH.out, Fr.refl _ _ _⟩, Below.refl _ _⟩
    · by_cases a2 : (T.n : Int) ≤ p
      · clear hc'
        go_enter Tryz.func43, Tryz.ntmps43
        go_wp2
        go_ret
        exact ⟨rfl, ⟨lv, HH.out, Fr.refl _ _ _⟩, Below.refl _ _⟩
      · by_cases a3 : v < 0
        · clear hc'
          go_enter Tryz.func43, Tryz.ntmps43
          go_wp2
          go_ret
          exact ⟨rfl, ⟨lv, HH.out, Fr.refl _ _ _⟩, Below.refl _ _⟩
        · have a4 : 4094 < v := by omega
          clear hc'
          go_enter Tryz.func43, Tryz.ntmps43
          go_wp2
          go_ret
          exact ⟨rfl, ⟨lv, HH.out, Fr.refl _ _ _⟩, Below.refl _ _⟩
end Go.Proofs.YtgpdjfaklcmoiaaGreat
/- Contract: Remove as the document has it. -/
namespace Go.Proofs.YtgpdjfaklcmoiaaGreat
open Go.RowKit Go.PlainAid

theorem mml_take (l : List Mm) (k : Nat) : mml (l.take k) = (mml l).take (k * 3) := by
  have e := mml_append (l.take k) (l.drop k)
  rw [List.take_append_drop] at e
  by_cases hk : k ≤ l.length
  · have h2 : (mml (l.take k)).length = k * 3 := by rw [mml_length, List.length_take]; omega
    rw [e, ← h2]
    simp
  · rw [List.take_of_length_le (by omega), List.take_of_length_le (by rw [mml_length]; omega)]
theorem mml_drop (l : List Mm) (k : Nat) (hk : k ≤ l.length) : mml (l.drop k) = (mml l).drop (k * 3) := by
  have e := mml_append (l.take k) (l.drop k)
  rw [List.take_append_drop] at e
  have h2 : (mml (l.take k)).length = k * 3 := by rw [mml_length, List.length_take]; omega
  rw [e, ← h2]
  simp
theorem Mrs.take {w : World} {b L cap : Nat} {l : List Mm} (h : Mrs w (some ⟨b, 0, none⟩) L cap l) {k : Nat} (hk : k ≤ L) (c : Nat) : Mrs w (some ⟨b, 0, none⟩) k c (l.take k) :=
  ⟨by rw [List.length_take, h.len]; omega, fun e => (by cases e), fun a e j u hj => by
    rw [mml_take, List.getElem?_take] at hj
    split at hj
    · exact h.src a e j u hj
    · cases hj⟩
theorem Mrs.drop {w : World} {b L cap : Nat} {l : List Mm} (h : Mrs w (some ⟨b, 0, none⟩) L cap l) {k : Nat} (hk : k ≤ L) {ao : Option Addr} (h1 : k < L → ao = some ⟨b, k * 3, none⟩) (h2 : ao ≠ none) (c : Nat) : Mrs w ao (L - k) c (l.drop k) :=
  ⟨by rw [List.length_drop, h.len], fun e => absurd e h2, fun a e j u hj => by
    have hl := h.len
    rw [mml_drop l k (by omega), List.getElem?_drop] at hj
    have hlt := (List.getElem?_eq_some_iff.1 hj).1
    rw [mml_length] at hlt
    rw [h1 (by omega)] at e
    obtain rfl := Option.some.inj e
    have := h.src _ rfl _ u hj
    rw [Addr.add_lit] at this ⊢
    rw [← this]
    congr 2
    omega⟩
theorem at_if {p : Prop} [Decidable p] {b o1 o2 : Nat} {a : Addr} {q : Nat} (h : (if p then some (⟨b, o1, none⟩ : Addr) else some ⟨b, o2, none⟩) = some a) (hb : b ≠ q) : ∃ b' o, a = ⟨b', o, none⟩ ∧ some b' ≠ some q := by
  split at h
  · exact ⟨b, o1, (Option.some.inj h).symm, fun e => hb (Option.some.inj e)⟩
  · exact ⟨b, o2, (Option.some.inj h).symm, fun e => hb (Option.some.inj e)⟩
theorem own_len {w : World} {base : Nat} {v : Value} {n m : Nat} {xs : List Value} (h : w.ownsRow base 119 3 v n xs) (e : n = m) : w.ownsRow base 119 3 v m xs := e ▸ h
set_option maxRecDepth 100000 in
set_option maxHeartbeats 4000000 in
theorem remove43_cut (g : Nat) (lv : Value) (T : Tb) (v p : Int) (w : World) (H : RT w g lv T) (hL : T.l.length ≤ 1000) (hv : isV v = true) (hh : hp T p = true) (hm : hs T.l v p = true) : Calls Tryz.prog 45 #[.pointer (some ⟨g + 1, 0, none⟩), .int .i64 v, .int .i64 p] w
    fun e w' => e = .returned (.int .i64 0) ∧ (∃ lv', RT w' g lv' (tRm T v p) ∧ Fr [g, g + 1] lv lv' w w') ∧ Below g w w' := by
  have q1 := fun w H => right39 g lv T v p w H
  rw [hv, hh, Bool.true_and] at q1
  have q2 := fun w H => find29 g lv T v p w H
  have hfx : fx T.l v p = (ix T.l v p : Int) := by rw [fx, hm]; rfl
  rw [hfx] at q2
  have hix := (hs_ix T.l v p).1 hm
  have e0 : tRm T v p = ⟨T.n, T.l.take (ix T.l v p) ++ T.l.drop (ix T.l v p + 1), T.ns⟩ := by rw [tRm, hv, hh, rm_take]; rfl
  have hw := H.wf.rem v p
  rw [e0] at hw ⊢
  rcases H.at with ⟨_, hl⟩ | ⟨b, cap, hlv, hb, hn, hmx, hcell⟩
  · rw [hl] at hm; cases hm
  · have hl := H.lt
    subst hlv
    obtain ⟨ao', c', e1, hM, hao⟩ := H.mrs
    injection e1 with e2 e3 e4
    subst e2 e4
    obtain ⟨b', e5, -, hbl⟩ := hao _ rfl
    injection e5 with e6
    subst e6
    have c1 := H.bx.cell 1 _ rfl
    have HH := hide H
    have HW := hide hw
    unfold maxLen at hmx
    have MM := hide hM
    clear H hcell hfx hw e0 hao hM
    generalize ix T.l v p = k at *
    have k0 : (0 : Int) ≤ (k : Int) := by omega
    have k1 : (k : Int) ≤ cap := by omega
    have k2 : (0 : Int) ≤ (k : Int) + 1 := by omega
    have k3 : (k : Int) + 1 ≤ T.l.length := by omega
    have k4 : (T.l.length : Int) ≤ cap := by omega
    have k5 : IntKind.i64.wrap ((k : Int) + 1) = (k : Int) + 1 := IntWalk.i64_in _ (by omega)
    have ga := World.grownBy_alloc w (.cells #[] 119) none
    have MA := (MM.out.take (k := k) (by omega) cap).grown (row := none) ga (fun a e => ⟨b, 0, (Option.some.inj e).symm, by simp⟩)
    have MD := (MM.out.drop (k := k + 1) (ao := if cap = k + 1 then some ⟨b, 0, none⟩ else some ⟨b, (k + 1) * 3, none⟩) (by omega) (fun h => by rw [if_neg (by omega)]) (by split <;> simp) (cap - (k + 1))).grown (row := none) ga (fun a e => by
      split at e
      · exact ⟨b, 0, (Option.some.inj e).symm, by simp⟩
      · exact ⟨b, (k + 1) * 3, (Option.some.inj e).symm, by simp⟩)
    have O1 : Hid (((w.alloc (.cells #[] 119)).drew).ownsRow w.heap.size 119 3 (.slice (some ⟨w.heap.size, 0, none⟩) 0 0) 0 (mml [])) := hide (World.ownsRow_lit w #[] 0 (by omega) (by unfold maxLen; omega) rfl)
    have M1 : Hid (Mrs (w.alloc (.cells #[] 119)).drew (some ⟨b, 0, none⟩) k cap (T.l.take k)) := hide ⟨MA.len, MA.nil, MA.src⟩
    have M2 : Hid (Mrs (w.alloc (.cells #[] 119)).drew (if cap = k + 1 then some ⟨b, 0, none⟩ else some ⟨b, (k + 1) * 3, none⟩) (T.l.length - (k + 1)) (cap - (k + 1)) (T.l.drop (k + 1))) := hide ⟨MD.len, MD.nil, MD.src⟩
    have hlt1 : Hid (w.heap.size ≤ ((w.alloc (.cells #[] 119)).drew).heap.size) := hide (by simp)
    have b0 : Below w.heap.size w (w.alloc (.cells #[] 119)).drew := (below_alloc w _).drew
    have B0 := hide b0
    have HB := hide hbl
    have HN : Hid (some (g + 1) ≠ some w.heap.size) := hide (fun e => by have := Option.some.inj e; omega)
    have C1 := hide ((b0.cell (p := ⟨g + 1, 1, none⟩) (by show g + 1 < w.heap.size; omega)).trans c1)
    have c1a : (w.alloc (.cells #[] 119)).cell? ⟨g + 1, 1, none⟩ = some (.slice (some ⟨b, 0, none⟩) T.l.length cap) := C1.out
    have HBN : Hid (b ≠ w.heap.size) := hide (by omega)
    have HG : Hid (g + 1 < w.heap.size) := hide (by omega)
    have HGL : Hid (g + 2 ≤ w.heap.size) := hide hl
    have HK1 : Hid (g + 1 ∈ [g, g + 1]) := hide (by simp)
    have HG2 : Hid (1 < [Value.int .i64 T.n, .slice (some ⟨b, 0, none⟩) T.l.length cap, .slice (some ⟨g, 0, none⟩) T.n T.n].length) := hide (by simp)
    have HL : Hid (0 + k + (T.l.length - (k + 1)) = (T.l.take k ++ T.l.drop (k + 1)).length) := hide (by simp; omega)
    clear MA MD b0 ga
    go_enter Tryz.func45, Tryz.ntmps45
    go_wp2_with (first | (go_at_call 67; refine (q1 _ HH.out).mono ?_; rintro e w' ⟨rfl, rfl⟩) | (go_at_call 68; refine (q2 _ HH.out).mono ?_; rintro e w' ⟨rfl, rfl⟩))
    clear q1 q2
    have tk1 : True := trivial
    have tk2 : True := trivial
    go_region_law (first | (have _t := tk1; refine step_mapp rfl rfl (.tmp 22) (.tmp 28) rfl _ _ 0 [] rfl O1.out _ _ _ _ rfl M1.out (by omega) hlt1.out ?_; intro v1 w1 R1 G1; have c1b := G1.cell C1.out HN.out; have B1 := hide (B0.out.grown G1 hlt1.out (fun k hk => (O1.out.lt k hk).1)); have M3 := hide (M2.out.grown G1 (fun a e => at_if e HBN.out)); have hlt2 : Hid (_ ≤ w1.heap.size) := (hide (Nat.le_trans hlt1.out G1.size)); clear tk1 G1) | (have _t := tk2; refine step_mapp rfl rfl (.tmp 29) (.tmp 36) rfl _ _ _ _ rfl R1 _ _ _ _ rfl M3.out (by omega) hlt2.out ?_; intro v2 w2 R2 G2; obtain ⟨ao2, c2, rfl⟩ := own_form R2; have B2 := B1.out.grown G2 hlt2.out (fun k hk => (R1.lt k hk).1); have c1c := (HH.out.bx.below HG.out B2).cell 1 _ rfl; have c1f := (HH.out.bx.below HG.out B2).free 1 HG2.out; have F := hide (HH.out.fresh (T' := ⟨T.n, T.l.take k ++ T.l.drop (k + 1), T.ns⟩) (B2.mono HGL.out) rfl rfl HW.out (row_low HGL.out (own_len R2 HL.out))); have F3 := hide (fun lv0 : Value => Fr.fresh (K := [g, g + 1]) (lv := lv0) B2 R2 HK1.out 1 (.slice ao2 (0 + k + (T.l.length - (k + 1))) c2)); clear tk2 R2 G2 B2))
    all_goals go_wp2
    all_goals
      go_ret
      have F' := F.out
      simp only [Nat.zero_add] at F'
      have F3' := F3.out
      simp only [Nat.zero_add] at F3'
      exact ⟨rfl, ⟨_, F'.1, F3' _⟩, F'.2⟩
set_option maxRecDepth 100000 in
set_option maxHeartbeats 2000000 in
theorem remove43_no (g : Nat) (lv : Value) (T : Tb) (v p : Int) (w : World) (H : RT w g lv T) (hc : (isV v && hp T p) = false) : Calls Tryz.prog 45 #[.pointer (some ⟨g + 1, 0, none⟩), .int .i64 v, .int .i64 p] w
    fun e w' => e = .returned (.int .i64 1) ∧ w' = w := by
  have q1 := fun w H => right39 g lv T v p w H
  rw [hc] at q1
  have HH := hide H
  clear H
  go_enter Tryz.func45, Tryz.ntmps45
  go_wp2_with (first | (go_at_call 67; refine (q1 _ HH.out).mono ?_; rintro e w' ⟨rfl, rfl⟩))
  go_ret
  exact ⟨rfl, rfl⟩
set_option maxRecDepth 100000 in
set_option maxHeartbeats 2000000 in
theorem remove43_none (g : Nat) (lv : Value) (T : Tb) (v p : Int) (w : World) (H : RT w g lv T) (hv : isV v = true) (hh : hp T p = true) (hm : hs T.l v p = false) : Calls Tryz.prog 45 #[.pointer (some ⟨g + 1, 0, none⟩), .int .i64 v, .int .i64 p] w
    fun e w' => e = .returned (.int .i64 4) ∧ w' = w := by
  have q1 := fun w H => right39 g lv T v p w H
  rw [hv, hh, Bool.true_and] at q1
  have q2 := fun w H => find29 g lv T v p w H
  have hfx : fx T.l v p = -1 := by rw [fx, hm]; rfl
  rw [hfx] at q2
  have HH := hide H
  clear H
  go_enter Tryz.func45, Tryz.ntmps45
  go_wp2_with (first | (go_at_call 67; refine (q1 _ HH.out).mono ?_; rintro e w' ⟨rfl, rfl⟩) | (go_at_call 68; refine (q2 _ HH.out).mono ?_; rintro e w' ⟨rfl, rfl⟩))
  go_ret
  exact ⟨rfl, rfl⟩
theorem remove43 (g : Nat) (lv : Value) (T : Tb) (v p : Int) (w : World) (H : RT w g lv T) (hL : T.l.length ≤ 1000) : Calls Tryz.prog 45 #[.pointer (some ⟨g + 1, 0, none⟩), .int .i64 v, .int .i64 p] w
    fun e w' => e = .returned (.int .i64 (eRm T v p)) ∧ (∃ lv', RT w' g lv' (tRm T v p) ∧ Fr [g, g + 1] lv lv' w w') ∧ Below g w w' := by
  rcases Bool.eq_false_or_eq_true (isV v && hp T p) with hc | hc
  · have hc' := hc
    simp only [Bool.and_eq_true] at hc'
    rcases Bool.eq_false_or_eq_true (hs T.l v p) with hm | hm
    · have e1 : eRm T v p = 0 := by rw [eRm, hc, hm]; rfl
      rw [e1]
      exact remove43_cut g lv T v p w H hL hc'.1 hc'.2 hm
    · have e1 : eRm T v p = 4 := by rw [eRm, hc, hm]; rfl
      have e2 : tRm T v p = T := by
        rw [tRm, hc, rm_erase, List.eraseIdx_of_length_le]
        · rfl
        · have h9 := hs_ix T.l v p
          rw [hm] at h9
          simp at h9
          exact h9
      rw [e1, e2]
      refine (remove43_none g lv T v p w H hc'.1 hc'.2 hm).mono ?_
      rintro e w' ⟨rfl, rfl⟩
      exact ⟨rfl, ⟨lv, H, Fr.refl _ _ _⟩, Below.refl _ _⟩
  · have e1 : eRm T v p = 1 := by rw [eRm, hc]; rfl
    have e2 : tRm T v p = T := by rw [tRm, hc]; rfl
    rw [e1, e2]
    refine (remove43_no g lv T v p w H hc).mono ?_
    rintro e w' ⟨rfl, rfl⟩
    exact ⟨rfl, ⟨lv, H, Fr.refl _ _ _⟩, Below.refl _ _⟩
end Go.Proofs.YtgpdjfaklcmoiaaGreat
/- Contracts: Members, of both; SameInts. -/
namespace Go.Proofs.YtgpdjfaklcmoiaaGreat
open Go.RowKit Go.PlainAid

theorem mbs_yes {l : List Mm} {v : Int} {k : Nat} (h : hs l v k = true) : mbs l v (k + 1) = mbs l v k ++ [(k : Int)] := by
  rw [mbs, h]; rfl
theorem mbs_no {l : List Mm} {v : Int} {k : Nat} (h : hs l v k = false) : mbs l v (k + 1) = mbs l v k := by
  rw [mbs, h]; rfl
/-- Members so far. -/
structure Ms (w wr : World) (v : Value) (xs : List Int) : Prop where
  row : IRow wr w.heap.size v xs.length xs
  B : Below w.heap.size w wr
set_option maxRecDepth 100000 in
set_option maxHeartbeats 4000000 in
theorem members13 (h : Nat) (T : Tb) (v : Int) (w : World) (hv : I64 v) (P : PT w h T) :
    Calls Tryz.prog 21 #[.pointer (some ⟨h + 2, 0, none⟩), .int .i64 v] w fun e w' => ∃ ao c, e = .returned (.slice ao (mbs T.l v T.n).length c) ∧ Its w' w.heap.size ao (mbs T.l v T.n).length c (mbs T.l v T.n) ∧ Below w.heap.size w w' := by
  have c1 := P.bx.cell 1 _ rfl
  have hn := P.wf.n64
  have HP := hide P
  have HV := hide hv
  clear P hv
  go_enter Tryz.func21, Tryz.ntmps21
  go_wp2
  go_loopw [5, 6, 12] (fun s _ i wr => ∃ k : Nat, k ≤ T.n ∧ i = .int .i64 k ∧ Ms w wr s (mbs T.l v k)) (fun _ _ i _ => T.n - (intOf i).toNat)
  case atStart => exact ⟨0, Nat.zero_le _, rfl, ⟨IRow.nil _ _, Below.refl _ _⟩⟩
  case round =>
    obtain ⟨k, hk, rfl, M⟩ := hrel
    by_cases hlt : k < T.n
    · have hlt' : (k : Int) < T.n := by omega
      have HM := hide M
      have PW := hide (HP.out.on M.B)
      clear M c1
      go_wp2_with fail
      refine (isMember28 h T v k _ HV.out ⟨by omega, by omega⟩ PW.out).mono ?_
      rintro e w1 ⟨rfl, B1⟩
      have R1 := HM.out.row.on B1
      have BB := belowOn HM.out.B B1
      have hle := mbs_len T.l v k
      clear HM B1 PW
      rcases Bool.eq_false_or_eq_true (hs T.l v k) with hm | hm
      · rw [hm]
        have e1 := hide (mbs_yes hm)
        clear hm
        generalize mbs T.l v k = xs at *
        have R2 := hide (R1.alloc (.cells #[.int .i64 k] 3))
        have B2 := hide (belowOn BB (below_alloc w1 (.cells #[.int .i64 k] 3)))
        have hs2 : Hid (w.heap.size ≤ (w1.alloc (.cells #[.int .i64 k] 3)).heap.size) := hide B2.out.size
        have C2 : Hid ((w1.alloc (.cells #[.int .i64 k] 3)).cell? ⟨w1.heap.size, 0, none⟩ = some (.int .i64 k)) := hide (by rw [World.cell?_alloc_at _ _ _ _ rfl]; rfl)
        have hl1 : Hid (xs.length + 1 ≤ 100000) := hide (by omega)
        clear R1 BB
        have tk1 : True := trivial
        go_wp2_with (first | (have _t := tk1; at_builtin; refine wpl_iapp rfl (.tmp 19) (.tmp 21) rfl w.heap.size _ _ _ rfl R2.out _ k rfl C2.out hl1.out hs2.out ?_; clear tk1))
        intro v3 w3 R3 B3 _
        obtain ⟨ao3, c3, rfl, -⟩ := R3.its
        have M3 : Hid (Ms w w3 (.slice ao3 (xs.length + 1) c3) (xs ++ [(k : Int)])) := hide ⟨by simpa using R3, B2.out.trans B3⟩
        clear R3 B3 R2 B2 C2 hs2
        go_wp2
        go_roundw
        case rel => exact ⟨k + 1, by omega, by go_num, by rw [e1.out]; exact M3.out⟩
        case measure => simp [intOf]; omega
      · rw [hm]
        have e1 := hide (mbs_no hm)
        have M3 : Hid (Ms w w1 u5 (mbs T.l v k)) := hide ⟨R1, BB⟩
        clear hm R1 BB
        go_wp2
        go_roundw
        case rel => exact ⟨k + 1, by omega, by go_num, by rw [e1.out]; exact M3.out⟩
        case measure => simp [intOf]; omega
    · obtain rfl : k = T.n := by omega
      obtain ⟨ao, c, rfl, hI⟩ := M.row.its
      have HI := hide hI
      have HB := hide M.B
      clear M hI
      go_wp2
      go_ret
      exact ⟨ao, c, rfl, HI.out, HB.out⟩
end Go.Proofs.YtgpdjfaklcmoiaaGreat
/- Memory: addresses, entries and steps as cells; rows of entries; how worlds grow. -/
namespace Go.Proofs.YtgpdjfaklcmoiaaGreat
open Go.RowKit

theorem Tryz.cells61 : Tryz.prog.cellsOf 61 = 10 := by kernel_rfl
theorem Tryz.size61 : (Tryz.prog.info? 61).map (·.size) = some 10 := by kernel_rfl
/-- The cells of an address, of an entry, of a step. -/
def mcl (m : Mc) : List Value := [.int .u8 m.a, .int .u8 m.b, .int .u8 m.c, .int .u8 m.d, .int .u8 m.e, .int .u8 m.f]
def MC (m : Mc) : Array Value := (mcl m).toArray
def ecl (x : En) : List Value := .int .i64 x.v :: (mcl x.m ++ [.int .i64 x.p, .int .i64 x.t, .bool x.s])
def EC (x : En) : Array Value := (ecl x).toArray
structure St where
  d : Int
  v : Int
  m : Mc
  p : Int
  t : Int
  n : Int
def fscl (s : St) : List Value := .int .i64 s.d :: .int .i64 s.v :: (mcl s.m ++ [.int .i64 s.p, .int .i64 s.t, .int .i64 s.n])
def SC (s : St) : Array Value := (fscl s).toArray
theorem ecl_length (x : En) : (ecl x).length = 10 := rfl
theorem mcl_length (x : Mc) : (mcl x).length = 6 := rfl
theorem scl_length (x : St) : (fscl x).length = 11 := rfl
theorem EC_size (x : En) : (EC x).size = 10 := rfl
theorem EC0 (x : En) : (EC x)[0]? = some (.int .i64 x.v) := rfl
theorem EC1 (x : En) : (EC x)[1]? = some (.int .u8 x.m.a) := rfl
theorem EC2 (x : En) : (EC x)[2]? = some (.int .u8 x.m.b) := rfl
theorem EC3 (x : En) : (EC x)[3]? = some (.int .u8 x.m.c) := rfl
theorem EC4 (x : En) : (EC x)[4]? = some (.int .u8 x.m.d) := rfl
theorem EC5 (x : En) : (EC x)[5]? = some (.int .u8 x.m.e) := rfl
theorem EC6 (x : En) : (EC x)[6]? = some (.int .u8 x.m.f) := rfl
theorem EC7 (x : En) : (EC x)[7]? = some (.int .i64 x.p) := rfl
theorem EC8 (x : En) : (EC x)[8]? = some (.int .i64 x.t) := rfl
theorem EC9 (x : En) : (EC x)[9]? = some (.bool x.s) := rfl
theorem MC0 (m : Mc) : (MC m)[0]? = some (.int .u8 m.a) := rfl
theorem MC1 (m : Mc) : (MC m)[1]? = some (.int .u8 m.b) := rfl
theorem MC2 (m : Mc) : (MC m)[2]? = some (.int .u8 m.c) := rfl
theorem MC3 (m : Mc) : (MC m)[3]? = some (.int .u8 m.d) := rfl
theorem MC4 (m : Mc) : (MC m)[4]? = some (.int .u8 m.e) := rfl
theorem MC5 (m : Mc) : (MC m)[5]? = some (.int .u8 m.f) := rfl
theorem SC0 (s : St) : (SC s)[0]? = some (.int .i64 s.d) := rfl
theorem SC1 (s : St) : (SC s)[1]? = some (.int .i64 s.v) := rfl
theorem SC8 (s : St) : (SC s)[8]? = some (.int .i64 s.p) := rfl
theorem SC9 (s : St) : (SC s)[9]? = some (.int .i64 s.t) := rfl
theorem SC10 (s : St) : (SC s)[10]? = some (.int .i64 s.n) := rfl
theorem ZE : (#[.int .i64 0, .int .u8 0, .int .u8 0, .int .u8 0, .int .u8 0, .int .u8 0, .int .u8 0, .int .i64 0, .int .i64 0, .bool false] : Array Value) = EC zE := rfl
theorem one_ecl (x : En) : ∀ v ∈ ecl x, v.oneCell' = true := by
  intro v hv
  simp only [ecl, mcl, List.mem_cons, List.mem_append, List.not_mem_nil, or_false] at hv
  rcases hv with rfl | (rfl | rfl | rfl | rfl | rfl | rfl) | rfl | rfl | rfl <;> rfl
theorem one_EC (x : En) : (EC x).all (·.oneCell') = true := all_oneCell_toArray (one_ecl x)
/-- Entries in a row. -/
def es (l : List En) : List Value := l.flatMap ecl
theorem es_length : ∀ l : List En, (es l).length = l.length * 10
  | [] => rfl
  | x :: r => by
    have := es_length r
    unfold es at this ⊢
    rw [List.flatMap_cons, List.length_append, this, ecl_length, List.length_cons]
    omega
theorem es_append (a b : List En) : es (a ++ b) = es a ++ es b := by simp [es]
theorem es_cons (x : En) (r : List En) : es (x :: r) = ecl x ++ es r := rfl
theorem es_parts {l : List En} {j : Nat} {x : En} (h : l[j]? = some x) : es l = es (l.take j) ++ (ecl x ++ es (l.drop (j + 1))) := by
  obtain ⟨hl, e⟩ := List.getElem?_eq_some_iff.1 h
  rw [← es_cons, ← es_append]
  congr 1
  rw [← e, List.getElem_cons_drop, List.take_append_drop]
theorem es_set {l : List En} {j : Nat} {x : En} (y : En) (h : l[j]? = some x) : es (l.set j y) = es (l.take j) ++ (ecl y ++ es (l.drop (j + 1))) := by
  obtain ⟨hl, e⟩ := List.getElem?_eq_some_iff.1 h
  have h2 : (l.set j y)[j]? = some y := by rw [List.getElem?_set_self hl]
  rw [es_parts h2, List.take_set_of_le (Nat.le_refl _), List.drop_set_of_lt (by omega)]
theorem es_take_len {l : List En} {j : Nat} {x : En} (h : l[j]? = some x) : (es (l.take j)).length = j * 10 := by
  have := (List.getElem?_eq_some_iff.1 h).1
  rw [es_length, List.length_take]; omega
theorem Box.ent {w : World} {k : Nat} {l : List En} (h : Box w k (es l)) {j : Nat} {x : En} (hj : l[j]? = some x) : w.rangeAt k (j * 10) (ecl x) := by
  have h1 := h.at_
  rw [es_parts hj] at h1
  exact rangeAt_left (rangeAt_right h1 (by rw [es_take_len hj]; omega))
theorem ent_mac {w : World} {k o : Nat} {x : En} (h : w.rangeAt k o (ecl x)) : w.rangeAt k (o + 1) (mcl x.m) :=
  rangeAt_left (rangeAt_right (A := [.int .i64 x.v]) (B := mcl x.m ++ [.int .i64 x.p, .int .i64 x.t, .bool x.s]) h rfl)
theorem Box.putE {w : World} {k : Nat} {l : List En} (h : Box w k (es l)) {j : Nat} {x : En} (hj : l[j]? = some x) (y : En) : Box (w.setCells k (j * 10) (ecl y)) k (es (l.set j y)) := by
  rw [es_parts hj] at h
  rw [es_set y hj]
  exact h.put (by rw [ecl_length, ecl_length]) (es_take_len hj)
theorem Box.thE {w : World} {k : Nat} {l : List En} (h : Box w k (es l)) {j : Nat} (hj : j < l.length) : w.there k (j * 10) 10 := fun i hi => by
  have := h.th (j * 10 + i) (by rw [es_length]; omega)
  rw [Nat.zero_add] at this
  exact this
theorem wpl_mac {ops : Array Oper} {rest : List Oper} {op : Oper} {a : Act} {w : World} {Q : Exit → Act → World → Prop} {k o : Nat} {i : Mc} (x : Operand) (ho : op.op = .load 35 x) (hA : w.rangeAt k o (mcl i)) (hw : Region.wanted op (yielded ops a.tmps) = true) (hx : a.eval x = .pointer (some ⟨k, o, none⟩))
    (h : wpList Tryz.prog ops Q rest (a.put op.dst (.agg (MC i))) w) : wpList Tryz.prog ops Q (op :: rest) a w :=
  wpl_load 35 x ho k o _ _ hA Tryz.underlying35 rfl Tryz.size35 hw hx h
theorem wpl_ent {ops : Array Oper} {rest : List Oper} {op : Oper} {a : Act} {w : World} {Q : Exit → Act → World → Prop} {k o : Nat} {i : En} (x : Operand) (ho : op.op = .load 61 x) (hA : w.rangeAt k o (ecl i)) (hw : Region.wanted op (yielded ops a.tmps) = true) (hx : a.eval x = .pointer (some ⟨k, o, none⟩))
    (h : wpList Tryz.prog ops Q rest (a.put op.dst (.agg (EC i))) w) : wpList Tryz.prog ops Q (op :: rest) a w :=
  wpl_load 61 x ho k o _ _ hA Tryz.underlying61 rfl Tryz.size61 hw hx h
theorem Box.self {w : World} {k : Nat} {cs cs' : List Value} (h : Box w k cs) (hl : cs'.length = cs.length) : Box (w.setCells k 0 cs') k cs' := by
  have hb := Box.put (w := w) (k := k) (o := 0) (A := []) (B := cs) (C := []) (B' := cs') (by simpa using h) hl rfl
  rw [List.append_nil, List.nil_append] at hb
  exact hb
/-- An entry is stored into a variable of its own. -/
theorem wpl_putE {ops : Array Oper} {rest : List Oper} {op : Oper} {a : Act} {w : World} {Q : Exit → Act → World → Prop} {k : Nat} (p m : En) (x y : Operand) (ho : op.op = .store 61 x y) (ht : Box w k (ecl m)) (hw : Region.wanted op (yielded ops a.tmps) = true) (hx : a.eval x = .pointer (some ⟨k, 0, none⟩)) (hy : a.eval y = .agg (EC p))
    (h : ∀ w', Box w' k (ecl p) → w.grownBy w' (some k) → wpList Tryz.prog ops Q rest (a.put op.dst undef) w') : wpList Tryz.prog ops Q (op :: rest) a w :=
  wpList_step fun K hK => by
    rw [if_pos hw]
    exact wp_store_mid 61 x y ho k 0 (EC p) hx hy ht.th Tryz.size61 (one_EC p) (hK _ _ (h _ (ht.self rfl) (setCells_grown k _ 0 w)))
/-- .. and into its place in a row. -/
theorem wpl_putR {ops : Array Oper} {rest : List Oper} {op : Oper} {a : Act} {w : World} {Q : Exit → Act → World → Prop} {k : Nat} (l : List En) (j : Nat) (p : En) (x y : Operand) (ho : op.op = .store 61 x y) (ht : Box w k (es l)) (hj : j < l.length) (hw : Region.wanted op (yielded ops a.tmps) = true) (hx : a.eval x = .pointer (some ⟨k, j * 10, none⟩)) (hy : a.eval y = .agg (EC p))
    (h : ∀ w', Box w' k (es (l.set j p)) → w.grownBy w' (some k) → wpList Tryz.prog ops Q rest (a.put op.dst undef) w') : wpList Tryz.prog ops Q (op :: rest) a w :=
  wpList_step fun K hK => by
    rw [if_pos hw]
    exact wp_store_mid 61 x y ho k (j * 10) (EC p) hx hy (ht.thE hj) Tryz.size61 (one_EC p) (hK _ _ (h _ (ht.putE (List.getElem?_eq_getElem hj) p) (setCells_grown k _ _ w)))
end Go.Proofs.YtgpdjfaklcmoiaaGreat
/- Contracts of the small functions: numbers of addresses and their order, of the program and of the document; equality; next, way, isMoment, mayBe, right. -/
namespace Go.Proofs.YtgpdjfaklcmoiaaGreat
open Go.RowKit Go.PlainAid

/-- Which of two numbers is less. -/
def cmp3 (x y : Int) : Int := if x < y then -1 else if y < x then 1 else 0
theorem cmp3_lt {x y : Int} (h : x < y) : cmp3 x y = -1 := by simp [cmp3, h]
theorem cmp3_gt {x y : Int} (h : y < x) : cmp3 x y = 1 := by simp [cmp3, h]; omega
theorem cmp3_eq {x y : Int} (h : ¬ x < y) (k : ¬ y < x) : cmp3 x y = 0 := by simp [cmp3, h, k]
theorem Tryz.info5s : (Tryz.prog.info? 5).isSome = true := by kernel_rfl
theorem Tryz.info5e : ∃ i, Tryz.prog.info? 5 = some i := Option.isSome_iff_exists.1 Tryz.info5s
/-- 'x << 8 | b' of a uint64 that has room. -/
theorem or8 (x b : Int) (h0 : 0 ≤ x) (h1 : x < 1099511627776) (g0 : 0 ≤ b) (g1 : b < 256) :
    bits .or .u64 (IntKind.u64.wrap (x * 256)) (IntKind.u64.wrap b) = x * 256 + b := by
  have e1 : IntKind.u64.wrap (x * 256) = x * 256 := IntWalk.u64_in _ (by omega)
  have e2 : IntKind.u64.wrap b = b := IntWalk.u64_in _ (by omega)
  rw [e1, e2, u64_or _ _ (by omega) (by omega) (by omega) (by omega), nat_join 8 _ _ (by omega) (by omega)]
  omega
theorem or0 (b : Int) (g0 : 0 ≤ b) (g1 : b < 256) : bits .or .u64 0 (IntKind.u64.wrap b) = b := by
  have e2 : IntKind.u64.wrap b = b := IntWalk.u64_in _ (by omega)
  rw [e2, u64_or _ _ (by omega) (by omega) (by omega) (by omega), nat_join 8 _ _ (by omega) (by omega)]
  omega
theorem or_num {m : Mc} (h : Mok m) :
    bits .or .u64 (IntKind.u64.wrap (bits .or .u64 (IntKind.u64.wrap (bits .or .u64 (IntKind.u64.wrap (bits .or .u64 (IntKind.u64.wrap (bits .or .u64 (IntKind.u64.wrap (bits .or .u64 0 (IntKind.u64.wrap m.a) * 256)) (IntKind.u64.wrap m.b) * 256)) (IntKind.u64.wrap m.c) * 256)) (IntKind.u64.wrap m.d) * 256)) (IntKind.u64.wrap m.e) * 256)) (IntKind.u64.wrap m.f) = num m := by
  obtain ⟨l0, u0, l1, u1, l2, u2, l3, u3, l4, u4, l5, u5⟩ := h
  rw [or0 _ l0 u0, or8 _ m.b (by omega) (by omega) l1 u1, or8 _ m.c (by omega) (by omega) l2 u2, or8 _ m.d (by omega) (by omega) l3 u3, or8 _ m.e (by omega) (by omega) l4 u4, or8 _ m.f (by omega) (by omega) l5 u5]
  rfl
set_option maxRecDepth 100000 in
theorem eqMacD (d : Nat) (x y : Mc) (w : World) : (Op.equalIn (d + 2) 35 (.agg (MC x)) (.agg (MC y))).run Tryz.prog w = .ok (eqM x y) w := by
  obtain ⟨i, hi⟩ := Tryz.info5e
  rw [show d + 2 = (d + 1) + 1 from rfl, run_equalIn_array w (d + 1) _ _ Tryz.underlying35 hi, Tryz.cells5]
  have p0 : ∀ (x : Mc) (w : World), (part 5 (MC x) 0).run Tryz.prog w = .ok (.int .u8 x.a) w := fun _ _ => by kernel_rfl
  have p1 : ∀ (x : Mc) (w : World), (part 5 (MC x) 1).run Tryz.prog w = .ok (.int .u8 x.b) w := fun _ _ => by kernel_rfl
  have p2 : ∀ (x : Mc) (w : World), (part 5 (MC x) 2).run Tryz.prog w = .ok (.int .u8 x.c) w := fun _ _ => by kernel_rfl
  have p3 : ∀ (x : Mc) (w : World), (part 5 (MC x) 3).run Tryz.prog w = .ok (.int .u8 x.d) w := fun _ _ => by kernel_rfl
  have p4 : ∀ (x : Mc) (w : World), (part 5 (MC x) 4).run Tryz.prog w = .ok (.int .u8 x.e) w := fun _ _ => by kernel_rfl
  have p5 : ∀ (x : Mc) (w : World), (part 5 (MC x) 5).run Tryz.prog w = .ok (.int .u8 x.f) w := fun _ _ => by kernel_rfl
  have pe : ∀ (x y : Int) (w : World), (Op.equalIn (d + 1) 5 (.int .u8 x) (.int .u8 y)).run Tryz.prog w = .ok (x == y) w := fun x y w => run_equalIn_int w d 5 _ _ x y Tryz.underlying5
  simp [Op.eqItems, show List.range 6 = [0, 1, 2, 3, 4, 5] from rfl, p0, p1, p2, p3, p4, p5, pe, eqM]
  by_cases e0 : x.a = y.a
  · by_cases e1 : x.b = y.b
    · by_cases e2 : x.c = y.c
      · by_cases e3 : x.d = y.d
        · by_cases e4 : x.e = y.e
          · by_cases e5 : x.f = y.f <;> simp [e0, e1, e2, e3, e4, e5]
          · simp [e0, e1, e2, e3, e4]
        · simp [e0, e1, e2, e3]
      · simp [e0, e1, e2]
    · simp [e0, e1]
  · simp [e0]
theorem eqMac (x y : Mc) (w : World) : (Op.equalIn 10000 35 (.agg (MC x)) (.agg (MC y))).run Tryz.prog w = .ok (eqM x y) w := eqMacD 9998 x y w
def eqT (d : Nat) (xs ys : Array Value) : List (Bool × TypeId × Nat) → Sem Bool
  | [] => pure true
  | (b, t, o) :: r =>
    if b = true then do
      let a ← part t xs o
      let c ← part t ys o
      let q ← Op.equalIn d t a c
      if (!q) = true then pure false else eqT d xs ys r
    else eqT d xs ys r
theorem eqT_of (d : Nat) (xs ys : Array Value) : ∀ fs : List Field, Op.eqFields d xs ys fs = eqT d xs ys (fs.map fun f => (decide (f.name ≠ "_"), f.type, f.offset))
  | [] => rfl
  | f :: fs => by
    have ih := eqT_of d xs ys fs
    simp only [Op.eqFields, eqT, List.map_cons, decide_eq_true_eq, ih]
theorem Tryz.fl61 : (Tryz.prog.fieldsOf 61).toList.map (fun f => (decide (f.name ≠ "_"), f.type, f.offset)) = [(true, 3, 0), (true, 35, 1), (true, 3, 7), (true, 3, 8), (true, 4, 9)] := by kernel_rfl
theorem Tryz.st61 : Tryz.prog.stoodInHeld 61 = false := by kernel_rfl
theorem run_if_and (w : World) (b c : Bool) (s : Sem Bool) (fhs : s.run Tryz.prog w = .ok c w) : (if (!b) = true then (pure false : Sem Bool) else s).run Tryz.prog w = .ok (b && c) w := by
  cases b
  · simp
  · simpa using fhs
set_option maxRecDepth 100000 in
theorem eqEnt (x y : En) (w : World) : (Op.equalIn 10000 61 (.agg (EC x)) (.agg (EC y))).run Tryz.prog w = .ok (eqE x y) w := by
  rw [show 10000 = 9999 + 1 from rfl, run_equalIn_struct w 9999 61 (EC x) (EC y) (by kernel_rfl) Tryz.st61, eqT_of, Tryz.fl61]
  have p0 : ∀ (x : En) (w : World), (part 3 (EC x) 0).run Tryz.prog w = .ok (.int .i64 x.v) w := fun _ _ => by kernel_rfl
  have p1 : ∀ (x : En) (w : World), (part 35 (EC x) 1).run Tryz.prog w = .ok (.agg (MC x.m)) w := fun _ _ => by kernel_rfl
  have p7 : ∀ (x : En) (w : World), (part 3 (EC x) 7).run Tryz.prog w = .ok (.int .i64 x.p) w := fun _ _ => by kernel_rfl
  have p8 : ∀ (x : En) (w : World), (part 3 (EC x) 8).run Tryz.prog w = .ok (.int .i64 x.t) w := fun _ _ => by kernel_rfl
  have p9 : ∀ (x : En) (w : World), (part 4 (EC x) 9).run Tryz.prog w = .ok (.bool x.s) w := fun _ _ => by kernel_rfl
  have pe : ∀ (x y : Int) (w : World), (Op.equalIn 9999 3 (.int .i64 x) (.int .i64 y)).run Tryz.prog w = .ok (x == y) w := fun x y w => run_equalIn_int w 9998 3 _ _ x y Tryz.underlying3
  have pb : ∀ (x y : Bool) (w : World), (Op.equalIn 9999 4 (.bool x) (.bool y)).run Tryz.prog w = .ok (x == y) w := fun x y w => by cases x <;> cases y <;> kernel_rfl
  have pm := eqMacD 9997
  simp only [eqT, if_true, Sem.run_bind, p0, pe, Result.andThen_ok]
  refine run_if_and w _ _ _ ?_
  simp only [Sem.run_bind, p1, pm, Result.andThen_ok]
  refine run_if_and w _ _ _ ?_
  simp only [Sem.run_bind, p7, pe, Result.andThen_ok]
  refine run_if_and w _ _ _ ?_
  simp only [Sem.run_bind, p8, pe, Result.andThen_ok]
  refine run_if_and w _ _ _ ?_
  simp only [Sem.run_bind, p9, pb, Result.andThen_ok]
  cases x.s == y.s <;> rfl
section
attribute [local go_sem] MC0 MC1 MC2 MC3 MC4 MC5
set_option maxRecDepth 100000 in
set_option maxHeartbeats 400000 in
theorem num59 (m : Mc) (w : World) (h : Mok m) : Calls Tryz.prog 106 #[.agg (MC m)] w fun e w' => e = .returned (.int .u64 (num m)) ∧ Below w.heap.size w w' := by
  go_enter Tryz.func106, Tryz.ntmps106
  go_wp2
  go_rounds 7
  go_ret
  exact ⟨ret_int (or_num h), by go_grown⟩
set_option maxRecDepth 100000 in
set_option maxHeartbeats 400000 in
theorem num38 (m : Mc) (w : World) (h : Mok m) : Calls Tryz.prog 113 #[.agg (MC m)] w fun e w' => e = .returned (.int .u64 (num m)) ∧ Below w.heap.size w w' := by
  obtain ⟨l0, u0, l1, u1, l2, u2, l3, u3, l4, u4, l5, u5⟩ := h
  go_enter Tryz.func113, Tryz.ntmps113
  go_wp2
  go_rounds 7
  go_ret
  exact ⟨rfl, by go_grown⟩
theorem odd_and (x : Int) (h0 : 0 ≤ x) (h1 : x < 256) : (bits .and .u8 x 1 == 1) = (x % 2 == 1) := by
  have : ∀ k : Fin 256, (bits .and .u8 (k.val : Int) 1 == 1) = ((k.val : Int) % 2 == 1) := by decide +kernel
  have := this ⟨x.toNat, by omega⟩
  rwa [show ((⟨x.toNat, by omega⟩ : Fin 256).val : Int) = x by simp; omega] at this
set_option maxRecDepth 100000 in
set_option maxHeartbeats 400000 in
theorem group53 (m : Mc) (w : World) (h : Mok m) : Calls Tryz.prog 98 #[.agg (MC m)] w fun e w' => e = .returned (.bool (grp m)) ∧ Below w.heap.size w w' := by
  have e := odd_and m.a h.a0 h.a1
  go_enter Tryz.func98, Tryz.ntmps98
  go_wp2
  go_ret
  exact ⟨ret_bool (by first | exact e | rfl | simp [grp]), by go_grown⟩
set_option maxRecDepth 100000 in
set_option maxHeartbeats 400000 in
theorem group22 (m : Mc) (w : World) (h : Mok m) : Calls Tryz.prog 25 #[.agg (MC m)] w fun e w' => e = .returned (.bool (grp m)) ∧ Below w.heap.size w w' := by
  have a0 := h.a0
  have a1 := h.a1
  clear h
  go_enter Tryz.func25, Tryz.ntmps25
  go_wp2
  go_ret
  exact ⟨ret_bool (by first | rfl | simp [grp]), by go_grown⟩
end
set_option maxRecDepth 100000 in
set_option maxHeartbeats 400000 in
theorem nan62 (x : Int) (w : World) : Calls Tryz.prog 112 #[.int .i64 x] w fun e w' => e = .returned (.bool false) ∧ w' = w := by
  have h : (x != x) = false := by simp
  go_enter Tryz.func112, Tryz.ntmps112
  go_wp2
  go_ret
  exact ⟨rfl, rfl⟩
set_option maxRecDepth 100000 in
set_option maxHeartbeats 400000 in
theorem cmp51 (x y : Int) (w : World) : Calls Tryz.prog 89 #[.int .i64 x, .int .i64 y] w fun e w' => e = .returned (.int .i64 (cmp3 x y)) ∧ w' = w := by
  go_enter Tryz.func89, Tryz.ntmps89
  go_wp2_with (go_at_call 112; refine (nan62 _ _).mono ?_; rintro e w' ⟨rfl, rfl⟩)
  · go_ret
    exact ⟨ret_int (cmp3_lt (by assumption)).symm, rfl⟩
  · go_ret
    exact ⟨ret_int (cmp3_gt (by assumption)).symm, rfl⟩
  · go_ret
    exact ⟨ret_int (cmp3_eq (by omega) (by omega)).symm, rfl⟩
set_option maxRecDepth 100000 in
set_option maxHeartbeats 400000 in
theorem moment32 (t : Int) (w : World) : Calls Tryz.prog 69 #[.int .i64 t] w fun e w' => e = .returned (.bool (isT t)) ∧ w' = w := by
  by_cases h1 : 0 ≤ t
  · by_cases h2 : t ≤ 1099511627776
    all_goals
      go_enter Tryz.func69, Tryz.ntmps69
      go_wp2
      go_ret
      exact ⟨ret_bool (by simp [isT, h1, h2]), rfl⟩
  · go_enter Tryz.func69, Tryz.ntmps69
    go_wp2
    go_ret
    exact ⟨ret_bool (by simp [isT]; omega), rfl⟩
attribute [local go_sem] ZE
set_option maxRecDepth 100000 in
set_option maxHeartbeats 400000 in
theorem free27 (x : En) (w : World) : Calls Tryz.prog 57 #[.agg (EC x)] w fun e w' => e = .returned (.bool (fre x)) ∧ Below w.heap.size w w' := by
  have he := fun w => eqEnt x zE w
  have A0 := (Box.new w (ecl x) 61).at_
  have tk1 : True := trivial
  go_enter Tryz.func57, Tryz.ntmps57
  go_wp2_with (first | (have _t := tk1; refine wpl_ent (.tmp 1) rfl A0 ?_ ?_ ?_; rfl; rfl; clear tk1))
  go_ret
  exact ⟨rfl, by go_grown⟩
end Go.Proofs.YtgpdjfaklcmoiaaGreat
/- Contracts of Compare, mayBe, right; the program's table in memory; next, way, first. -/
namespace Go.Proofs.YtgpdjfaklcmoiaaGreat
open Go.RowKit Go.PlainAid

theorem eqM_num {x y : Mc} (h : Mok x) (k : Mok y) : eqM x y = (num x == num y) := by
  rw [Bool.eq_iff_iff, eqM_iff, beq_iff_eq]
  exact ⟨fun e => by rw [e], num_inj h k⟩
theorem box_two (w : World) (a b : List Value) (e : TypeId) : Box ((w.alloc (.cells a.toArray e)).alloc (.cells b.toArray e)) w.heap.size a ∧ Box ((w.alloc (.cells a.toArray e)).alloc (.cells b.toArray e)) (w.heap.size + 1) b := by
  refine ⟨(Box.new w a e).alloc _, ?_⟩
  have h := Box.new (w.alloc (.cells a.toArray e)) b e
  rw [World.size_alloc] at h
  exact h
theorem box_m2 (w : World) (x y : Mc) : Box ((w.alloc (.cells (MC x) 35)).alloc (.cells (MC y) 35)) w.heap.size (mcl x) ∧ Box ((w.alloc (.cells (MC x) 35)).alloc (.cells (MC y) 35)) (w.heap.size + 1) (mcl y) := box_two w (mcl x) (mcl y) 35
theorem box_m (w : World) (x : Mc) : Box (w.alloc (.cells (MC x) 35)) w.heap.size (mcl x) := Box.new w (mcl x) 35
theorem box_e (w : World) (x : En) : Box (w.alloc (.cells (EC x) 61)) w.heap.size (ecl x) := Box.new w (ecl x) 61
set_option maxRecDepth 100000 in
set_option maxHeartbeats 1000000 in
theorem compare23 (x y : Mc) (w : World) (h : Mok x) (k : Mok y) :
    Calls Tryz.prog 99 #[.agg (MC x), .agg (MC y)] w fun e w' => e = .returned (.int .i64 (cmp3 (num x) (num y))) ∧ Below w.heap.size w w' := by
  obtain ⟨A, B⟩ := box_m2 w x y
  have A0 := A.at_
  have B0 := hide B
  have W0 : Hid (Below w.heap.size w ((w.alloc (.cells (MC x) 35)).alloc (.cells (MC y) 35))) := hide (by go_grown)
  clear A B
  have tk1 : True := trivial
  go_enter Tryz.func99, Tryz.ntmps99
  go_wp2_with (first | (have _t := tk1; refine wpl_mac (.tmp 2) rfl A0 ?_ ?_ ?_; rfl; rfl; clear tk1))
  refine (num38 x _ h).mono ?_
  rintro e w1 ⟨rfl, hb⟩
  have B1 := (B0.out.on hb).at_
  have W1 : Hid (Below w.heap.size w w1) := hide (belowOn W0.out hb)
  clear hb A0 B0 W0
  have tk1 : True := trivial
  go_wp2_with (first | (have _t := tk1; refine wpl_mac (.tmp 3) rfl B1 ?_ ?_ ?_; rfl; rfl; clear tk1))
  refine (num38 y _ k).mono ?_
  rintro e w2 ⟨rfl, hd⟩
  have W2 : Hid (Below w.heap.size w w2) := hide (belowOn W1.out hd)
  clear hd B1 W1
  go_wp2
  · go_ret
    exact ⟨ret_int (cmp3_lt (by assumption)).symm, W2.out⟩
  · go_ret
    exact ⟨ret_int (cmp3_gt (by assumption)).symm, W2.out⟩
  · go_ret
    exact ⟨ret_int (cmp3_eq (by omega) (by omega)).symm, W2.out⟩
theorem mc_cells {w : World} {k : Nat} {m : Mc} (h : Box w k (mcl m)) : w.cell? ⟨k, 0, none⟩ = some (.int .u8 m.a) ∧ w.cell? ⟨k, 1, none⟩ = some (.int .u8 m.b) ∧ w.cell? ⟨k, 2, none⟩ = some (.int .u8 m.c) ∧ w.cell? ⟨k, 3, none⟩ = some (.int .u8 m.d) ∧ w.cell? ⟨k, 4, none⟩ = some (.int .u8 m.e) ∧ w.cell? ⟨k, 5, none⟩ = some (.int .u8 m.f) :=
  ⟨h.cell 0 _ rfl, h.cell 1 _ rfl, h.cell 2 _ rfl, h.cell 3 _ rfl, h.cell 4 _ rfl, h.cell 5 _ rfl⟩
section
attribute [local go_sem] MC0 MC1 MC2 MC3 MC4 MC5
set_option maxRecDepth 100000 in
set_option maxHeartbeats 1000000 in
theorem compare52 (x y : Mc) (w : World) (h : Mok x) (k : Mok y) :
    Calls Tryz.prog 90 #[.agg (MC x), .agg (MC y)] w fun e w' => e = .returned (.int .i64 (cmp3 (num x) (num y))) ∧ Below w.heap.size w w' := by
  have he := eqMac x y
  have h6 := eqM_num h k
  by_cases hx : num x = num y
  · have ht : eqM x y = true := by rw [h6]; simp [hx]
    have hr : cmp3 (num x) (num y) = 0 := by simp [cmp3, hx]
    rw [hr]
    clear h6 hx hr
    obtain ⟨A, B⟩ := box_m2 w x y
    have A0 := A.at_
    have B0 := B.at_
    clear A B
    have tk1 : True := trivial
    have tk2 : True := trivial
    go_enter Tryz.func90, Tryz.ntmps90
    go_wp2_with (first | (have _t := tk1; refine wpl_mac (.tmp 2) rfl A0 ?_ ?_ ?_; rfl; rfl; clear tk1) | (have _t := tk2; refine wpl_mac (.tmp 3) rfl B0 ?_ ?_ ?_; rfl; rfl; clear tk2))
    go_ret
    exact ⟨rfl, by go_grown⟩
  · have ht : eqM x y = false := by rw [h6]; simp [hx]
    clear h6
    have HX : Hid (¬ num x = num y) := hide hx
    clear hx
    obtain ⟨A, B⟩ := box_m2 w x y
    have A0 := A.at_
    have B0 := B.at_
    have HA := hide (mc_cells A)
    have HB := hide (mc_cells B)
    clear A B
    have hz : w.heap.size < w.heap.size + 1 + 1 := by omega
    have tk1 : True := trivial
    have tk2 : True := trivial
    go_enter Tryz.func90, Tryz.ntmps90
    go_wp2_with (first | (have _t := tk1; refine wpl_mac (.tmp 2) rfl A0 ?_ ?_ ?_; rfl; rfl; clear tk1) | (have _t := tk2; refine wpl_mac (.tmp 3) rfl B0 ?_ ?_ ?_; rfl; rfl; clear tk2))
    clear A0 B0
    obtain ⟨c0, c1, c2, c3, c4, c5⟩ := HA.out
    obtain ⟨d0, d1, d2, d3, d4, d5⟩ := HB.out
    go_region_held3 (fun w' => w'.cell? ⟨w.heap.size, 0, none⟩ = some (.int .u8 x.a) ∧ w'.cell? ⟨w.heap.size, 1, none⟩ = some (.int .u8 x.b) ∧ w'.cell? ⟨w.heap.size, 2, none⟩ = some (.int .u8 x.c) ∧ w'.cell? ⟨w.heap.size, 3, none⟩ = some (.int .u8 x.d) ∧ w'.cell? ⟨w.heap.size, 4, none⟩ = some (.int .u8 x.e) ∧ w'.cell? ⟨w.heap.size, 5, none⟩ = some (.int .u8 x.f) ∧ w'.cell? ⟨w.heap.size + 1, 0, none⟩ = some (.int .u8 y.a) ∧ w'.cell? ⟨w.heap.size + 1, 1, none⟩ = some (.int .u8 y.b) ∧ w'.cell? ⟨w.heap.size + 1, 2, none⟩ = some (.int .u8 y.c) ∧ w'.cell? ⟨w.heap.size + 1, 3, none⟩ = some (.int .u8 y.d) ∧ w'.cell? ⟨w.heap.size + 1, 4, none⟩ = some (.int .u8 y.e) ∧ w'.cell? ⟨w.heap.size + 1, 5, none⟩ = some (.int .u8 y.f)) (go_keep)
      (first | (go_at_call_of 106 x.a; refine (num59 x _ h).mono ?_; rintro e w1 ⟨rfl, hb⟩; obtain ⟨hc, hf⟩ := bcell hb; have hz1 : w.heap.size + 1 < w1.heap.size := (by have := hb.size; simp at this; omega); have hz0 : w.heap.size < w1.heap.size := (by omega)) | (go_at_call_of 106 y.a; refine (num59 y _ k).mono ?_; rintro e w2 ⟨rfl, hd⟩; obtain ⟨hc2, hf2⟩ := bcell hd))
    have hB : Below w.heap.size w w2 := ((((Below.refl _ _).alloc (Nat.le_refl _) _).alloc (by simp) _).drew.trans (hb.mono (by simp; omega))).trans (hd.mono (by omega))
    clear hc hf hb hd hc2 hf2
    go_wp2
    · go_ret
      exact ⟨ret_int (cmp3_lt (by assumption)).symm, hB⟩
    · go_ret
      have hx := HX.out
      exact ⟨ret_int (cmp3_gt (by omega)).symm, hB⟩
end
end Go.Proofs.YtgpdjfaklcmoiaaGreat
/- The program's table in memory; next, way, first. -/
namespace Go.Proofs.YtgpdjfaklcmoiaaGreat
open Go.RowKit Go.PlainAid

/-- The first place of a VLAN and an address. -/
def fsI (n : Nat) (v : Int) (m : Mc) : Int := wrap64 ((IntKind.u64.wrap (bits .xor .u64 (IntKind.u64.wrap (num m * 4096)) (IntKind.u64.wrap v) * 11400714819323198485) / 4294967296).tmod (2 * (n : Int)))
def fs (n : Nat) (v : Int) (m : Mc) : Nat := (fsI n v m).toNat
theorem fsI_in (n : Nat) (v : Int) (m : Mc) (h1 : 1 ≤ n) (h2 : n ≤ 1024) : 0 ≤ fsI n v m ∧ fsI n v m < 2 * n := by
  unfold fsI
  rw [IntKind.wrap_u64]
  generalize bits .xor .u64 (IntKind.u64.wrap (num m * 4096)) (IntKind.u64.wrap v) * 11400714819323198485 = x
  have h3 : 0 ≤ x % 18446744073709551616 / 4294967296 := by omega
  rw [Int.tmod_eq_emod_of_nonneg h3]
  have h4 := Int.emod_nonneg (x % 18446744073709551616 / 4294967296) (show (2 * (n : Int)) ≠ 0 by omega)
  have h5 := Int.emod_lt_of_pos (x % 18446744073709551616 / 4294967296) (show 0 < 2 * (n : Int) by omega)
  rw [IntWalk.wrap64_in _ (by omega)]
  exact ⟨h4, h5⟩
theorem fsI_eq (n : Nat) (v : Int) (m : Mc) (h1 : 1 ≤ n) (h2 : n ≤ 1024) : fsI n v m = fs n v m := by
  have := fsI_in n v m h1 h2
  unfold fs; omega
theorem fs_lt (n : Nat) (v : Int) (m : Mc) (h1 : 1 ≤ n) (h2 : n ≤ 1024) : fs n v m < 2 * n := by
  have := fsI_in n v m h1 h2
  unfold fs; omega
def hf (n : Nat) (x : En) : Nat := fs n x.v x.m
theorem nt_mod {n a : Nat} (h : a < n) : ((a : Int) + 1) % n = nt n a := by
  unfold nt
  split
  · have : ((a : Int) + 1) = n := by omega
    rw [this, Int.emod_self]; rfl
  · rw [Int.emod_eq_of_lt (by omega) (by omega)]; rfl
theorem wy_mod {n a b : Nat} (ha : a < n) (hb : b < n) : ((b : Int) - a + n) % n = wy n a b := by
  unfold wy
  rw [Int.add_emod_right]
  split
  · rw [Int.emod_eq_of_lt (by omega) (by omega)]; omega
  · rw [← Int.add_emod_right, Int.emod_eq_of_lt (by omega) (by omega)]; omega
/-- The cells of the program's table. -/
def tcl (h n u : Nat) : List Value := [.slice (some ⟨h, 0, none⟩) (2 * n) (2 * n), .int .i64 n, .int .i64 u]
theorem wrap_nat (k : Nat) (h : k < 100000) : IntKind.i64.wrap (k : Int) = k := IntWalk.i64_in _ (by omega)
set_option maxRecDepth 100000 in
set_option maxHeartbeats 1000000 in
theorem next47 (h n u a : Nat) (w : World) (hn : 1 ≤ n) (hn2 : n ≤ 1024) (H : Box w (h + 1) (tcl h n u)) (ha : a < 2 * n) :
    Calls Tryz.prog 83 #[.pointer (some ⟨h + 1, 0, none⟩), .int .i64 a] w fun e w' => e = .returned (.int .i64 (nt (2 * n) a)) ∧ w' = w := by
  have c0 := H.cell 0 _ rfl
  have e1 : IntKind.i64.wrap ((a : Int) + 1) = (a : Int) + 1 := IntWalk.i64_in _ (by omega)
  have h0 : ¬ ((2 * n : Nat) : Int) = 0 := by omega
  clear H
  go_enter Tryz.func83, Tryz.ntmps83
  go_wp2
  go_ret
  have e2 := nt_mod ha
  rw [Int.natCast_mul] at e2
  exact ⟨ret_int e2, rfl⟩
set_option maxRecDepth 100000 in
set_option maxHeartbeats 1000000 in
theorem way63 (h n u a b : Nat) (w : World) (hn : 1 ≤ n) (hn2 : n ≤ 1024) (H : Box w (h + 1) (tcl h n u)) (ha : a < 2 * n) (hb : b < 2 * n) :
    Calls Tryz.prog 128 #[.pointer (some ⟨h + 1, 0, none⟩), .int .i64 a, .int .i64 b] w fun e w' => e = .returned (.int .i64 (wy (2 * n) a b)) ∧ Below w.heap.size w w' := by
  have c0 := H.cell 0 _ rfl
  have e1 : IntKind.i64.wrap ((b : Int) - a) = (b : Int) - a := IntWalk.i64_in _ (by omega)
  have e2 : IntKind.i64.wrap ((b : Int) - a + (2 * n : Nat)) = (b : Int) - a + (2 * n : Nat) := IntWalk.i64_in _ (by omega)
  have h0 : ¬ ((2 * n : Nat) : Int) = 0 := by omega
  clear H
  go_enter Tryz.func128, Tryz.ntmps128
  go_wp2_with fail
  go_quiet (fail)
  go_wp2
  go_ret
  have e3 := wy_mod ha hb
  rw [Int.natCast_mul] at e3
  exact ⟨ret_int e3, ⟨rfl, rfl, rfl, Nat.le_refl _, fun _ _ => rfl⟩⟩
set_option maxRecDepth 100000 in
set_option maxHeartbeats 1000000 in
theorem first46 (h n u : Nat) (v : Int) (m : Mc) (w : World) (hm : Mok m) (hn : 1 ≤ n) (hn2 : n ≤ 1024) (H : Box w (h + 1) (tcl h n u)) :
    Calls Tryz.prog 82 #[.pointer (some ⟨h + 1, 0, none⟩), .int .i64 v, .agg (MC m)] w fun e w' => e = .returned (.int .i64 (fs n v m)) ∧ Below w.heap.size w w' := by
  have A0 := (box_m w m).at_
  have W0 : Hid (Below w.heap.size w (w.alloc (.cells (MC m) 35))) := hide (below_alloc w _)
  have HH := hide H
  have h0 : ¬ ((2 * n : Nat) : Int) = 0 := by omega
  have tk1 : True := trivial
  clear H
  go_enter Tryz.func82, Tryz.ntmps82
  go_wp2_with (first | (have _t := tk1; refine wpl_mac (.tmp 5) rfl A0 ?_ ?_ ?_; rfl; rfl; clear tk1) | (go_at_call 106; refine (num59 m _ hm).mono ?_; rintro e w1 ⟨rfl, hb⟩; have c0 := ((HH.out.on W0.out).on hb).cell 0 _ rfl))
  go_ret
  exact ⟨ret_int (fsI_eq n v m hn hn2), belowOn W0.out hb⟩
end Go.Proofs.YtgpdjfaklcmoiaaGreat
/- The program's table; contract of place. -/
namespace Go.Proofs.YtgpdjfaklcmoiaaGreat
open Go.RowKit Go.PlainAid

/-- The program's table: its places in block h, itself behind them. -/
structure PF (w : World) (h : Nat) (ps : List En) (T : FT) : Prop where
  bx : Box w (h + 1) (tcl h T.n T.l.length)
  pl : Box w h (es ps)
  rp : Rp (2 * T.n) (hf T.n) ps T.l
  wf : FW T
theorem PF.keep {w w1 : World} {h : Nat} {ps : List En} {T : FT} (H : PF w h ps T) (e : ∀ k, h ≤ k → k < h + 2 → w1.heap[k]? = w.heap[k]?) : PF w1 h ps T :=
  ⟨H.bx.block (e _ (by omega) (by omega)), H.pl.block (e _ (by omega) (by omega)), H.rp, H.wf⟩
theorem PF.lt {w : World} {h : Nat} {ps : List En} {T : FT} (H : PF w h ps T) : h + 2 ≤ w.heap.size := by have := H.bx.lt; omega
theorem PF.below {w w1 : World} {h g : Nat} {ps : List En} {T : FT} (H : PF w h ps T) (hb : Below g w w1) (hg : h + 2 ≤ g) : PF w1 h ps T := H.keep (fun k _ h2 => hb.block k (by omega))
theorem PF.on {w w1 : World} {h : Nat} {ps : List En} {T : FT} (H : PF w h ps T) (hb : Below w.heap.size w w1) : PF w1 h ps T := H.below hb H.lt
theorem PF.drew {w : World} {h : Nat} {ps : List En} {T : FT} (H : PF w h ps T) : PF w.drew h ps T := H.keep (fun _ _ _ => rfl)
theorem PF.alloc {w : World} {h : Nat} {ps : List En} {T : FT} (H : PF w h ps T) (o : Obj) : PF (w.alloc o) h ps T := H.on (below_alloc w o)
theorem PF.get {w : World} {h : Nat} {ps : List En} {T : FT} (H : PF w h ps T) {j : Nat} (hj : j < 2 * T.n) : ∃ x, ps[j]? = some x ∧ w.rangeAt h (j * 10) (ecl x) := by
  obtain ⟨x, hx⟩ : ∃ x, ps[j]? = some x := ⟨_, List.getElem?_eq_getElem (by rw [H.rp.len]; exact hj)⟩
  exact ⟨x, hx, H.pl.ent hx⟩
theorem mac_of {w : World} {k : Nat} {x : En} (h : Box w k (ecl x)) : w.rangeAt k 1 (mcl x.m) := by
  have := ent_mac h.at_
  rwa [Nat.zero_add] at this
theorem PF.fr {w : World} {h : Nat} {ps : List En} {T : FT} (H : PF w h ps T) : ∃ j : Nat, j < 2 * T.n ∧ ps[j]? = some zE := H.rp.free (by have := H.wf.le; have := H.wf.n1; omega)
/-- Not all places are gone past. -/
theorem go_room {n H a : Nat} {ps : List En} (hH : H < n) (ha : a < n) (hf : ∃ j : Nat, j < n ∧ ps[j]? = some zE) {x : En} (hx : ps[a]? = some x) (hxo : x ≠ zE) (hg : ∀ q, q < n → wy n H q < wy n H a → ∃ y, ps[q]? = some y ∧ y ≠ zE) : wy n H a + 1 < n := by
  obtain ⟨q, hq, hz⟩ := hf
  have h1 := wy_lt hH ha
  have h2 := wy_lt hH hq
  rcases Nat.lt_or_ge (wy n H a + 1) n with c | c
  · exact c
  · exfalso
    by_cases d : wy n H q < wy n H a
    · obtain ⟨y, hy, hyo⟩ := hg q hq d
      rw [hz] at hy; cases hy; exact hyo rfl
    · rw [wy_inj hH hq ha (by omega), hx] at hz
      cases hz; exact hxo rfl
theorem up3 {N : Nat} {w0 wr w2 w3 : World} {o : Obj} (hB : Below N w0 wr) (hg : (wr.alloc o).grownBy w2 (some wr.heap.size)) (hb : Below w2.heap.size w2 w3) (hN : N ≤ w0.heap.size := by simp) : Below N w0 w3 := by
  have h1 := hB.size
  have h2 : Below N w0 (wr.alloc o) := hB.alloc (by omega) o
  have h3 := below_grown h2 hg (by omega) (by simp; omega)
  exact h3.trans (hb.mono (by have := h3.size; omega))
attribute [local go_sem] ZE
set_option maxRecDepth 100000 in
set_option maxHeartbeats 2000000 in
theorem place26 (h : Nat) (ps : List En) (T : FT) (v : Int) (m : Mc) (w : World) (hm : Mok m) (H : PF w h ps T) :
    Calls Tryz.prog 56 #[.pointer (some ⟨h + 1, 0, none⟩), .int .i64 v, .agg (MC m)] w fun e w' => ∃ a : Nat, e = .returned (.int .i64 a) ∧ Pl (2 * T.n) ps (fs T.n v m) v m a ∧ Below w.heap.size w w' := by
  have A0 := (box_m w m).at_
  have n1 := H.wf.n1
  have n2 := H.wf.n2
  have hfs := fs_lt T.n v m n1 n2
  have W0 : Hid (Below w.heap.size w (w.alloc (.cells (MC m) 35))) := hide (below_alloc w _)
  have HH := hide H
  have HA := hide (box_m w m)
  have q1 := fun w H => first46 h T.n T.l.length v m w hm n1 n2 H
  have tk1 : True := trivial
  have HM := hide hm
  clear H hm
  go_enter Tryz.func56, Tryz.ntmps56
  go_wp2
  go_step3
  go_wp2_with (first | (have _t := tk1; refine wpl_mac (.tmp 5) rfl A0 ?_ ?_ ?_; rfl; rfl; clear tk1) | (go_at_call 82; refine (q1 _ (HH.out.on W0.out).bx).mono ?_; rintro e w1 ⟨rfl, hb⟩))
  have B1 : Hid (Below (w.heap.size + 1) (w.alloc (.cells (MC m) 35)) w1) := hide (by rw [← World.size_alloc w (.cells (MC m) 35)]; exact hb)
  clear hb A0 q1
  go_step3
  go_wp2
  go_loopw [7, 8] (fun i _ wr => ∃ a : Nat, i = .int .i64 a ∧ a < 2 * T.n ∧ (∀ q, q < 2 * T.n → wy (2 * T.n) (fs T.n v m) q < wy (2 * T.n) (fs T.n v m) a → ∃ y, ps[q]? = some y ∧ y ≠ zE ∧ ky y v m = false) ∧ Below (w.heap.size + 1) (w.alloc (.cells (MC m) 35)) wr) (fun i _ _ => 2 * T.n - wy (2 * T.n) (fs T.n v m) (intOf i).toNat)
  case atStart => exact ⟨_, rfl, hfs, fun q hq h1 => by rw [wy_self] at h1; omega, B1.out⟩
  case round =>
    obtain ⟨a, rfl, ha, hg, hB⟩ := hrel
    have P1 := HH.out.on (W0.out)
    have P2 := P1.below hB (by have := HH.out.lt; omega)
    obtain ⟨x, hx, A1⟩ := P2.get ha
    have c0 := P2.bx.cell 0 _ rfl
    have ha0 : (a : Int) < 2 * (T.n : Int) := by omega
    have HP := hide P2
    have HB := hide hB
    have HG := hide hg
    have HX := hide hx
    clear P1 P2 hB hg hx
    have tk1 : True := trivial
    have tk2 : True := trivial
    have tk3 : True := trivial
    have q2 := fun w => free27 x w
    rcases Bool.eq_false_or_eq_true (fre x) with hfr | hfr
    · rw [hfr] at q2
      go_wp2_with (first | (have _t := tk1; refine wpl_ent (.tmp 18) rfl A1 ?_ ?_ ?_; rfl; rfl; clear tk1) | (have _t := tk2; refine wpl_putE x zE (.tmp 8) (.tmp 19) rfl (box_e _ zE) ?_ rfl rfl ?_; rfl; intro w2 X2 G2; have X3 := X2.at_; clear tk2) | (have _t := tk3; refine wpl_ent (.tmp 8) rfl X3 ?_ ?_ ?_; rfl; rfl; clear tk3) | (go_at_call 57; refine (q2 _).mono ?_; rintro e w3 ⟨rfl, hb3⟩; have B3 := hide (up3 HB.out G2 hb3); have X4 := X2.on hb3; have X5 := mac_of X4; have c3 := X4.cell 0 _ rfl; have M3 := (HA.out.below (Nat.lt_succ_self _) B3.out).at_; have HX4 := hide X4; clear hb3 G2 X2 X3 X4 A1))
      rw [Exit.noGoto_ret]
      go_ret
      exact ⟨a, rfl, ⟨ha, ⟨x, HX.out, Or.inl ((fre_iff x).1 hfr)⟩, HG.out⟩, W0.out.trans (B3.out.mono (Nat.le_succ _))⟩
    · have hxo : Hid (x ≠ zE) := hide (fun e => by rw [(fre_iff x).2 e] at hfr; cases hfr)
      rw [hfr] at q2
      have q3 := eqMac x.m m
      have tk4 : True := trivial
      have tk5 : True := trivial
      rcases Bool.eq_false_or_eq_true (ky x v m) with hk | hk
      · have hk2 := hk
        rw [ky, Bool.and_eq_true] at hk2
        obtain ⟨k1, k2⟩ := hk2
        rw [k2] at q3
        have HK := hide hk
        clear hk
        go_wp2_with (first | (have _t := tk1; refine wpl_ent (.tmp 18) rfl A1 ?_ ?_ ?_; rfl; rfl; clear tk1) | (have _t := tk2; refine wpl_putE x zE (.tmp 8) (.tmp 19) rfl (box_e _ zE) ?_ rfl rfl ?_; rfl; intro w2 X2 G2; have X3 := X2.at_; clear tk2) | (have _t := tk3; refine wpl_ent (.tmp 8) rfl X3 ?_ ?_ ?_; rfl; rfl; clear tk3) | (go_at_call 57; refine (q2 _).mono ?_; rintro e w3 ⟨rfl, hb3⟩; have B3 := hide (up3 HB.out G2 hb3); have X4 := X2.on hb3; have X5 := mac_of X4; have c3 := X4.cell 0 _ rfl; have M3 := (HA.out.below (Nat.lt_succ_self _) B3.out).at_; have HX4 := hide X4; clear hb3 G2 X2 X3 X4 A1) | (have _t := tk4; refine wpl_mac (.tmp 29) rfl X5 ?_ ?_ ?_; rfl; rfl; clear tk4) | (have _t := tk5; refine wpl_mac (.tmp 5) rfl M3 ?_ ?_ ?_; rfl; rfl; clear tk5))
        rw [Exit.noGoto_ret]
        go_ret
        exact ⟨a, rfl, ⟨ha, ⟨x, HX.out, Or.inr HK.out⟩, HG.out⟩, W0.out.trans (B3.out.mono (Nat.le_succ _))⟩
      · have q4 := fun w H => next47 h T.n T.l.length a w n1 n2 H ha
        have hgo : Hid (wy (2 * T.n) (fs T.n v m) a + 1 < 2 * T.n) := hide (go_room hfs ha HH.out.fr HX.out hxo.out (fun q hq hw => by obtain ⟨y, h1, h2, _⟩ := HG.out q hq hw; exact ⟨y, h1, h2⟩))
        have HK := hide hk
        have fin : Hid (∀ q, q < 2 * T.n → wy (2 * T.n) (fs T.n v m) q < wy (2 * T.n) (fs T.n v m) (nt (2 * T.n) a) → ∃ y, ps[q]? = some y ∧ y ≠ zE ∧ ky y v m = false) := hide (fun q hq hw => by
          rw [wy_nt hfs ha hgo.out] at hw
          by_cases d : wy (2 * T.n) (fs T.n v m) q < wy (2 * T.n) (fs T.n v m) a
          · exact HG.out q hq d
          · rw [wy_inj hfs hq ha (by omega)]; exact ⟨x, HX.out, hxo.out, hk⟩)
        have hm2 : Hid (2 * T.n - wy (2 * T.n) (fs T.n v m) (nt (2 * T.n) a) < 2 * T.n - wy (2 * T.n) (fs T.n v m) a) := hide (by rw [wy_nt hfs ha hgo.out]; have := hgo.out; omega)
        have hnt : Hid (nt (2 * T.n) a < 2 * T.n) := hide (nt_lt ha)
        rcases Bool.eq_false_or_eq_true (x.v == v) with k1 | k1
        · rw [ky, k1, Bool.true_and] at hk
          rw [hk] at q3
          clear hk
          go_wp2_with (first | (have _t := tk1; refine wpl_ent (.tmp 18) rfl A1 ?_ ?_ ?_; rfl; rfl; clear tk1) | (have _t := tk2; refine wpl_putE x zE (.tmp 8) (.tmp 19) rfl (box_e _ zE) ?_ rfl rfl ?_; rfl; intro w2 X2 G2; have X3 := X2.at_; clear tk2) | (have _t := tk3; refine wpl_ent (.tmp 8) rfl X3 ?_ ?_ ?_; rfl; rfl; clear tk3) | (go_at_call 57; refine (q2 _).mono ?_; rintro e w3 ⟨rfl, hb3⟩; have B3 := hide (up3 HB.out G2 hb3); have X4 := X2.on hb3; have X5 := mac_of X4; have c3 := X4.cell 0 _ rfl; have M3 := (HA.out.below (Nat.lt_succ_self _) B3.out).at_; have HX4 := hide X4; clear hb3 G2 X2 X3 X4 A1) | (have _t := tk4; refine wpl_mac (.tmp 29) rfl X5 ?_ ?_ ?_; rfl; rfl; clear tk4) | (have _t := tk5; refine wpl_mac (.tmp 5) rfl M3 ?_ ?_ ?_; rfl; rfl; clear tk5) | (go_at_call 83; refine (q4 _ ((HH.out.on W0.out).below B3.out (by have := HH.out.lt; omega)).bx).mono ?_; rintro e w5 ⟨rfl, rfl⟩))
          go_roundw
          case rel => exact ⟨_, rfl, hnt.out, fin.out, B3.out⟩
          case measure => simpa [intOf] using hm2.out
        · clear hk q3
          go_wp2_with (first | (have _t := tk1; refine wpl_ent (.tmp 18) rfl A1 ?_ ?_ ?_; rfl; rfl; clear tk1) | (have _t := tk2; refine wpl_putE x zE (.tmp 8) (.tmp 19) rfl (box_e _ zE) ?_ rfl rfl ?_; rfl; intro w2 X2 G2; have X3 := X2.at_; clear tk2) | (have _t := tk3; refine wpl_ent (.tmp 8) rfl X3 ?_ ?_ ?_; rfl; rfl; clear tk3) | (go_at_call 57; refine (q2 _).mono ?_; rintro e w3 ⟨rfl, hb3⟩; have B3 := hide (up3 HB.out G2 hb3); have X4 := X2.on hb3; have X5 := mac_of X4; have c3 := X4.cell 0 _ rfl; have M3 := (HA.out.below (Nat.lt_succ_self _) B3.out).at_; have HX4 := hide X4; clear hb3 G2 X2 X3 X4 A1) | (go_at_call 83; refine (q4 _ ((HH.out.on W0.out).below B3.out (by have := HH.out.lt; omega)).bx).mono ?_; rintro e w5 ⟨rfl, rfl⟩))
          go_roundw
          case rel => exact ⟨_, rfl, hnt.out, fin.out, B3.out⟩
          case measure => simpa [intOf] using hm2.out
end Go.Proofs.YtgpdjfaklcmoiaaGreat
/- The document's table in memory; rows of entries that grow. -/
namespace Go.Proofs.YtgpdjfaklcmoiaaGreat
open Go.RowKit Go.PlainAid

theorem Tryz.info61 : (Tryz.prog.info? 61).map (fun i => (i.zero, i.size, i.bytes)) = some (some (.agg (EC zE)), 10, 40) := by kernel_rfl
/-- A slice of members, to be put behind others. -/
structure Ers (w : World) (ao : Option Addr) (n c : Nat) (l : List En) : Prop where
  len : l.length = n
  nil : ao = none → n = 0 ∧ c = 0
  src : ∀ a, ao = some a → ∀ j u, (es l)[j]? = some u → w.cell? (a.add j) = some u
theorem one_es (l : List En) : ∀ u ∈ es l, u.oneCell' = true := by
  intro u hu
  simp only [es, List.mem_flatMap] at hu
  obtain ⟨m, _, hm⟩ := hu
  exact one_ecl m u hm
theorem eapp_run {w : World} {base : Nat} {v : Value} {n : Nat} {xs : List En} (hown : w.ownsRow base 61 10 v n (es xs)) {ao : Option Addr} {m c : Nat} {ns : List En} (hB : Ers w ao m c ns) (h1 : n + m ≤ 100000) (hbase : base ≤ w.heap.size) :
    ∃ v' w', (Builtin.append_ #[69, 69] 69 #[v, .slice ao m c]).run Tryz.prog w = .ok v' w' ∧ w'.ownsRow base 61 10 v' (n + m) (es (xs ++ ns)) ∧ w.grownBy w' v.ownBlock := by
  obtain ⟨i0, hi, hz0, hz1, hz2⟩ := info_parts Tryz.info61
  cases ao with
  | none =>
    obtain ⟨rfl, rfl⟩ := hB.nil rfl
    obtain rfl : ns = [] := List.eq_nil_of_length_eq_zero hB.len
    refine ⟨v, w, run_append_owned_none w base 69 69 61 i0 10 Tryz.underlying69 hi v n _ hown, ?_, World.grownBy.refl _ _⟩
    rw [List.append_nil]
    exact hown
  | some a =>
    obtain ⟨v', w', h2, h3, h4, -⟩ := run_append_own w base 69 69 61 i0 _ 10 40 Tryz.underlying69 hi hz0 hz1 hz2 rfl (by decide) v n (es xs) hown a m c (es ns) (by rw [es_length, hB.len]) (hB.src a rfl) (one_es ns) (by unfold maxLen; omega) (by omega) hbase
    refine ⟨v', w', h2, ?_, h4⟩
    rw [es_append]
    exact h3
/-- At a plain region's list. -/
theorem wpl_eapp {ops : Array Oper} {rest : List Oper} {o : Oper} {a : Act} {w : World} {Q : Exit → Act → World → Prop} (hgd : o.guard = none) (hty : o.type = 69) (s x : Operand)
    (ho : o.op = .call { callee := .builtin .append, args := #[s, x], argTypes := #[69, 69] })
    (base : Nat) (v : Value) (n : Nat) (xs : List En) (fhs : a.eval s = v) (hown : w.ownsRow base 61 10 v n (es xs)) (ao : Option Addr) (m c : Nat) (ns : List En) (hx : a.eval x = .slice ao m c) (hB : Ers w ao m c ns)
    (h1 : n + m ≤ 100000) (hbase : base ≤ w.heap.size)
    (h : ∀ v' w', w'.ownsRow base 61 10 v' (n + m) (es (xs ++ ns)) → w.grownBy w' v.ownBlock → wpList Tryz.prog ops Q rest (a.put o.dst v') w') : wpList Tryz.prog ops Q (o :: rest) a w := by
  obtain ⟨v', w', hr, h2, h3⟩ := eapp_run hown hB h1 hbase
  have hk := h v' w' h2 h3
  refine wpList_plain hgd fun K hK => ?_
  unfold Oper.wp execOp
  simp only [ho, hty, resolve, invoke, builtin, Sem.run_bind, Sem.run_pure, Result.andThen_ok, List.map_toArray, List.map_cons, List.map_nil, fhs, hx, hr]
  exact hK _ _ hk
/-- At a step of a region that draws its order. -/
theorem step_eapp {ops : Array Oper} {o : Oper} {a : Act} {w : World} {C : Act → World → Prop} {Q : Exit → Act → World → Prop} {E : Prop} (hgd : o.guard = none) (hty : o.type = 69) (s x : Operand)
    (ho : o.op = .call { callee := .builtin .append, args := #[s, x], argTypes := #[69, 69] })
    (base : Nat) (v : Value) (n : Nat) (xs : List En) (fhs : a.eval s = v) (hown : w.ownsRow base 61 10 v n (es xs)) (ao : Option Addr) (m c : Nat) (ns : List En) (hx : a.eval x = .slice ao m c) (hB : Ers w ao m c ns)
    (h1 : n + m ≤ 100000) (hbase : base ≤ w.heap.size)
    (h : ∀ v' w', w'.ownsRow base 61 10 v' (n + m) (es (xs ++ ns)) → w.grownBy w' v.ownBlock → C (a.put o.dst v') w') : if Region.wanted o (yielded ops a.tmps) = true then Oper.wp Tryz.prog o a w C Q else E := by
  have hw : Region.wanted o (yielded ops a.tmps) = true := by simp [Region.wanted, hgd]
  rw [if_pos hw]
  obtain ⟨v', w', hr, h2, h3⟩ := eapp_run hown hB h1 hbase
  have hk := h v' w' h2 h3
  unfold Oper.wp execOp
  simp only [ho, hty, resolve, invoke, builtin, Sem.run_bind, Sem.run_pure, Result.andThen_ok, List.map_toArray, List.map_cons, List.map_nil, fhs, hx, hr]
  exact hk
theorem Ers.grown {w w1 : World} {row : Option Nat} {ao : Option Addr} {n c : Nat} {l : List En} (h : Ers w ao n c l) (g : w.grownBy w1 row) (hne : ∀ a, ao = some a → ∃ b o, a = ⟨b, o, none⟩ ∧ some b ≠ row) : Ers w1 ao n c l :=
  ⟨h.len, h.nil, fun a e j u hj => by
    obtain ⟨b, o, rfl, hb⟩ := hne a e
    have := h.src _ e j u hj
    rw [Addr.add_lit] at this ⊢
    exact g.cell this hb⟩
/-- The document's table: itself in block g, its entries in a block behind. -/
structure RF (w : World) (g : Nat) (lv : Value) (T : FT) : Prop where
  bx : Box w g [.int .i64 T.n, lv]
  row : w.ownsRow (g + 1) 61 10 lv T.l.length (es T.l)
  wf : FW T
theorem RF.lt {w : World} {g : Nat} {lv : Value} {T : FT} (H : RF w g lv T) : g + 1 ≤ w.heap.size := by have := H.bx.lt; omega
theorem row_mid {w w1 : World} {N M g : Nat} {lv : Value} {n : Nat} {xs : List Value} (hr : w.ownsRow g 61 10 lv n xs) (hb : Mid N M w w1) (hM : M ≤ g) : w1.ownsRow g 61 10 lv n xs := by
  refine ⟨hr.1, ?_⟩
  rcases hr.2 with h | ⟨b, cap, cur, rfl, hb', hc, r⟩
  · exact Or.inl h
  · have hbl : b < w.heap.size := (Array.getElem?_eq_some_iff.1 hc).1
    exact Or.inr ⟨b, cap, cur, rfl, hb', (hb.block b hbl (Or.inr (by omega))).trans hc, r⟩
theorem RF.mid {w w1 : World} {N M g : Nat} {lv : Value} {T : FT} (H : RF w g lv T) (hb : Mid N M w w1) (hM : M ≤ g) : RF w1 g lv T := by
  have hl := H.lt
  exact ⟨H.bx.block (hb.block _ (by omega) (Or.inr (by omega))), row_mid H.row hb (by omega), H.wf⟩
theorem RF.on {w w1 : World} {g : Nat} {lv : Value} {T : FT} (H : RF w g lv T) (hb : Below w.heap.size w w1) : RF w1 g lv T := H.mid (mid_of_below hb g) (Nat.le_refl _)
theorem RF.drew {w : World} {g : Nat} {lv : Value} {T : FT} (H : RF w g lv T) : RF w.drew g lv T := ⟨⟨H.bx.lt, H.bx.at_, H.bx.th⟩, H.row, H.wf⟩
theorem box_of_row {w : World} {base b n cap : Nat} {xs : List Value} (hr : w.ownsRow base 61 10 (.slice (some ⟨b, 0, none⟩) n cap) n xs) (hl : xs.length = n * 10) : Box w b xs ∧ base ≤ b ∧ b < w.heap.size ∧ n ≤ cap ∧ cap ≤ maxLen := by
  rcases hr.2 with ⟨h1, _⟩ | ⟨b', cap', cur, e, hb, hc, hn, hm, r⟩
  · cases h1
  · injection e with e1 e2 e3
    injection Option.some.inj e1 with e4
    subst e4 e3
    have hlt : b < w.heap.size := (Array.getElem?_eq_some_iff.1 hc).1
    have hcell : ∀ j, j < xs.length → w.cell? ⟨b, j, none⟩ = xs[j]? := fun j hj => hr.cellAt j (by omega)
    refine ⟨⟨hlt, fun j v hj => ?_, fun j hj => ⟨?_, hr.frozenAt _⟩⟩, hb, hlt, hn, hm⟩
    · rw [Nat.zero_add, hcell j (List.getElem?_eq_some_iff.1 hj).1]; exact hj
    · rw [Nat.zero_add, hcell j hj]; simp [hj]
theorem RF.at {w : World} {g : Nat} {lv : Value} {T : FT} (H : RF w g lv T) : (lv = .slice none 0 0 ∧ T.l = []) ∨ ∃ b cap, lv = .slice (some ⟨b, 0, none⟩) T.l.length cap ∧ g + 1 ≤ b ∧ b < w.heap.size ∧ T.l.length ≤ cap ∧ cap ≤ maxLen ∧ Box w b (es T.l) := by
  have hr := H.row
  rcases hr.2 with ⟨h1, h2⟩ | ⟨b, cap, cur, rfl, hb, hc, hn, hm, r⟩
  · exact Or.inl ⟨h1, List.eq_nil_of_length_eq_zero h2⟩
  · obtain ⟨p1, p2, p3, p4, p5⟩ := box_of_row hr (es_length _)
    exact Or.inr ⟨b, cap, rfl, p2, p3, p4, p5, p1⟩
/-- The entries stand in a new block. -/
theorem RF.fresh {w w1 : World} {g : Nat} {lv lv' : Value} {T T' : FT} (H : RF w g lv T) (hB : Below (g + 1) w w1) (hn : T'.n = T.n) (hw : FW T') (hr : w1.ownsRow (g + 1) 61 10 lv' T'.l.length (es T'.l)) :
    RF (w1.setCell ⟨g, 1, none⟩ lv') g lv' T' ∧ Below g w (w1.setCell ⟨g, 1, none⟩ lv') := by
  have hl := H.lt
  have g1 := setCell_grown w1 g 1 lv'
  have hl1 := hB.size
  refine ⟨⟨?_, ?_, hw⟩, (hB.mono (by omega)).grown g1 (by omega) (fun k hk => by have := Option.some.inj hk; omega)⟩
  · have b := H.bx.below (g := g + 1) (by omega) hB
    rw [hn]
    exact Box.set (A := [.int .i64 T.n]) (C := []) b rfl
  · refine World.ownsRow.kept hr g1 ?_
    rcases hr.2 with ⟨h, _⟩ | ⟨b, _, _, h, hb, _⟩
    · rw [h]; exact Or.inl rfl
    · rw [h]
      refine Or.inr (fun e => ?_)
      have := Option.some.inj e
      simp at this
      omega
theorem RF.ers {w : World} {g : Nat} {lv : Value} {T : FT} (H : RF w g lv T) : ∃ ao c, lv = .slice ao T.l.length c ∧ Ers w ao T.l.length c T.l ∧ (∀ a, ao = some a → ∃ b, a = ⟨b, 0, none⟩ ∧ g + 1 ≤ b ∧ b < w.heap.size) := by
  have hr := H.row
  rcases hr.2 with ⟨h1, h2⟩ | ⟨b, cap, cur, h1, hb, hc, r⟩
  · refine ⟨none, 0, by rw [h1, h2], ⟨rfl, fun _ => ⟨h2, rfl⟩, fun a e => (by cases e)⟩, fun a e => (by cases e)⟩
  · subst h1
    refine ⟨_, cap, rfl, ⟨rfl, fun e => (by cases e), fun a e => ?_⟩, fun a e => ?_⟩
    · obtain rfl := Option.some.inj e
      exact hr.cells (g := b) rfl
    · obtain rfl := Option.some.inj e
      exact ⟨b, rfl, hb, (Array.getElem?_eq_some_iff.1 hc).1⟩
end Go.Proofs.YtgpdjfaklcmoiaaGreat
/- Contracts of the document's Find and Look. -/
namespace Go.Proofs.YtgpdjfaklcmoiaaGreat
open Go.RowKit Go.PlainAid

theorem fix_drop (l : List En) (v : Int) (m : Mc) {k : Nat} {x : En} (hk : l[k]? = some x) (h : fix l v m = k + fix (l.drop k) v m) :
    (ky x v m = true → fix l v m = k ∧ k < l.length) ∧ (ky x v m = false → fix l v m = k + 1 + fix (l.drop (k + 1)) v m) := by
  obtain ⟨hl, e⟩ := List.getElem?_eq_some_iff.1 hk
  have hd : l.drop k = x :: l.drop (k + 1) := by rw [List.drop_eq_getElem_cons hl, e]
  rw [hd, show fix (x :: l.drop (k + 1)) v m = if ky x v m then 0 else fix (l.drop (k + 1)) v m + 1 from rfl] at h
  constructor
  · intro hx
    rw [hx, if_pos rfl] at h
    exact ⟨h, hl⟩
  · intro hx
    rw [hx, if_neg (by simp)] at h
    omega
theorem mc_def' (m : Mc) : MC m = #[.int .u8 m.a, .int .u8 m.b, .int .u8 m.c, .int .u8 m.d, .int .u8 m.e, .int .u8 m.f] := rfl
theorem range_cells {w : World} {k o : Nat} {x : En} (h : w.rangeAt k o (ecl x)) : w.cell? ⟨k, o, none⟩ = some (.int .i64 x.v) ∧ w.cell? ⟨k, o + 1, none⟩ = some (.int .u8 x.m.a) ∧ w.cell? ⟨k, o + 2, none⟩ = some (.int .u8 x.m.b) ∧ w.cell? ⟨k, o + 3, none⟩ = some (.int .u8 x.m.c) ∧ w.cell? ⟨k, o + 4, none⟩ = some (.int .u8 x.m.d) ∧ w.cell? ⟨k, o + 5, none⟩ = some (.int .u8 x.m.e) ∧ w.cell? ⟨k, o + 6, none⟩ = some (.int .u8 x.m.f) ∧ w.cell? ⟨k, o + 7, none⟩ = some (.int .i64 x.p) ∧ w.cell? ⟨k, o + 8, none⟩ = some (.int .i64 x.t) ∧ w.cell? ⟨k, o + 9, none⟩ = some (.bool x.s) :=
  ⟨h 0 _ rfl, h 1 _ rfl, h 2 _ rfl, h 3 _ rfl, h 4 _ rfl, h 5 _ rfl, h 6 _ rfl, h 7 _ rfl, h 8 _ rfl, h 9 _ rfl⟩
set_option maxRecDepth 100000 in
set_option maxHeartbeats 4000000 in
theorem find28 (g : Nat) (lv : Value) (T : FT) (v : Int) (m : Mc) (w : World) (H : RF w g lv T) :
    Calls Tryz.prog 76 #[.pointer (some ⟨g, 0, none⟩), .int .i64 v, .agg (MC m)] w fun e w' => e = .returned (.int .i64 (ffx T.l v m)) ∧ Below w.heap.size w w' := by
  have W0 : Hid (Below w.heap.size w (w.alloc (.cells (MC m) 35))) := hide (below_alloc w _)
  have H1 := H.on W0.out
  have c1 := H1.bx.cell 1 _ rfl
  rcases H1.at with ⟨rfl, hl⟩ | ⟨b, cap, rfl, hb, hbl, hn, hm, hc⟩
  · have e : ffx T.l v m = -1 := by rw [hl]; rfl
    rw [e]
    clear H H1 hl e
    go_enter Tryz.func76, Tryz.ntmps76
    go_wp2
    generalize w.alloc (.cells (MC m) 35) = W1 at *
    go_loopw [7] (fun i wr => i = .int .i64 0 ∧ wr = W1) (fun i _ => 1 - (intOf i).toNat)
    case atStart => exact ⟨rfl, rfl⟩
    case round =>
      obtain ⟨rfl, rfl⟩ := hrel
      go_wp2
      go_ret
      exact ⟨rfl, W0.out⟩
  · have HM := hide (mc_cells (box_m w m))
    have HC := hide hc
    clear H H1 hc
    unfold maxLen at hm
    generalize hfe : ffx T.l v m = fe
    have HF := hide hfe
    clear hfe
    go_enter Tryz.func76, Tryz.ntmps76
    go_wp2
    generalize w.alloc (.cells (MC m) 35) = W1 at *
    go_loopw [7] (fun i wr => ∃ k q : Nat, k ≤ T.l.length ∧ i = .int .i64 k ∧ fix T.l v m = k + fix (T.l.drop k) v m ∧ wr = W1.drewN q) (fun i _ => T.l.length - (intOf i).toNat)
    case atStart => exact ⟨0, 0, Nat.zero_le _, rfl, by simp, rfl⟩
    case round =>
      obtain ⟨k, q, hk, rfl, hi, rfl⟩ := hrel
      have hz : Hid (∀ n, Below w.heap.size w ((W1.drewN q).drewN n)) := hide (fun n => W0.out.trans ⟨rfl, rfl, rfl, Nat.le_refl _, fun _ _ => rfl⟩)
      by_cases hlt : k < T.l.length
      · obtain ⟨x, hxk⟩ : ∃ x, T.l[k]? = some x := ⟨_, List.getElem?_eq_getElem hlt⟩
        obtain ⟨d0, d1, d2, d3, d4, d5, d6, -, -, -⟩ := range_cells (HC.out.ent hxk)
        obtain ⟨m0, m1, m2, m3, m4, m5⟩ := HM.out
        obtain ⟨s1, s2⟩ := fix_drop T.l v m hxk hi
        have HE := hide (show ky x v m = (x.v == v && eqM x.m m) from rfl)
        have q3 := eqMac x.m m
        rw [mc_def', mc_def'] at q3
        have hlt2 : (k : Int) < T.l.length := by omega
        have e1 : IntKind.i64.wrap ((k : Int) + 1) = (k : Int) + 1 := IntWalk.i64_in _ (by omega)
        rcases Bool.eq_false_or_eq_true (x.v == v) with h1 | h1
        · rcases Bool.eq_false_or_eq_true (eqM x.m m) with h2 | h2
          · rw [HE.out, h1, h2] at s1
            have S := hide (s1 rfl)
            rw [h2] at q3
            clear s1 s2 hi hlt
            go_wp2_with fail
            go_quiet (fail)
            go_wp2
            go_ret
            refine ⟨ret_int ?_, hz.out _⟩
            rw [← HF.out, ffx, if_pos ((fhs_ix _ _ _).2 (by have := S.out; omega)), S.out.1]
          · rw [HE.out, h1, h2] at s2
            have S := hide (s2 rfl)
            rw [h2] at q3
            clear s1 s2 hi hlt
            go_wp2_with fail
            go_quiet (fail)
            go_wp2
            go_roundw
            case rel => exact ⟨k + 1, q + nq, by omega, by go_num, S.out, rfl⟩
            case measure => simp [intOf]; omega
        · rw [HE.out, h1, Bool.false_and] at s2
          have S := hide (s2 rfl)
          clear s1 s2 hi hlt q3
          go_wp2_with fail
          go_quiet (fail)
          go_wp2
          go_roundw
          case rel => exact ⟨k + 1, q + nq, by omega, by go_num, S.out, rfl⟩
          case measure => simp [intOf]; omega
      · have hlt2 : ¬ ((k : Int) < T.l.length) := by omega
        have S : Hid (fhs T.l v m = false) := hide (by
          rw [Bool.eq_false_iff]
          intro hc
          have := (fhs_ix T.l v m).1 hc
          have : (T.l.drop k) = [] := List.drop_eq_nil_of_le (by omega)
          rw [this] at hi
          simp [fix] at hi
          omega)
        clear hi
        go_wp2
        go_ret
        refine ⟨ret_int ?_, hz.out 0⟩
        rw [← HF.out, ffx, S.out]; rfl
end Go.Proofs.YtgpdjfaklcmoiaaGreat
/- Contract of set: one that is there. -/
namespace Go.Proofs.YtgpdjfaklcmoiaaGreat
open Go.RowKit Go.PlainAid
theorem estore {w : World} {k : Nat} {l : List En} (h : Box w k (es l)) {j : Nat} (hj : j < l.length) (x : En) :
    ∃ w', (storeVar 61 ⟨k, j * 10, none⟩ (.agg (EC x))).run Tryz.prog w = .ok () w' ∧ Box w' k (es (l.set j x)) ∧ w.grownBy w' (some k) :=
  ⟨_, run_storeVar_mid w k (j * 10) 61 (EC x) (h.thE hj) Tryz.size61 (one_EC x), h.putE (List.getElem?_eq_getElem hj) x, setCells_grown k _ _ w⟩
theorem up_len_there {l : List En} (h : Srt l) {x : En} (hh : fhs l x.v x.m = true) : (up l x).length = l.length := by
  have hk := (ky_iff _ _ _).1 (lk_ky l x.v x.m hh)
  rw [← up_set h (fix_get l x.v x.m hh) (by simp [ke, hk.1, hk.2]), List.length_set]
theorem up_wf {T : FT} (H : FW T) {x : En} (hx : Gd x) (hl : (up T.l x).length ≤ T.n) : FW ⟨T.n, up T.l x⟩ :=
  ⟨H.n1, H.n2, hl, up_srt H.srt x, fun z hz => by
    rcases up_mem.1 hz with e | ⟨e, _⟩
    · rw [e]; exact hx
    · exact H.gd z e⟩
theorem hf_ky {n : Nat} {x y : En} (h : ky y x.v x.m = true) : hf n y = hf n x := by
  have := (ky_iff _ _ _).1 h
  simp [hf, this.1, this.2]
theorem grown_drew' {w w1 : World} {row : Option Nat} (h : w.drew.grownBy w1 row) : w.grownBy w1 row := ⟨h.os, h.tape, h.output, h.size, h.block⟩
theorem PF.putThere {w w1 : World} {h : Nat} {ps : List En} {T : FT} (H : PF w h ps T) {x : En} (hx : Gd x) (hh : fhs T.l x.v x.m = true) {a : Nat} (P : Pl (2 * T.n) ps (fs T.n x.v x.m) x.v x.m a) (Y : Box w1 h (es (ps.set a x))) (G : w.drew.grownBy w1 (some h)) : PF w1 h (ps.set a x) ⟨T.n, up T.l x⟩ := by
  have hl := up_len_there H.wf.srt hh
  refine ⟨?_, Y, H.rp.set H.wf hx (fun y hy => hf_ky hy) P, up_wf H.wf hx (by rw [hl]; exact H.wf.le)⟩
  show Box w1 (h + 1) (tcl h T.n (up T.l x).length)
  rw [hl]
  exact H.bx.drew.kept (Nat.succ_ne_self h) G
set_option maxRecDepth 100000 in
set_option maxHeartbeats 2000000 in
theorem set33_there (h : Nat) (ps : List En) (T : FT) (x : En) (w : World) (hx : Gd x) (H : PF w h ps T) (hh : fhs T.l x.v x.m = true) :
    Calls Tryz.prog 74 #[.pointer (some ⟨h + 1, 0, none⟩), .agg (EC x)] w fun e w' => e = .returned (.int .i64 0) ∧ (∃ ps', PF w' h ps' ⟨T.n, up T.l x⟩) ∧ Mid h (h + 2) w w' := by
  have n1 := H.wf.n1
  have n2 := H.wf.n2
  have X0 := box_e w x
  have c0 := X0.cell 0 _ rfl
  have M0 := mac_of X0
  have W0 : Hid (Below w.heap.size w (w.alloc (.cells (EC x) 61))) := hide (below_alloc w _)
  have HH := hide H
  have HX0 := hide X0
  have q1 := fun w H => place26 h ps T x.v x.m w hx.ok H
  have q2 := fun w => free27 (lk T.l x.v x.m) w
  rw [(H.wf.gd _ (lk_mem hh)).fre] at q2
  clear H X0
  have tk1 : True := trivial
  have tk2 : True := trivial
  go_enter Tryz.func74, Tryz.ntmps74
  go_wp2_with (first | (have _t := tk1; refine wpl_mac (.tmp 9) rfl M0 ?_ ?_ ?_; rfl; rfl; clear tk1))
  refine (q1 _ (HH.out.on W0.out)).mono ?_
  rintro e w1 ⟨a, rfl, P, hb⟩
  have P1 := (HH.out.on W0.out).on hb
  have A1 := P1.pl.ent (P.lk P1.rp P1.wf hx.ok (fs_lt _ _ _ n1 n2) (fun y hy => by rw [(ky_iff _ _ _).1 hy |>.1.symm, ((ky_iff _ _ _).1 hy).2.symm]; rfl))
  have c1 := P1.bx.cell 0 _ rfl
  have ha0 : (a : Int) < 2 * (T.n : Int) := by have := P.lt; omega
  have HP1 := hide P1
  have HX1 := hide (HX0.out.on hb)
  have HB1 := hide (belowOn W0.out hb)
  have HP := hide P
  clear P1 P hb q1 HX0 c0 M0
  have tk1 : True := trivial
  go_wp2_with (first | (have _t := tk1; refine wpl_ent (.tmp 17) rfl A1 ?_ ?_ ?_; rfl; rfl; clear tk1))
  refine (q2 _).mono ?_
  rintro e w2 ⟨rfl, hb⟩
  have HP2 := hide (HP1.out.on hb)
  have c2 := HP2.out.bx.cell 0 _ rfl
  have HX2 := hide (HX1.out.on hb)
  have HB2 := hide (belowOn HB1.out hb)
  clear hb HP1 HX1 HB1 A1 c1
  obtain ⟨U, hU⟩ : ∃ U, U = T.l.length := ⟨_, rfl⟩
  have HT : Hid (Box w2 (h + 1) (tcl h T.n U)) := hide (by rw [hU]; exact HP2.out.bx)
  have HX := HX2
  have HL := hide HP2.out.pl
  have HA : Hid (a < ps.length) := hide (by have := HP.out.lt; rw [HP2.out.rp.len]; exact this)
  have HK : Hid (w.heap.size ≠ h) := hide (by have := HH.out.lt; omega)
  obtain ⟨W2, hW2⟩ : ∃ W2, W2 = w2 := ⟨_, rfl⟩
  subst hW2
  go_wp2_with fail
  refine wp_region_held_drew (S := fun w' => Box w' (h + 1) (tcl h T.n U) ∧ Box w' w.heap.size (ecl x)) (by kernel_rfl) ⟨HT.out.drew, HX.out.drew⟩ (fun hHeld => ?_)
  refine wpAnyH_take (i := 0) (v := .pointer (some ⟨h + 1, 0, none⟩)) rfl (by kernel_rfl) (by kernel_rfl) (by kernel_rfl) (fun _ _ _ h => h) (Or.inl ⟨by rfl, ?_⟩) hHeld ?_
  · intro W hW; (try dsimp only at hW); go_simp
  change wpAnyH _ _ _ _ _ _ _ ⟨#[.pointer (some ⟨h + 1, 0, none⟩), _, _, .pointer (some ⟨w.heap.size, 0, none⟩), _, .int .i64 (a : Int), _, _, _, _, _, _, _, _, _, _, _, _, _, _, _, _, _, _, _, _, _, _, _, _, _, _, _, _, _, _, .pointer (some ⟨h + 1, 0, none⟩), _, _, _, _, _, _], []⟩ _
  refine wpAnyH_take (i := 1) (v := .pointer (some ⟨h + 1, 0, none⟩)) rfl (by kernel_rfl) (by kernel_rfl) (by kernel_rfl) (fun _ _ _ h => h) (Or.inl ⟨by rfl, ?_⟩) hHeld ?_
  · intro W hW; (try dsimp only at hW); go_simp
  change wpAnyH _ _ _ _ _ _ _ ⟨#[.pointer (some ⟨h + 1, 0, none⟩), _, _, .pointer (some ⟨w.heap.size, 0, none⟩), _, .int .i64 (a : Int), _, _, _, _, _, _, _, _, _, _, _, _, _, _, _, _, _, _, _, _, _, _, _, _, _, _, _, _, _, _, .pointer (some ⟨h + 1, 0, none⟩), .pointer (some ⟨h + 1, 0, none⟩), _, _, _, _, _], []⟩ _
  refine wpAnyH_take (i := 2) (v := .pointer (some ⟨h + 1, 0, none⟩)) rfl (by kernel_rfl) (by kernel_rfl) (by kernel_rfl) (fun _ _ _ h => h) (Or.inl ⟨by rfl, ?_⟩) hHeld ?_
  · intro W hW; (try dsimp only at hW); go_simp
  change wpAnyH _ _ _ _ _ _ _ ⟨#[.pointer (some ⟨h + 1, 0, none⟩), _, _, .pointer (some ⟨w.heap.size, 0, none⟩), _, .int .i64 (a : Int), _, _, _, _, _, _, _, _, _, _, _, _, _, _, _, _, _, _, _, _, _, _, _, _, _, _, _, _, _, _, .pointer (some ⟨h + 1, 0, none⟩), .pointer (some ⟨h + 1, 0, none⟩), .pointer (some ⟨h + 1, 0, none⟩), _, _, _, _], []⟩ _
  refine wpAnyH_take (i := 3) (v := .slice (some ⟨h, 0, none⟩) (2 * T.n) (2 * T.n)) rfl (by kernel_rfl) (by kernel_rfl) (by kernel_rfl) (fun _ _ _ h => h) (Or.inl ⟨by rfl, ?_⟩) hHeld ?_
  · intro W hW; (try dsimp only at hW); have hc := hW.1.cell 0 _ rfl; clear hW; go_simp
  change wpAnyH _ _ _ _ _ _ _ ⟨#[.pointer (some ⟨h + 1, 0, none⟩), _, _, .pointer (some ⟨w.heap.size, 0, none⟩), _, .int .i64 (a : Int), _, _, _, _, _, _, _, _, _, _, _, _, _, _, _, _, _, _, _, _, _, _, _, _, _, _, _, _, _, _, .pointer (some ⟨h + 1, 0, none⟩), .pointer (some ⟨h + 1, 0, none⟩), .pointer (some ⟨h + 1, 0, none⟩), .slice (some ⟨h, 0, none⟩) (2 * T.n) (2 * T.n), _, _, _], []⟩ _
  refine wpAnyH_take (i := 4) (v := .int .i64 (a : Int)) rfl (by kernel_rfl) (by kernel_rfl) (by kernel_rfl) (fun _ _ _ h => h) (Or.inl ⟨by rfl, ?_⟩) hHeld ?_
  · intro W hW; (try dsimp only at hW); go_simp
  change wpAnyH _ _ _ _ _ _ _ ⟨#[.pointer (some ⟨h + 1, 0, none⟩), _, _, .pointer (some ⟨w.heap.size, 0, none⟩), _, .int .i64 (a : Int), _, _, _, _, _, _, _, _, _, _, _, _, _, _, _, _, _, _, _, _, _, _, _, _, _, _, _, _, _, _, .pointer (some ⟨h + 1, 0, none⟩), .pointer (some ⟨h + 1, 0, none⟩), .pointer (some ⟨h + 1, 0, none⟩), .slice (some ⟨h, 0, none⟩) (2 * T.n) (2 * T.n), .int .i64 (a : Int), _, _], []⟩ _
  refine wpAnyH_take (i := 5) (v := .agg (EC x)) rfl (by kernel_rfl) (by kernel_rfl) (by kernel_rfl) (fun _ _ _ h => h) (yieldsIf_load_mid (by rfl) 61 (.tmp 3) rfl w.heap.size 0 rfl (ecl x) _ (fun W hW => hW.2.at_) Tryz.underlying61 rfl Tryz.size61) hHeld ?_
  change wpAnyH _ _ _ _ _ _ _ ⟨#[.pointer (some ⟨h + 1, 0, none⟩), _, _, .pointer (some ⟨w.heap.size, 0, none⟩), _, .int .i64 (a : Int), _, _, _, _, _, _, _, _, _, _, _, _, _, _, _, _, _, _, _, _, _, _, _, _, _, _, _, _, _, _, .pointer (some ⟨h + 1, 0, none⟩), .pointer (some ⟨h + 1, 0, none⟩), .pointer (some ⟨h + 1, 0, none⟩), .slice (some ⟨h, 0, none⟩) (2 * T.n) (2 * T.n), .int .i64 (a : Int), .agg (EC x), _], []⟩ _
  refine wpAnyH_take (i := 6) (v := .pointer (some ⟨h, a * 10, none⟩)) rfl (by kernel_rfl) (by kernel_rfl) (by kernel_rfl) (fun _ _ _ h => h) (Or.inl ⟨by rfl, ?_⟩) hHeld ?_
  · intro W hW; (try dsimp only at hW); go_simp
  change wpAnyH _ _ _ _ _ _ _ ⟨#[.pointer (some ⟨h + 1, 0, none⟩), _, _, .pointer (some ⟨w.heap.size, 0, none⟩), _, .int .i64 (a : Int), _, _, _, _, _, _, _, _, _, _, _, _, _, _, _, _, _, _, _, _, _, _, _, _, _, _, _, _, _, _, .pointer (some ⟨h + 1, 0, none⟩), .pointer (some ⟨h + 1, 0, none⟩), .pointer (some ⟨h + 1, 0, none⟩), .slice (some ⟨h, 0, none⟩) (2 * T.n) (2 * T.n), .int .i64 (a : Int), .agg (EC x), .pointer (some ⟨h, a * 10, none⟩)], []⟩ _
  refine wpAnyH_ready (rs := [7]) (by kernel_rfl) (by simp) ?_
  refine AllReadyH.cons rfl (fun K hK => ?_) AllReadyH.nil
  rw [if_pos (by rfl)]
  refine wp_store_mid 61 (.tmp 42) (.tmp 41) rfl h (a * 10) (EC x) rfl rfl (HL.out.drew.thE HA.out) Tryz.size61 (one_EC x) ?_
  have Y3 := HL.out.drew.putE (List.getElem?_eq_getElem HA.out) x
  have G3 := setCells_grown h (ecl x) (a * 10) W2.drew
  refine hK.out _ _ ⟨HT.out.drew.kept (Nat.succ_ne_self h) G3, HX.out.drew.kept HK.out G3⟩ (fun hHeld => ?_)
  clear hK K hHeld
  obtain ⟨w4, hw4⟩ : ∃ w4, w4 = World.setCells W2.drew h (a * 10) (ecl x) := ⟨_, rfl⟩
  rw [← hw4] at Y3 G3
  have e4 : World.setCells W2.drew h (a * 10) (EC x).toList = w4 := by rw [hw4]; rfl
  rw [e4]
  have HY := hide Y3
  have HG := hide G3
  clear e4 hw4 Y3 G3
  change wpAnyH _ _ _ _ _ _ _ ⟨#[.pointer (some ⟨h + 1, 0, none⟩), _, _, .pointer (some ⟨w.heap.size, 0, none⟩), _, .int .i64 (a : Int), _, _, _, _, _, _, _, _, _, _, _, _, _, _, _, _, _, _, _, _, _, _, _, _, _, _, _, _, _, _, .pointer (some ⟨h + 1, 0, none⟩), .pointer (some ⟨h + 1, 0, none⟩), .pointer (some ⟨h + 1, 0, none⟩), .slice (some ⟨h, 0, none⟩) (2 * T.n) (2 * T.n), .int .i64 (a : Int), .agg (EC x), .pointer (some ⟨h, a * 10, none⟩)], []⟩ _
  refine wpAnyH_done (by kernel_rfl) ?_ _
  go_wp2
  go_ret
  refine ⟨rfl, ⟨ps.set a x, HP2.out.putThere hx hh HP.out HY.out HG.out⟩, ?_⟩
  exact (Mid.on (Mid.refl _ _ _) (HB2.out)).grown (grown_drew' HG.out) (Or.inr ⟨Nat.le_refl _, by omega⟩)
end Go.Proofs.YtgpdjfaklcmoiaaGreat
/- Contract of set. -/
namespace Go.Proofs.YtgpdjfaklcmoiaaGreat
open Go.RowKit Go.PlainAid

theorem PF.putNew {w w1 : World} {h : Nat} {ps : List En} {T : FT} (H : PF w h ps T) {x : En} (hx : Gd x) (hh : fhs T.l x.v x.m = false) (hl : T.l.length < T.n) {a : Nat} (P : Pl (2 * T.n) ps (fs T.n x.v x.m) x.v x.m a) (Y : Box w1 h (es (ps.set a x))) (X : Box w1 (h + 1) (tcl h T.n (T.l.length + 1))) : PF w1 h (ps.set a x) ⟨T.n, up T.l x⟩ := by
  have e := up_len (l := T.l) (x := x) (fun y hy e => by
    have := hs_no hh y hy
    rw [(ky_ke (H.wf.gd y hy).ok hx.ok).2 e] at this
    cases this)
  refine ⟨?_, Y, H.rp.set H.wf hx (fun y hy => hf_ky hy) P, up_wf H.wf hx (by rw [e]; exact hl)⟩
  show Box w1 (h + 1) (tcl h T.n (up T.l x).length)
  rw [e]
  exact X
theorem tcl_used {w : World} {h n u u' : Nat} (H : Box w (h + 1) (tcl h n u)) : Box (w.setCell ⟨h + 1, 2, none⟩ (.int .i64 u')) (h + 1) (tcl h n u') :=
  Box.set (A := [.slice (some ⟨h, 0, none⟩) (2 * n) (2 * n), .int .i64 n]) (C := []) H rfl
set_option maxRecDepth 100000 in
set_option maxHeartbeats 2000000 in
theorem set33_full (h : Nat) (ps : List En) (T : FT) (x : En) (w : World) (hx : Gd x) (H : PF w h ps T) (hh : fhs T.l x.v x.m = false) (hl : T.l.length = T.n) :
    Calls Tryz.prog 74 #[.pointer (some ⟨h + 1, 0, none⟩), .agg (EC x)] w fun e w' => e = .returned (.int .i64 3) ∧ Below w.heap.size w w' := by
  have n1 := H.wf.n1
  have n2 := H.wf.n2
  have hle := H.wf.le
  have X0 := box_e w x
  have c0 := X0.cell 0 _ rfl
  have M0 := mac_of X0
  have W0 : Hid (Below w.heap.size w (w.alloc (.cells (EC x) 61))) := hide (below_alloc w _)
  have HH := hide H
  have HX0 := hide X0
  have q1 := fun w H => place26 h ps T x.v x.m w hx.ok H
  have q2 := fun w => free27 zE w
  have ez : fre zE = true := rfl
  rw [ez] at q2
  have el := lk_no _ _ _ hh
  clear H X0 ez
  have tk1 : True := trivial
  have tk2 : True := trivial
  go_enter Tryz.func74, Tryz.ntmps74
  go_wp2_with (first | (have _t := tk1; refine wpl_mac (.tmp 9) rfl M0 ?_ ?_ ?_; rfl; rfl; clear tk1))
  refine (q1 _ (HH.out.on W0.out)).mono ?_
  rintro e w1 ⟨a, rfl, P, hb⟩
  have P1 := (HH.out.on W0.out).on hb
  have A1 := P1.pl.ent (P.lk P1.rp P1.wf hx.ok (fs_lt _ _ _ n1 n2) (fun y hy => by rw [(ky_iff _ _ _).1 hy |>.1.symm, ((ky_iff _ _ _).1 hy).2.symm]; rfl))
  rw [el] at A1
  have c1 := P1.bx.cell 0 _ rfl
  have ha0 : (a : Int) < 2 * (T.n : Int) := by have := P.lt; omega
  have HP1 := hide P1
  have HX1 := hide (HX0.out.on hb)
  have HB1 := hide (belowOn W0.out hb)
  have HP := hide P
  clear P1 P hb q1 HX0 c0 M0 el
  have tk1 : True := trivial
  go_wp2_with (first | (have _t := tk1; refine wpl_ent (.tmp 17) rfl A1 ?_ ?_ ?_; rfl; rfl; clear tk1))
  refine (q2 _).mono ?_
  rintro e w2 ⟨rfl, hb⟩
  have HP2 := hide (HP1.out.on hb)
  have HX2 := hide (HX1.out.on hb)
  have HB2 := hide (belowOn HB1.out hb)
  have c2 := HP2.out.bx.cell 0 _ rfl
  have c3 := HP2.out.bx.cell 1 _ rfl
  have c4 := HP2.out.bx.cell 2 _ rfl
  have f4 := HP2.out.bx.free 2 (by simp [tcl])
  clear hb HP1 HX1 HB1 A1 c1
  have hq : ((T.l.length : Int) == T.n) = true := by simp [hl]
  have hq2 : (T.l.length : Int) = T.n := by omega
  have HLL := hide hl
  clear hl
  go_wp2_with fail
  go_quiet (fail)
  go_wp2
  go_ret
  exact ⟨rfl, HB2.out.trans ⟨rfl, rfl, rfl, Nat.le_refl _, fun _ _ => rfl⟩⟩
set_option maxRecDepth 100000 in
set_option maxHeartbeats 2000000 in
theorem set33_new (h : Nat) (ps : List En) (T : FT) (x : En) (w : World) (hx : Gd x) (H : PF w h ps T) (hh : fhs T.l x.v x.m = false) (hl : T.l.length < T.n) :
    Calls Tryz.prog 74 #[.pointer (some ⟨h + 1, 0, none⟩), .agg (EC x)] w fun e w' => e = .returned (.int .i64 0) ∧ (∃ ps', PF w' h ps' ⟨T.n, up T.l x⟩) ∧ Mid h (h + 2) w w' := by
  have n1 := H.wf.n1
  have n2 := H.wf.n2
  have hle := H.wf.le
  have X0 := box_e w x
  have c0 := X0.cell 0 _ rfl
  have M0 := mac_of X0
  have W0 : Hid (Below w.heap.size w (w.alloc (.cells (EC x) 61))) := hide (below_alloc w _)
  have HH := hide H
  have HX0 := hide X0
  have q1 := fun w H => place26 h ps T x.v x.m w hx.ok H
  have q2 := fun w => free27 zE w
  have ez : fre zE = true := rfl
  rw [ez] at q2
  have el := lk_no _ _ _ hh
  clear H X0 ez
  have tk1 : True := trivial
  have tk2 : True := trivial
  go_enter Tryz.func74, Tryz.ntmps74
  go_wp2_with (first | (have _t := tk1; refine wpl_mac (.tmp 9) rfl M0 ?_ ?_ ?_; rfl; rfl; clear tk1))
  refine (q1 _ (HH.out.on W0.out)).mono ?_
  rintro e w1 ⟨a, rfl, P, hb⟩
  have P1 := (HH.out.on W0.out).on hb
  have A1 := P1.pl.ent (P.lk P1.rp P1.wf hx.ok (fs_lt _ _ _ n1 n2) (fun y hy => by rw [(ky_iff _ _ _).1 hy |>.1.symm, ((ky_iff _ _ _).1 hy).2.symm]; rfl))
  rw [el] at A1
  have c1 := P1.bx.cell 0 _ rfl
  have ha0 : (a : Int) < 2 * (T.n : Int) := by have := P.lt; omega
  have HP1 := hide P1
  have HX1 := hide (HX0.out.on hb)
  have HB1 := hide (belowOn W0.out hb)
  have HP := hide P
  clear P1 P hb q1 HX0 c0 M0 el
  have tk1 : True := trivial
  go_wp2_with (first | (have _t := tk1; refine wpl_ent (.tmp 17) rfl A1 ?_ ?_ ?_; rfl; rfl; clear tk1))
  refine (q2 _).mono ?_
  rintro e w2 ⟨rfl, hb⟩
  have HP2 := hide (HP1.out.on hb)
  have HX2 := hide (HX1.out.on hb)
  have HB2 := hide (belowOn HB1.out hb)
  have c2 := HP2.out.bx.cell 0 _ rfl
  have c3 := HP2.out.bx.cell 1 _ rfl
  have c4 := HP2.out.bx.cell 2 _ rfl
  have f4 := HP2.out.bx.free 2 (by simp [tcl])
  clear hb HP1 HX1 HB1 A1 c1
  have hq : ((T.l.length : Int) == T.n) = false := by simp; omega
  have hq2 : ¬ (T.l.length : Int) = T.n := by omega
  have e5 : IntKind.i64.wrap ((T.l.length : Int) + 1) = (T.l.length : Int) + 1 := IntWalk.i64_in _ (by omega)
  have HLL := hide hl
  clear hl
  go_wp2_with fail
  go_quiet (fail)
  go_wp2_with fail
  have T3 : Box ((w2.drewN nq).setCell ⟨h + 1, 2, none⟩ (.int .i64 ((T.l.length : Int) + 1))) (h + 1) (tcl h T.n (T.l.length + 1)) := tcl_used (u' := T.l.length + 1) (HP2.out.bx.drewN nq)
  have G3 := setCell_grown (w2.drewN nq) (h + 1) 2 (.int .i64 ((T.l.length : Int) + 1))
  have L3 := (HP2.out.pl.drewN nq).kept (by omega) G3
  have HX := hide ((HX2.out.drewN nq).kept (by have := HH.out.lt; omega) G3)
  have HM3 : Hid (Mid h (h + 2) w ((w2.drewN nq).setCell ⟨h + 1, 2, none⟩ (.int .i64 ((T.l.length : Int) + 1)))) := hide ((Mid.on (Mid.refl _ _ _) (HB2.out.trans ⟨rfl, rfl, rfl, Nat.le_refl _, fun _ _ => rfl⟩ : Below w.heap.size w (w2.drewN nq))).grown G3 (Or.inr ⟨by omega, by omega⟩))
  clear G3
  generalize (w2.drewN nq).setCell ⟨h + 1, 2, none⟩ (.int .i64 ((T.l.length : Int) + 1)) = W2 at *
  obtain ⟨U, hU⟩ : ∃ U, U = T.l.length + 1 := ⟨_, rfl⟩
  rw [← hU] at T3
  have HU := hide hU
  clear hU
  have HT := hide T3
  have HL := hide L3
  have HA : Hid (a < ps.length) := hide (by have := HP.out.lt; rw [HP2.out.rp.len]; exact this)
  have HK : Hid (w.heap.size ≠ h) := hide (by have := HH.out.lt; omega)
  clear T3 L3 c2 c3 c4 f4
  refine wp_region_held_drew (S := fun w' => Box w' (h + 1) (tcl h T.n U) ∧ Box w' w.heap.size (ecl x)) (by kernel_rfl) ⟨HT.out.drew, HX.out.drew⟩ (fun hHeld => ?_)
  refine wpAnyH_take (i := 0) (v := .pointer (some ⟨h + 1, 0, none⟩)) rfl (by kernel_rfl) (by kernel_rfl) (by kernel_rfl) (fun _ _ _ h => h) (Or.inl ⟨by rfl, ?_⟩) hHeld ?_
  · intro W hW; (try dsimp only at hW); go_simp
  change wpAnyH _ _ _ _ _ _ _ ⟨#[.pointer (some ⟨h + 1, 0, none⟩), _, _, .pointer (some ⟨w.heap.size, 0, none⟩), _, .int .i64 (a : Int), _, _, _, _, _, _, _, _, _, _, _, _, _, _, _, _, _, _, _, _, _, _, _, _, _, _, _, _, _, _, .pointer (some ⟨h + 1, 0, none⟩), _, _, _, _, _, _], []⟩ _
  refine wpAnyH_take (i := 1) (v := .pointer (some ⟨h + 1, 0, none⟩)) rfl (by kernel_rfl) (by kernel_rfl) (by kernel_rfl) (fun _ _ _ h => h) (Or.inl ⟨by rfl, ?_⟩) hHeld ?_
  · intro W hW; (try dsimp only at hW); go_simp
  change wpAnyH _ _ _ _ _ _ _ ⟨#[.pointer (some ⟨h + 1, 0, none⟩), _, _, .pointer (some ⟨w.heap.size, 0, none⟩), _, .int .i64 (a : Int), _, _, _, _, _, _, _, _, _, _, _, _, _, _, _, _, _, _, _, _, _, _, _, _, _, _, _, _, _, _, .pointer (some ⟨h + 1, 0, none⟩), .pointer (some ⟨h + 1, 0, none⟩), _, _, _, _, _], []⟩ _
  refine wpAnyH_take (i := 2) (v := .pointer (some ⟨h + 1, 0, none⟩)) rfl (by kernel_rfl) (by kernel_rfl) (by kernel_rfl) (fun _ _ _ h => h) (Or.inl ⟨by rfl, ?_⟩) hHeld ?_
  · intro W hW; (try dsimp only at hW); go_simp
  change wpAnyH _ _ _ _ _ _ _ ⟨#[.pointer (some ⟨h + 1, 0, none⟩), _, _, .pointer (some ⟨w.heap.size, 0, none⟩), _, .int .i64 (a : Int), _, _, _, _, _, _, _, _, _, _, _, _, _, _, _, _, _, _, _, _, _, _, _, _, _, _, _, _, _, _, .pointer (some ⟨h + 1, 0, none⟩), .pointer (some ⟨h + 1, 0, none⟩), .pointer (some ⟨h + 1, 0, none⟩), _, _, _, _], []⟩ _
  refine wpAnyH_take (i := 3) (v := .slice (some ⟨h, 0, none⟩) (2 * T.n) (2 * T.n)) rfl (by kernel_rfl) (by kernel_rfl) (by kernel_rfl) (fun _ _ _ h => h) (Or.inl ⟨by rfl, ?_⟩) hHeld ?_
  · intro W hW; (try dsimp only at hW); have hc := hW.1.cell 0 _ rfl; clear hW; go_simp
  change wpAnyH _ _ _ _ _ _ _ ⟨#[.pointer (some ⟨h + 1, 0, none⟩), _, _, .pointer (some ⟨w.heap.size, 0, none⟩), _, .int .i64 (a : Int), _, _, _, _, _, _, _, _, _, _, _, _, _, _, _, _, _, _, _, _, _, _, _, _, _, _, _, _, _, _, .pointer (some ⟨h + 1, 0, none⟩), .pointer (some ⟨h + 1, 0, none⟩), .pointer (some ⟨h + 1, 0, none⟩), .slice (some ⟨h, 0, none⟩) (2 * T.n) (2 * T.n), _, _, _], []⟩ _
  refine wpAnyH_take (i := 4) (v := .int .i64 (a : Int)) rfl (by kernel_rfl) (by kernel_rfl) (by kernel_rfl) (fun _ _ _ h => h) (Or.inl ⟨by rfl, ?_⟩) hHeld ?_
  · intro W hW; (try dsimp only at hW); go_simp
  change wpAnyH _ _ _ _ _ _ _ ⟨#[.pointer (some ⟨h + 1, 0, none⟩), _, _, .pointer (some ⟨w.heap.size, 0, none⟩), _, .int .i64 (a : Int), _, _, _, _, _, _, _, _, _, _, _, _, _, _, _, _, _, _, _, _, _, _, _, _, _, _, _, _, _, _, .pointer (some ⟨h + 1, 0, none⟩), .pointer (some ⟨h + 1, 0, none⟩), .pointer (some ⟨h + 1, 0, none⟩), .slice (some ⟨h, 0, none⟩) (2 * T.n) (2 * T.n), .int .i64 (a : Int), _, _], []⟩ _
  refine wpAnyH_take (i := 5) (v := .agg (EC x)) rfl (by kernel_rfl) (by kernel_rfl) (by kernel_rfl) (fun _ _ _ h => h) (yieldsIf_load_mid (by rfl) 61 (.tmp 3) rfl w.heap.size 0 rfl (ecl x) _ (fun W hW => hW.2.at_) Tryz.underlying61 rfl Tryz.size61) hHeld ?_
  change wpAnyH _ _ _ _ _ _ _ ⟨#[.pointer (some ⟨h + 1, 0, none⟩), _, _, .pointer (some ⟨w.heap.size, 0, none⟩), _, .int .i64 (a : Int), _, _, _, _, _, _, _, _, _, _, _, _, _, _, _, _, _, _, _, _, _, _, _, _, _, _, _, _, _, _, .pointer (some ⟨h + 1, 0, none⟩), .pointer (some ⟨h + 1, 0, none⟩), .pointer (some ⟨h + 1, 0, none⟩), .slice (some ⟨h, 0, none⟩) (2 * T.n) (2 * T.n), .int .i64 (a : Int), .agg (EC x), _], []⟩ _
  refine wpAnyH_take (i := 6) (v := .pointer (some ⟨h, a * 10, none⟩)) rfl (by kernel_rfl) (by kernel_rfl) (by kernel_rfl) (fun _ _ _ h => h) (Or.inl ⟨by rfl, ?_⟩) hHeld ?_
  · intro W hW; (try dsimp only at hW); go_simp
  change wpAnyH _ _ _ _ _ _ _ ⟨#[.pointer (some ⟨h + 1, 0, none⟩), _, _, .pointer (some ⟨w.heap.size, 0, none⟩), _, .int .i64 (a : Int), _, _, _, _, _, _, _, _, _, _, _, _, _, _, _, _, _, _, _, _, _, _, _, _, _, _, _, _, _, _, .pointer (some ⟨h + 1, 0, none⟩), .pointer (some ⟨h + 1, 0, none⟩), .pointer (some ⟨h + 1, 0, none⟩), .slice (some ⟨h, 0, none⟩) (2 * T.n) (2 * T.n), .int .i64 (a : Int), .agg (EC x), .pointer (some ⟨h, a * 10, none⟩)], []⟩ _
  refine wpAnyH_ready (rs := [7]) (by kernel_rfl) (by simp) ?_
  refine AllReadyH.cons rfl (fun K hK => ?_) AllReadyH.nil
  rw [if_pos (by rfl)]
  refine wp_store_mid 61 (.tmp 42) (.tmp 41) rfl h (a * 10) (EC x) rfl rfl (HL.out.drew.thE HA.out) Tryz.size61 (one_EC x) ?_
  have Y3 := HL.out.drew.putE (List.getElem?_eq_getElem HA.out) x
  have G3 := setCells_grown h (ecl x) (a * 10) W2.drew
  refine hK.out _ _ ⟨HT.out.drew.kept (Nat.succ_ne_self h) G3, HX.out.drew.kept HK.out G3⟩ (fun hHeld => ?_)
  clear hK K hHeld
  obtain ⟨w4, hw4⟩ : ∃ w4, w4 = World.setCells W2.drew h (a * 10) (ecl x) := ⟨_, rfl⟩
  rw [← hw4] at Y3 G3
  have e4 : World.setCells W2.drew h (a * 10) (EC x).toList = w4 := by rw [hw4]; rfl
  rw [e4]
  have HY := hide Y3
  have HG := hide G3
  clear e4 hw4 Y3 G3
  change wpAnyH _ _ _ _ _ _ _ ⟨#[.pointer (some ⟨h + 1, 0, none⟩), _, _, .pointer (some ⟨w.heap.size, 0, none⟩), _, .int .i64 (a : Int), _, _, _, _, _, _, _, _, _, _, _, _, _, _, _, _, _, _, _, _, _, _, _, _, _, _, _, _, _, _, .pointer (some ⟨h + 1, 0, none⟩), .pointer (some ⟨h + 1, 0, none⟩), .pointer (some ⟨h + 1, 0, none⟩), .slice (some ⟨h, 0, none⟩) (2 * T.n) (2 * T.n), .int .i64 (a : Int), .agg (EC x), .pointer (some ⟨h, a * 10, none⟩)], []⟩ _
  refine wpAnyH_done (by kernel_rfl) ?_ _
  go_wp2
  go_ret
  refine ⟨rfl, ⟨ps.set a x, HP2.out.putNew hx hh HLL.out HP.out HY.out ?_⟩, ?_⟩
  · rw [← HU.out]; exact HT.out.drew.kept (by omega) HG.out
  · exact HM3.out.grown (grown_drew' HG.out) (Or.inr ⟨Nat.le_refl _, by omega⟩)
/-- What set answers, and what it leaves. -/
def full (T : FT) (v : Int) (m : Mc) : Bool := !fhs T.l v m && decide (T.n ≤ T.l.length)
def sT (T : FT) (x : En) : FT := if full T x.v x.m then T else ⟨T.n, up T.l x⟩
def sE (T : FT) (x : En) : Int := if full T x.v x.m then 3 else 0
theorem set33 (h : Nat) (ps : List En) (T : FT) (x : En) (w : World) (hx : Gd x) (H : PF w h ps T) :
    Calls Tryz.prog 74 #[.pointer (some ⟨h + 1, 0, none⟩), .agg (EC x)] w fun e w' => e = .returned (.int .i64 (sE T x)) ∧ (∃ ps', PF w' h ps' (sT T x)) ∧ Mid h (h + 2) w w' := by
  rcases Bool.eq_false_or_eq_true (fhs T.l x.v x.m) with hh | hh
  · have e : full T x.v x.m = false := by simp [full, hh]
    rw [sE, sT, e]
    exact set33_there h ps T x w hx H hh
  · by_cases hl : T.l.length < T.n
    · have e : full T x.v x.m = false := by simp [full, hh]; omega
      rw [sE, sT, e]
      exact set33_new h ps T x w hx H hh hl
    · have e : full T x.v x.m = true := by simp [full, hh]; omega
      rw [sE, sT, e]
      have := H.wf.le
      refine (set33_full h ps T x w hx H hh (by omega)).mono ?_
      rintro e w' ⟨rfl, hb⟩
      exact ⟨rfl, ⟨ps, H.on hb⟩, Mid.on (Mid.refl _ _ _) hb⟩
end Go.Proofs.YtgpdjfaklcmoiaaGreat
