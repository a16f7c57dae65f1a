/- Contracts: Add, Remove, Native as the document has them. -/
import Derived.Test.YtelinahpneikiaaB3
import Derived.Deep.RegionLaw
import Derived.Deep.DrawnRows
namespace Go.Proofs.Ytelinahpneikiaa
open Go.RowKit Go.PlainAid

/-- A slice of members, to be put behind others. -/
structure Mrs (w : World) (ao : Option Addr) (n c : Nat) (l : List Mm) : Prop where
  len : l.length = n
  nil : ao = none → n = 0 ∧ c = 0
  src : ∀ a, ao = some a → ∀ j u, (mml l)[j]? = some u → w.cell? (a.add j) = some u
theorem one_mml (l : List Mm) : ∀ u ∈ mml l, u.oneCell' = true := by
  intro u hu
  simp only [mml, List.mem_flatMap] at hu
  obtain ⟨m, _, hm⟩ := hu
  simp at hm
  rcases hm with rfl | rfl | rfl <;> rfl
theorem mapp_run {w : World} {base : Nat} {v : Value} {n : Nat} {xs : List Mm} (hown : w.ownsRow base 73 3 v n (mml xs)) {ao : Option Addr} {m c : Nat} {ns : List Mm} (hB : Mrs w ao m c ns) (h1 : n + m ≤ 100000) (hbase : base ≤ w.heap.size) :
    ∃ v' w', (Builtin.append_ #[63, 63] 63 #[v, .slice ao m c]).run Try.prog w = .ok v' w' ∧ w'.ownsRow base 73 3 v' (n + m) (mml (xs ++ ns)) ∧ w.grownBy w' v.ownBlock := by
  obtain ⟨i0, hi, hz0, hz1, hz2⟩ := info_parts Try.info73
  cases ao with
  | none =>
    obtain ⟨rfl, rfl⟩ := hB.nil rfl
    obtain rfl : ns = [] := List.eq_nil_of_length_eq_zero hB.len
    refine ⟨v, w, run_append_owned_none w base 63 63 73 i0 3 Try.underlying63 hi v n _ hown, ?_, World.grownBy.refl _ _⟩
    rw [List.append_nil]
    exact hown
  | some a =>
    obtain ⟨v', w', h2, h3, h4, -⟩ := run_append_own w base 63 63 73 i0 _ 3 24 Try.underlying63 hi hz0 hz1 hz2 rfl (by decide) v n (mml xs) hown a m c (mml ns) (by rw [mml_length, hB.len]) (hB.src a rfl) (one_mml ns) (by unfold maxLen; omega) (by omega) hbase
    refine ⟨v', w', h2, ?_, h4⟩
    rw [mml_append]
    exact h3
/-- At a plain region's list. -/
theorem wpl_mapp {ops : Array Oper} {rest : List Oper} {o : Oper} {a : Act} {w : World} {Q : Exit → Act → World → Prop} (hgd : o.guard = none) (hty : o.type = 63) (s x : Operand)
    (ho : o.op = .call { callee := .builtin .append, args := #[s, x], argTypes := #[63, 63] })
    (base : Nat) (v : Value) (n : Nat) (xs : List Mm) (hs : a.eval s = v) (hown : w.ownsRow base 73 3 v n (mml xs)) (ao : Option Addr) (m c : Nat) (ns : List Mm) (hx : a.eval x = .slice ao m c) (hB : Mrs w ao m c ns)
    (h1 : n + m ≤ 100000) (hbase : base ≤ w.heap.size)
    (h : ∀ v' w', w'.ownsRow base 73 3 v' (n + m) (mml (xs ++ ns)) → w.grownBy w' v.ownBlock → wpList Try.prog ops Q rest (a.put o.dst v') w') : wpList Try.prog ops Q (o :: rest) a w := by
  obtain ⟨v', w', hr, h2, h3⟩ := mapp_run hown hB h1 hbase
  have hk := h v' w' h2 h3
  refine wpList_plain hgd fun K hK => ?_
  unfold Oper.wp execOp
  simp only [ho, hty, resolve, invoke, builtin, Sem.run_bind, Sem.run_pure, Result.andThen_ok, List.map_toArray, List.map_cons, List.map_nil, hs, hx, hr]
  exact hK _ _ hk
/-- At a step of a region that draws its order. -/
theorem step_mapp {ops : Array Oper} {o : Oper} {a : Act} {w : World} {C : Act → World → Prop} {Q : Exit → Act → World → Prop} {E : Prop} (hgd : o.guard = none) (hty : o.type = 63) (s x : Operand)
    (ho : o.op = .call { callee := .builtin .append, args := #[s, x], argTypes := #[63, 63] })
    (base : Nat) (v : Value) (n : Nat) (xs : List Mm) (hs : a.eval s = v) (hown : w.ownsRow base 73 3 v n (mml xs)) (ao : Option Addr) (m c : Nat) (ns : List Mm) (hx : a.eval x = .slice ao m c) (hB : Mrs w ao m c ns)
    (h1 : n + m ≤ 100000) (hbase : base ≤ w.heap.size)
    (h : ∀ v' w', w'.ownsRow base 73 3 v' (n + m) (mml (xs ++ ns)) → w.grownBy w' v.ownBlock → C (a.put o.dst v') w') : if Region.wanted o (yielded ops a.tmps) = true then Oper.wp Try.prog o a w C Q else E := by
  have hw : Region.wanted o (yielded ops a.tmps) = true := by simp [Region.wanted, hgd]
  rw [if_pos hw]
  obtain ⟨v', w', hr, h2, h3⟩ := mapp_run hown hB h1 hbase
  have hk := h v' w' h2 h3
  unfold Oper.wp execOp
  simp only [ho, hty, resolve, invoke, builtin, Sem.run_bind, Sem.run_pure, Result.andThen_ok, List.map_toArray, List.map_cons, List.map_nil, hs, hx, hr]
  exact hk
theorem own_form {w : World} {base : Nat} {e : TypeId} {size : Nat} {v : Value} {n : Nat} {xs : List Value} (h : w.ownsRow base e size v n xs) : ∃ ao c, v = .slice ao n c := by
  rcases h.2 with ⟨h1, h2⟩ | ⟨b, cap, cur, h1, _⟩
  · exact ⟨none, 0, by rw [h1, h2]⟩
  · exact ⟨_, _, h1⟩
theorem RT.mrs {w : World} {g : Nat} {lv : Value} {T : Tb} (H : RT w g lv T) : ∃ ao c, lv = .slice ao T.l.length c ∧ Mrs w ao T.l.length c T.l ∧ (∀ a, ao = some a → ∃ b, a = ⟨b, 0, none⟩ ∧ g + 2 ≤ b ∧ b < w.heap.size) := by
  have hr := H.row
  rcases hr.2 with ⟨h1, h2⟩ | ⟨b, cap, cur, h1, hb, hc, r⟩
  · refine ⟨none, 0, by rw [h1, h2], ⟨rfl, fun _ => ⟨h2, rfl⟩, fun a e => (by cases e)⟩, fun a e => (by cases e)⟩
  · subst h1
    refine ⟨_, cap, rfl, ⟨rfl, fun e => (by cases e), fun a e => ?_⟩, fun a e => ?_⟩
    · obtain rfl := Option.some.inj e
      exact hr.cells (g := b) rfl
    · obtain rfl := Option.some.inj e
      exact ⟨b, rfl, hb, (Array.getElem?_eq_some_iff.1 hc).1⟩
theorem Mrs.grown {w w1 : World} {row : Option Nat} {ao : Option Addr} {n c : Nat} {l : List Mm} (h : Mrs w ao n c l) (g : w.grownBy w1 row) (hne : ∀ a, ao = some a → ∃ b o, a = ⟨b, o, none⟩ ∧ some b ≠ row) : Mrs w1 ao n c l :=
  ⟨h.len, h.nil, fun a e j u hj => by
    obtain ⟨b, o, rfl, hb⟩ := hne a e
    have := h.src _ e j u hj
    rw [Addr.add_lit] at this ⊢
    exact g.cell this hb⟩
theorem RT.stored {w : World} {g : Nat} {lv : Value} {T : Tb} (H : RT w g lv T) {b cap : Nat} (hlv : lv = .slice (some ⟨b, 0, none⟩) T.l.length cap) (hb : g + 2 ≤ b) {v p : Int} {t : Bool} (hv : isV v = true) (hh : hp T p = true) (hm : hs T.l v p = true) :
    RT (w.setCell ⟨b, ix T.l v p * 3 + 2, none⟩ (.bool t)) g lv (tAdd T v p t) ∧ Below g w (w.setCell ⟨b, ix T.l v p * 3 + 2, none⟩ (.bool t)) := by
  subst hlv
  have e : tAdd T v p t = ⟨T.n, ad T.l v p t, T.ns⟩ := by rw [tAdd, hv, hh]; rfl
  have hw := H.wf.add v p t
  have hl := H.lt
  obtain ⟨s1, s2⟩ := H.row.stored (ix T.l v p * 3 + 2) (.bool t)
  have hl2 : (ad T.l v p t).length = T.l.length := by rw [ad_set _ _ _ _ hm]; simp
  rw [e] at hw ⊢
  refine ⟨⟨H.bx.block (s2.block _ (by omega) (fun e => by have := Option.some.inj e; omega)), H.nt.block (s2.block _ (by omega) (fun e => by have := Option.some.inj e; omega)), ?_, hw⟩, (Below.refl _ _).grown s2 (by omega) (fun k hk => by have := Option.some.inj hk; omega)⟩
  rw [Nat.mul_comm, mml_set T.l _ _ t (ix_get T.l v p hm), ← ad_set _ _ _ _ hm, Nat.mul_comm] at s1
  rw [hl2]
  exact s1
/-- The members stand in a new block. -/
theorem RT.fresh {w w1 : World} {g : Nat} {lv lv' : Value} {T T' : Tb} (H : RT w g lv T) (hB : Below (g + 2) w w1) (hn : T'.n = T.n) (hs : T'.ns = T.ns) (hw : Wf T') (hr : w1.ownsRow (g + 2) 73 3 lv' T'.l.length (mml T'.l)) :
    RT (w1.setCell ⟨g + 1, 1, none⟩ lv') g lv' T' ∧ Below g w (w1.setCell ⟨g + 1, 1, none⟩ lv') := by
  have hl := H.lt
  have g1 := setCell_grown w1 (g + 1) 1 lv'
  have hl1 := hB.size
  refine ⟨⟨?_, ?_, ?_, hw⟩, (hB.mono (by omega)).grown g1 (by omega) (fun k hk => by have := Option.some.inj hk; omega)⟩
  · have b := H.bx.below (g := g + 2) (by omega) hB
    rw [hn]
    exact Box.set (A := [.int .i64 T.n]) (C := [.slice (some ⟨g, 0, none⟩) T.n T.n]) b rfl
  · rw [hs]
    exact (H.nt.below (g := g + 2) (by omega) hB).kept (by omega) g1
  · refine World.ownsRow.kept hr g1 ?_
    rcases hr.2 with ⟨h, _⟩ | ⟨b, _, _, h, hb, _⟩
    · rw [h]; exact Or.inl rfl
    · rw [h]
      refine Or.inr (fun e => ?_)
      have := Option.some.inj e
      simp at this
      omega
set_option maxRecDepth 100000 in
set_option maxHeartbeats 2000000 in
theorem add42_no (g : Nat) (lv : Value) (T : Tb) (v p : Int) (t : Bool) (w : World) (H : RT w g lv T) (hc : (isV v && hp T p) = false) : Calls Try.prog 42 #[.pointer (some ⟨g + 1, 0, none⟩), .int .i64 v, .int .i64 p, .bool t] w
    fun e w' => e = .returned (.int .i64 1) ∧ w' = w := by
  have q1 := fun w H => right39 g lv T v p w H
  rw [hc] at q1
  have HH := hide H
  clear H
  go_enter Try.func42, Try.ntmps42
  go_wp2_with (first | (go_at_call 39; refine (q1 _ HH.out).mono ?_; rintro e w' ⟨rfl, rfl⟩))
  go_ret
  exact ⟨rfl, rfl⟩
set_option maxRecDepth 100000 in
set_option maxHeartbeats 2000000 in
theorem add42_set (g : Nat) (lv : Value) (T : Tb) (v p : Int) (t : Bool) (w : World) (H : RT w g lv T) (hv : isV v = true) (hh : hp T p = true) (hm : hs T.l v p = true) : Calls Try.prog 42 #[.pointer (some ⟨g + 1, 0, none⟩), .int .i64 v, .int .i64 p, .bool t] w
    fun e w' => e = .returned (.int .i64 0) ∧ (∃ lv', RT w' g lv' (tAdd T v p t)) ∧ Below g w w' := by
  have q1 := fun w H => right39 g lv T v p w H
  rw [hv, hh, Bool.true_and] at q1
  have q2 := fun w H => find29 g lv T v p w H
  have hfx : fx T.l v p = (ix T.l v p : Int) := by rw [fx, hm]; rfl
  rw [hfx] at q2
  have hix := (hs_ix T.l v p).1 hm
  rcases H.at with ⟨_, hl⟩ | ⟨b, cap, hlv, hb, hn, hmx, hcell⟩
  · rw [hl] at hm; cases hm
  · obtain ⟨r1, r2⟩ := H.stored (t := t) hlv hb hv hh hm
    have R1 := hide r1
    have R2 := hide r2
    obtain ⟨-, -, d2, d3⟩ := hcell _ _ (ix_get T.l v p hm)
    have c1 := H.bx.cell 1 _ rfl
    have hix' : (ix T.l v p : Int) < T.l.length := by omega
    have HH := hide H
    rw [hlv] at c1
    clear H hcell r1 r2 hfx
    unfold maxLen at hmx
    generalize ix T.l v p = k at *
    go_enter Try.func42, Try.ntmps42
    go_wp2_with (first | (go_at_call 39; refine (q1 _ HH.out).mono ?_; rintro e w' ⟨rfl, rfl⟩) | (go_at_call 29; refine (q2 _ HH.out).mono ?_; rintro e w' ⟨rfl, rfl⟩))
    go_ret
    exact ⟨rfl, ⟨_, R1.out⟩, R2.out⟩
set_option maxRecDepth 100000 in
set_option maxHeartbeats 4000000 in
theorem add42_push (g : Nat) (lv : Value) (T : Tb) (v p : Int) (t : Bool) (w : World) (H : RT w g lv T) (hL : T.l.length ≤ 1000) (hv : isV v = true) (hh : hp T p = true) (hm : hs T.l v p = false) : Calls Try.prog 42 #[.pointer (some ⟨g + 1, 0, none⟩), .int .i64 v, .int .i64 p, .bool t] w
    fun e w' => e = .returned (.int .i64 0) ∧ (∃ lv', RT w' g lv' (tAdd T v p t)) ∧ Below g w w' := by
  have q1 := fun w H => right39 g lv T v p w H
  rw [hv, hh, Bool.true_and] at q1
  have q2 := fun w H => find29 g lv T v p w H
  have hfx : fx T.l v p = -1 := by rw [fx, hm]; rfl
  rw [hfx] at q2
  have e0 : tAdd T v p t = ⟨T.n, T.l ++ [⟨v, p, t⟩], T.ns⟩ := by rw [tAdd, hv, hh, ad_push _ _ _ _ hm]; rfl
  have hw := H.wf.add v p t
  rw [e0] at hw ⊢
  obtain ⟨ao, c, hlv, hM, hao⟩ := H.mrs
  have hl := H.lt
  have c1 := H.bx.cell 1 _ rfl
  have c1f := H.bx.free 1 (by simp)
  subst hlv
  have ga := World.grownBy_alloc w (.cells #[] 73) none
  have M1 := hide (hM.grown ga (fun a e => by obtain ⟨b, h, _⟩ := hao a e; exact ⟨b, 0, h, by simp⟩))
  have O1 : Hid ((w.alloc (.cells #[] 73)).ownsRow (g + 2) 73 3 (.slice (some ⟨w.heap.size, 0, none⟩) 0 0) 0 (mml [])) := hide (World.ownsRow_lit w #[] 0 (by omega) (by unfold maxLen; omega) rfl)
  have hlt1 : Hid (g + 2 ≤ (w.alloc (.cells #[] 73)).heap.size) := hide (by simp; omega)
  have b0 : Below (g + 2) w (w.alloc (.cells #[] 73)) := (Below.refl _ _).alloc (by omega) _
  have B0 := hide b0
  have c1a : (w.alloc (.cells #[] 73)).cell? ⟨g + 1, 1, none⟩ = some (.slice ao T.l.length c) := (b0.cell (p := ⟨g + 1, 1, none⟩) (by simp)).trans c1
  have HH := hide H
  have HW := hide hw
  clear H hM hfx hw ga e0 b0 c1
  have tk1 : True := trivial
  have tk2 : True := trivial
  go_enter Try.func42, Try.ntmps42
  go_wp2_with (first | (go_at_call 39; refine (q1 _ HH.out).mono ?_; rintro e w' ⟨rfl, rfl⟩) | (go_at_call 29; refine (q2 _ HH.out).mono ?_; rintro e w' ⟨rfl, rfl⟩) | (have _t := tk1; at_builtin; refine wpl_mapp rfl rfl (.tmp 32) (.tmp 36) rfl (g + 2) _ 0 [] rfl O1.out _ _ _ _ rfl M1.out (by omega) hlt1.out ?_; clear tk1))
  intro v1 w1 R1 G1
  have B1 := B0.out.grown G1 hlt1.out (fun k hk => (O1.out.lt k hk).1)
  have hs1 := B1.size
  have hlt2 : Hid (g + 2 ≤ (w1.alloc (.cells #[.int .i64 v, .int .i64 p, .bool t] 73)).heap.size) := hide (by simp; omega)
  have O2 := hide (R1.alloc (.cells #[.int .i64 v, .int .i64 p, .bool t] 73))
  have M2 : Hid (Mrs (w1.alloc (.cells #[.int .i64 v, .int .i64 p, .bool t] 73)) (some ⟨w1.heap.size, 0, none⟩) 1 1 [⟨v, p, t⟩]) := hide ⟨rfl, fun e => (by cases e), fun a e j u hj => by
    obtain rfl := Option.some.inj e
    rw [Addr.add_lit, Nat.zero_add, World.cell?_alloc_at _ _ _ _ rfl]
    have hj' : [Value.int .i64 v, .int .i64 p, .bool t][j]? = some u := hj
    simpa using hj'⟩
  have B2 : Hid (Below (g + 2) _ (w1.alloc (.cells #[.int .i64 v, .int .i64 p, .bool t] 73))) := hide (B1.alloc (by omega) _)
  clear R1 G1 B1 B0 M1 O1
  go_wp2_with (first | (have _t := tk2; at_builtin; refine wpl_mapp rfl rfl (.tmp 37) (.tmp 42) rfl (g + 2) _ _ _ rfl O2.out _ 1 1 _ rfl M2.out (by omega) hlt2.out ?_; clear tk2))
  intro v2 w2 R2 G2
  obtain ⟨ao2, c2, rfl⟩ := own_form R2
  have B3 := B2.out.grown G2 hlt2.out (fun k hk => (O2.out.lt k hk).1)
  have F := hide (HH.out.fresh (T' := ⟨T.n, T.l ++ [⟨v, p, t⟩], T.ns⟩) B3 rfl rfl HW.out (by simpa using R2))
  have th := (HH.out.bx.below (g := g + 2) (by omega) B3).th 1 (by simp)
  rw [Nat.zero_add] at th
  obtain ⟨th1, th2⟩ := th
  have th3 := (HH.out.bx.below (g := g + 2) (by omega) B3).cell 1 _ rfl
  clear R2 G2 B3 B2 O2 M2 th1
  go_wp2
  go_ret
  exact ⟨rfl, ⟨_, F.out.1⟩, F.out.2⟩
theorem add42 (g : Nat) (lv : Value) (T : Tb) (v p : Int) (t : Bool) (w : World) (H : RT w g lv T) (hL : T.l.length ≤ 1000) : Calls Try.prog 42 #[.pointer (some ⟨g + 1, 0, none⟩), .int .i64 v, .int .i64 p, .bool t] w
    fun e w' => e = .returned (.int .i64 (eAdd T v p)) ∧ (∃ lv', RT w' g lv' (tAdd T v p t)) ∧ Below g w w' := by
  rcases Bool.eq_false_or_eq_true (isV v && hp T p) with hc | hc
  · have e1 : eAdd T v p = 0 := by rw [eAdd, hc]; rfl
    rw [e1]
    simp only [Bool.and_eq_true] at hc
    rcases Bool.eq_false_or_eq_true (hs T.l v p) with hm | hm
    · exact add42_set g lv T v p t w H hc.1 hc.2 hm
    · exact add42_push g lv T v p t w H hL hc.1 hc.2 hm
  · have e1 : eAdd T v p = 1 := by rw [eAdd, hc]; rfl
    have e2 : tAdd T v p t = T := by rw [tAdd, hc]; rfl
    rw [e1, e2]
    refine (add42_no g lv T v p t w H hc).mono ?_
    rintro e w' ⟨rfl, rfl⟩
    exact ⟨rfl, ⟨lv, H⟩, Below.refl _ _⟩
set_option maxRecDepth 100000 in
set_option maxHeartbeats 2000000 in
theorem native44 (g : Nat) (lv : Value) (T : Tb) (p v : Int) (w : World) (H : RT w g lv T) : Calls Try.prog 44 #[.pointer (some ⟨g + 1, 0, none⟩), .int .i64 p, .int .i64 v] w
    fun e w' => e = .returned (.int .i64 (eNat T p v)) ∧ (∃ lv', RT w' g lv' (tNat T p v)) ∧ Below g w w' := by
  have c0 := H.bx.cell 0 _ rfl
  have c2 := H.bx.cell 2 _ rfl
  have hl := H.lt
  rcases Bool.eq_false_or_eq_true (hp T p && (v == 0 || isV v)) with hc | hc
  · have e1 : eNat T p v = 0 := by rw [eNat, hc]; rfl
    have e2 : tNat T p v = ⟨T.n, T.l, T.ns.set p.toNat v⟩ := by rw [tNat, hc]; rfl
    have hw := H.wf.nati p v
    rw [e1]
    rw [e2] at hw ⊢
    rw [nat_ok, Bool.and_eq_true, hp_iff, decide_eq_true_eq] at hc
    obtain ⟨⟨p0, p1⟩, v0, v1⟩ := hc
    obtain ⟨k, rfl⟩ := Int.eq_ofNat_of_zero_le p0
    have hn := H.wf.ns
    have hk : k < T.ns.length := by omega
    have n1 := H.nt.cell k _ (nsl_get hk)
    have f1 := H.nt.free k (by simp [nsl]; omega)
    have g1 := setCell_grown w g k (.int .i64 v)
    have R : Hid (RT (w.setCell ⟨g, k, none⟩ (.int .i64 v)) g lv ⟨T.n, T.l, T.ns.set k v⟩) := by
      refine hide ⟨H.bx.kept (by omega) g1, ?_, ?_, by simpa using hw⟩
      · have b := H.nt.setAt (j := k) (by simp [nsl]; omega) (.int .i64 v)
        rw [nsl_set] at b
        exact b
      · have hr := H.row
        refine World.ownsRow.kept hr g1 ?_
        rcases hr.2 with ⟨h, _⟩ | ⟨b, _, _, h, hb, _⟩
        · rw [h]; exact Or.inl rfl
        · rw [h]
          refine Or.inr (fun e => ?_)
          have := Option.some.inj e
          simp at this
          omega
    have B : Hid (Below g w (w.setCell ⟨g, k, none⟩ (.int .i64 v))) := hide ((Below.refl _ _).grown g1 (by omega) (fun k hk => by have := Option.some.inj hk; omega))
    have a1 : ¬ ((k : Int) < 0) := by omega
    have a2 : ¬ ((T.n : Int) ≤ k) := by omega
    have a3 : ¬ (v < 0) := by omega
    have a4 : ¬ ((4094 : Int) < v) := by omega
    clear H hw e1 e2 g1
    go_enter Try.func44, Try.ntmps44
    go_wp2
    go_ret
    exact ⟨rfl, ⟨lv, by simpa using R.out⟩, B.out⟩
  · have e1 : eNat T p v = 1 := by rw [eNat, hc]; rfl
    have e2 : tNat T p v = T := by rw [tNat, hc]; rfl
    rw [e1, e2]
    have HH := hide H
    rw [nat_ok] at hc
    have hc' : p < 0 ∨ (T.n : Int) ≤ p ∨ v < 0 ∨ 4094 < v := by
      rw [Bool.and_eq_false_iff] at hc
      rcases hc with hc | hc
      · have : ¬ (0 ≤ p ∧ p < T.n) := fun h => by rw [(hp_iff T p).2 h] at hc; cases hc
        omega
      · simp at hc
        omega
    clear H hc e1 e2
    by_cases a1 : p < 0
    · clear hc'
      go_enter Try.func44, Try.ntmps44
      go_wp2
      go_ret
      exact ⟨rfl, ⟨lv, HH.out⟩, Below.refl _ _⟩
    · by_cases a2 : (T.n : Int) ≤ p
      · clear hc'
        go_enter Try.func44, Try.ntmps44
        go_wp2
        go_ret
        exact ⟨rfl, ⟨lv, HH.out⟩, Below.refl _ _⟩
      · by_cases a3 : v < 0
        · clear hc'
          go_enter Try.func44, Try.ntmps44
          go_wp2
          go_ret
          exact ⟨rfl, ⟨lv, HH.out⟩, Below.refl _ _⟩
        · have a4 : 4094 < v := by omega
          clear hc'
          go_enter Try.func44, Try.ntmps44
          go_wp2
          go_ret
          exact ⟨rfl, ⟨lv, HH.out⟩, Below.refl _ _⟩
end Go.Proofs.Ytelinahpneikiaa
