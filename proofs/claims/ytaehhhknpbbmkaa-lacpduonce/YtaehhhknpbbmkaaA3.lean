/- Appends: an own slice of bytes that grows; bytes 0 that are put behind. -/
import Derived.Test.YtaehhhknpbbmkaaA1
namespace Go.Proofs.Ytaehhhknpbbmkaa
open Go.RowKit

theorem grown_trans {w w1 w2 : World} {row : Option Nat} (h : w.grownBy w1 row) (k : w1.grownBy w2 row) : w.grownBy w2 row :=
  ⟨k.os.trans h.os, k.tape.trans h.tape, k.output.trans h.output, Nat.le_trans h.size k.size, fun i hi hne => (k.block i (Nat.lt_of_lt_of_le hi h.size) hne).trans (h.block i hi hne)⟩
theorem grown_new {w w1 w2 : World} {row : Option Nat} {k : Nat} (h : w.grownBy w1 row) (g : w1.grownBy w2 (some k)) (hk : w.heap.size ≤ k) : w.grownBy w2 row :=
  ⟨g.os.trans h.os, g.tape.trans h.tape, g.output.trans h.output, Nat.le_trans h.size g.size, fun i hi hne => (g.block i (Nat.lt_of_lt_of_le hi h.size) (fun e => by have := Option.some.inj e; omega)).trans (h.block i hi hne)⟩
theorem grown_alloc {w w1 : World} {row : Option Nat} (h : w.grownBy w1 row) (o : Obj) : w.grownBy (w1.alloc o) row := grown_trans h (World.grownBy_alloc w1 o row)
theorem grown_drew {w w1 : World} {row : Option Nat} (h : w.grownBy w1 row) : w.grownBy w1.drew row := ⟨h.os, h.tape, h.output, h.size, h.block⟩
theorem grown_drewN {w w1 : World} {row : Option Nat} (h : w.grownBy w1 row) (n : Nat) : w.grownBy (w1.drewN n) row := ⟨h.os, h.tape, h.output, h.size, h.block⟩
theorem grown_below {w w1 w2 : World} {row : Option Nat} (h : w.grownBy w1 row) (k : Below w1.heap.size w1 w2) : w.grownBy w2 row :=
  ⟨k.os.trans h.os, k.tape.trans h.tape, k.output.trans h.output, Nat.le_trans h.size k.size, fun i hi hne => (k.block i (Nat.lt_of_lt_of_le hi h.size)).trans (h.block i hi hne)⟩
theorem below_of_grown {B : Nat} {w w1 : World} {r : Nat} (h : w.grownBy w1 (some r)) (hr : B ≤ r) (hB : B ≤ w.heap.size) : Below B w w1 := (Below.refl _ _).grown h hB (fun k hk => by have := Option.some.inj hk; omega)
theorem below_grown {B : Nat} {w w1 w2 : World} {k : Nat} (hb : Below B w w1) (hg : w1.grownBy w2 (some k)) (hk : B ≤ k) (hs : B ≤ w1.heap.size) : Below B w w2 :=
  hb.grown hg hs (fun r hr => by have := Option.some.inj hr; omega)
theorem own_byt {w : World} {base : Nat} {v : Value} {n : Nat} {ns : List Int} (h : w.ownsRow base 5 1 v n (ns.map (Value.int .u8))) (hr : Rng ns) : ∃ ao c, v = .slice ao n c ∧ Byt w ao n c ns := by
  have hl : ns.length = n := by have := h.1; simpa using this
  rcases h.2 with ⟨rfl, rfl⟩ | ⟨g, cap, cur, rfl, hb, hg, hn, hm, hs, ht⟩
  · exact ⟨none, 0, rfl, ⟨hl, fun _ => ⟨rfl, rfl⟩, fun j hj => by omega, Nat.le_refl _, Nat.zero_le _, hr⟩⟩
  · refine ⟨_, _, rfl, ⟨hl, fun e => (by cases e), fun j hj => ⟨g, 0, rfl, ?_⟩, hn, hm, hr⟩⟩
    have hc := h.cells (g := g) rfl j (.int .u8 (ns.getD j 0)) (by
      rw [List.getElem?_map, List.getElem?_eq_getElem (by omega), List.getD_eq_getElem?_getD, List.getElem?_eq_getElem (by omega)]; rfl)
    rw [Addr.add_lit] at hc
    exact hc
/-- A slice of bytes of the call's own. -/
def Row (w : World) (base : Nat) (v : Value) (n : Nat) (ns : List Int) : Prop := w.ownsRow base 5 1 v n (ns.map (Value.int .u8))
theorem Row.nil (w : World) (base : Nat) : Row w base (.slice none 0 0) 0 [] := World.ownsRow_nil _ _ _ _
theorem Row.byt {w : World} {base : Nat} {v : Value} {n : Nat} {ns : List Int} (h : Row w base v n ns) (hr : Rng ns) : ∃ ao c, v = .slice ao n c ∧ Byt w ao n c ns := own_byt h hr
theorem Row.alloc {w : World} {base : Nat} {v : Value} {n : Nat} {ns : List Int} (h : Row w base v n ns) (o : Obj) : Row (w.alloc o) base v n ns := World.ownsRow.alloc h o
theorem Row.on {w w1 : World} {base : Nat} {v : Value} {n : Nat} {ns : List Int} (h : Row w base v n ns) (hb : Below w.heap.size w w1) : Row w1 base v n ns :=
  World.ownsRow.kept (row := none) h ⟨hb.os, hb.tape, hb.output, hb.size, fun k hk _ => hb.block k hk⟩ (by cases hv : v.ownBlock <;> simp)
theorem zs_map (m : Nat) : (zs m).map (Value.int .u8) = List.replicate m (.int .u8 0) := by simp [zs]
theorem zeroCells_u8 (m : Nat) : Builtin.zeroCells #[.int .u8 0] m = (List.replicate m (Value.int .u8 0)).toArray := by
  apply Array.ext'
  simp [Builtin.zeroCells]
  apply List.ext_getElem
  · simp
  · intro i h1 h2
    simp [Nat.mod_one]
/-- A byte 0's cell. -/
def z0 : Value := .int .u8 0
/-- A row of its own that is made anew, some bytes 0 behind what is told. -/
theorem own_new (w : World) (base : Nat) (L : List Value) (N cap : Nat) (hL : L.length = N) (hc : N ≤ cap) (hm : cap ≤ maxLen) (hb : base ≤ w.heap.size) :
    (w.alloc (.cells (L ++ List.replicate (cap - N) z0).toArray 5)).ownsRow base 5 1 (.slice (some ⟨w.heap.size, 0, none⟩) N cap) N L := by
  have h1 : (L ++ List.replicate (cap - N) z0).toArray.size = cap * 1 := by simp [hL]; omega
  have h2 : (L ++ List.replicate (cap - N) z0).toArray.toList.take (N * 1) = L := by
    subst hL
    simp
  exact ⟨by omega, .inr ⟨w.heap.size, cap, _, rfl, hb, heap_alloc_new w _, hc, hm, h1, h2⟩⟩
/-- A row of its own that has room: what is put behind what it has. -/
theorem own_put {w : World} {base g n cap : Nat} {L cur : List Value} (M : List Value) (hb : base ≤ g) (hg : w.heap[g]? = some (.cells cur.toArray 5 (0, 0))) (hm : cap ≤ maxLen) (hs : cur.length = cap) (ht : cur.take n = L) (hn : n + M.length ≤ cap) :
    (w.setRow g (cur.take n ++ M ++ cur.drop (n + M.length)).toArray).ownsRow base 5 1 (.slice (some ⟨g, 0, none⟩) (n + M.length) cap) (n + M.length) (L ++ M) := by
  have hl : L.length = n := by rw [← ht, List.length_take]; omega
  have h1 : (cur.take n ++ M ++ cur.drop (n + M.length)).toArray.size = cap * 1 := by simp; omega
  have h2 : (cur.take n ++ M ++ cur.drop (n + M.length)).toArray.toList.take ((n + M.length) * 1) = L ++ M := by
    have e : (n + M.length) * 1 = (L ++ M).length := by rw [List.length_append, hl]; omega
    rw [ht, e]
    exact List.take_left
  exact ⟨by rw [List.length_append, hl]; omega, .inr ⟨g, cap, _, rfl, hb, setRow_heap w g _ _ 5 _ hg, hn, hm, h1, h2⟩⟩
/-- Bytes 0 behind: there is room. -/
theorem run_app0_room (w : World) (ty : TypeId) (g sLen sCap m : Nat) (cur : List Value) (hg : w.heap[g]? = some (.cells cur.toArray 5 (0, 0))) (h0 : 0 < m) (hm : m ≤ 1000) (hroom : sLen + m ≤ sCap) (hfit : sLen + m ≤ cur.length) :
    (Builtin.append_ #[29, 3] ty #[.slice (some ⟨g, 0, none⟩) sLen sCap, .int .i64 m]).run Try.prog w =
      .ok (.slice (some ⟨g, 0, none⟩) (sLen + m) sCap) (w.setRow g (cur.take sLen ++ List.replicate m z0 ++ cur.drop (sLen + m)).toArray) := by
  obtain ⟨i0, hi, hz0, hz1, hz2⟩ := info_parts Try.info5
  have hst := run_storeCells_at Try.prog g sLen 5 (List.replicate m (Value.int .u8 0)) 0 cur.toArray w hg (by simpa using hfit) (fun v hv => by rw [List.eq_of_mem_replicate hv]; rfl)
  simp only [Nat.add_zero, List.length_replicate] at hst
  have hwm : IntKind.i64.wrap (m : Int) = m := IntWalk.i64_in _ (by omega)
  have hn : ¬ ((m : Int) < 0) := by omega
  have hbig : ¬ (281474976710656 < (m : Int)) := by omega
  have hm0 : ¬ m = 0 := by omega
  simp [Builtin.append_, run_underlying Try.underlying29, run_underlying Try.underlying3, sizeOf, typeInfo, zeroValue, hi, hz0, hz1, hz2, asInt, asIntOf, hwm, hn, hbig, hm0, hroom, Value.cells, zeroCells_u8, Addr.add_lit, hst, z0]
/-- Bytes 0 behind: there is none. -/
theorem run_app0_grow (w : World) (ty : TypeId) (base : Option Addr) (sLen sCap m : Nat) (olds : List Value) (hold : (Builtin.firstCells 1 sLen (.slice base sLen sCap)).run Try.prog w.drew = .ok olds.toArray w.drew) (h0 : 0 < m) (hm : m ≤ 1000) (hs : sLen ≤ 100000) (hroom : sCap < sLen + m) :
    (Builtin.append_ #[29, 3] ty #[.slice base sLen sCap, .int .i64 m]).run Try.prog w =
      .ok (.slice (some ⟨w.heap.size, 0, none⟩) (sLen + m) (grownCap w (sLen + m) sCap 5))
        (w.drew.alloc (.cells ((olds ++ List.replicate m z0) ++ List.replicate (grownCap w (sLen + m) sCap 5 - (sLen + m)) z0).toArray 5)) := by
  obtain ⟨i0, hi, hz0, hz1, hz2⟩ := info_parts Try.info5
  have hwm : IntKind.i64.wrap (m : Int) = m := IntWalk.i64_in _ (by omega)
  have hn : ¬ ((m : Int) < 0) := by omega
  have hbig : ¬ (281474976710656 < (m : Int)) := by omega
  have hm0 : ¬ m = 0 := by omega
  have hr : ¬ (sLen + m ≤ sCap) := by omega
  have h63 : ¬ (9223372036854775807 < ((sLen : Int) + (m : Int))) := by omega
  have hfit := growslice_fits (bytes := 1) hroom (by omega)
  have h48 : ¬ (281474976710656 < Builtin.nextslicecap (sLen + m) sCap) := by omega
  simp [Builtin.append_, run_underlying Try.underlying29, run_underlying Try.underlying3, sizeOf, typeInfo, zeroValue, hi, hz0, hz1, hz2, asInt, asIntOf, hwm, hn, hbig, hm0, hr, h63, h48, Value.cells, zeroCells_u8, Question.forced, hold, newRow, grownCap, z0]
  congr 2
  apply Array.ext'
  simp
/-- .. whichever. -/
theorem run_app0_own (w : World) (base : Nat) (ty : TypeId) (v : Value) (n m : Nat) (xs : List Value) (hown : w.ownsRow base 5 1 v n xs) (h0 : 0 < m) (hm : m ≤ 1000) (hs : n ≤ 100000) (hbase : base ≤ w.heap.size) :
    ∃ v' w', (Builtin.append_ #[29, 3] ty #[v, .int .i64 m]).run Try.prog w = .ok v' w' ∧ w'.ownsRow base 5 1 v' (n + m) (xs ++ List.replicate m z0) ∧ w.grownBy w' v.ownBlock := by
  have hx : xs.length = n := by have := hown.1; omega
  have hxm : (xs ++ List.replicate m z0).length = n + m := by rw [List.length_append, List.length_replicate, hx]
  have hcap : ∀ old, grownCap w (n + m) old 5 ≤ maxLen := fun old => grownCap_le_maxLen w (n + m) old 5 (by unfold maxLen; omega)
  have hnew : ∀ o row, w.grownBy (w.drew.alloc o) row := fun o row => ⟨rfl, rfl, rfl, by simp, fun k hk _ => Below.heap_alloc w.drew _ k hk⟩
  rcases hown.2 with ⟨rfl, rfl⟩ | ⟨g, cap, ⟨cur⟩, rfl, hbg, hg, -, hcm, hcs, htake⟩
  · obtain rfl : xs = [] := List.eq_nil_of_length_eq_zero hx
    exact ⟨_, _, run_app0_grow w ty none 0 0 m [] (run_firstCells_none w.drew 1 0 0 0) h0 hm (by omega) (by omega), own_new w.drew base _ _ _ hxm (grownCap_ge w _ 0 5) (hcap 0) hbase, hnew _ _⟩
  have hlen : cur.length = cap := by simpa using hcs
  by_cases hroom : n + m ≤ cap
  · have h := own_put (w := w) (n := n) (L := xs) (List.replicate m z0) hbg hg hcm hlen (by simpa using htake) (by rw [List.length_replicate]; exact hroom)
    rw [List.length_replicate] at h
    exact ⟨_, _, run_app0_room w ty g n cap m cur hg h0 hm hroom (by omega), h, ⟨rfl, rfl, rfl, by simp, fun k _ hk => setRow_other w g k _ (fun e => hk (by simp [Value.ownBlock, e]))⟩⟩
  · have hold := run_firstCells_some (P := Try.prog) w.drew 1 n ⟨g, 0, none⟩ n cap xs (by omega) (fun j u hj => by simpa using hown.cells (g := g) rfl j u hj)
    exact ⟨_, _, run_app0_grow w ty (some ⟨g, 0, none⟩) n cap m xs hold h0 hm hs (by omega), own_new w.drew base _ _ _ hxm (grownCap_ge w _ cap 5) (hcap cap) hbase, hnew _ _⟩
theorem wpl_app0 {ops : Array Oper} {rest : List Oper} {o : Oper} {a : Act} {w : World} {Q : Exit → Act → World → Prop} (hgd : o.guard = none) (s x : Operand)
    (ho : o.op = .call { callee := .builtin .append, args := #[s, x], argTypes := #[29, 3] })
    (base : Nat) (v : Value) (n : Nat) (xs : List Int) (hs : a.eval s = v) (hown : Row w base v n xs) (M : Int) (m : Nat) (hx : a.eval x = .int .i64 M) (hM : M = m) (h0 : 0 < m) (h1 : m ≤ 1000) (h2 : n ≤ 100000) (hbase : base ≤ w.heap.size)
    (h : ∀ v' w', Row w' base v' (n + m) (xs ++ zs m) → Below base w w' → wpList Try.prog ops Q rest (a.put o.dst v') w') : wpList Try.prog ops Q (o :: rest) a w := by
  subst hM
  obtain ⟨v', w', hr, h3, h4⟩ := run_app0_own w base o.type v n m (xs.map (Value.int .u8)) hown h0 h1 h2 hbase
  refine wpList_plain hgd fun K hK => ?_
  have hk := hK (a.put o.dst v') w' (h v' w' (by unfold Row; rw [List.map_append, zs_map]; exact h3) ((Below.refl _ _).grown h4 hbase (fun k hk => (hown.lt k hk).1)))
  unfold Oper.wp execOp
  simp only [ho, resolve, invoke, builtin, Sem.run_bind, Sem.run_pure, Result.andThen_ok, List.map_toArray, List.map_cons, List.map_nil, hs, hx, hr]
  exact hk
theorem wpl_app {ops : Array Oper} {rest : List Oper} {o : Oper} {a : Act} {w : World} {Q : Exit → Act → World → Prop} (hgd : o.guard = none) (s x : Operand)
    (ho : o.op = .call { callee := .builtin .append, args := #[s, x], argTypes := #[29, 29] })
    (base : Nat) (v : Value) (n : Nat) (xs : List Int) (hs : a.eval s = v) (hown : Row w base v n xs) (ao : Option Addr) (m c : Nat) (ns : List Int) (hx : a.eval x = .slice ao m c) (hB : Byt w ao m c ns)
    (h1 : n + m ≤ 100000) (hbase : base ≤ w.heap.size)
    (h : ∀ v' w', Row w' base v' (n + m) (xs ++ ns) → Below base w w' → wpList Try.prog ops Q rest (a.put o.dst v') w') : wpList Try.prog ops Q (o :: rest) a w := by
  obtain ⟨i0, hi, hz0, hz1, hz2⟩ := info_parts Try.info5
  cases ao with
  | none =>
    obtain ⟨rfl, rfl⟩ := hB.nil rfl
    obtain rfl : ns = [] := List.eq_nil_of_length_eq_zero hB.len
    refine wpList_append_own_none hgd s x 29 ho base 5 i0 1 Try.underlying29 hi v n (xs.map (Value.int .u8)) hs hown hx ?_
    refine h v w ?_ (Below.refl _ _)
    rw [List.append_nil]
    exact hown
  | some ad =>
    refine wpList_append_own _ hgd s x 29 ho base 5 i0 (.int .u8 0) 1 1 Try.underlying29 hi hz0 hz1 hz2 rfl (by decide) v n (xs.map (Value.int .u8)) hs hown ad m c (ns.map (Value.int .u8)) hx (by simp [hB.len]) hB.src (one_u8 ns) (by unfold maxLen; omega) (by omega) hbase ?_
    intro v' w' h2 h3 _
    refine h v' w' ?_ ((Below.refl _ _).grown h3 hbase (fun k hk => (hown.lt k hk).1))
    unfold Row
    rw [List.map_append]
    exact h2

/-- The program's slice of room for 110. -/
structure Own (w : World) (G k : Nat) (ns : List Int) : Prop where
  row : w.ownsRow G 5 1 (.slice (some ⟨G, 0, none⟩) k 110) k (ns.map (Value.int .u8))
  lt : G < w.heap.size
theorem Own.alloc {w : World} {G k : Nat} {ns : List Int} (h : Own w G k ns) (o : Obj) : Own (w.alloc o) G k ns := ⟨World.ownsRow.alloc h.row o, by simp; have := h.lt; omega⟩
theorem Own.on {w w1 : World} {G k : Nat} {ns : List Int} (h : Own w G k ns) (hb : Below w.heap.size w w1) : Own w1 G k ns :=
  ⟨World.ownsRow.kept (row := none) h.row ⟨hb.os, hb.tape, hb.output, hb.size, fun k hk _ => hb.block k hk⟩ (by simp [Value.ownBlock]), Nat.lt_of_lt_of_le h.lt hb.size⟩
theorem wpl_fit {ops : Array Oper} {rest : List Oper} {o : Oper} {a : Act} {w : World} {Q : Exit → Act → World → Prop} (hgd : o.guard = none) (s x : Operand)
    (ho : o.op = .call { callee := .builtin .append, args := #[s, x], argTypes := #[29, 29] })
    (G k K : Nat) (ns : List Int) (hs : a.eval s = .slice (some ⟨G, 0, none⟩) k 110) (hown : Own w G k ns) (ao : Option Addr) (m c : Nat) (ms : List Int) (hx : a.eval x = .slice ao m c) (hB : Byt w ao m c ms)
    (hK : k + m = K) (h1 : K ≤ 110)
    (h : ∀ w', Own w' G K (ns ++ ms) → w.grownBy w' (some G) → wpList Try.prog ops Q rest (a.put o.dst (.slice (some ⟨G, 0, none⟩) K 110)) w') : wpList Try.prog ops Q (o :: rest) a w := by
  subst hK
  obtain ⟨i0, hi, hz0, hz1, hz2⟩ := info_parts Try.info5
  refine wpList_append_fits_any _ hgd s x 29 ho G 5 i0 1 Try.underlying29 hi hz1 G k 110 _ hs hown.row ao m c (ms.map (Value.int .u8)) hx (by simp [hB.len]) hB.nil hB.srcAny (one_u8 ms) h1 ?_
  intro w1 h2 h3
  refine h w1 ⟨?_, Nat.lt_of_lt_of_le hown.lt h3.size⟩ h3
  rw [List.map_append]
  exact h2
theorem wpl_fit0 {ops : Array Oper} {rest : List Oper} {o : Oper} {a : Act} {w : World} {Q : Exit → Act → World → Prop} (hgd : o.guard = none) (s x : Operand)
    (ho : o.op = .call { callee := .builtin .append, args := #[s, x], argTypes := #[29, 3] })
    (G k K : Nat) (ns : List Int) (hs : a.eval s = .slice (some ⟨G, 0, none⟩) k 110) (hown : Own w G k ns) (M : Int) (m : Nat) (hx : a.eval x = .int .i64 M) (hM : M = m) (h0 : 0 < m) (hm : m ≤ 1000)
    (hK : k + m = K) (h1 : K ≤ 110)
    (h : ∀ w', Own w' G K (ns ++ zs m) → w.grownBy w' (some G) → wpList Try.prog ops Q rest (a.put o.dst (.slice (some ⟨G, 0, none⟩) K 110)) w') : wpList Try.prog ops Q (o :: rest) a w := by
  subst hK
  subst hM
  rcases hown.row.2 with ⟨e, _⟩ | ⟨g, cap, ⟨cur⟩, e, hbg, hg, -, hcm, hcs, htake⟩
  · simp at e
  simp only [Value.slice.injEq, Option.some.injEq, Addr.mk.injEq, and_true, true_and] at e
  obtain ⟨rfl, rfl⟩ := e
  have hlen : cur.length = 110 := by simpa using hcs
  have hr := run_app0_room w o.type G k 110 m cur hg h0 hm h1 (by omega)
  have hw := own_put (w := w) (n := k) (L := ns.map (Value.int .u8)) (List.replicate m z0) hbg hg hcm hlen (by simpa using htake) (by rw [List.length_replicate]; exact h1)
  rw [List.length_replicate] at hw
  have hgr : w.grownBy (w.setRow G (cur.take k ++ List.replicate m z0 ++ cur.drop (k + m)).toArray) (some G) := ⟨rfl, rfl, rfl, by simp, fun j _ hj => setRow_other w G j _ (fun e => hj (by rw [e]))⟩
  refine wpList_plain hgd fun K hK => ?_
  have hk := hK (a.put o.dst (.slice (some ⟨G, 0, none⟩) (k + m) 110)) _ (h _ ⟨by rw [List.map_append, zs_map]; exact hw, Nat.lt_of_lt_of_le hown.lt hgr.size⟩ hgr)
  unfold Oper.wp execOp
  simp only [ho, resolve, invoke, builtin, Sem.run_bind, Sem.run_pure, Result.andThen_ok, List.map_toArray, List.map_cons, List.map_nil, hs, hx, hr]
  exact hk
end Go.Proofs.Ytaehhhknpbbmkaa
