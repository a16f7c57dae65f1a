/- Bytes 0 put behind an own slice: append(rest, make([]byte, m)...). -/
import Derived.Test.YtijfcfpoimknmaaDoorA3
namespace Go.Proofs.YtijfcfpoimknmaaDoor
open Go.RowKit

def zs (m : Nat) : List Int := List.replicate m 0
theorem zs_map (m : Nat) : (zs m).map (Value.int .u8) = List.replicate m (.int .u8 0) := by simp [zs]
theorem zeroCells_u8 (m : Nat) : Builtin.zeroCells #[.int .u8 0] m = (List.replicate m (Value.int .u8 0)).toArray := by
  apply Array.ext'
  simp [Builtin.zeroCells]
  apply List.ext_getElem
  · simp
  · intro i h1 h2
    simp [Nat.mod_one]
/-- A byte 0's cell. -/
def z0 : Value := .int .u8 0
/-- A row of its own that is made anew, some bytes 0 behind what is told. -/
theorem own_new (w : World) (base : Nat) (L : List Value) (N cap : Nat) (hL : L.length = N) (hc : N ≤ cap) (hm : cap ≤ maxLen) (hb : base ≤ w.heap.size) :
    (w.alloc (.cells (L ++ List.replicate (cap - N) z0).toArray 5)).ownsRow base 5 1 (.slice (some ⟨w.heap.size, 0, none⟩) N cap) N L := by
  have h1 : (L ++ List.replicate (cap - N) z0).toArray.size = cap * 1 := by simp [hL]; omega
  have h2 : (L ++ List.replicate (cap - N) z0).toArray.toList.take (N * 1) = L := by
    subst hL
    simp
  exact ⟨by omega, .inr ⟨w.heap.size, cap, _, rfl, hb, heap_alloc_new w _, hc, hm, h1, h2⟩⟩
/-- A row of its own that has room: what is put behind what it has. -/
theorem own_put {w : World} {base g n cap : Nat} {L cur : List Value} (M : List Value) (hb : base ≤ g) (hg : w.heap[g]? = some (.cells cur.toArray 5 (0, 0))) (hm : cap ≤ maxLen) (hs : cur.length = cap) (ht : cur.take n = L) (hn : n + M.length ≤ cap) :
    (w.setRow g (cur.take n ++ M ++ cur.drop (n + M.length)).toArray).ownsRow base 5 1 (.slice (some ⟨g, 0, none⟩) (n + M.length) cap) (n + M.length) (L ++ M) := by
  have hl : L.length = n := by rw [← ht, List.length_take]; omega
  have h1 : (cur.take n ++ M ++ cur.drop (n + M.length)).toArray.size = cap * 1 := by simp; omega
  have h2 : (cur.take n ++ M ++ cur.drop (n + M.length)).toArray.toList.take ((n + M.length) * 1) = L ++ M := by
    have e : (n + M.length) * 1 = (L ++ M).length := by rw [List.length_append, hl]; omega
    rw [ht, e]
    exact List.take_left
  exact ⟨by rw [List.length_append, hl]; omega, .inr ⟨g, cap, _, rfl, hb, setRow_heap w g _ _ 5 _ hg, hn, hm, h1, h2⟩⟩
/-- Bytes 0 behind: there is room. -/
theorem run_app0_room (w : World) (ty : TypeId) (g sLen sCap m : Nat) (cur : List Value) (hg : w.heap[g]? = some (.cells cur.toArray 5 (0, 0))) (h0 : 0 < m) (hm : m ≤ 1000) (hroom : sLen + m ≤ sCap) (hfit : sLen + m ≤ cur.length) :
    (Builtin.append_ #[24, 3] ty #[.slice (some ⟨g, 0, none⟩) sLen sCap, .int .i64 m]).run Tryd.prog w =
      .ok (.slice (some ⟨g, 0, none⟩) (sLen + m) sCap) (w.setRow g (cur.take sLen ++ List.replicate m z0 ++ cur.drop (sLen + m)).toArray) := by
  obtain ⟨i0, hi, hz0, hz1, hz2⟩ := info_parts Tryd.info5
  have hst := run_storeCells_at Tryd.prog g sLen 5 (List.replicate m (Value.int .u8 0)) 0 cur.toArray w hg (by simpa using hfit) (fun v hv => by rw [List.eq_of_mem_replicate hv]; rfl)
  simp only [Nat.add_zero, List.length_replicate] at hst
  have hwm : IntKind.i64.wrap (m : Int) = m := IntWalk.i64_in _ (by omega)
  have hn : ¬ ((m : Int) < 0) := by omega
  have hbig : ¬ (281474976710656 < (m : Int)) := by omega
  have hm0 : ¬ m = 0 := by omega
  simp [Builtin.append_, run_underlying Tryd.underlying24, run_underlying Tryd.underlying3, sizeOf, typeInfo, zeroValue, hi, hz0, hz1, hz2, asInt, asIntOf, hwm, hn, hbig, hm0, hroom, Value.cells, zeroCells_u8, Addr.add_lit, hst, z0]
/-- Bytes 0 behind: there is none. -/
theorem run_app0_grow (w : World) (ty : TypeId) (base : Option Addr) (sLen sCap m : Nat) (olds : List Value) (hold : (Builtin.firstCells 1 sLen (.slice base sLen sCap)).run Tryd.prog w.drew = .ok olds.toArray w.drew) (h0 : 0 < m) (hm : m ≤ 1000) (hs : sLen ≤ 100000) (hroom : sCap < sLen + m) :
    (Builtin.append_ #[24, 3] ty #[.slice base sLen sCap, .int .i64 m]).run Tryd.prog w =
      .ok (.slice (some ⟨w.heap.size, 0, none⟩) (sLen + m) (grownCap w (sLen + m) sCap 5))
        (w.drew.alloc (.cells ((olds ++ List.replicate m z0) ++ List.replicate (grownCap w (sLen + m) sCap 5 - (sLen + m)) z0).toArray 5)) := by
  obtain ⟨i0, hi, hz0, hz1, hz2⟩ := info_parts Tryd.info5
  have hwm : IntKind.i64.wrap (m : Int) = m := IntWalk.i64_in _ (by omega)
  have hn : ¬ ((m : Int) < 0) := by omega
  have hbig : ¬ (281474976710656 < (m : Int)) := by omega
  have hm0 : ¬ m = 0 := by omega
  have hr : ¬ (sLen + m ≤ sCap) := by omega
  have h63 : ¬ (9223372036854775807 < ((sLen : Int) + (m : Int))) := by omega
  have hfit := growslice_fits (bytes := 1) hroom (by omega)
  have h48 : ¬ (281474976710656 < Builtin.nextslicecap (sLen + m) sCap) := by omega
  simp [Builtin.append_, run_underlying Tryd.underlying24, run_underlying Tryd.underlying3, sizeOf, typeInfo, zeroValue, hi, hz0, hz1, hz2, asInt, asIntOf, hwm, hn, hbig, hm0, hr, h63, h48, Value.cells, zeroCells_u8, Question.forced, hold, newRow, grownCap, z0]
  congr 2
  apply Array.ext'
  simp
/-- .. whichever. -/
theorem run_app0_own (w : World) (base : Nat) (ty : TypeId) (v : Value) (n m : Nat) (xs : List Value) (hown : w.ownsRow base 5 1 v n xs) (h0 : 0 < m) (hm : m ≤ 1000) (hs : n ≤ 100000) (hbase : base ≤ w.heap.size) :
    ∃ v' w', (Builtin.append_ #[24, 3] ty #[v, .int .i64 m]).run Tryd.prog w = .ok v' w' ∧ w'.ownsRow base 5 1 v' (n + m) (xs ++ List.replicate m z0) ∧ w.grownBy w' v.ownBlock := by
  have hx : xs.length = n := by have := hown.1; omega
  have hxm : (xs ++ List.replicate m z0).length = n + m := by rw [List.length_append, List.length_replicate, hx]
  have hcap : ∀ old, grownCap w (n + m) old 5 ≤ maxLen := fun old => grownCap_le_maxLen w (n + m) old 5 (by unfold maxLen; omega)
  have hnew : ∀ o row, w.grownBy (w.drew.alloc o) row := fun o row => ⟨rfl, rfl, rfl, by simp, fun k hk _ => Below.heap_alloc w.drew _ k hk⟩
  rcases hown.2 with ⟨rfl, rfl⟩ | ⟨g, cap, ⟨cur⟩, rfl, hbg, hg, -, hcm, hcs, htake⟩
  · obtain rfl : xs = [] := List.eq_nil_of_length_eq_zero hx
    exact ⟨_, _, run_app0_grow w ty none 0 0 m [] (run_firstCells_none w.drew 1 0 0 0) h0 hm (by omega) (by omega), own_new w.drew base _ _ _ hxm (grownCap_ge w _ 0 5) (hcap 0) hbase, hnew _ _⟩
  have hlen : cur.length = cap := by simpa using hcs
  by_cases hroom : n + m ≤ cap
  · have h := own_put (w := w) (n := n) (L := xs) (List.replicate m z0) hbg hg hcm hlen (by simpa using htake) (by rw [List.length_replicate]; exact hroom)
    rw [List.length_replicate] at h
    exact ⟨_, _, run_app0_room w ty g n cap m cur hg h0 hm hroom (by omega), h, ⟨rfl, rfl, rfl, by simp, fun k _ hk => setRow_other w g k _ (fun e => hk (by simp [Value.ownBlock, e]))⟩⟩
  · have hold := run_firstCells_some (P := Tryd.prog) w.drew 1 n ⟨g, 0, none⟩ n cap xs (by omega) (fun j u hj => by simpa using hown.cells (g := g) rfl j u hj)
    exact ⟨_, _, run_app0_grow w ty (some ⟨g, 0, none⟩) n cap m xs hold h0 hm hs (by omega), own_new w.drew base _ _ _ hxm (grownCap_ge w _ cap 5) (hcap cap) hbase, hnew _ _⟩
theorem wpl_app0 {ops : Array Oper} {rest : List Oper} {o : Oper} {a : Act} {w : World} {Q : Exit → Act → World → Prop} (hgd : o.guard = none) (s x : Operand)
    (ho : o.op = .call { callee := .builtin .append, args := #[s, x], argTypes := #[24, 3] })
    (base : Nat) (v : Value) (n : Nat) (xs : List Int) (hs : a.eval s = v) (hown : Row w base v n xs) (M : Int) (m : Nat) (hx : a.eval x = .int .i64 M) (hM : M = m) (h0 : 0 < m) (h1 : m ≤ 1000) (h2 : n ≤ 100000) (hbase : base ≤ w.heap.size)
    (h : ∀ v' w', Row w' base v' (n + m) (xs ++ zs m) → Below base w w' → wpList Tryd.prog ops Q rest (a.put o.dst v') w') : wpList Tryd.prog ops Q (o :: rest) a w := by
  subst hM
  obtain ⟨v', w', hr, h3, h4⟩ := run_app0_own w base o.type v n m (xs.map (Value.int .u8)) hown h0 h1 h2 hbase
  refine wpList_plain hgd fun K hK => ?_
  have hk := hK (a.put o.dst v') w' (h v' w' (by unfold Row; rw [List.map_append, zs_map]; exact h3) ((Below.refl _ _).grown h4 hbase (fun k hk => (hown.lt k hk).1)))
  unfold Oper.wp execOp
  simp only [ho, resolve, invoke, builtin, Sem.run_bind, Sem.run_pure, Result.andThen_ok, List.map_toArray, List.map_cons, List.map_nil, hs, hx, hr]
  exact hk
end Go.Proofs.YtijfcfpoimknmaaDoor
