/- Memory: a list of bytes; an own slice of bytes that grows; bytes as a string. -/
import Derived.Test.YtmdbclhdbglppaaGa
namespace Go.Proofs.Ytmdbclhdbglppaa
open Go.RowKit

/-- Numbers that are bytes. -/
def Rng (ns : List Int) : Prop := ∀ n ∈ ns, 0 ≤ n ∧ n ≤ 255
theorem rng_append {a b : List Int} (h : Rng a) (k : Rng b) : Rng (a ++ b) := by
  intro n hn
  rcases List.mem_append.1 hn with h1 | h1
  · exact h n h1
  · exact k n h1
theorem rng_cons {a : Int} {b : List Int} (h0 : 0 ≤ a) (h1 : a ≤ 255) (k : Rng b) : Rng (a :: b) := by
  intro n hn
  rcases List.mem_cons.1 hn with rfl | h1
  · exact ⟨h0, h1⟩
  · exact k n h1
theorem rng_nil : Rng [] := by intro n hn; cases hn
theorem rng_left {a b : List Int} (h : Rng (a ++ b)) : Rng a := fun n hn => h n (List.mem_append.2 (Or.inl hn))
theorem rng_right {a b : List Int} (h : Rng (a ++ b)) : Rng b := fun n hn => h n (List.mem_append.2 (Or.inr hn))
theorem rng_getD {a : List Int} (h : Rng a) (j : Nat) : 0 ≤ a.getD j 0 ∧ a.getD j 0 ≤ 255 := by
  rw [List.getD_eq_getElem?_getD]
  by_cases hj : j < a.length
  · rw [List.getElem?_eq_getElem hj]; exact h _ (List.getElem_mem hj)
  · rw [List.getElem?_eq_none (by omega)]; simp
theorem rng_drop {a : List Int} (h : Rng a) (j : Nat) : Rng (a.drop j) := fun n hn => h n (List.mem_of_mem_drop hn)
theorem rng_take {a : List Int} (h : Rng a) (j : Nat) : Rng (a.take j) := fun n hn => h n (List.mem_of_mem_take hn)

theorem Try.info5 : (Try.prog.info? 5).map (fun i => (i.zero, i.size, i.bytes)) = some (some (.int .u8 0), 1, 1) := by kernel_rfl
/-- A slice's bytes. -/
structure Byt (w : World) (ao : Option Addr) (n c : Nat) (ns : List Int) : Prop where
  len : ns.length = n
  nil : ao = none → n = 0 ∧ c = 0
  cell : ∀ j, j < n → ∃ b o, ao = some ⟨b, o, none⟩ ∧ w.cell? ⟨b, o + j, none⟩ = some (.int .u8 (ns.getD j 0))
  le : n ≤ c
  mx : c ≤ maxLen
  rng : Rng ns

theorem Byt.on {w w1 : World} {ao : Option Addr} {n c : Nat} {ns : List Int} (h : Byt w ao n c ns) (hb : Below w.heap.size w w1) : Byt w1 ao n c ns :=
  ⟨h.len, h.nil, fun j hj => by
    obtain ⟨b, o, e, hc⟩ := h.cell j hj
    exact ⟨b, o, e, (hb.cell (p := ⟨b, o + j, none⟩) (World.block_lt_of_cell? w _ hc)).trans hc⟩, h.le, h.mx, h.rng⟩
theorem Byt.nothing (w : World) : Byt w none 0 0 [] := ⟨rfl, fun _ => ⟨rfl, rfl⟩, fun j hj => by omega, Nat.le_refl _, Nat.zero_le _, rng_nil⟩
theorem Byt.at {w : World} {ao : Option Addr} {n c : Nat} {ns : List Int} (h : Byt w ao n c ns) (hn : 0 < n) : ∃ b o, ao = some ⟨b, o, none⟩ ∧ (∀ j, j < n → w.cell? ⟨b, o + j, none⟩ = some (.int .u8 (ns.getD j 0))) ∧ b < w.heap.size := by
  obtain ⟨b, o, rfl, hc⟩ := h.cell 0 hn
  refine ⟨b, o, rfl, fun j hj => ?_, World.block_lt_of_cell? w _ hc⟩
  obtain ⟨b', o', e, hc'⟩ := h.cell j hj
  have e1 := Option.some.inj e
  injection e1 with e2 e3
  subst e2 e3
  exact hc'
theorem Byt.alloc {w : World} {ao : Option Addr} {n c : Nat} {ns : List Int} (h : Byt w ao n c ns) (o : Obj) : Byt (w.alloc o) ao n c ns := h.on (below_alloc w o)
theorem Byt.drew {w : World} {ao : Option Addr} {n c : Nat} {ns : List Int} (h : Byt w ao n c ns) : Byt w.drew ao n c ns := ⟨h.len, h.nil, h.cell, h.le, h.mx, h.rng⟩
theorem Byt.drewN {w : World} {ao : Option Addr} {n c : Nat} {ns : List Int} (h : Byt w ao n c ns) (m : Nat) : Byt (w.drewN m) ao n c ns := ⟨h.len, h.nil, h.cell, h.le, h.mx, h.rng⟩
theorem Byt.below {w w1 : World} {g : Nat} {ao : Option Addr} {n c : Nat} {ns : List Int} (h : Byt w ao n c ns) (hg : ∀ b o, ao = some ⟨b, o, none⟩ → 0 < n → b < g) (hb : Below g w w1) : Byt w1 ao n c ns :=
  ⟨h.len, h.nil, fun j hj => by
    obtain ⟨b, o, e, hc⟩ := h.cell j hj
    exact ⟨b, o, e, (hb.cell (p := ⟨b, o + j, none⟩) (hg b o e (by omega))).trans hc⟩, h.le, h.mx, h.rng⟩
theorem Byt.lt {w : World} {ao : Option Addr} {n c : Nat} {ns : List Int} (h : Byt w ao n c ns) : ∀ b o, ao = some ⟨b, o, none⟩ → 0 < n → b < w.heap.size := by
  intro b o e hn
  obtain ⟨b', o', e', hc⟩ := h.cell 0 hn
  rw [e] at e'
  injection Option.some.inj e' with e1 e2
  subst e1
  exact World.block_lt_of_cell? w _ hc
theorem Byt.kept {w w1 : World} {k : Nat} {ao : Option Addr} {n c : Nat} {ns : List Int} (h : Byt w ao n c ns) (hne : ∀ b o, ao = some ⟨b, o, none⟩ → 0 < n → b ≠ k) (hg : w.grownBy w1 (some k)) : Byt w1 ao n c ns :=
  ⟨h.len, h.nil, fun j hj => by
    obtain ⟨b, o, e, hc⟩ := h.cell j hj
    exact ⟨b, o, e, hg.cell hc (fun e2 => hne b o e (by omega) (Option.some.inj e2))⟩, h.le, h.mx, h.rng⟩
theorem Byt.src {w : World} {ad : Addr} {n c : Nat} {ns : List Int} (h : Byt w (some ad) n c ns) : ∀ j u, (ns.map (Value.int .u8))[j]? = some u → w.cell? (ad.add j) = some u := by
  intro j u hj
  rw [List.getElem?_map, Option.map_eq_some_iff] at hj
  obtain ⟨x, hx, rfl⟩ := hj
  have hl : j < ns.length := (List.getElem?_eq_some_iff.1 hx).1
  obtain ⟨b, o, e, hc⟩ := h.cell j (by rw [← h.len]; exact hl)
  obtain rfl := Option.some.inj e
  rw [List.getD_eq_getElem?_getD, hx] at hc
  rw [Addr.add_lit]
  exact hc
theorem Byt.srcAny {w : World} {ao : Option Addr} {n c : Nat} {ns : List Int} (h : Byt w ao n c ns) : ∀ ad, ao = some ad → ∀ j u, (ns.map (Value.int .u8))[j]? = some u → w.cell? (ad.add j) = some u := by
  intro ad e
  subst e
  exact h.src
theorem one_u8 (ns : List Int) : ∀ u ∈ ns.map (Value.int .u8), u.oneCell' = true := by
  intro u hu
  obtain ⟨x, _, rfl⟩ := List.mem_map.1 hu
  rfl
theorem byt_of_new (w : World) (cs : Array Value) (ns : List Int) (n : Nat) (hc : cs.toList = ns.map (Value.int .u8)) (hl : ns.length = n) (hn : n ≤ 100000) (hr : Rng ns) : Byt (w.alloc (.cells cs 5)) (some ⟨w.heap.size, 0, none⟩) n n ns :=
  ⟨hl, fun e => (by cases e), fun j hj => ⟨w.heap.size, 0, rfl, by
    rw [Nat.zero_add, World.cell?_alloc_at _ _ _ _ rfl, ← Array.getElem?_toList, hc, List.getElem?_map, List.getElem?_eq_getElem (by omega), List.getD_eq_getElem?_getD, List.getElem?_eq_getElem (by omega)]
    rfl⟩, Nat.le_refl _, by unfold maxLen; omega, hr⟩

theorem own_byt {w : World} {base : Nat} {v : Value} {n : Nat} {ns : List Int} (h : w.ownsRow base 5 1 v n (ns.map (Value.int .u8))) (hr : Rng ns) : ∃ ao c, v = .slice ao n c ∧ Byt w ao n c ns := by
  have hl : ns.length = n := by have := h.1; simpa using this
  rcases h.2 with ⟨rfl, rfl⟩ | ⟨g, cap, cur, rfl, hb, hg, hn, hm, hs, ht⟩
  · exact ⟨none, 0, rfl, ⟨hl, fun _ => ⟨rfl, rfl⟩, fun j hj => by omega, Nat.le_refl _, Nat.zero_le _, hr⟩⟩
  · refine ⟨_, _, rfl, ⟨hl, fun e => (by cases e), fun j hj => ⟨g, 0, rfl, ?_⟩, hn, hm, hr⟩⟩
    have hc := h.cells (g := g) rfl j (.int .u8 (ns.getD j 0)) (by
      rw [List.getElem?_map, List.getElem?_eq_getElem (by omega), List.getD_eq_getElem?_getD, List.getElem?_eq_getElem (by omega)]; rfl)
    rw [Addr.add_lit] at hc
    exact hc
/-- A slice of bytes of the call's own. -/
def Row (w : World) (base : Nat) (v : Value) (n : Nat) (ns : List Int) : Prop := w.ownsRow base 5 1 v n (ns.map (Value.int .u8))
theorem Row.nil (w : World) (base : Nat) : Row w base (.slice none 0 0) 0 [] := World.ownsRow_nil _ _ _ _
theorem Row.byt {w : World} {base : Nat} {v : Value} {n : Nat} {ns : List Int} (h : Row w base v n ns) (hr : Rng ns) : ∃ ao c, v = .slice ao n c ∧ Byt w ao n c ns := own_byt h hr
theorem Row.alloc {w : World} {base : Nat} {v : Value} {n : Nat} {ns : List Int} (h : Row w base v n ns) (o : Obj) : Row (w.alloc o) base v n ns := World.ownsRow.alloc h o
theorem Row.on {w w1 : World} {base : Nat} {v : Value} {n : Nat} {ns : List Int} (h : Row w base v n ns) (hb : Below w.heap.size w w1) : Row w1 base v n ns :=
  World.ownsRow.kept (row := none) h ⟨hb.os, hb.tape, hb.output, hb.size, fun k hk _ => hb.block k hk⟩ (by cases hv : v.ownBlock <;> simp)
theorem wpl_app {ops : Array Oper} {rest : List Oper} {o : Oper} {a : Act} {w : World} {Q : Exit → Act → World → Prop} (hgd : o.guard = none) (s x : Operand)
    (ho : o.op = .call { callee := .builtin .append, args := #[s, x], argTypes := #[32, 32] })
    (base : Nat) (v : Value) (n : Nat) (xs : List Int) (hs : a.eval s = v) (hown : Row w base v n xs) (ao : Option Addr) (m c : Nat) (ns : List Int) (hx : a.eval x = .slice ao m c) (hB : Byt w ao m c ns)
    (h1 : n + m ≤ 140737488355328) (hbase : base ≤ w.heap.size)
    (h : ∀ v' w', Row w' base v' (n + m) (xs ++ ns) → Below base w w' → wpList Try.prog ops Q rest (a.put o.dst v') w') : wpList Try.prog ops Q (o :: rest) a w := by
  obtain ⟨i0, hi, hz0, hz1, hz2⟩ := info_parts Try.info5
  cases ao with
  | none =>
    obtain ⟨rfl, rfl⟩ := hB.nil rfl
    obtain rfl : ns = [] := List.eq_nil_of_length_eq_zero hB.len
    refine wpList_append_own_none hgd s x 32 ho base 5 i0 1 Try.underlying32 hi v n (xs.map (Value.int .u8)) hs hown hx ?_
    refine h v w ?_ (Below.refl _ _)
    rw [List.append_nil]
    exact hown
  | some ad =>
    refine wpList_append_own _ hgd s x 32 ho base 5 i0 (.int .u8 0) 1 1 Try.underlying32 hi hz0 hz1 hz2 rfl (by decide) v n (xs.map (Value.int .u8)) hs hown ad m c (ns.map (Value.int .u8)) hx (by simp [hB.len]) hB.src (one_u8 ns) (by unfold maxLen; omega) (by omega) hbase ?_
    intro v' w' h2 h3 _
    refine h v' w' ?_ ((Below.refl _ _).grown h3 hbase (fun k hk => (hown.lt k hk).1))
    unfold Row
    rw [List.map_append]
    exact h2

theorem u8_mod (n : Int) : IntKind.u8.wrap n = n % 256 := by rw [IntKind.wrap_u8]
theorem byt1 (w : World) (x : Int) (h : 0 ≤ x ∧ x ≤ 255) : Byt (w.alloc (.cells #[.int .u8 x] 5)) (some ⟨w.heap.size, 0, none⟩) 1 1 [x] :=
  byt_of_new w _ [x] 1 rfl rfl (by omega) (rng_cons h.1 h.2 rng_nil)
theorem Row.lit {w : World} {base : Nat} (cs : Array Value) (ns : List Int) (n : Nat) (hc : cs.toList = ns.map (Value.int .u8)) (hl : cs.size = n) (hn : n ≤ 1000) (hb : base ≤ w.heap.size) : Row (w.alloc (.cells cs 5)) base (.slice (some ⟨w.heap.size, 0, none⟩) n n) n ns := by
  unfold Row
  rw [← hc]
  exact World.ownsRow_lit w cs n hb (by unfold maxLen; omega) (by omega)
/-- The bytes of a list of numbers, as a string has them. -/
def bs (ns : List Int) : ByteArray := ⟨(ns.map fun n => UInt8.ofNat n.toNat).toArray⟩
theorem bs_toList (ns : List Int) : (bs ns).toList = ns.map fun n => UInt8.ofNat n.toNat := by rw [ByteArray.toList_eq]; simp [bs]
theorem u8_inj {x y : Int} (hx : 0 ≤ x ∧ x ≤ 255) (hy : 0 ≤ y ∧ y ≤ 255) (h : UInt8.ofNat x.toNat = UInt8.ofNat y.toNat) : x = y := by
  have h1 := congrArg UInt8.toNat h
  simp at h1
  omega
theorem map_inj : ∀ {a b : List Int}, Rng a → Rng b → (a.map fun n => UInt8.ofNat n.toNat) = (b.map fun n => UInt8.ofNat n.toNat) → a = b
  | [], [], _, _, _ => rfl
  | [], _ :: _, _, _, h => by simp at h
  | _ :: _, [], _, _, h => by simp at h
  | x :: a, y :: b, ha, hb, h => by
    simp only [List.map_cons, List.cons.injEq] at h
    have e := u8_inj (ha x (by simp)) (hb y (by simp)) h.1
    have e2 := map_inj (fun n hn => ha n (by simp [hn])) (fun n hn => hb n (by simp [hn])) h.2
    rw [e, e2]
theorem bs_beq {a b : List Int} (ha : Rng a) (hb : Rng b) : ((bs a).toList == (bs b).toList) = decide (a = b) := by
  rw [bs_toList, bs_toList, Bool.eq_iff_iff]
  simp only [beq_iff_eq, decide_eq_true_eq]
  exact ⟨map_inj ha hb, fun h => by rw [h]⟩
theorem bs_beq_self (a : List Int) : ((bs a).toList == (bs a).toList) = true := by simp
/-- A []byte as a string. -/
theorem bytStr {w : World} {ao : Option Addr} {n c : Nat} {ns : List Int} (h : Byt w ao n c ns) :
    (convert 32 9 (.slice ao n c)).run Try.prog w = .ok (.string (bs ns)) w := by
  rw [run_convert_bytes_string w 32 9 5 _ _ _ Try.underlying32 Try.underlying5 Try.underlying9]
  cases ao with
  | none =>
    obtain ⟨rfl, rfl⟩ := h.nil rfl
    obtain rfl : ns = [] := List.eq_nil_of_length_eq_zero h.len
    rfl
  | some ad =>
    have hl := run_loadCells_list (P := Try.prog) w ad (ns.map (Value.int .u8)) h.src
    rw [List.length_map, h.len] at hl
    rw [run_bytesToString w _ _ _ ns (by simpa using hl), foldl_push_bytes]
    simp [bs]
/-- Bytes whose block is one of some. -/
structure By (w : World) (K : Nat → Prop) (ao : Option Addr) (n c : Nat) (l : List Int) : Prop where
  b : Byt w ao n c l
  k : ∀ b o, ao = some ⟨b, o, none⟩ → 0 < n → K b
/-- Some blocks stay. -/
structure Kp (K : Nat → Prop) (w w1 : World) : Prop where
  size : w.heap.size ≤ w1.heap.size
  block : ∀ i, K i → i < w.heap.size → w1.heap[i]? = w.heap[i]?
theorem Kp.refl (K : Nat → Prop) (w : World) : Kp K w w := ⟨Nat.le_refl _, fun _ _ _ => rfl⟩
theorem Kp.trans {K : Nat → Prop} {w w1 w2 : World} (h : Kp K w w1) (g : Kp K w1 w2) : Kp K w w2 := ⟨Nat.le_trans h.size g.size, fun i hi hl => (g.block i hi (Nat.lt_of_lt_of_le hl h.size)).trans (h.block i hi hl)⟩
theorem Kp.mono {K K' : Nat → Prop} {w w1 : World} (h : Kp K w w1) (e : ∀ i, K' i → K i) : Kp K' w w1 := ⟨h.size, fun i hi => h.block i (e i hi)⟩
theorem kp_below {K : Nat → Prop} {w w1 : World} (h : Below w.heap.size w w1) : Kp K w w1 := ⟨h.size, fun i _ hl => h.block i hl⟩
theorem kp_mid {K : Nat → Prop} {w w1 : World} {N M : Nat} (h : Mid N M w w1) (e : ∀ i, K i → i < N ∨ M ≤ i) : Kp K w w1 := ⟨h.size, fun i hi hl => h.block i hl (e i hi)⟩
theorem By.keep {w w1 : World} {K : Nat → Prop} {ao : Option Addr} {n c : Nat} {l : List Int} (h : By w K ao n c l) (e : Kp K w w1) : By w1 K ao n c l :=
  ⟨⟨h.b.len, h.b.nil, fun j hj => by
    obtain ⟨b, o, eq, hc⟩ := h.b.cell j hj
    exact ⟨b, o, eq, by rw [World.cell?_of_block (a := ⟨b, o + j, none⟩) (e.block b (h.k b o eq (by omega)) (World.block_lt_of_cell? w _ hc))]; exact hc⟩, h.b.le, h.b.mx, h.b.rng⟩, h.k⟩
theorem By.mono {w : World} {K K' : Nat → Prop} {ao : Option Addr} {n c : Nat} {l : List Int} (h : By w K ao n c l) (e : ∀ i, K i → K' i) : By w K' ao n c l := ⟨h.b, fun b o eq hn => e b (h.k b o eq hn)⟩
end Go.Proofs.Ytmdbclhdbglppaa
