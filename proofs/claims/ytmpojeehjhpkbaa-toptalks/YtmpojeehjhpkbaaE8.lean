/- An own row of bytes, and how it grows; contract of Encode, whichever way. -/
import Derived.Test.YtmpojeehjhpkbaaE6
import Derived.Test.YtmpojeehjhpkbaaE7
namespace Go.Proofs.Ytmpojeehjhpkbaa
open Go.RowKit

/-- What Encode answers. -/
def eb (f : Fd) : List Int := if rt f then enc f else []
def ec (f : Fd) : Int := if rt f then 0 else 1
theorem eb_yes {f : Fd} (h : rt f = true) : eb f = enc f := by simp [eb, h]
theorem eb_no {f : Fd} (h : rt f = false) : eb f = [] := by simp [eb, h]
theorem ec_yes {f : Fd} (h : rt f = true) : ec f = 0 := by simp [ec, h]
theorem ec_no {f : Fd} (h : rt f = false) : ec f = 1 := by simp [ec, h]
theorem eb_rng {f : Fd} (h : FdB f) : Rng (eb f) := by
  cases k : rt f
  · rw [eb_no k]; exact rng_nil
  · rw [eb_yes k]; exact enc_rng h k
theorem encode10 (f : Fd) (ao : Option Addr) (n c : Nat) (w : World) (hf : FdB f) (hb : Byt w ao n c f.bs) :
    Calls Try.prog 17 #[.agg #[.int .u8 f.d0, .int .u8 f.d1, .int .u8 f.d2, .int .u8 f.d3, .int .u8 f.d4, .int .u8 f.d5, .int .u8 f.s0, .int .u8 f.s1, .int .u8 f.s2, .int .u8 f.s3, .int .u8 f.s4, .int .u8 f.s5, .bool f.tg, .int .i64 f.vl, .int .i64 f.pr, .int .i64 f.ty, (.slice ao n c)]] w fun e w' => ∃ ao' n' c', e = .returned (.tuple #[.slice ao' n' c', .int .i64 (ec f)]) ∧ Byt w' ao' n' c' (eb f) ∧ Below w.heap.size w w' := by
  cases hr : rt f
  · rw [eb_no hr, ec_no hr]
    exact (encode10_no f ao n c w hb.len hr).mono fun e w' ⟨he, hB⟩ => ⟨none, 0, 0, he, Byt.nothing w', hB⟩
  · rw [eb_yes hr, ec_yes hr]
    rcases Bool.eq_false_or_eq_true f.tg with ht | ht
    rotate_left
    · exact (encode10_plain f ao n c w hf hr hb ht).mono fun e w' ⟨g, cap, he, hb, hB⟩ => ⟨some ⟨g, 0, none⟩, (enc f).length, cap, he, hb, hB⟩
    · exact (encode10_tag f ao n c w hf hr hb ht).mono fun e w' ⟨g, cap, he, hb, hB⟩ => ⟨some ⟨g, 0, none⟩, (enc f).length, cap, he, hb, hB⟩

/-- A slice of bytes of the call's own. -/
def Row (w : World) (base : Nat) (v : Value) (n : Nat) (ns : List Int) : Prop := w.ownsRow base 5 1 v n (ns.map (Value.int .u8))
theorem Row.nil (w : World) (base : Nat) : Row w base (.slice none 0 0) 0 [] := World.ownsRow_nil _ _ _ _
theorem Row.byt {w : World} {base : Nat} {v : Value} {n : Nat} {ns : List Int} (h : Row w base v n ns) (hr : Rng ns) : ∃ ao c, v = .slice ao n c ∧ Byt w ao n c ns := own_byt h hr
theorem Row.alloc {w : World} {base : Nat} {v : Value} {n : Nat} {ns : List Int} (h : Row w base v n ns) (o : Obj) : Row (w.alloc o) base v n ns := World.ownsRow.alloc h o
theorem Row.on {w w1 : World} {base : Nat} {v : Value} {n : Nat} {ns : List Int} (h : Row w base v n ns) (hb : Below w.heap.size w w1) : Row w1 base v n ns :=
  World.ownsRow.kept (row := none) h ⟨hb.os, hb.tape, hb.output, hb.size, fun k hk _ => hb.block k hk⟩ (by cases hv : v.ownBlock <;> simp)
theorem wpl_app {ops : Array Oper} {rest : List Oper} {o : Oper} {a : Act} {w : World} {Q : Exit → Act → World → Prop} (hgd : o.guard = none) (s x : Operand)
    (ho : o.op = .call { callee := .builtin .append, args := #[s, x], argTypes := #[24, 24] })
    (base : Nat) (v : Value) (n : Nat) (xs : List Int) (hs : a.eval s = v) (hown : Row w base v n xs) (ao : Option Addr) (m c : Nat) (ns : List Int) (hx : a.eval x = .slice ao m c) (hB : Byt w ao m c ns)
    (h1 : n + m ≤ 100000) (hbase : base ≤ w.heap.size)
    (h : ∀ v' w', Row w' base v' (n + m) (xs ++ ns) → Below base w w' → wpList Try.prog ops Q rest (a.put o.dst v') w') : wpList Try.prog ops Q (o :: rest) a w := by
  obtain ⟨i0, hi, hz0, hz1, hz2⟩ := info_parts Try.info5
  cases ao with
  | none =>
    obtain ⟨rfl, rfl⟩ := hB.nil rfl
    obtain rfl : ns = [] := List.eq_nil_of_length_eq_zero hB.len
    refine wpList_append_own_none hgd s x 24 ho base 5 i0 1 Try.underlying24 hi v n (xs.map (Value.int .u8)) hs hown hx ?_
    refine h v w ?_ (Below.refl _ _)
    rw [List.append_nil]
    exact hown
  | some ad =>
    refine wpList_append_own _ hgd s x 24 ho base 5 i0 (.int .u8 0) 1 1 Try.underlying24 hi hz0 hz1 hz2 rfl (by decide) v n (xs.map (Value.int .u8)) hs hown ad m c (ns.map (Value.int .u8)) hx (by simp [hB.len]) hB.src (one_u8 ns) (by unfold maxLen; omega) (by omega) hbase ?_
    intro v' w' h2 h3 _
    refine h v' w' ?_ ((Below.refl _ _).grown h3 hbase (fun k hk => (hown.lt k hk).1))
    unfold Row
    rw [List.map_append]
    exact h2
theorem byt1 (w : World) (x : Int) (h : 0 ≤ x ∧ x ≤ 255) : Byt (w.alloc (.cells #[.int .u8 x] 5)) (some ⟨w.heap.size, 0, none⟩) 1 1 [x] :=
  ⟨rfl, fun e => (by cases e), fun j hj => ⟨w.heap.size, 0, rfl, by obtain rfl : j = 0 := by omega
                                                                    simp⟩, Nat.le_refl _, by decide, rng_cons h.1 h.2 rng_nil⟩
theorem byt2 (w : World) (x y : Int) (h : 0 ≤ x ∧ x ≤ 255) (k : 0 ≤ y ∧ y ≤ 255) : Byt (w.alloc (.cells #[.int .u8 x, .int .u8 y] 5)) (some ⟨w.heap.size, 0, none⟩) 2 2 [x, y] :=
  ⟨rfl, fun e => (by cases e), fun j hj => ⟨w.heap.size, 0, rfl, by
    rcases (show j = 0 ∨ j = 1 by omega) with rfl | rfl <;> simp⟩, Nat.le_refl _, by decide, rng_cons h.1 h.2 (rng_cons k.1 k.2 rng_nil)⟩
end Go.Proofs.Ytmpojeehjhpkbaa
