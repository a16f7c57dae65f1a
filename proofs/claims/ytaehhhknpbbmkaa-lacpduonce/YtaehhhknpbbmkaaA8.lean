/- Equality of infos and of LACPDUs. -/
import Derived.Test.YtaehhhknpbbmkaaA7
import Derived.Laws.StructEq
namespace Go.Proofs.Ytaehhhknpbbmkaa
open Go.RowKit

def eqT (d : Nat) (xs ys : Array Value) : List (Bool × TypeId × Nat) → Sem Bool
  | [] => pure true
  | (b, t, o) :: r =>
    if b = true then do
      let a ← part t xs o
      let c ← part t ys o
      let q ← Op.equalIn d t a c
      if (!q) = true then pure false else eqT d xs ys r
    else eqT d xs ys r
theorem eqT_of (d : Nat) (xs ys : Array Value) : ∀ fs : List Field, Op.eqFields d xs ys fs = eqT d xs ys (fs.map fun f => (decide (f.name ≠ "_"), f.type, f.offset))
  | [] => rfl
  | f :: fs => by
    have ih := eqT_of d xs ys fs
    simp only [Op.eqFields, eqT, List.map_cons, decide_eq_true_eq, ih]
theorem Try.fl25 : (Try.prog.fieldsOf 25).toList.map (fun f => (decide (f.name ≠ "_"), f.type, f.offset)) = [(true, 3, 0), (true, 23, 1), (true, 3, 7), (true, 3, 8), (true, 3, 9), (true, 3, 10)] := by kernel_rfl
theorem Try.fl27 : (Try.prog.fieldsOf 27).toList.map (fun f => (decide (f.name ≠ "_"), f.type, f.offset)) = [(true, 25, 0), (true, 25, 11), (true, 3, 22)] := by kernel_rfl
theorem Try.st25 : Try.prog.stoodInHeld 25 = false := by kernel_rfl
theorem Try.st27 : Try.prog.stoodInHeld 27 = false := by kernel_rfl

/-- Are two infos, and two LACPDUs, the same? -/
def ieq (x y : Inf) : Bool := x.sp == y.sp && (eq6 x.m0 x.m1 x.m2 x.m3 x.m4 x.m5 y.m0 y.m1 y.m2 y.m3 y.m4 y.m5 && (x.ky == y.ky && (x.pp == y.pp && (x.po == y.po && x.st == y.st))))
def leq (l m : Lac) : Bool := ieq l.a m.a && (ieq l.p m.p && l.dl == m.dl)
theorem ieq_iff (x y : Inf) : ieq x y = true ↔ x = y := by
  obtain ⟨a, b0, b1, b2, b3, b4, b5, c, d, e, f⟩ := x
  obtain ⟨a', b0', b1', b2', b3', b4', b5', c', d', e', f'⟩ := y
  simp only [ieq, eq6, Bool.and_eq_true, beq_iff_eq, Inf.mk.injEq]
  constructor
  · rintro ⟨h1, ⟨h2, h3, h4, h5, h6, h7⟩, h8, h9, h10, h11⟩
    exact ⟨h1, h2, h3, h4, h5, h6, h7, h8, h9, h10, h11⟩
  · rintro ⟨h1, h2, h3, h4, h5, h6, h7, h8, h9, h10, h11⟩
    exact ⟨h1, ⟨h2, h3, h4, h5, h6, h7⟩, h8, h9, h10, h11⟩
theorem ieq_self (x : Inf) : ieq x x = true := (ieq_iff x x).2 rfl
theorem leq_iff (l m : Lac) : leq l m = true ↔ l = m := by
  obtain ⟨a, b, c⟩ := l
  obtain ⟨a', b', c'⟩ := m
  simp only [leq, Bool.and_eq_true, beq_iff_eq, ieq_iff, Lac.mk.injEq]
theorem leq_self (l : Lac) : leq l l = true := (leq_iff l l).2 rfl

set_option maxRecDepth 100000 in
theorem eqMacD (d : Nat) (a0 a1 a2 a3 a4 a5 b0 b1 b2 b3 b4 b5 : Int) (w : World) :
    (Op.equalIn (d + 2) 23 (.agg #[.int .u8 a0, .int .u8 a1, .int .u8 a2, .int .u8 a3, .int .u8 a4, .int .u8 a5]) (.agg #[.int .u8 b0, .int .u8 b1, .int .u8 b2, .int .u8 b3, .int .u8 b4, .int .u8 b5])).run Try.prog w = .ok (eq6 a0 a1 a2 a3 a4 a5 b0 b1 b2 b3 b4 b5) w := by
  obtain ⟨i, hi⟩ := Try.info5e
  rw [show d + 2 = (d + 1) + 1 from rfl, run_equalIn_array w (d + 1) _ _ Try.underlying23 hi, Try.cells5]
  have p0 : ∀ (c0 c1 c2 c3 c4 c5 : Int) (w : World), (part 5 #[.int .u8 c0, .int .u8 c1, .int .u8 c2, .int .u8 c3, .int .u8 c4, .int .u8 c5] 0).run Try.prog w = .ok (.int .u8 c0) w := fun _ _ _ _ _ _ _ => by kernel_rfl
  have p1 : ∀ (c0 c1 c2 c3 c4 c5 : Int) (w : World), (part 5 #[.int .u8 c0, .int .u8 c1, .int .u8 c2, .int .u8 c3, .int .u8 c4, .int .u8 c5] 1).run Try.prog w = .ok (.int .u8 c1) w := fun _ _ _ _ _ _ _ => by kernel_rfl
  have p2 : ∀ (c0 c1 c2 c3 c4 c5 : Int) (w : World), (part 5 #[.int .u8 c0, .int .u8 c1, .int .u8 c2, .int .u8 c3, .int .u8 c4, .int .u8 c5] 2).run Try.prog w = .ok (.int .u8 c2) w := fun _ _ _ _ _ _ _ => by kernel_rfl
  have p3 : ∀ (c0 c1 c2 c3 c4 c5 : Int) (w : World), (part 5 #[.int .u8 c0, .int .u8 c1, .int .u8 c2, .int .u8 c3, .int .u8 c4, .int .u8 c5] 3).run Try.prog w = .ok (.int .u8 c3) w := fun _ _ _ _ _ _ _ => by kernel_rfl
  have p4 : ∀ (c0 c1 c2 c3 c4 c5 : Int) (w : World), (part 5 #[.int .u8 c0, .int .u8 c1, .int .u8 c2, .int .u8 c3, .int .u8 c4, .int .u8 c5] 4).run Try.prog w = .ok (.int .u8 c4) w := fun _ _ _ _ _ _ _ => by kernel_rfl
  have p5 : ∀ (c0 c1 c2 c3 c4 c5 : Int) (w : World), (part 5 #[.int .u8 c0, .int .u8 c1, .int .u8 c2, .int .u8 c3, .int .u8 c4, .int .u8 c5] 5).run Try.prog w = .ok (.int .u8 c5) w := fun _ _ _ _ _ _ _ => by kernel_rfl
  have pe : ∀ (x y : Int) (w : World), (Op.equalIn (d + 1) 5 (.int .u8 x) (.int .u8 y)).run Try.prog w = .ok (x == y) w := fun x y w => run_equalIn_int w d 5 _ _ x y Try.underlying5
  simp [Op.eqItems, show List.range 6 = [0, 1, 2, 3, 4, 5] from rfl, p0, p1, p2, p3, p4, p5, pe, eq6]
  by_cases e0 : a0 = b0
  · by_cases e1 : a1 = b1
    · by_cases e2 : a2 = b2
      · by_cases e3 : a3 = b3
        · by_cases e4 : a4 = b4
          · by_cases e5 : a5 = b5 <;> simp [e0, e1, e2, e3, e4, e5]
          · simp [e0, e1, e2, e3, e4]
        · simp [e0, e1, e2, e3]
      · simp [e0, e1, e2]
    · simp [e0, e1]
  · simp [e0]
theorem run_if_and (w : World) (b c : Bool) (s : Sem Bool) (hs : s.run Try.prog w = .ok c w) : (if (!b) = true then (pure false : Sem Bool) else s).run Try.prog w = .ok (b && c) w := by
  cases b
  · simp
  · simpa using hs
set_option maxRecDepth 100000 in
theorem eqInfo (d : Nat) (x y : Inf) (w : World) : (Op.equalIn (d + 3) 25 (.agg (IC x)) (.agg (IC y))).run Try.prog w = .ok (ieq x y) w := by
  rw [show d + 3 = (d + 2) + 1 from rfl, run_equalIn_struct w (d + 2) 25 (IC x) (IC y) (by kernel_rfl) Try.st25, eqT_of, Try.fl25]
  have p0 : ∀ (x : Inf) (w : World), (part 3 (IC x) 0).run Try.prog w = .ok (.int .i64 x.sp) w := fun _ _ => by kernel_rfl
  have p1 : ∀ (x : Inf) (w : World), (part 23 (IC x) 1).run Try.prog w = .ok (.agg #[.int .u8 x.m0, .int .u8 x.m1, .int .u8 x.m2, .int .u8 x.m3, .int .u8 x.m4, .int .u8 x.m5]) w := fun _ _ => by kernel_rfl
  have p7 : ∀ (x : Inf) (w : World), (part 3 (IC x) 7).run Try.prog w = .ok (.int .i64 x.ky) w := fun _ _ => by kernel_rfl
  have p8 : ∀ (x : Inf) (w : World), (part 3 (IC x) 8).run Try.prog w = .ok (.int .i64 x.pp) w := fun _ _ => by kernel_rfl
  have p9 : ∀ (x : Inf) (w : World), (part 3 (IC x) 9).run Try.prog w = .ok (.int .i64 x.po) w := fun _ _ => by kernel_rfl
  have p10 : ∀ (x : Inf) (w : World), (part 3 (IC x) 10).run Try.prog w = .ok (.int .i64 x.st) w := fun _ _ => by kernel_rfl
  have pe : ∀ (x y : Int) (w : World), (Op.equalIn (d + 2) 3 (.int .i64 x) (.int .i64 y)).run Try.prog w = .ok (x == y) w := fun x y w => run_equalIn_int w (d + 1) 3 _ _ x y Try.underlying3
  have pm := eqMacD d
  simp only [eqT, if_true, Sem.run_bind, p0, pe, Result.andThen_ok]
  refine run_if_and w _ _ _ ?_
  simp only [Sem.run_bind, p1, pm, Result.andThen_ok]
  refine run_if_and w _ _ _ ?_
  simp only [Sem.run_bind, p7, pe, Result.andThen_ok]
  refine run_if_and w _ _ _ ?_
  simp only [Sem.run_bind, p8, pe, Result.andThen_ok]
  refine run_if_and w _ _ _ ?_
  simp only [Sem.run_bind, p9, pe, Result.andThen_ok]
  refine run_if_and w _ _ _ ?_
  simp only [Sem.run_bind, p10, pe, Result.andThen_ok]
  cases x.st == y.st <;> rfl
set_option maxRecDepth 100000 in
theorem eqLacp (d : Nat) (l m : Lac) (w : World) : (Op.equalIn (d + 4) 27 (.agg (LC l)) (.agg (LC m))).run Try.prog w = .ok (leq l m) w := by
  rw [show d + 4 = (d + 3) + 1 from rfl, run_equalIn_struct w (d + 3) 27 (LC l) (LC m) (by kernel_rfl) Try.st27, eqT_of, Try.fl27]
  have p0 : ∀ (l : Lac) (w : World), (part 25 (LC l) 0).run Try.prog w = .ok (.agg (IC l.a)) w := fun _ _ => by kernel_rfl
  have p1 : ∀ (l : Lac) (w : World), (part 25 (LC l) 11).run Try.prog w = .ok (.agg (IC l.p)) w := fun _ _ => by kernel_rfl
  have p2 : ∀ (l : Lac) (w : World), (part 3 (LC l) 22).run Try.prog w = .ok (.int .i64 l.dl) w := fun _ _ => by kernel_rfl
  have pe : ∀ (x y : Int) (w : World), (Op.equalIn (d + 3) 3 (.int .i64 x) (.int .i64 y)).run Try.prog w = .ok (x == y) w := fun x y w => run_equalIn_int w (d + 2) 3 _ _ x y Try.underlying3
  have pi := eqInfo d
  simp only [eqT, if_true, Sem.run_bind, p0, pi, Result.andThen_ok]
  refine run_if_and w _ _ _ ?_
  simp only [Sem.run_bind, p1, pi, Result.andThen_ok]
  refine run_if_and w _ _ _ ?_
  simp only [Sem.run_bind, p2, pe, Result.andThen_ok]
  cases l.dl == m.dl <;> rfl
theorem eqI (x y : Inf) (w : World) : (Op.equalIn 10000 25 (.agg (IC x)) (.agg (IC y))).run Try.prog w = .ok (ieq x y) w := eqInfo 9997 x y w
theorem eqL (l m : Lac) (w : World) : (Op.equalIn 10000 27 (.agg (LC l)) (.agg (LC m))).run Try.prog w = .ok (leq l m) w := eqLacp 9996 l m w
end Go.Proofs.Ytaehhhknpbbmkaa
