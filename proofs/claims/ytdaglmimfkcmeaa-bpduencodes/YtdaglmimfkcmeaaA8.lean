/- Equality of ids and of BPDUs. -/
import Derived.Test.YtdaglmimfkcmeaaA7
import Derived.Laws.StructEq
namespace Go.Proofs.Ytdaglmimfkcmeaa
open Go.RowKit

def eqT (d : Nat) (xs ys : Array Value) : List (Bool × TypeId × Nat) → Sem Bool
  | [] => pure true
  | (b, t, o) :: r =>
    if b = true then do
      let a ← part t xs o
      let c ← part t ys o
      let q ← Op.equalIn d t a c
      if (!q) = true then pure false else eqT d xs ys r
    else eqT d xs ys r
theorem eqT_of (d : Nat) (xs ys : Array Value) : ∀ fs : List Field, Op.eqFields d xs ys fs = eqT d xs ys (fs.map fun f => (decide (f.name ≠ "_"), f.type, f.offset))
  | [] => rfl
  | f :: fs => by
    have ih := eqT_of d xs ys fs
    simp only [Op.eqFields, eqT, List.map_cons, decide_eq_true_eq, ih]
theorem Try.fl25 : (Try.prog.fieldsOf 25).toList.map (fun f => (decide (f.name ≠ "_"), f.type, f.offset)) = [(true, 3, 0), (true, 23, 1)] := by kernel_rfl
theorem Try.fl27 : (Try.prog.fieldsOf 27).toList.map (fun f => (decide (f.name ≠ "_"), f.type, f.offset)) = [(true, 3, 0), (true, 3, 1), (true, 25, 2), (true, 3, 9), (true, 25, 10), (true, 3, 17), (true, 3, 18), (true, 3, 19), (true, 3, 20), (true, 3, 21)] := by kernel_rfl
theorem Try.st25 : Try.prog.stoodInHeld 25 = false := by kernel_rfl
theorem Try.st27 : Try.prog.stoodInHeld 27 = false := by kernel_rfl

set_option maxRecDepth 100000 in
theorem eqMacD (d : Nat) (a0 a1 a2 a3 a4 a5 b0 b1 b2 b3 b4 b5 : Int) (w : World) :
    (Op.equalIn (d + 2) 23 (.agg #[.int .u8 a0, .int .u8 a1, .int .u8 a2, .int .u8 a3, .int .u8 a4, .int .u8 a5]) (.agg #[.int .u8 b0, .int .u8 b1, .int .u8 b2, .int .u8 b3, .int .u8 b4, .int .u8 b5])).run Try.prog w = .ok (eq6 a0 a1 a2 a3 a4 a5 b0 b1 b2 b3 b4 b5) w := by
  obtain ⟨i, hi⟩ := Try.info5e
  rw [show d + 2 = (d + 1) + 1 from rfl, run_equalIn_array w (d + 1) _ _ Try.underlying23 hi, Try.cells5]
  have p0 : ∀ (c0 c1 c2 c3 c4 c5 : Int) (w : World), (part 5 #[.int .u8 c0, .int .u8 c1, .int .u8 c2, .int .u8 c3, .int .u8 c4, .int .u8 c5] 0).run Try.prog w = .ok (.int .u8 c0) w := fun _ _ _ _ _ _ _ => by kernel_rfl
  have p1 : ∀ (c0 c1 c2 c3 c4 c5 : Int) (w : World), (part 5 #[.int .u8 c0, .int .u8 c1, .int .u8 c2, .int .u8 c3, .int .u8 c4, .int .u8 c5] 1).run Try.prog w = .ok (.int .u8 c1) w := fun _ _ _ _ _ _ _ => by kernel_rfl
  have p2 : ∀ (c0 c1 c2 c3 c4 c5 : Int) (w : World), (part 5 #[.int .u8 c0, .int .u8 c1, .int .u8 c2, .int .u8 c3, .int .u8 c4, .int .u8 c5] 2).run Try.prog w = .ok (.int .u8 c2) w := fun _ _ _ _ _ _ _ => by kernel_rfl
  have p3 : ∀ (c0 c1 c2 c3 c4 c5 : Int) (w : World), (part 5 #[.int .u8 c0, .int .u8 c1, .int .u8 c2, .int .u8 c3, .int .u8 c4, .int .u8 c5] 3).run Try.prog w = .ok (.int .u8 c3) w := fun _ _ _ _ _ _ _ => by kernel_rfl
  have p4 : ∀ (c0 c1 c2 c3 c4 c5 : Int) (w : World), (part 5 #[.int .u8 c0, .int .u8 c1, .int .u8 c2, .int .u8 c3, .int .u8 c4, .int .u8 c5] 4).run Try.prog w = .ok (.int .u8 c4) w := fun _ _ _ _ _ _ _ => by kernel_rfl
  have p5 : ∀ (c0 c1 c2 c3 c4 c5 : Int) (w : World), (part 5 #[.int .u8 c0, .int .u8 c1, .int .u8 c2, .int .u8 c3, .int .u8 c4, .int .u8 c5] 5).run Try.prog w = .ok (.int .u8 c5) w := fun _ _ _ _ _ _ _ => by kernel_rfl
  have pe : ∀ (x y : Int) (w : World), (Op.equalIn (d + 1) 5 (.int .u8 x) (.int .u8 y)).run Try.prog w = .ok (x == y) w := fun x y w => run_equalIn_int w d 5 _ _ x y Try.underlying5
  simp [Op.eqItems, show List.range 6 = [0, 1, 2, 3, 4, 5] from rfl, p0, p1, p2, p3, p4, p5, pe, eq6]
  by_cases e0 : a0 = b0
  · by_cases e1 : a1 = b1
    · by_cases e2 : a2 = b2
      · by_cases e3 : a3 = b3
        · by_cases e4 : a4 = b4
          · by_cases e5 : a5 = b5 <;> simp [e0, e1, e2, e3, e4, e5]
          · simp [e0, e1, e2, e3, e4]
        · simp [e0, e1, e2, e3]
      · simp [e0, e1, e2]
    · simp [e0, e1]
  · simp [e0]
theorem run_if_and (w : World) (b c : Bool) (s : Sem Bool) (hs : s.run Try.prog w = .ok c w) : (if (!b) = true then (pure false : Sem Bool) else s).run Try.prog w = .ok (b && c) w := by
  cases b
  · simp
  · simpa using hs
set_option maxRecDepth 100000 in
theorem eqIdD (d : Nat) (x y : Idn) (w : World) : (Op.equalIn (d + 3) 25 (.agg (IC x)) (.agg (IC y))).run Try.prog w = .ok (ieq x y) w := by
  rw [show d + 3 = (d + 2) + 1 from rfl, run_equalIn_struct w (d + 2) 25 (IC x) (IC y) (by kernel_rfl) Try.st25, eqT_of, Try.fl25]
  have p0 : ∀ (x : Idn) (w : World), (part 3 (IC x) 0).run Try.prog w = .ok (.int .i64 x.pr) w := fun _ _ => by kernel_rfl
  have p1 : ∀ (x : Idn) (w : World), (part 23 (IC x) 1).run Try.prog w = .ok (.agg #[.int .u8 x.m0, .int .u8 x.m1, .int .u8 x.m2, .int .u8 x.m3, .int .u8 x.m4, .int .u8 x.m5]) w := fun _ _ => by kernel_rfl
  have pe : ∀ (x y : Int) (w : World), (Op.equalIn (d + 2) 3 (.int .i64 x) (.int .i64 y)).run Try.prog w = .ok (x == y) w := fun x y w => run_equalIn_int w (d + 1) 3 _ _ x y Try.underlying3
  have pm := eqMacD d
  simp only [eqT, if_true, Sem.run_bind, p0, pe, Result.andThen_ok]
  refine run_if_and w _ _ _ ?_
  simp only [Sem.run_bind, p1, pm, Result.andThen_ok]
  cases eq6 x.m0 x.m1 x.m2 x.m3 x.m4 x.m5 y.m0 y.m1 y.m2 y.m3 y.m4 y.m5 <;> rfl
set_option maxRecDepth 100000 in
theorem eqBpduD (d : Nat) (p q : Bpd) (w : World) : (Op.equalIn (d + 4) 27 (.agg (BC p)) (.agg (BC q))).run Try.prog w = .ok (bpeq p q) w := by
  rw [show d + 4 = (d + 3) + 1 from rfl, run_equalIn_struct w (d + 3) 27 (BC p) (BC q) (by kernel_rfl) Try.st27, eqT_of, Try.fl27]
  have p0 : ∀ (p : Bpd) (w : World), (part 3 (BC p) 0).run Try.prog w = .ok (.int .i64 p.kd) w := fun _ _ => by kernel_rfl
  have p1 : ∀ (p : Bpd) (w : World), (part 3 (BC p) 1).run Try.prog w = .ok (.int .i64 p.fl) w := fun _ _ => by kernel_rfl
  have p2 : ∀ (p : Bpd) (w : World), (part 25 (BC p) 2).run Try.prog w = .ok (.agg (IC p.r)) w := fun _ _ => by kernel_rfl
  have p9 : ∀ (p : Bpd) (w : World), (part 3 (BC p) 9).run Try.prog w = .ok (.int .i64 p.c) w := fun _ _ => by kernel_rfl
  have p10 : ∀ (p : Bpd) (w : World), (part 25 (BC p) 10).run Try.prog w = .ok (.agg (IC p.b)) w := fun _ _ => by kernel_rfl
  have p17 : ∀ (p : Bpd) (w : World), (part 3 (BC p) 17).run Try.prog w = .ok (.int .i64 p.po) w := fun _ _ => by kernel_rfl
  have p18 : ∀ (p : Bpd) (w : World), (part 3 (BC p) 18).run Try.prog w = .ok (.int .i64 p.ag) w := fun _ _ => by kernel_rfl
  have p19 : ∀ (p : Bpd) (w : World), (part 3 (BC p) 19).run Try.prog w = .ok (.int .i64 p.mx) w := fun _ _ => by kernel_rfl
  have p20 : ∀ (p : Bpd) (w : World), (part 3 (BC p) 20).run Try.prog w = .ok (.int .i64 p.he) w := fun _ _ => by kernel_rfl
  have p21 : ∀ (p : Bpd) (w : World), (part 3 (BC p) 21).run Try.prog w = .ok (.int .i64 p.fw) w := fun _ _ => by kernel_rfl
  have pe : ∀ (x y : Int) (w : World), (Op.equalIn (d + 3) 3 (.int .i64 x) (.int .i64 y)).run Try.prog w = .ok (x == y) w := fun x y w => run_equalIn_int w (d + 2) 3 _ _ x y Try.underlying3
  have pi := eqIdD d
  simp only [eqT, if_true, Sem.run_bind, p0, pe, Result.andThen_ok]
  refine run_if_and w _ _ _ ?_
  simp only [Sem.run_bind, p1, pe, Result.andThen_ok]
  refine run_if_and w _ _ _ ?_
  simp only [Sem.run_bind, p2, pi, Result.andThen_ok]
  refine run_if_and w _ _ _ ?_
  simp only [Sem.run_bind, p9, pe, Result.andThen_ok]
  refine run_if_and w _ _ _ ?_
  simp only [Sem.run_bind, p10, pi, Result.andThen_ok]
  refine run_if_and w _ _ _ ?_
  simp only [Sem.run_bind, p17, pe, Result.andThen_ok]
  refine run_if_and w _ _ _ ?_
  simp only [Sem.run_bind, p18, pe, Result.andThen_ok]
  refine run_if_and w _ _ _ ?_
  simp only [Sem.run_bind, p19, pe, Result.andThen_ok]
  refine run_if_and w _ _ _ ?_
  simp only [Sem.run_bind, p20, pe, Result.andThen_ok]
  refine run_if_and w _ _ _ ?_
  simp only [Sem.run_bind, p21, pe, Result.andThen_ok]
  cases p.fw == q.fw <;> rfl
theorem eqI (x y : Idn) (w : World) : (Op.equalIn 10000 25 (.agg (IC x)) (.agg (IC y))).run Try.prog w = .ok (ieq x y) w := eqIdD 9997 x y w
theorem eqB (p q : Bpd) (w : World) : (Op.equalIn 10000 27 (.agg (BC p)) (.agg (BC q))).run Try.prog w = .ok (bpeq p q) w := eqBpduD 9996 p q w
end Go.Proofs.Ytdaglmimfkcmeaa
