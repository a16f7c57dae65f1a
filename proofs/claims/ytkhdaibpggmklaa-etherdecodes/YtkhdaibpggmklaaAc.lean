/- Contract of Same; Encode as the document has it, whichever way. -/
import Derived.Test.YtkhdaibpggmklaaAa
import Derived.Test.YtkhdaibpggmklaaAb
namespace Go.Proofs.Ytkhdaibpggmklaa
open Go.RowKit

theorem encode11 (f : Fd) (ao : Option Addr) (n c : Nat) (w : World) (hf : FdB f) (hb : Byt w ao n c f.bs) :
    Calls Try.prog 11 #[.agg #[.int .u8 f.d0, .int .u8 f.d1, .int .u8 f.d2, .int .u8 f.d3, .int .u8 f.d4, .int .u8 f.d5, .int .u8 f.s0, .int .u8 f.s1, .int .u8 f.s2, .int .u8 f.s3, .int .u8 f.s4, .int .u8 f.s5, .bool f.tg, .int .i64 f.vl, .int .i64 f.pr, .int .i64 f.ty, (.slice ao n c)]] w fun e w' => ∃ ao' n' c', e = .returned (.tuple #[.slice ao' n' c', .int .i64 (ec f)]) ∧ Byt w' ao' n' c' (eb f) ∧ Below w.heap.size w w' := by
  cases hr : rt f
  · rw [eb_no hr, ec_no hr]
    exact (encode11_no f ao n c w hb.len hr).mono fun e w' ⟨he, hB⟩ => ⟨none, 0, 0, he, Byt.nothing w', hB⟩
  · rw [eb_yes hr, ec_yes hr]
    rcases Bool.eq_false_or_eq_true f.tg with ht | ht
    rotate_left
    · exact (encode11_plain f ao n c w hf hr hb ht).mono fun e w' ⟨g, cap, he, hb, hB⟩ => ⟨g, (enc f).length, cap, he, hb, hB⟩
    · exact (encode11_tag f ao n c w hf hr hb ht).mono fun e w' ⟨g, cap, he, hb, hB⟩ => ⟨g, (enc f).length, cap, he, hb, hB⟩

/-- Six numbers are the same six. -/
def eq6 (a0 a1 a2 a3 a4 a5 b0 b1 b2 b3 b4 b5 : Int) : Bool := a0 == b0 && (a1 == b1 && (a2 == b2 && (a3 == b3 && (a4 == b4 && a5 == b5))))
theorem Try.info5c : ∃ i, Try.prog.info? 5 = some i := Option.isSome_iff_exists.1 (by kernel_rfl)
set_option maxRecDepth 100000 in
theorem eqMac (a0 a1 a2 a3 a4 a5 b0 b1 b2 b3 b4 b5 : Int) (w : World) :
    (Op.equalIn 10000 23 (.agg #[.int .u8 a0, .int .u8 a1, .int .u8 a2, .int .u8 a3, .int .u8 a4, .int .u8 a5]) (.agg #[.int .u8 b0, .int .u8 b1, .int .u8 b2, .int .u8 b3, .int .u8 b4, .int .u8 b5])).run Try.prog w = .ok (eq6 a0 a1 a2 a3 a4 a5 b0 b1 b2 b3 b4 b5) w := by
  obtain ⟨i, hi⟩ := Try.info5c
  rw [show (10000 : Nat) = 9999 + 1 from rfl, run_equalIn_array w 9999 _ _ Try.underlying23 hi, Try.cells5]
  have p0 : ∀ (c0 c1 c2 c3 c4 c5 : Int) (w : World), (part 5 #[.int .u8 c0, .int .u8 c1, .int .u8 c2, .int .u8 c3, .int .u8 c4, .int .u8 c5] 0).run Try.prog w = .ok (.int .u8 c0) w := fun _ _ _ _ _ _ _ => by kernel_rfl
  have p1 : ∀ (c0 c1 c2 c3 c4 c5 : Int) (w : World), (part 5 #[.int .u8 c0, .int .u8 c1, .int .u8 c2, .int .u8 c3, .int .u8 c4, .int .u8 c5] 1).run Try.prog w = .ok (.int .u8 c1) w := fun _ _ _ _ _ _ _ => by kernel_rfl
  have p2 : ∀ (c0 c1 c2 c3 c4 c5 : Int) (w : World), (part 5 #[.int .u8 c0, .int .u8 c1, .int .u8 c2, .int .u8 c3, .int .u8 c4, .int .u8 c5] 2).run Try.prog w = .ok (.int .u8 c2) w := fun _ _ _ _ _ _ _ => by kernel_rfl
  have p3 : ∀ (c0 c1 c2 c3 c4 c5 : Int) (w : World), (part 5 #[.int .u8 c0, .int .u8 c1, .int .u8 c2, .int .u8 c3, .int .u8 c4, .int .u8 c5] 3).run Try.prog w = .ok (.int .u8 c3) w := fun _ _ _ _ _ _ _ => by kernel_rfl
  have p4 : ∀ (c0 c1 c2 c3 c4 c5 : Int) (w : World), (part 5 #[.int .u8 c0, .int .u8 c1, .int .u8 c2, .int .u8 c3, .int .u8 c4, .int .u8 c5] 4).run Try.prog w = .ok (.int .u8 c4) w := fun _ _ _ _ _ _ _ => by kernel_rfl
  have p5 : ∀ (c0 c1 c2 c3 c4 c5 : Int) (w : World), (part 5 #[.int .u8 c0, .int .u8 c1, .int .u8 c2, .int .u8 c3, .int .u8 c4, .int .u8 c5] 5).run Try.prog w = .ok (.int .u8 c5) w := fun _ _ _ _ _ _ _ => by kernel_rfl
  have pe : ∀ (x y : Int) (w : World), (Op.equalIn 9999 5 (.int .u8 x) (.int .u8 y)).run Try.prog w = .ok (x == y) w := fun x y w => run_equalIn_int w 9998 5 _ _ x y Try.underlying5
  simp [Op.eqItems, show List.range 6 = [0, 1, 2, 3, 4, 5] from rfl, p0, p1, p2, p3, p4, p5, pe, eq6]
  by_cases e0 : a0 = b0
  · by_cases e1 : a1 = b1
    · by_cases e2 : a2 = b2
      · by_cases e3 : a3 = b3
        · by_cases e4 : a4 = b4
          · by_cases e5 : a5 = b5 <;> simp [e0, e1, e2, e3, e4, e5]
          · simp [e0, e1, e2, e3, e4]
        · simp [e0, e1, e2, e3]
      · simp [e0, e1, e2]
    · simp [e0, e1]
  · simp [e0]


/-- Are two frames the same? -/
def eD (f g : Fd) : Bool := eq6 f.d0 f.d1 f.d2 f.d3 f.d4 f.d5 g.d0 g.d1 g.d2 g.d3 g.d4 g.d5
def eS (f g : Fd) : Bool := eq6 f.s0 f.s1 f.s2 f.s3 f.s4 f.s5 g.s0 g.s1 g.s2 g.s3 g.s4 g.s5
def sm (f g : Fd) : Bool := eD f g && (eS f g && ((f.tg == g.tg) && ((f.vl == g.vl) && ((f.pr == g.pr) && ((f.ty == g.ty) && decide (f.bs = g.bs))))))
theorem sm_iff (f g : Fd) : sm f g = true ↔ f = g := by
  obtain ⟨f0, f1, f2, f3, f4, f5, f6, f7, f8, f9, f10, f11, ft, fv, fp, fy, fb⟩ := f
  obtain ⟨g0, g1, g2, g3, g4, g5, g6, g7, g8, g9, g10, g11, gt, gv, gp, gy, gb⟩ := g
  simp [sm, eD, eS, eq6]
  constructor
  · intro h; simp_all
  · intro h; simp_all
theorem sm_self (f : Fd) : sm f f = true := (sm_iff f f).2 rfl

end Go.Proofs.Ytkhdaibpggmklaa
