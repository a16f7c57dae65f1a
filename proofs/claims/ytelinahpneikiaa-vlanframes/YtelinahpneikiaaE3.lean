/- Contracts: In, of both; Same, of one frame twice. -/
import Derived.Test.YtelinahpneikiaaB3
import Derived.Test.YtelinahpneikiaaE2
namespace Go.Proofs.Ytelinahpneikiaa
open Go.RowKit

theorem Box.dst {w : World} {k : Nat} {f : Fd} {s : Value} (h : Box w k (fcl f s)) : w.rangeAt k 0 (dcl f) := rangeAt_left h.at_
theorem Box.src {w : World} {k : Nat} {f : Fd} {s : Value} (h : Box w k (fcl f s)) : w.rangeAt k 6 (scl f) := rangeAt_left (rangeAt_right h.at_ (q := 6) rfl)
theorem wpl_dst {ops : Array Oper} {rest : List Oper} {op : Oper} {a : Act} {w : World} {Q : Exit → Act → World → Prop} {k o : Nat} {cs : List Value} (x : Operand) (ho : op.op = .load 34 x) (hA : w.rangeAt k o cs) (hl : cs.length = 6) (hw : Region.wanted op (yielded ops a.tmps) = true) (hx : a.eval x = .pointer (some ⟨k, o, none⟩))
    (h : wpList Try.prog ops Q rest (a.put op.dst (.agg cs.toArray)) w) : wpList Try.prog ops Q (op :: rest) a w :=
  wpl_load 34 x ho k o _ _ hA Try.underlying34 rfl (by rw [hl]; exact Try.size34) hw hx h
theorem Try.info5e : ∃ i, Try.prog.info? 5 = some i := ⟨_, (info_parts Try.info5).choose_spec.1⟩
theorem eqSelf (a0 a1 a2 a3 a4 a5 : Int) (w : World) :
    (Op.equalIn 10000 34 (.agg #[.int .u8 a0, .int .u8 a1, .int .u8 a2, .int .u8 a3, .int .u8 a4, .int .u8 a5]) (.agg #[.int .u8 a0, .int .u8 a1, .int .u8 a2, .int .u8 a3, .int .u8 a4, .int .u8 a5])).run Try.prog w = .ok true w := by
  obtain ⟨i, hi⟩ := Try.info5e
  rw [show (10000 : Nat) = 9999 + 1 from rfl, run_equalIn_array w 9999 _ _ Try.underlying34 hi, Try.cells5]
  have p0 : ∀ (c0 c1 c2 c3 c4 c5 : Int) (w : World), (part 5 #[.int .u8 c0, .int .u8 c1, .int .u8 c2, .int .u8 c3, .int .u8 c4, .int .u8 c5] 0).run Try.prog w = .ok (.int .u8 c0) w := fun _ _ _ _ _ _ _ => by kernel_rfl
  have p1 : ∀ (c0 c1 c2 c3 c4 c5 : Int) (w : World), (part 5 #[.int .u8 c0, .int .u8 c1, .int .u8 c2, .int .u8 c3, .int .u8 c4, .int .u8 c5] 1).run Try.prog w = .ok (.int .u8 c1) w := fun _ _ _ _ _ _ _ => by kernel_rfl
  have p2 : ∀ (c0 c1 c2 c3 c4 c5 : Int) (w : World), (part 5 #[.int .u8 c0, .int .u8 c1, .int .u8 c2, .int .u8 c3, .int .u8 c4, .int .u8 c5] 2).run Try.prog w = .ok (.int .u8 c2) w := fun _ _ _ _ _ _ _ => by kernel_rfl
  have p3 : ∀ (c0 c1 c2 c3 c4 c5 : Int) (w : World), (part 5 #[.int .u8 c0, .int .u8 c1, .int .u8 c2, .int .u8 c3, .int .u8 c4, .int .u8 c5] 3).run Try.prog w = .ok (.int .u8 c3) w := fun _ _ _ _ _ _ _ => by kernel_rfl
  have p4 : ∀ (c0 c1 c2 c3 c4 c5 : Int) (w : World), (part 5 #[.int .u8 c0, .int .u8 c1, .int .u8 c2, .int .u8 c3, .int .u8 c4, .int .u8 c5] 4).run Try.prog w = .ok (.int .u8 c4) w := fun _ _ _ _ _ _ _ => by kernel_rfl
  have p5 : ∀ (c0 c1 c2 c3 c4 c5 : Int) (w : World), (part 5 #[.int .u8 c0, .int .u8 c1, .int .u8 c2, .int .u8 c3, .int .u8 c4, .int .u8 c5] 5).run Try.prog w = .ok (.int .u8 c5) w := fun _ _ _ _ _ _ _ => by kernel_rfl
  have pe : ∀ (x y : Int) (w : World), (Op.equalIn 9999 5 (.int .u8 x) (.int .u8 y)).run Try.prog w = .ok (x == y) w := fun x y w => run_equalIn_int w 9998 5 _ _ x y Try.underlying5
  simp [Op.eqItems, show List.range 6 = [0, 1, 2, 3, 4, 5] from rfl, p0, p1, p2, p3, p4, p5, pe]
theorem eqD (f : Fd) (w : World) : (Op.equalIn 10000 34 (.agg (dcl f).toArray) (.agg (dcl f).toArray)).run Try.prog w = .ok true w := eqSelf _ _ _ _ _ _ w
theorem eqS (f : Fd) (w : World) : (Op.equalIn 10000 34 (.agg (scl f).toArray) (.agg (scl f).toArray)).run Try.prog w = .ok true w := eqSelf _ _ _ _ _ _ w
section
attribute [local go_sem] FC12 FC13 FC14 FC15 FC16 FC_size ZF
set_option maxRecDepth 100000 in
set_option maxHeartbeats 4000000 in
theorem same21 (f : Fd) (ao bo : Option Addr) (n c m d : Nat) (w : World) (ha : Byt w ao n c f.bs) (hb : Byt w bo m d f.bs) :
    Calls Try.prog 21 #[.agg (FC f (.slice ao n c)), .agg (FC f (.slice bo m d))] w fun e w' => e = .returned (.bool true) ∧ Below w.heap.size w w' := by
  have W0 : Below w.heap.size w ((w.alloc (.cells (FC f (.slice ao n c)) 37)).alloc (.cells (FC f (.slice bo m d)) 37)) := by go_grown
  have hc1 := bytStr (ha.on W0)
  have hc2 := bytStr (hb.on W0)
  have A0 := hide ((Box.new w (fcl f (.slice ao n c)) 37).alloc (.cells (FC f (.slice bo m d)) 37))
  have b0 := Box.new (w.alloc (.cells (FC f (.slice ao n c)) 37)) (fcl f (.slice bo m d)) 37
  rw [World.size_alloc] at b0
  have B0 := hide b0
  have hq := bs_beq_self f.bs
  have e1 := eqD f
  have e2 := eqS f
  have k1 : (f.tg == f.tg) = true := by simp
  have k2 : (f.vl == f.vl) = true := by simp
  have k3 : (f.pr == f.pr) = true := by simp
  have k4 : (f.ty == f.ty) = true := by simp
  have WW := hide W0
  clear ha hb b0 W0
  have tk1 : True := trivial
  have tk2 : True := trivial
  have tk3 : True := trivial
  have tk4 : True := trivial
  go_enter Try.func21, Try.ntmps21
  go_wp2_with (first | (have _t := tk1; refine wpl_dst (.tmp 5) rfl A0.out.dst rfl ?_ ?_ ?_; rfl; rfl; clear tk1) | (have _t := tk2; refine wpl_dst (.tmp 7) rfl B0.out.dst rfl ?_ ?_ ?_; rfl; rfl; clear tk2) | (have _t := tk3; refine wpl_dst (.tmp 11) rfl A0.out.src rfl ?_ ?_ ?_; rfl; rfl; clear tk3) | (have _t := tk4; refine wpl_dst (.tmp 13) rfl B0.out.src rfl ?_ ?_ ?_; rfl; rfl; clear tk4))
  go_ret
  exact ⟨rfl, WW.out⟩
end
end Go.Proofs.Ytelinahpneikiaa
