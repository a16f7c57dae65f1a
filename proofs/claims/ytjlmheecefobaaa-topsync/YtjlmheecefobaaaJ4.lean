/- The iterator of the changes behind a number, for every loop body. -/
import Derived.Test.YtjlmheecefobaaaJ3
import Derived.RangeFuncBox
import Derived.RangeFuncLeaves
import Derived.Shelf.Abstract
import Derived.WalkKit
import Derived.OwnWalkIn
import Derived.TacticsInMore
import Derived.LoopNIn
import Derived.LoopIn
import Derived.Maps.AppendAt
namespace Go.Proofs.Ytjlmheecefobaaa
open Go.RowKit Go.Shelf
attribute [local go_sem] Oper.semAt_some

section
variable {F : Fence} {n : Nat} {ops : Array Oper} {rest : List Oper} {o : Oper} {a : Act} {w : World} {Q : Exit → Act → World → Prop}
theorem wplin_chg (hgd : o.guard = none) (x : Operand) (ho : o.op = .load 54 x) {k q : Nat} {i : Ch} (hA : w.rangeAt k q (ccl i)) (hx : a.eval x = .pointer (some ⟨k, q, none⟩))
    (h : wpListIn F n Try.prog ops Q rest (a.put o.dst (.agg (CC i))) w) : wpListIn F n Try.prog ops Q (o :: rest) a w := by
  refine wpListIn_plain hgd fun K hK => ?_
  have hl := run_loadAt_mid (P := Try.prog) w k q 54 _ _ hA Try.underlying54 rfl Try.size54
  unfold Oper.wpIn
  refine ⟨by simp [Oper.about, ho], ?_⟩
  rw [Oper.semAt_plain F _ _ (by rw [ho]; intro c hc; cases hc)]
  simp only [execOp, ho, hx, hl, Sem.run_bind, Sem.run_pure, Result.andThen_ok]
  exact hK _ _ h
theorem wplin_putC (hgd : o.guard = none) (x y : Operand) (ho : o.op = .store 54 x y) {k : Nat} (p m : Ch) (ht : Box w k (ccl m)) (hx : a.eval x = .pointer (some ⟨k, 0, none⟩)) (hy : a.eval y = .agg (CC p))
    (h : ∀ w', Box w' k (ccl p) → w.grownBy w' (some k) → wpListIn F n Try.prog ops Q rest (a.put o.dst undef) w') : wpListIn F n Try.prog ops Q (o :: rest) a w := by
  refine wpListIn_plain hgd fun K hK => ?_
  have hl := run_storeAt_mid (P := Try.prog) w k 0 54 (CC p) ht.th Try.size54 (one_CC p)
  unfold Oper.wpIn
  refine ⟨by simp [Oper.about, ho], ?_⟩
  rw [Oper.semAt_plain F _ _ (by rw [ho]; intro c hc; cases hc)]
  simp only [execOp, ho, hx, hy, hl, Sem.run_bind, Sem.run_pure, Result.andThen_ok]
  exact hK _ _ (h _ (ht.self rfl) (setCells_grown k _ 0 w))
theorem wplin_bs (hgd : o.guard = none) (x : Operand) (e : Ch) (ho : o.op = .buildSlice 40 1 #[(0, x)]) (hx : a.eval x = .agg (CC e))
    (h : wpListIn F n Try.prog ops Q rest (a.put o.dst (.slice (some ⟨w.heap.size, 0, none⟩) 1 1)) (w.alloc (.cells (CC e) 54))) : wpListIn F n Try.prog ops Q (o :: rest) a w := by
  refine wpListIn_plain hgd fun K hK => ?_
  unfold Oper.wpIn
  refine ⟨by simp [Oper.about, ho], ?_⟩
  rw [Oper.semAt_plain F _ _ (by rw [ho]; intro c hc; cases hc)]
  simp only [execOp, ho, List.map_toArray, List.map_cons, List.map_nil, hx, run_bs54, Sem.run_bind, Sem.run_pure, Result.andThen_ok]
  exact hK _ _ h
end
theorem grown_none {A B : World} (h : Below A.heap.size A B) : A.grownBy B none := ⟨h.os, h.tape, h.output, h.size, fun i hi _ => h.block i hi⟩
set_option maxRecDepth 100000 in
set_option maxHeartbeats 2000000 in
theorem each48_in (n : Nat) (hn : 1 ≤ n) (l sB jB h room q : Nat) (pl cs : List Ch) (J Jx : List Ch → World → Prop) (hq : q ≤ cs.length) (hk : cs.length ≤ q + room) (hL : cs.length ≤ 1073741823)
    (Kp : World → World → Prop) (hKp : ∀ A B, Kp A B → ∀ k, (k = sB ∨ k = jB ∨ k = h ∨ k = h + 1) → B.heap[k]? = A.heap[k]?)
    (hY : ∀ pre x W, J pre W → pre.length < cs.length - q → YieldAt Fence.wide (n - 1) Try.prog l #[.agg (CC x)] W fun e W' =>
      (e = .returned (.bool true) ∧ J (pre ++ [x]) W' ∧ Kp W W') ∨ (e = .returned (.bool false) ∧ Jx (pre ++ [x]) W'))
    (W : World) (hJ : AbidesFrom W.heap.size J) (hs : Box W sB [.int .i64 q]) (hj : Box W jB [.pointer (some ⟨h + 1, 0, none⟩)]) (P : PJ W h room pl cs) (h0 : J [] W) :
    CallsIn Fence.wide n Try.prog 48 #[.func (.yield l) #[] #[], .pointer (some ⟨sB, 0, none⟩), .pointer (some ⟨jB, 0, none⟩)] W fun e W' => (∃ v, e = .returned v) ∧
      ((∃ xs : List Ch, xs = cs.drop q ∧ J xs W') ∨ (∃ pre : List Ch, True ∧ Jx pre W')) := by
  have c0 := hs.cell 0 _ rfl
  have HS := hide hs
  have HJB := hide hj
  have HP := hide P
  have e0 : IntKind.i64.wrap ((q : Int) + 1) = (q : Int) + 1 := IntWalk.i64_in _ (by omega)
  have n1 := P.wf.n1
  have n2 := P.wf.n2
  clear hs hj P
  refine callsIn_of_wp Try.func48 rfl trivial ?_ rfl
  simp only [Try.ntmps48, List.size_toArray, List.length_cons, List.length_nil, Nat.reduceAdd, Nat.reduceSub, Array.replicate_succ, Array.replicate_zero, List.push_toArray, List.append_toArray, List.nil_append, List.cons_append]
  gi_wp2
  clear c0
  gi_loopw [4] (fun i wr => ∃ k : Nat, q + k ≤ cs.length ∧ i = .int .i64 ((q : Int) + 1 + (k : Int)) ∧ J ((cs.drop q).take k) wr ∧ Box wr sB [.int .i64 q] ∧ Box wr jB [.pointer (some ⟨h + 1, 0, none⟩)] ∧ PJ wr h room pl cs) (fun i _ => cs.length + 1 - (intOf i).toNat)
  case atStart => exact ⟨0, by omega, by simp, h0, HS.out, HJB.out, HP.out⟩
  case round =>
    obtain ⟨k, hk1, rfl, hJk, hS1, hJ1, P1⟩ := hrel
    have HS1 := hide hS1
    have HJ1 := hide hJ1
    have HP1 := hide P1
    have HJK := hide hJk
    have j0 := hJ1.cell 0 _ rfl
    have c1 := P1.bx.cell 1 _ rfl
    clear hS1 hJ1 P1 hJk HS HJB HP
    by_cases hkl : q + k < cs.length
    · obtain ⟨x, hx⟩ : ∃ x, cs[q + k]? = some x := ⟨_, List.getElem?_eq_getElem hkl⟩
      have hle : (q : Int) + 1 + (k : Int) ≤ (cs.length : Int) := by omega
      have e1 : IntKind.i64.wrap ((q : Int) + 1 + (k : Int) + 1) = (q : Int) + 1 + (k : Int) + 1 := IntWalk.i64_in _ (by omega)
      have HX := hide (HP1.out.wf.at_ _ _ hx (by omega))
      have HTK : Hid ((cs.drop q).take (k + 1) = (cs.drop q).take k ++ [x]) := hide (by rw [List.take_add_one, List.getElem?_drop, hx]; rfl)
      have hpl : Hid (((cs.drop q).take k).length < cs.length - q) := hide (by rw [List.length_take, List.length_drop]; omega)
      clear hx
      have hp := place31 h room cs.length (q + k + 1) wr HP1.out.bx n1 n2 (by omega)
      rw [show ((q + k + 1 : Nat) : Int) = (q : Int) + 1 + (k : Int) by omega] at hp
      have HPC := hide hp
      clear hp
      gi_wp2_with fail
      refine ⟨trivial, (callsIn_wide.2 HPC.out).mono ?_⟩
      rintro e W2 ⟨rfl, hb⟩
      have HP2 := hide (HP1.out.on hb)
      have HS2 := hide (HS1.out.on hb)
      have HJ2 := hide (HJ1.out.on hb)
      have hJ2 : J ((cs.drop q).take k) W2 := hJ _ wr W2 none HJK.out (grown_none hb) (fun r e => by cases e)
      have A2 : W2.rangeAt h ((q + k + 1) % room * 12) (ccl x) := HP2.out.pb.chg HX.out
      obtain ⟨fn, tmps, assign, body, hy, hR⟩ := hY _ x W2 hJ2 hpl.out
      have HR := hide hR
      clear HP1 HS1 HJ1 HJK HPC hb hJ2 j0 c1 hR hY
      have tk1 : True := trivial
      gi_wp2_with (first | (have _t := tk1; refine wplin_chg rfl (.tmp 19) rfl A2 rfl ?_; clear tk1))
      refine HR.out.mono ?_
      rintro e W3 (⟨rfl, hJ4, hk3⟩ | ⟨rfl, hJx3⟩)
      · have hb3 := hKp _ _ hk3
        have HP3 : Hid (PJ W3 h room pl cs) := hide (HP2.out.keep (fun k h1 h2 => hb3 k (by omega)))
        have HS3 := hide (HS2.out.block (hb3 sB (Or.inl rfl)))
        have HJ3 := hide (HJ2.out.block (hb3 jB (Or.inr (Or.inl rfl))))
        clear hb3 hk3
        gi_wp2
        go_roundw
        case rel => exact ⟨k + 1, by omega, by go_num, by rw [HTK.out]; exact hJ4, HS3.out, HJ3.out, HP3.out⟩
        case measure => simp [intOf]; omega
      · gi_wp2
        refine bodyPost_ret (results_none rfl _ _ _) rfl ?_
        exact ⟨⟨_, rfl⟩, .inr ⟨_, trivial, hJx3⟩⟩
    · have hle : ¬ (q : Int) + 1 + (k : Int) ≤ (cs.length : Int) := by omega
      have hall : (cs.drop q).take k = cs.drop q := List.take_of_length_le (by rw [List.length_drop]; omega)
      rw [hall] at HJK
      clear hall
      gi_wp2
      go_end0
      exact ⟨⟨_, rfl⟩, .inl HJK.out⟩
end Go.Proofs.Ytjlmheecefobaaa
