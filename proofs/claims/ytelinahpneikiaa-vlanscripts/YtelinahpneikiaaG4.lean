/- The iterator of the program's VLANs, for every loop body; eachVlan. -/
import Derived.Test.YtelinahpneikiaaG2
namespace Go.Proofs.Ytelinahpneikiaa
open Go.RowKit Go.Shelf
attribute [local go_sem] Oper.semAt_some

set_option maxRecDepth 100000 in
set_option maxHeartbeats 2000000 in
theorem each45_in (F : Fence) (n : Nat) (h45 : F.fn 45) (hro : F.round = none) (hn : 1 ≤ n) (l Bt h : Nat) (T : Tb) (J Jx : List Int → World → Prop)
    (hY : ∀ pre x W, J pre W → pre.length < T.l.length → YieldAt F (n - 1) Try.prog l #[.int .i64 x] W fun e W' =>
      (e = .returned (.bool true) ∧ J (pre ++ [x]) W' ∧ KeepsWalks W W') ∨ (e = .returned (.bool false) ∧ Jx (pre ++ [x]) W'))
    (W : World) (hJ : AbidesFrom W.heap.size J) (hm : W.cell? ⟨Bt, 0, none⟩ = some (.pointer (some ⟨h + 2, 0, none⟩))) (P : PT W h T) (h0 : J [] W) :
    CallsIn F n Try.prog 45 #[.func (.yield l) #[] #[], .pointer (some ⟨Bt, 0, none⟩)] W fun e W' => (∃ v, e = .returned v) ∧
      ((∃ xs : List Int, xs.Perm (T.l.map (·.v)) ∧ J xs W') ∨ (∃ pre : List Int, True ∧ Jx pre W')) := by
  have c0 := P.bx.cell 0 _ rfl
  have hM := P.mp
  clear P
  refine callsIn_of_wp Try.func45 rfl h45 ?_ hro
  simp only [Try.ntmps45, List.size_toArray, List.length_cons, List.length_nil, Nat.reduceAdd, Nat.reduceSub, Array.replicate_succ, Array.replicate_zero, List.push_toArray, List.append_toArray, List.nil_append, List.cons_append]
  gi_wp2_with (first | (gi_at_range; refine wpl_range _ rfl _ rfl h T.l rfl hM ?_; intro w0 hrg0 hg0))
  go_frame
  gi_loopw [3] (fun _ wr => ∃ (ss : List Int), Rg wr h W.heap.size T.l ss ∧ J ss wr) (fun _ wr => wr.rangeLeft h W.heap.size)
  case atStart =>
    exact ⟨[], hrg0, hJ [] W w0 none h0 hg0 (fun r e => by cases e)⟩
  case round =>
    obtain ⟨ss, hrg, hJs⟩ := hrel
    gi_wp2_with (first | (gi_at_next; refine wpl_next _ rfl _ rfl h W.heap.size T.l ss rfl hrg ?_ ?_))
    · intro hp
      gi_wp2
      go_end0
      exact ⟨⟨_, rfl⟩, .inl ⟨ss, hp, hJs⟩⟩
    · intro m w2 hrg2 hlen hlt hg2 hen
      have hJ2 : J ss w2 := hJ ss wr w2 (some W.heap.size) hJs hg2 (fun r e => by cases e; exact ⟨Nat.le_refl _, hrg.walk⟩)
      have hJ3 : J ss (w2.alloc (.cells #[.int .i64 m.v, .int .i64 m.p] 80)) := hJ ss w2 _ none hJ2 (World.grownBy_alloc w2 _ none) (fun r e => by cases e)
      obtain ⟨fn, tmps, assign, body, hy, hR⟩ := hY ss m.v _ hJ3 hlen
      have hk2 := KeepsWalks.alloc w2 (.cells #[.int .i64 m.v, .int .i64 m.p] 80)
      gi_wp2
      refine hR.mono ?_
      rintro e W3 (⟨rfl, hJ4, hk3⟩ | ⟨rfl, hJx3⟩)
      · have hrg3 := hrg2.keep (hk2.trans hk3)
        have hl3 := hrg2.left (hk2.trans hk3)
        gi_wp2
        go_roundw
        case rel => exact ⟨ss ++ [m.v], hrg3, hJ4⟩
        case measure => rw [hl3]; exact hlt
      · gi_wp2
        refine bodyPost_ret (results_none rfl _ _ _) rfl ?_
        exact ⟨⟨_, rfl⟩, .inr ⟨ss ++ [m.v], trivial, hJx3⟩⟩
set_option maxHeartbeats 1000000 in
theorem each30_in (F : Fence) (n : Nat) (h30 : F.fn 30) (hro : F.round = none) (p0 : Option Addr) (w : World) :
    CallsIn F n Try.prog 30 #[.pointer p0] w fun e w' => e = .returned (.func (.func 45) #[] #[.pointer (some ⟨w.heap.size, 0, none⟩)]) ∧ w' = w.alloc (.cells #[.pointer p0] 24) := by
  refine callsIn_of_wp Try.func30 rfl h30 ?_ hro
  simp only [Try.ntmps30, List.size_toArray, List.length_cons, List.length_nil, Nat.reduceAdd, Nat.reduceSub, Array.replicate_succ, Array.replicate_zero, List.push_toArray, List.append_toArray, List.nil_append, List.cons_append]
  gi_wp2
  go_ret
  exact ⟨rfl, rfl⟩
theorem each_stops (F : Fence) (n : Nat) (h45 : F.fn 45) (hro : F.round = none) (hn : 1 ≤ n) (Bt h : Nat) (T : Tb) (w : World) (hBt : Bt < w.heap.size) (hm : w.cell? ⟨Bt, 0, none⟩ = some (.pointer (some ⟨h + 2, 0, none⟩))) (P : PT w h T) :
    SeqStopsK F n Try.prog 45 #[.pointer (some ⟨Bt, 0, none⟩)] (fun x : Int => #[Value.int .i64 x]) KeepsWalks (fun ys => ys.Perm (T.l.map (·.v))) (fun _ => True) T.l.length w := fun l J Jx W hW hJ _ hY h0 =>
  each45_in F n h45 hro hn l Bt h T J Jx hY W hJ ((hW.cell (p := ⟨Bt, 0, none⟩) hBt).trans hm) (P.on hW) h0
end Go.Proofs.Ytelinahpneikiaa
