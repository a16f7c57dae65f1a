/- Contract of of: the key of an entry. -/
import Derived.Test.YtjlmheecefobaaaM3
import Derived.Test.YtjlmheecefobaaaS1
namespace Go.Proofs.Ytjlmheecefobaaa
open Go.RowKit Go.PlainAid

theorem ZK : (#[.int .i64 0, .int .u8 0, .int .u8 0, .int .u8 0, .int .u8 0, .int .u8 0, .int .u8 0] : Array Value) = KC 0 zM := rfl
theorem one_kcl (v : Int) (m : Mc) : ∀ u ∈ kcl v m, u.oneCell' = true := by
  intro u hu
  simp only [kcl, mcl, List.mem_cons, List.not_mem_nil, or_false] at hu
  rcases hu with rfl | rfl | rfl | rfl | rfl | rfl | rfl <;> rfl
theorem one_KC (v : Int) (m : Mc) : (KC v m).all (·.oneCell') = true := all_oneCell_toArray (one_kcl v m)
theorem wpl_putK {ops : Array Oper} {rest : List Oper} {op : Oper} {a : Act} {w : World} {Q : Exit → Act → World → Prop} {k : Nat} (v v0 : Int) (m m0 : Mc) (x y : Operand) (ho : op.op = .store 83 x y) (ht : Box w k (kcl v0 m0)) (hw : Region.wanted op (yielded ops a.tmps) = true) (hx : a.eval x = .pointer (some ⟨k, 0, none⟩)) (hy : a.eval y = .agg (KC v m))
    (h : ∀ w', Box w' k (kcl v m) → w.grownBy w' (some k) → wpList Try.prog ops Q rest (a.put op.dst undef) w') : wpList Try.prog ops Q (op :: rest) a w :=
  wpList_step fun K hK => by
    rw [if_pos hw]
    exact wp_store_mid 83 x y ho k 0 (KC v m) hx hy ht.th Try.size83 (one_KC v m) (hK _ _ (h _ (ht.self rfl) (setCells_grown k _ 0 w)))
theorem res_key {fn : Func} {p : Tmp} (h : fn.results = #[.cell p 83]) {tmps : Array Value} {w : World} {k : Nat} {v : Int} {m : Mc} (hp : tmps.getD p undef = .pointer (some ⟨k, 0, none⟩)) (hA : Box w k (kcl v m)) :
    (results fn tmps).run Try.prog w = .ok (.agg (KC v m)) w := by
  have hl := run_loadVar_mid (P := Try.prog) w k 0 83 _ _ hA.at_ Try.underlying83 rfl Try.size83
  have hp' : tmps[p]?.getD undef = .pointer (some ⟨k, 0, none⟩) := by simpa using hp
  simp only [results, h]
  simp [hp', asAddr, hl, KC]
set_option maxRecDepth 100000 in
theorem run_bk (v : Int) (m : Mc) (w : World) : (Instr.build 83 #[(0, .int .i64 v), (1, .agg (MC m))]).run Try.prog w = .ok (.agg (KC v m)) w := by kernel_rfl
theorem wpl_bk {ops : Array Oper} {rest : List Oper} {o : Oper} {a : Act} {w : World} {Q : Exit → Act → World → Prop} (hgd : o.guard = none) (x y : Operand) (v : Int) (m : Mc) (ho : o.op = .build 83 #[(0, x), (1, y)]) (hx : a.eval x = .int .i64 v) (hy : a.eval y = .agg (MC m))
    (h : wpList Try.prog ops Q rest (a.put o.dst (.agg (KC v m))) w) : wpList Try.prog ops Q (o :: rest) a w := by
  refine wpList_plain hgd fun K hK => ?_
  unfold Oper.wp execOp
  simp only [ho, List.map_toArray, List.map_cons, List.map_nil, hx, hy, run_bk, Sem.run_bind, Sem.run_pure, Result.andThen_ok]
  exact hK _ _ h
attribute [local go_sem] ZK
set_option maxRecDepth 100000 in
set_option maxHeartbeats 1000000 in
theorem of33 (x : En) (w : World) : Calls Try.prog 33 #[.agg (EC x)] w fun e w' => e = .returned (.agg (KC x.v x.m)) ∧ Below w.heap.size w w' := by
  have B0 : Below w.heap.size w ((w.alloc (.cells (EC x) 36)).alloc (.cells (KC 0 zM) 83)) := by go_grown
  have X0 : Box ((w.alloc (.cells (EC x) 36)).alloc (.cells (KC 0 zM) 83)) w.heap.size (ecl x) := (Box.new w (ecl x) 36).alloc _
  have K0 : Box ((w.alloc (.cells (EC x) 36)).alloc (.cells (KC 0 zM) 83)) (w.heap.size + 1) (kcl 0 zM) := by
    have := Box.new (w.alloc (.cells (EC x) 36)) (kcl 0 zM) 83
    rwa [World.size_alloc] at this
  have A0 := ent_mac (o := 0) X0.at_
  rw [Nat.zero_add] at A0
  have c0 := X0.cell 0 _ rfl
  have tk3 : True := trivial
  have HB0 := hide B0
  have HK0 := hide K0
  clear B0 X0 K0
  have tk1 : True := trivial
  have tk2 : True := trivial
  go_enter Try.func33, Try.ntmps33
  go_wp2_with (first | (have _t := tk1; refine wpl_mac (.tmp 5) rfl A0 ?_ ?_ ?_; rfl; rfl; clear tk1) | (have _t := tk3; refine wpl_bk rfl (.tmp 4) (.tmp 6) x.v x.m rfl rfl rfl ?_; clear tk3) | (have _t := tk2; refine wpl_putK x.v 0 x.m zM (.tmp 2) (.tmp 7) rfl HK0.out ?_ rfl rfl ?_; rfl; clear tk2))
  intro w3 X3 G3
  have C3 : Hid (Below w.heap.size w w3) := hide (below_grown HB0.out G3 (by omega) (by simp; omega))
  have HX3 := hide X3
  clear X3 G3 HB0 HK0 A0 c0
  go_wp2
  exact bodyPost_ret (res_key rfl rfl HX3.out) rfl ⟨rfl, C3.out⟩
end Go.Proofs.Ytjlmheecefobaaa
