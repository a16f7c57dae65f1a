/- Contracts: Add, Remove, Native as the document has them. · Contracts: Members, of both; SameInts. · Memory: addresses, entries and steps as cells; rows of entries; how worlds grow. · Contracts of the small functions: numbers of addresses and their order, of the program and of the document; equality; next, way, isMoment, mayBe, right. · Contracts of Compare, mayBe, right; the program's table in memory; next, way, first. · The program's table in memory; next, way, first. · The program's table; contract of place. · The document's table in memory; rows of entries that grow. · Contract of set: one that is there. · Contract of set. · Contracts of takeOut and Remove. · Contract of Look. · Contracts of mayBe and right; the program's table in memory; next, way, first. -/
import Derived.Test.YtgpdjfaklcmoiaaDoorM00
import Derived.Deep.RegionLaw
import Derived.Deep.DrawnRows
import Derived.Test.YtgpdjfaklcmoiaaDoorM01
import Derived.Deep.RegionHeld3
import Derived.ChangeKeysEq
import Derived.Laws.BytesArg
import Derived.BigQuiet
import Derived.Deep.MidRow
import Derived.Laws.AppendOwnNone
import Derived.Laws.OwnMore
import Derived.Laws.StructEq
import Derived.OwnWalk
import Derived.WalkLawsBesides
import Derived.PlainAid
import Derived.WalkMore
/- Contracts: Add, Remove, Native as the document has them. -/
namespace Go.Proofs.YtgpdjfaklcmoiaaDoor
open Go.RowKit Go.PlainAid

theorem own_form {w : World} {base : Nat} {e : TypeId} {size : Nat} {v : Value} {n : Nat} {xs : List Value} (h : w.ownsRow base e size v n xs) : ∃ ao c, v = .slice ao n c := by
  rcases h.2 with ⟨h1, h2⟩ | ⟨b, cap, cur, h1, _⟩
  · exact ⟨none, 0, by rw [h1, h2]⟩
  · exact ⟨_, _, h1⟩
end Go.Proofs.YtgpdjfaklcmoiaaDoor
/- Contracts: Members, of both; SameInts. -/
namespace Go.Proofs.YtgpdjfaklcmoiaaDoor
open Go.RowKit Go.PlainAid

theorem mbs_yes {l : List Mm} {v : Int} {k : Nat} (h : hs l v k = true) : mbs l v (k + 1) = mbs l v k ++ [(k : Int)] := by
  rw [mbs, h]; rfl
theorem mbs_no {l : List Mm} {v : Int} {k : Nat} (h : hs l v k = false) : mbs l v (k + 1) = mbs l v k := by
  rw [mbs, h]; rfl
/-- Members so far. -/
structure Ms (w wr : World) (v : Value) (xs : List Int) : Prop where
  row : IRow wr w.heap.size v xs.length xs
  B : Below w.heap.size w wr
set_option maxRecDepth 100000 in
set_option maxHeartbeats 4000000 in
theorem members13 (h : Nat) (T : Tb) (v : Int) (w : World) (hv : I64 v) (P : PT w h T) :
    Calls Tryd.prog 67 #[.pointer (some ⟨h + 2, 0, none⟩), .int .i64 v] w fun e w' => ∃ ao c, e = .returned (.slice ao (mbs T.l v T.n).length c) ∧ Its w' w.heap.size ao (mbs T.l v T.n).length c (mbs T.l v T.n) ∧ Below w.heap.size w w' := by
  have c1 := P.bx.cell 1 _ rfl
  have hn := P.wf.n64
  have HP := hide P
  have HV := hide hv
  clear P hv
  go_enter Tryd.func67, Tryd.ntmps67
  go_wp2
  go_loopw [5, 6, 12] (fun s _ i wr => ∃ k : Nat, k ≤ T.n ∧ i = .int .i64 k ∧ Ms w wr s (mbs T.l v k)) (fun _ _ i _ => T.n - (intOf i).toNat)
  case atStart => exact ⟨0, Nat.zero_le _, rfl, ⟨IRow.nil _ _, Below.refl _ _⟩⟩
  case round =>
    obtain ⟨k, hk, rfl, M⟩ := hrel
    by_cases hlt : k < T.n
    · have hlt' : (k : Int) < T.n := by omega
      have HM := hide M
      have PW := hide (HP.out.on M.B)
      clear M c1
      go_wp2_with fail
      refine (isMember28 h T v k _ HV.out ⟨by omega, by omega⟩ PW.out).mono ?_
      rintro e w1 ⟨rfl, B1⟩
      have R1 := HM.out.row.on B1
      have BB := belowOn HM.out.B B1
      have hle := mbs_len T.l v k
      clear HM B1 PW
      rcases Bool.eq_false_or_eq_true (hs T.l v k) with hm | hm
      · rw [hm]
        have e1 := hide (mbs_yes hm)
        clear hm
        generalize mbs T.l v k = xs at *
        have R2 := hide (R1.alloc (.cells #[.int .i64 k] 3))
        have B2 := hide (belowOn BB (below_alloc w1 (.cells #[.int .i64 k] 3)))
        have hs2 : Hid (w.heap.size ≤ (w1.alloc (.cells #[.int .i64 k] 3)).heap.size) := hide B2.out.size
        have C2 : Hid ((w1.alloc (.cells #[.int .i64 k] 3)).cell? ⟨w1.heap.size, 0, none⟩ = some (.int .i64 k)) := hide (by rw [World.cell?_alloc_at _ _ _ _ rfl]; rfl)
        have hl1 : Hid (xs.length + 1 ≤ 100000) := hide (by omega)
        clear R1 BB
        have tk1 : True := trivial
        go_wp2_with (first | (have _t := tk1; at_builtin; refine wpl_iapp rfl (.tmp 19) (.tmp 21) rfl w.heap.size _ _ _ rfl R2.out _ k rfl C2.out hl1.out hs2.out ?_; clear tk1))
        intro v3 w3 R3 B3 _
        obtain ⟨ao3, c3, rfl, -⟩ := R3.its
        have M3 : Hid (Ms w w3 (.slice ao3 (xs.length + 1) c3) (xs ++ [(k : Int)])) := hide ⟨by simpa using R3, B2.out.trans B3⟩
        clear R3 B3 R2 B2 C2 hs2
        go_wp2
        go_roundw
        case rel => exact ⟨k + 1, by omega, by go_num, by rw [e1.out]; exact M3.out⟩
        case measure => simp [intOf]; omega
      · rw [hm]
        have e1 := hide (mbs_no hm)
        have M3 : Hid (Ms w w1 u5 (mbs T.l v k)) := hide ⟨R1, BB⟩
        clear hm R1 BB
        go_wp2
        go_roundw
        case rel => exact ⟨k + 1, by omega, by go_num, by rw [e1.out]; exact M3.out⟩
        case measure => simp [intOf]; omega
    · obtain rfl : k = T.n := by omega
      obtain ⟨ao, c, rfl, hI⟩ := M.row.its
      have HI := hide hI
      have HB := hide M.B
      clear M hI
      go_wp2
      go_ret
      exact ⟨ao, c, rfl, HI.out, HB.out⟩
end Go.Proofs.YtgpdjfaklcmoiaaDoor
/- Memory: addresses, entries and steps as cells; rows of entries; how worlds grow. -/
namespace Go.Proofs.YtgpdjfaklcmoiaaDoor
open Go.RowKit

theorem Tryd.cells103 : Tryd.prog.cellsOf 103 = 10 := by kernel_rfl
theorem Tryd.size103 : (Tryd.prog.info? 103).map (·.size) = some 10 := by kernel_rfl
/-- The cells of an address, of an entry, of a step. -/
def mcl (m : Mc) : List Value := [.int .u8 m.a, .int .u8 m.b, .int .u8 m.c, .int .u8 m.d, .int .u8 m.e, .int .u8 m.f]
def MC (m : Mc) : Array Value := (mcl m).toArray
def ecl (x : En) : List Value := .int .i64 x.v :: (mcl x.m ++ [.int .i64 x.p, .int .i64 x.t, .bool x.s])
def EC (x : En) : Array Value := (ecl x).toArray
structure St where
  d : Int
  v : Int
  m : Mc
  p : Int
  t : Int
  n : Int
def fscl (s : St) : List Value := .int .i64 s.d :: .int .i64 s.v :: (mcl s.m ++ [.int .i64 s.p, .int .i64 s.t, .int .i64 s.n])
def SC (s : St) : Array Value := (fscl s).toArray
theorem ecl_length (x : En) : (ecl x).length = 10 := rfl
theorem mcl_length (x : Mc) : (mcl x).length = 6 := rfl
theorem scl_length (x : St) : (fscl x).length = 11 := rfl
theorem EC_size (x : En) : (EC x).size = 10 := rfl
theorem EC0 (x : En) : (EC x)[0]? = some (.int .i64 x.v) := rfl
theorem EC1 (x : En) : (EC x)[1]? = some (.int .u8 x.m.a) := rfl
theorem EC2 (x : En) : (EC x)[2]? = some (.int .u8 x.m.b) := rfl
theorem EC3 (x : En) : (EC x)[3]? = some (.int .u8 x.m.c) := rfl
theorem EC4 (x : En) : (EC x)[4]? = some (.int .u8 x.m.d) := rfl
theorem EC5 (x : En) : (EC x)[5]? = some (.int .u8 x.m.e) := rfl
theorem EC6 (x : En) : (EC x)[6]? = some (.int .u8 x.m.f) := rfl
theorem EC7 (x : En) : (EC x)[7]? = some (.int .i64 x.p) := rfl
theorem EC8 (x : En) : (EC x)[8]? = some (.int .i64 x.t) := rfl
theorem EC9 (x : En) : (EC x)[9]? = some (.bool x.s) := rfl
theorem MC0 (m : Mc) : (MC m)[0]? = some (.int .u8 m.a) := rfl
theorem MC1 (m : Mc) : (MC m)[1]? = some (.int .u8 m.b) := rfl
theorem MC2 (m : Mc) : (MC m)[2]? = some (.int .u8 m.c) := rfl
theorem MC3 (m : Mc) : (MC m)[3]? = some (.int .u8 m.d) := rfl
theorem MC4 (m : Mc) : (MC m)[4]? = some (.int .u8 m.e) := rfl
theorem MC5 (m : Mc) : (MC m)[5]? = some (.int .u8 m.f) := rfl
theorem SC0 (s : St) : (SC s)[0]? = some (.int .i64 s.d) := rfl
theorem SC1 (s : St) : (SC s)[1]? = some (.int .i64 s.v) := rfl
theorem SC8 (s : St) : (SC s)[8]? = some (.int .i64 s.p) := rfl
theorem SC9 (s : St) : (SC s)[9]? = some (.int .i64 s.t) := rfl
theorem SC10 (s : St) : (SC s)[10]? = some (.int .i64 s.n) := rfl
theorem ZE : (#[.int .i64 0, .int .u8 0, .int .u8 0, .int .u8 0, .int .u8 0, .int .u8 0, .int .u8 0, .int .i64 0, .int .i64 0, .bool false] : Array Value) = EC zE := rfl
theorem one_ecl (x : En) : ∀ v ∈ ecl x, v.oneCell' = true := by
  intro v hv
  simp only [ecl, mcl, List.mem_cons, List.mem_append, List.not_mem_nil, or_false] at hv
  rcases hv with rfl | (rfl | rfl | rfl | rfl | rfl | rfl) | rfl | rfl | rfl <;> rfl
theorem one_EC (x : En) : (EC x).all (·.oneCell') = true := all_oneCell_toArray (one_ecl x)
/-- Entries in a row. -/
def es (l : List En) : List Value := l.flatMap ecl
theorem es_length : ∀ l : List En, (es l).length = l.length * 10
  | [] => rfl
  | x :: r => by
    have := es_length r
    unfold es at this ⊢
    rw [List.flatMap_cons, List.length_append, this, ecl_length, List.length_cons]
    omega
theorem es_append (a b : List En) : es (a ++ b) = es a ++ es b := by simp [es]
theorem es_cons (x : En) (r : List En) : es (x :: r) = ecl x ++ es r := rfl
theorem es_parts {l : List En} {j : Nat} {x : En} (h : l[j]? = some x) : es l = es (l.take j) ++ (ecl x ++ es (l.drop (j + 1))) := by
  obtain ⟨hl, e⟩ := List.getElem?_eq_some_iff.1 h
  rw [← es_cons, ← es_append]
  congr 1
  rw [← e, List.getElem_cons_drop, List.take_append_drop]
theorem es_set {l : List En} {j : Nat} {x : En} (y : En) (h : l[j]? = some x) : es (l.set j y) = es (l.take j) ++ (ecl y ++ es (l.drop (j + 1))) := by
  obtain ⟨hl, e⟩ := List.getElem?_eq_some_iff.1 h
  have h2 : (l.set j y)[j]? = some y := by rw [List.getElem?_set_self hl]
  rw [es_parts h2, List.take_set_of_le (Nat.le_refl _), List.drop_set_of_lt (by omega)]
theorem es_take_len {l : List En} {j : Nat} {x : En} (h : l[j]? = some x) : (es (l.take j)).length = j * 10 := by
  have := (List.getElem?_eq_some_iff.1 h).1
  rw [es_length, List.length_take]; omega
theorem Box.ent {w : World} {k : Nat} {l : List En} (h : Box w k (es l)) {j : Nat} {x : En} (hj : l[j]? = some x) : w.rangeAt k (j * 10) (ecl x) := by
  have h1 := h.at_
  rw [es_parts hj] at h1
  exact rangeAt_left (rangeAt_right h1 (by rw [es_take_len hj]; omega))
theorem ent_mac {w : World} {k o : Nat} {x : En} (h : w.rangeAt k o (ecl x)) : w.rangeAt k (o + 1) (mcl x.m) :=
  rangeAt_left (rangeAt_right (A := [.int .i64 x.v]) (B := mcl x.m ++ [.int .i64 x.p, .int .i64 x.t, .bool x.s]) h rfl)
theorem Box.putE {w : World} {k : Nat} {l : List En} (h : Box w k (es l)) {j : Nat} {x : En} (hj : l[j]? = some x) (y : En) : Box (w.setCells k (j * 10) (ecl y)) k (es (l.set j y)) := by
  rw [es_parts hj] at h
  rw [es_set y hj]
  exact h.put (by rw [ecl_length, ecl_length]) (es_take_len hj)
theorem Box.thE {w : World} {k : Nat} {l : List En} (h : Box w k (es l)) {j : Nat} (hj : j < l.length) : w.there k (j * 10) 10 := fun i hi => by
  have := h.th (j * 10 + i) (by rw [es_length]; omega)
  rw [Nat.zero_add] at this
  exact this
theorem wpl_mac {ops : Array Oper} {rest : List Oper} {op : Oper} {a : Act} {w : World} {Q : Exit → Act → World → Prop} {k o : Nat} {i : Mc} (x : Operand) (ho : op.op = .load 23 x) (hA : w.rangeAt k o (mcl i)) (hw : Region.wanted op (yielded ops a.tmps) = true) (hx : a.eval x = .pointer (some ⟨k, o, none⟩))
    (h : wpList Tryd.prog ops Q rest (a.put op.dst (.agg (MC i))) w) : wpList Tryd.prog ops Q (op :: rest) a w :=
  wpl_load 23 x ho k o _ _ hA Tryd.underlying23 rfl Tryd.size23 hw hx h
theorem wpl_ent {ops : Array Oper} {rest : List Oper} {op : Oper} {a : Act} {w : World} {Q : Exit → Act → World → Prop} {k o : Nat} {i : En} (x : Operand) (ho : op.op = .load 103 x) (hA : w.rangeAt k o (ecl i)) (hw : Region.wanted op (yielded ops a.tmps) = true) (hx : a.eval x = .pointer (some ⟨k, o, none⟩))
    (h : wpList Tryd.prog ops Q rest (a.put op.dst (.agg (EC i))) w) : wpList Tryd.prog ops Q (op :: rest) a w :=
  wpl_load 103 x ho k o _ _ hA Tryd.underlying103 rfl Tryd.size103 hw hx h
theorem Box.self {w : World} {k : Nat} {cs cs' : List Value} (h : Box w k cs) (hl : cs'.length = cs.length) : Box (w.setCells k 0 cs') k cs' := by
  have hb := Box.put (w := w) (k := k) (o := 0) (A := []) (B := cs) (C := []) (B' := cs') (by simpa using h) hl rfl
  rw [List.append_nil, List.nil_append] at hb
  exact hb
/-- An entry is stored into a variable of its own. -/
theorem wpl_putE {ops : Array Oper} {rest : List Oper} {op : Oper} {a : Act} {w : World} {Q : Exit → Act → World → Prop} {k : Nat} (p m : En) (x y : Operand) (ho : op.op = .store 103 x y) (ht : Box w k (ecl m)) (hw : Region.wanted op (yielded ops a.tmps) = true) (hx : a.eval x = .pointer (some ⟨k, 0, none⟩)) (hy : a.eval y = .agg (EC p))
    (h : ∀ w', Box w' k (ecl p) → w.grownBy w' (some k) → wpList Tryd.prog ops Q rest (a.put op.dst undef) w') : wpList Tryd.prog ops Q (op :: rest) a w :=
  wpList_step fun K hK => by
    rw [if_pos hw]
    exact wp_store_mid 103 x y ho k 0 (EC p) hx hy ht.th Tryd.size103 (one_EC p) (hK _ _ (h _ (ht.self rfl) (setCells_grown k _ 0 w)))
/-- .. and into its place in a row. -/
theorem wpl_putR {ops : Array Oper} {rest : List Oper} {op : Oper} {a : Act} {w : World} {Q : Exit → Act → World → Prop} {k : Nat} (l : List En) (j : Nat) (p : En) (x y : Operand) (ho : op.op = .store 103 x y) (ht : Box w k (es l)) (hj : j < l.length) (hw : Region.wanted op (yielded ops a.tmps) = true) (hx : a.eval x = .pointer (some ⟨k, j * 10, none⟩)) (hy : a.eval y = .agg (EC p))
    (h : ∀ w', Box w' k (es (l.set j p)) → w.grownBy w' (some k) → wpList Tryd.prog ops Q rest (a.put op.dst undef) w') : wpList Tryd.prog ops Q (op :: rest) a w :=
  wpList_step fun K hK => by
    rw [if_pos hw]
    exact wp_store_mid 103 x y ho k (j * 10) (EC p) hx hy (ht.thE hj) Tryd.size103 (one_EC p) (hK _ _ (h _ (ht.putE (List.getElem?_eq_getElem hj) p) (setCells_grown k _ _ w)))
end Go.Proofs.YtgpdjfaklcmoiaaDoor
/- Contracts of the small functions: numbers of addresses and their order, of the program and of the document; equality; next, way, isMoment, mayBe, right. -/
namespace Go.Proofs.YtgpdjfaklcmoiaaDoor
open Go.RowKit Go.PlainAid

/-- Which of two numbers is less. -/
def cmp3 (x y : Int) : Int := if x < y then -1 else if y < x then 1 else 0
theorem cmp3_lt {x y : Int} (h : x < y) : cmp3 x y = -1 := by simp [cmp3, h]
theorem cmp3_gt {x y : Int} (h : y < x) : cmp3 x y = 1 := by simp [cmp3, h]; omega
theorem cmp3_eq {x y : Int} (h : ¬ x < y) (k : ¬ y < x) : cmp3 x y = 0 := by simp [cmp3, h, k]
theorem Tryd.info5s : (Tryd.prog.info? 5).isSome = true := by kernel_rfl
theorem Tryd.info5e : ∃ i, Tryd.prog.info? 5 = some i := Option.isSome_iff_exists.1 Tryd.info5s
/-- 'x << 8 | b' of a uint64 that has room. -/
theorem or8 (x b : Int) (h0 : 0 ≤ x) (h1 : x < 1099511627776) (g0 : 0 ≤ b) (g1 : b < 256) :
    bits .or .u64 (IntKind.u64.wrap (x * 256)) (IntKind.u64.wrap b) = x * 256 + b := by
  have e1 : IntKind.u64.wrap (x * 256) = x * 256 := IntWalk.u64_in _ (by omega)
  have e2 : IntKind.u64.wrap b = b := IntWalk.u64_in _ (by omega)
  rw [e1, e2, u64_or _ _ (by omega) (by omega) (by omega) (by omega), nat_join 8 _ _ (by omega) (by omega)]
  omega
theorem or0 (b : Int) (g0 : 0 ≤ b) (g1 : b < 256) : bits .or .u64 0 (IntKind.u64.wrap b) = b := by
  have e2 : IntKind.u64.wrap b = b := IntWalk.u64_in _ (by omega)
  rw [e2, u64_or _ _ (by omega) (by omega) (by omega) (by omega), nat_join 8 _ _ (by omega) (by omega)]
  omega
theorem or_num {m : Mc} (h : Mok m) :
    bits .or .u64 (IntKind.u64.wrap (bits .or .u64 (IntKind.u64.wrap (bits .or .u64 (IntKind.u64.wrap (bits .or .u64 (IntKind.u64.wrap (bits .or .u64 (IntKind.u64.wrap (bits .or .u64 0 (IntKind.u64.wrap m.a) * 256)) (IntKind.u64.wrap m.b) * 256)) (IntKind.u64.wrap m.c) * 256)) (IntKind.u64.wrap m.d) * 256)) (IntKind.u64.wrap m.e) * 256)) (IntKind.u64.wrap m.f) = num m := by
  obtain ⟨l0, u0, l1, u1, l2, u2, l3, u3, l4, u4, l5, u5⟩ := h
  rw [or0 _ l0 u0, or8 _ m.b (by omega) (by omega) l1 u1, or8 _ m.c (by omega) (by omega) l2 u2, or8 _ m.d (by omega) (by omega) l3 u3, or8 _ m.e (by omega) (by omega) l4 u4, or8 _ m.f (by omega) (by omega) l5 u5]
  rfl
set_option maxRecDepth 100000 in
theorem eqMacD (d : Nat) (x y : Mc) (w : World) : (Op.equalIn (d + 2) 23 (.agg (MC x)) (.agg (MC y))).run Tryd.prog w = .ok (eqM x y) w := by
  obtain ⟨i, hi⟩ := Tryd.info5e
  rw [show d + 2 = (d + 1) + 1 from rfl, run_equalIn_array w (d + 1) _ _ Tryd.underlying23 hi, Tryd.cells5]
  have p0 : ∀ (x : Mc) (w : World), (part 5 (MC x) 0).run Tryd.prog w = .ok (.int .u8 x.a) w := fun _ _ => by kernel_rfl
  have p1 : ∀ (x : Mc) (w : World), (part 5 (MC x) 1).run Tryd.prog w = .ok (.int .u8 x.b) w := fun _ _ => by kernel_rfl
  have p2 : ∀ (x : Mc) (w : World), (part 5 (MC x) 2).run Tryd.prog w = .ok (.int .u8 x.c) w := fun _ _ => by kernel_rfl
  have p3 : ∀ (x : Mc) (w : World), (part 5 (MC x) 3).run Tryd.prog w = .ok (.int .u8 x.d) w := fun _ _ => by kernel_rfl
  have p4 : ∀ (x : Mc) (w : World), (part 5 (MC x) 4).run Tryd.prog w = .ok (.int .u8 x.e) w := fun _ _ => by kernel_rfl
  have p5 : ∀ (x : Mc) (w : World), (part 5 (MC x) 5).run Tryd.prog w = .ok (.int .u8 x.f) w := fun _ _ => by kernel_rfl
  have pe : ∀ (x y : Int) (w : World), (Op.equalIn (d + 1) 5 (.int .u8 x) (.int .u8 y)).run Tryd.prog w = .ok (x == y) w := fun x y w => run_equalIn_int w d 5 _ _ x y Tryd.underlying5
  simp [Op.eqItems, show List.range 6 = [0, 1, 2, 3, 4, 5] from rfl, p0, p1, p2, p3, p4, p5, pe, eqM]
  by_cases e0 : x.a = y.a
  · by_cases e1 : x.b = y.b
    · by_cases e2 : x.c = y.c
      · by_cases e3 : x.d = y.d
        · by_cases e4 : x.e = y.e
          · by_cases e5 : x.f = y.f <;> simp [e0, e1, e2, e3, e4, e5]
          · simp [e0, e1, e2, e3, e4]
        · simp [e0, e1, e2, e3]
      · simp [e0, e1, e2]
    · simp [e0, e1]
  · simp [e0]
theorem eqMac (x y : Mc) (w : World) : (Op.equalIn 10000 23 (.agg (MC x)) (.agg (MC y))).run Tryd.prog w = .ok (eqM x y) w := eqMacD 9998 x y w
def eqT (d : Nat) (xs ys : Array Value) : List (Bool × TypeId × Nat) → Sem Bool
  | [] => pure true
  | (b, t, o) :: r =>
    if b = true then do
      let a ← part t xs o
      let c ← part t ys o
      let q ← Op.equalIn d t a c
      if (!q) = true then pure false else eqT d xs ys r
    else eqT d xs ys r
theorem eqT_of (d : Nat) (xs ys : Array Value) : ∀ fs : List Field, Op.eqFields d xs ys fs = eqT d xs ys (fs.map fun f => (decide (f.name ≠ "_"), f.type, f.offset))
  | [] => rfl
  | f :: fs => by
    have ih := eqT_of d xs ys fs
    simp only [Op.eqFields, eqT, List.map_cons, decide_eq_true_eq, ih]
theorem Tryd.fl103 : (Tryd.prog.fieldsOf 103).toList.map (fun f => (decide (f.name ≠ "_"), f.type, f.offset)) = [(true, 3, 0), (true, 23, 1), (true, 3, 7), (true, 3, 8), (true, 4, 9)] := by kernel_rfl
theorem Tryd.st103 : Tryd.prog.stoodInHeld 103 = false := by kernel_rfl
theorem run_if_and (w : World) (b c : Bool) (s : Sem Bool) (fhs : s.run Tryd.prog w = .ok c w) : (if (!b) = true then (pure false : Sem Bool) else s).run Tryd.prog w = .ok (b && c) w := by
  cases b
  · simp
  · simpa using fhs
set_option maxRecDepth 100000 in
theorem eqEnt (x y : En) (w : World) : (Op.equalIn 10000 103 (.agg (EC x)) (.agg (EC y))).run Tryd.prog w = .ok (eqE x y) w := by
  rw [show 10000 = 9999 + 1 from rfl, run_equalIn_struct w 9999 103 (EC x) (EC y) (by kernel_rfl) Tryd.st103, eqT_of, Tryd.fl103]
  have p0 : ∀ (x : En) (w : World), (part 3 (EC x) 0).run Tryd.prog w = .ok (.int .i64 x.v) w := fun _ _ => by kernel_rfl
  have p1 : ∀ (x : En) (w : World), (part 23 (EC x) 1).run Tryd.prog w = .ok (.agg (MC x.m)) w := fun _ _ => by kernel_rfl
  have p7 : ∀ (x : En) (w : World), (part 3 (EC x) 7).run Tryd.prog w = .ok (.int .i64 x.p) w := fun _ _ => by kernel_rfl
  have p8 : ∀ (x : En) (w : World), (part 3 (EC x) 8).run Tryd.prog w = .ok (.int .i64 x.t) w := fun _ _ => by kernel_rfl
  have p9 : ∀ (x : En) (w : World), (part 4 (EC x) 9).run Tryd.prog w = .ok (.bool x.s) w := fun _ _ => by kernel_rfl
  have pe : ∀ (x y : Int) (w : World), (Op.equalIn 9999 3 (.int .i64 x) (.int .i64 y)).run Tryd.prog w = .ok (x == y) w := fun x y w => run_equalIn_int w 9998 3 _ _ x y Tryd.underlying3
  have pb : ∀ (x y : Bool) (w : World), (Op.equalIn 9999 4 (.bool x) (.bool y)).run Tryd.prog w = .ok (x == y) w := fun x y w => by cases x <;> cases y <;> kernel_rfl
  have pm := eqMacD 9997
  simp only [eqT, if_true, Sem.run_bind, p0, pe, Result.andThen_ok]
  refine run_if_and w _ _ _ ?_
  simp only [Sem.run_bind, p1, pm, Result.andThen_ok]
  refine run_if_and w _ _ _ ?_
  simp only [Sem.run_bind, p7, pe, Result.andThen_ok]
  refine run_if_and w _ _ _ ?_
  simp only [Sem.run_bind, p8, pe, Result.andThen_ok]
  refine run_if_and w _ _ _ ?_
  simp only [Sem.run_bind, p9, pb, Result.andThen_ok]
  cases x.s == y.s <;> rfl
section
attribute [local go_sem] MC0 MC1 MC2 MC3 MC4 MC5
set_option maxRecDepth 100000 in
set_option maxHeartbeats 400000 in
theorem num59 (m : Mc) (w : World) (h : Mok m) : Calls Tryd.prog 77 #[.agg (MC m)] w fun e w' => e = .returned (.int .u64 (num m)) ∧ Below w.heap.size w w' := by
  go_enter Tryd.func77, Tryd.ntmps77
  go_wp2
  go_rounds 7
  go_ret
  exact ⟨ret_int (or_num h), by go_grown⟩
theorem odd_and (x : Int) (h0 : 0 ≤ x) (h1 : x < 256) : (bits .and .u8 x 1 == 1) = (x % 2 == 1) := by
  have : ∀ k : Fin 256, (bits .and .u8 (k.val : Int) 1 == 1) = ((k.val : Int) % 2 == 1) := by decide +kernel
  have := this ⟨x.toNat, by omega⟩
  rwa [show ((⟨x.toNat, by omega⟩ : Fin 256).val : Int) = x by simp; omega] at this
set_option maxRecDepth 100000 in
set_option maxHeartbeats 400000 in
theorem group53 (m : Mc) (w : World) (h : Mok m) : Calls Tryd.prog 56 #[.agg (MC m)] w fun e w' => e = .returned (.bool (grp m)) ∧ Below w.heap.size w w' := by
  have e := odd_and m.a h.a0 h.a1
  go_enter Tryd.func56, Tryd.ntmps56
  go_wp2
  go_ret
  exact ⟨ret_bool (by first | exact e | rfl | simp [grp]), by go_grown⟩
end
set_option maxRecDepth 100000 in
set_option maxHeartbeats 400000 in
theorem moment32 (t : Int) (w : World) : Calls Tryd.prog 72 #[.int .i64 t] w fun e w' => e = .returned (.bool (isT t)) ∧ w' = w := by
  by_cases h1 : 0 ≤ t
  · by_cases h2 : t ≤ 1099511627776
    all_goals
      go_enter Tryd.func72, Tryd.ntmps72
      go_wp2
      go_ret
      exact ⟨ret_bool (by simp [isT, h1, h2]), rfl⟩
  · go_enter Tryd.func72, Tryd.ntmps72
    go_wp2
    go_ret
    exact ⟨ret_bool (by simp [isT]; omega), rfl⟩
attribute [local go_sem] ZE
set_option maxRecDepth 100000 in
set_option maxHeartbeats 400000 in
theorem free27 (x : En) (w : World) : Calls Tryd.prog 59 #[.agg (EC x)] w fun e w' => e = .returned (.bool (fre x)) ∧ Below w.heap.size w w' := by
  have he := fun w => eqEnt x zE w
  have A0 := (Box.new w (ecl x) 103).at_
  have tk1 : True := trivial
  go_enter Tryd.func59, Tryd.ntmps59
  go_wp2_with (first | (have _t := tk1; refine wpl_ent (.tmp 1) rfl A0 ?_ ?_ ?_; rfl; rfl; clear tk1))
  go_ret
  exact ⟨rfl, by go_grown⟩
end Go.Proofs.YtgpdjfaklcmoiaaDoor
/- Contracts of Compare, mayBe, right; the program's table in memory; next, way, first. -/
namespace Go.Proofs.YtgpdjfaklcmoiaaDoor
open Go.RowKit Go.PlainAid

theorem eqM_num {x y : Mc} (h : Mok x) (k : Mok y) : eqM x y = (num x == num y) := by
  rw [Bool.eq_iff_iff, eqM_iff, beq_iff_eq]
  exact ⟨fun e => by rw [e], num_inj h k⟩
theorem box_two (w : World) (a b : List Value) (e : TypeId) : Box ((w.alloc (.cells a.toArray e)).alloc (.cells b.toArray e)) w.heap.size a ∧ Box ((w.alloc (.cells a.toArray e)).alloc (.cells b.toArray e)) (w.heap.size + 1) b := by
  refine ⟨(Box.new w a e).alloc _, ?_⟩
  have h := Box.new (w.alloc (.cells a.toArray e)) b e
  rw [World.size_alloc] at h
  exact h
theorem box_m2 (w : World) (x y : Mc) : Box ((w.alloc (.cells (MC x) 23)).alloc (.cells (MC y) 23)) w.heap.size (mcl x) ∧ Box ((w.alloc (.cells (MC x) 23)).alloc (.cells (MC y) 23)) (w.heap.size + 1) (mcl y) := box_two w (mcl x) (mcl y) 23
theorem box_m (w : World) (x : Mc) : Box (w.alloc (.cells (MC x) 23)) w.heap.size (mcl x) := Box.new w (mcl x) 23
theorem box_e (w : World) (x : En) : Box (w.alloc (.cells (EC x) 103)) w.heap.size (ecl x) := Box.new w (ecl x) 103
theorem mc_cells {w : World} {k : Nat} {m : Mc} (h : Box w k (mcl m)) : w.cell? ⟨k, 0, none⟩ = some (.int .u8 m.a) ∧ w.cell? ⟨k, 1, none⟩ = some (.int .u8 m.b) ∧ w.cell? ⟨k, 2, none⟩ = some (.int .u8 m.c) ∧ w.cell? ⟨k, 3, none⟩ = some (.int .u8 m.d) ∧ w.cell? ⟨k, 4, none⟩ = some (.int .u8 m.e) ∧ w.cell? ⟨k, 5, none⟩ = some (.int .u8 m.f) :=
  ⟨h.cell 0 _ rfl, h.cell 1 _ rfl, h.cell 2 _ rfl, h.cell 3 _ rfl, h.cell 4 _ rfl, h.cell 5 _ rfl⟩
section
attribute [local go_sem] MC0 MC1 MC2 MC3 MC4 MC5
end
end Go.Proofs.YtgpdjfaklcmoiaaDoor
/- The program's table in memory; next, way, first. -/
namespace Go.Proofs.YtgpdjfaklcmoiaaDoor
open Go.RowKit Go.PlainAid

/-- The first place of a VLAN and an address. -/
def fsI (n : Nat) (v : Int) (m : Mc) : Int := wrap64 ((IntKind.u64.wrap (bits .xor .u64 (IntKind.u64.wrap (num m * 4096)) (IntKind.u64.wrap v) * 11400714819323198485) / 4294967296).tmod (2 * (n : Int)))
def fs (n : Nat) (v : Int) (m : Mc) : Nat := (fsI n v m).toNat
theorem fsI_in (n : Nat) (v : Int) (m : Mc) (h1 : 1 ≤ n) (h2 : n ≤ 1024) : 0 ≤ fsI n v m ∧ fsI n v m < 2 * n := by
  unfold fsI
  rw [IntKind.wrap_u64]
  generalize bits .xor .u64 (IntKind.u64.wrap (num m * 4096)) (IntKind.u64.wrap v) * 11400714819323198485 = x
  have h3 : 0 ≤ x % 18446744073709551616 / 4294967296 := by omega
  rw [Int.tmod_eq_emod_of_nonneg h3]
  have h4 := Int.emod_nonneg (x % 18446744073709551616 / 4294967296) (show (2 * (n : Int)) ≠ 0 by omega)
  have h5 := Int.emod_lt_of_pos (x % 18446744073709551616 / 4294967296) (show 0 < 2 * (n : Int) by omega)
  rw [IntWalk.wrap64_in _ (by omega)]
  exact ⟨h4, h5⟩
theorem fsI_eq (n : Nat) (v : Int) (m : Mc) (h1 : 1 ≤ n) (h2 : n ≤ 1024) : fsI n v m = fs n v m := by
  have := fsI_in n v m h1 h2
  unfold fs; omega
theorem fs_lt (n : Nat) (v : Int) (m : Mc) (h1 : 1 ≤ n) (h2 : n ≤ 1024) : fs n v m < 2 * n := by
  have := fsI_in n v m h1 h2
  unfold fs; omega
def hf (n : Nat) (x : En) : Nat := fs n x.v x.m
theorem nt_mod {n a : Nat} (h : a < n) : ((a : Int) + 1) % n = nt n a := by
  unfold nt
  split
  · have : ((a : Int) + 1) = n := by omega
    rw [this, Int.emod_self]; rfl
  · rw [Int.emod_eq_of_lt (by omega) (by omega)]; rfl
theorem wy_mod {n a b : Nat} (ha : a < n) (hb : b < n) : ((b : Int) - a + n) % n = wy n a b := by
  unfold wy
  rw [Int.add_emod_right]
  split
  · rw [Int.emod_eq_of_lt (by omega) (by omega)]; omega
  · rw [← Int.add_emod_right, Int.emod_eq_of_lt (by omega) (by omega)]; omega
/-- The cells of the program's table. -/
def tcl (h n u : Nat) : List Value := [.slice (some ⟨h, 0, none⟩) (2 * n) (2 * n), .int .i64 n, .int .i64 u]
theorem wrap_nat (k : Nat) (h : k < 100000) : IntKind.i64.wrap (k : Int) = k := IntWalk.i64_in _ (by omega)
set_option maxRecDepth 100000 in
set_option maxHeartbeats 1000000 in
theorem next47 (h n u a : Nat) (w : World) (hn : 1 ≤ n) (hn2 : n ≤ 1024) (H : Box w (h + 1) (tcl h n u)) (ha : a < 2 * n) :
    Calls Tryd.prog 75 #[.pointer (some ⟨h + 1, 0, none⟩), .int .i64 a] w fun e w' => e = .returned (.int .i64 (nt (2 * n) a)) ∧ w' = w := by
  have c0 := H.cell 0 _ rfl
  have e1 : IntKind.i64.wrap ((a : Int) + 1) = (a : Int) + 1 := IntWalk.i64_in _ (by omega)
  have h0 : ¬ ((2 * n : Nat) : Int) = 0 := by omega
  clear H
  go_enter Tryd.func75, Tryd.ntmps75
  go_wp2
  go_ret
  have e2 := nt_mod ha
  rw [Int.natCast_mul] at e2
  exact ⟨ret_int e2, rfl⟩
set_option maxRecDepth 100000 in
set_option maxHeartbeats 1000000 in
theorem first46 (h n u : Nat) (v : Int) (m : Mc) (w : World) (hm : Mok m) (hn : 1 ≤ n) (hn2 : n ≤ 1024) (H : Box w (h + 1) (tcl h n u)) :
    Calls Tryd.prog 74 #[.pointer (some ⟨h + 1, 0, none⟩), .int .i64 v, .agg (MC m)] w fun e w' => e = .returned (.int .i64 (fs n v m)) ∧ Below w.heap.size w w' := by
  have A0 := (box_m w m).at_
  have W0 : Hid (Below w.heap.size w (w.alloc (.cells (MC m) 23))) := hide (below_alloc w _)
  have HH := hide H
  have h0 : ¬ ((2 * n : Nat) : Int) = 0 := by omega
  have tk1 : True := trivial
  clear H
  go_enter Tryd.func74, Tryd.ntmps74
  go_wp2_with (first | (have _t := tk1; refine wpl_mac (.tmp 5) rfl A0 ?_ ?_ ?_; rfl; rfl; clear tk1) | (go_at_call 77; refine (num59 m _ hm).mono ?_; rintro e w1 ⟨rfl, hb⟩; have c0 := ((HH.out.on W0.out).on hb).cell 0 _ rfl))
  go_ret
  exact ⟨ret_int (fsI_eq n v m hn hn2), belowOn W0.out hb⟩
end Go.Proofs.YtgpdjfaklcmoiaaDoor
/- The program's table; contract of place. -/
namespace Go.Proofs.YtgpdjfaklcmoiaaDoor
open Go.RowKit Go.PlainAid

/-- The program's table: its places in block h, itself behind them. -/
structure PF (w : World) (h : Nat) (ps : List En) (T : FT) : Prop where
  bx : Box w (h + 1) (tcl h T.n T.l.length)
  pl : Box w h (es ps)
  rp : Rp (2 * T.n) (hf T.n) ps T.l
  wf : FW T
theorem PF.keep {w w1 : World} {h : Nat} {ps : List En} {T : FT} (H : PF w h ps T) (e : ∀ k, h ≤ k → k < h + 2 → w1.heap[k]? = w.heap[k]?) : PF w1 h ps T :=
  ⟨H.bx.block (e _ (by omega) (by omega)), H.pl.block (e _ (by omega) (by omega)), H.rp, H.wf⟩
theorem PF.lt {w : World} {h : Nat} {ps : List En} {T : FT} (H : PF w h ps T) : h + 2 ≤ w.heap.size := by have := H.bx.lt; omega
theorem PF.below {w w1 : World} {h g : Nat} {ps : List En} {T : FT} (H : PF w h ps T) (hb : Below g w w1) (hg : h + 2 ≤ g) : PF w1 h ps T := H.keep (fun k _ h2 => hb.block k (by omega))
theorem PF.on {w w1 : World} {h : Nat} {ps : List En} {T : FT} (H : PF w h ps T) (hb : Below w.heap.size w w1) : PF w1 h ps T := H.below hb H.lt
theorem PF.drew {w : World} {h : Nat} {ps : List En} {T : FT} (H : PF w h ps T) : PF w.drew h ps T := H.keep (fun _ _ _ => rfl)
theorem PF.alloc {w : World} {h : Nat} {ps : List En} {T : FT} (H : PF w h ps T) (o : Obj) : PF (w.alloc o) h ps T := H.on (below_alloc w o)
theorem PF.get {w : World} {h : Nat} {ps : List En} {T : FT} (H : PF w h ps T) {j : Nat} (hj : j < 2 * T.n) : ∃ x, ps[j]? = some x ∧ w.rangeAt h (j * 10) (ecl x) := by
  obtain ⟨x, hx⟩ : ∃ x, ps[j]? = some x := ⟨_, List.getElem?_eq_getElem (by rw [H.rp.len]; exact hj)⟩
  exact ⟨x, hx, H.pl.ent hx⟩
theorem mac_of {w : World} {k : Nat} {x : En} (h : Box w k (ecl x)) : w.rangeAt k 1 (mcl x.m) := by
  have := ent_mac h.at_
  rwa [Nat.zero_add] at this
theorem PF.fr {w : World} {h : Nat} {ps : List En} {T : FT} (H : PF w h ps T) : ∃ j : Nat, j < 2 * T.n ∧ ps[j]? = some zE := H.rp.free (by have := H.wf.le; have := H.wf.n1; omega)
/-- Not all places are gone past. -/
theorem go_room {n H a : Nat} {ps : List En} (hH : H < n) (ha : a < n) (hf : ∃ j : Nat, j < n ∧ ps[j]? = some zE) {x : En} (hx : ps[a]? = some x) (hxo : x ≠ zE) (hg : ∀ q, q < n → wy n H q < wy n H a → ∃ y, ps[q]? = some y ∧ y ≠ zE) : wy n H a + 1 < n := by
  obtain ⟨q, hq, hz⟩ := hf
  have h1 := wy_lt hH ha
  have h2 := wy_lt hH hq
  rcases Nat.lt_or_ge (wy n H a + 1) n with c | c
  · exact c
  · exfalso
    by_cases d : wy n H q < wy n H a
    · obtain ⟨y, hy, hyo⟩ := hg q hq d
      rw [hz] at hy; cases hy; exact hyo rfl
    · rw [wy_inj hH hq ha (by omega), hx] at hz
      cases hz; exact hxo rfl
theorem up3 {N : Nat} {w0 wr w2 w3 : World} {o : Obj} (hB : Below N w0 wr) (hg : (wr.alloc o).grownBy w2 (some wr.heap.size)) (hb : Below w2.heap.size w2 w3) (hN : N ≤ w0.heap.size := by simp) : Below N w0 w3 := by
  have h1 := hB.size
  have h2 : Below N w0 (wr.alloc o) := hB.alloc (by omega) o
  have h3 := below_grown h2 hg (by omega) (by simp; omega)
  exact h3.trans (hb.mono (by have := h3.size; omega))
attribute [local go_sem] ZE
set_option maxRecDepth 100000 in
set_option maxHeartbeats 2000000 in
theorem place26 (h : Nat) (ps : List En) (T : FT) (v : Int) (m : Mc) (w : World) (hm : Mok m) (H : PF w h ps T) :
    Calls Tryd.prog 58 #[.pointer (some ⟨h + 1, 0, none⟩), .int .i64 v, .agg (MC m)] w fun e w' => ∃ a : Nat, e = .returned (.int .i64 a) ∧ Pl (2 * T.n) ps (fs T.n v m) v m a ∧ Below w.heap.size w w' := by
  have A0 := (box_m w m).at_
  have n1 := H.wf.n1
  have n2 := H.wf.n2
  have hfs := fs_lt T.n v m n1 n2
  have W0 : Hid (Below w.heap.size w (w.alloc (.cells (MC m) 23))) := hide (below_alloc w _)
  have HH := hide H
  have HA := hide (box_m w m)
  have q1 := fun w H => first46 h T.n T.l.length v m w hm n1 n2 H
  have tk1 : True := trivial
  have HM := hide hm
  clear H hm
  go_enter Tryd.func58, Tryd.ntmps58
  go_wp2
  go_step3
  go_wp2_with (first | (have _t := tk1; refine wpl_mac (.tmp 5) rfl A0 ?_ ?_ ?_; rfl; rfl; clear tk1) | (go_at_call 74; refine (q1 _ (HH.out.on W0.out).bx).mono ?_; rintro e w1 ⟨rfl, hb⟩))
  have B1 : Hid (Below (w.heap.size + 1) (w.alloc (.cells (MC m) 23)) w1) := hide (by rw [← World.size_alloc w (.cells (MC m) 23)]; exact hb)
  clear hb A0 q1
  go_step3
  go_wp2
  go_loopw [7, 8] (fun i _ wr => ∃ a : Nat, i = .int .i64 a ∧ a < 2 * T.n ∧ (∀ q, q < 2 * T.n → wy (2 * T.n) (fs T.n v m) q < wy (2 * T.n) (fs T.n v m) a → ∃ y, ps[q]? = some y ∧ y ≠ zE ∧ ky y v m = false) ∧ Below (w.heap.size + 1) (w.alloc (.cells (MC m) 23)) wr) (fun i _ _ => 2 * T.n - wy (2 * T.n) (fs T.n v m) (intOf i).toNat)
  case atStart => exact ⟨_, rfl, hfs, fun q hq h1 => by rw [wy_self] at h1; omega, B1.out⟩
  case round =>
    obtain ⟨a, rfl, ha, hg, hB⟩ := hrel
    have P1 := HH.out.on (W0.out)
    have P2 := P1.below hB (by have := HH.out.lt; omega)
    obtain ⟨x, hx, A1⟩ := P2.get ha
    have c0 := P2.bx.cell 0 _ rfl
    have ha0 : (a : Int) < 2 * (T.n : Int) := by omega
    have HP := hide P2
    have HB := hide hB
    have HG := hide hg
    have HX := hide hx
    clear P1 P2 hB hg hx
    have tk1 : True := trivial
    have tk2 : True := trivial
    have tk3 : True := trivial
    have q2 := fun w => free27 x w
    rcases Bool.eq_false_or_eq_true (fre x) with hfr | hfr
    · rw [hfr] at q2
      go_wp2_with (first | (have _t := tk1; refine wpl_ent (.tmp 18) rfl A1 ?_ ?_ ?_; rfl; rfl; clear tk1) | (have _t := tk2; refine wpl_putE x zE (.tmp 8) (.tmp 19) rfl (box_e _ zE) ?_ rfl rfl ?_; rfl; intro w2 X2 G2; have X3 := X2.at_; clear tk2) | (have _t := tk3; refine wpl_ent (.tmp 8) rfl X3 ?_ ?_ ?_; rfl; rfl; clear tk3) | (go_at_call 59; refine (q2 _).mono ?_; rintro e w3 ⟨rfl, hb3⟩; have B3 := hide (up3 HB.out G2 hb3); have X4 := X2.on hb3; have X5 := mac_of X4; have c3 := X4.cell 0 _ rfl; have M3 := (HA.out.below (Nat.lt_succ_self _) B3.out).at_; have HX4 := hide X4; clear hb3 G2 X2 X3 X4 A1))
      rw [Exit.noGoto_ret]
      go_ret
      exact ⟨a, rfl, ⟨ha, ⟨x, HX.out, Or.inl ((fre_iff x).1 hfr)⟩, HG.out⟩, W0.out.trans (B3.out.mono (Nat.le_succ _))⟩
    · have hxo : Hid (x ≠ zE) := hide (fun e => by rw [(fre_iff x).2 e] at hfr; cases hfr)
      rw [hfr] at q2
      have q3 := eqMac x.m m
      have tk4 : True := trivial
      have tk5 : True := trivial
      rcases Bool.eq_false_or_eq_true (ky x v m) with hk | hk
      · have hk2 := hk
        rw [ky, Bool.and_eq_true] at hk2
        obtain ⟨k1, k2⟩ := hk2
        rw [k2] at q3
        have HK := hide hk
        clear hk
        go_wp2_with (first | (have _t := tk1; refine wpl_ent (.tmp 18) rfl A1 ?_ ?_ ?_; rfl; rfl; clear tk1) | (have _t := tk2; refine wpl_putE x zE (.tmp 8) (.tmp 19) rfl (box_e _ zE) ?_ rfl rfl ?_; rfl; intro w2 X2 G2; have X3 := X2.at_; clear tk2) | (have _t := tk3; refine wpl_ent (.tmp 8) rfl X3 ?_ ?_ ?_; rfl; rfl; clear tk3) | (go_at_call 59; refine (q2 _).mono ?_; rintro e w3 ⟨rfl, hb3⟩; have B3 := hide (up3 HB.out G2 hb3); have X4 := X2.on hb3; have X5 := mac_of X4; have c3 := X4.cell 0 _ rfl; have M3 := (HA.out.below (Nat.lt_succ_self _) B3.out).at_; have HX4 := hide X4; clear hb3 G2 X2 X3 X4 A1) | (have _t := tk4; refine wpl_mac (.tmp 29) rfl X5 ?_ ?_ ?_; rfl; rfl; clear tk4) | (have _t := tk5; refine wpl_mac (.tmp 5) rfl M3 ?_ ?_ ?_; rfl; rfl; clear tk5))
        rw [Exit.noGoto_ret]
        go_ret
        exact ⟨a, rfl, ⟨ha, ⟨x, HX.out, Or.inr HK.out⟩, HG.out⟩, W0.out.trans (B3.out.mono (Nat.le_succ _))⟩
      · have q4 := fun w H => next47 h T.n T.l.length a w n1 n2 H ha
        have hgo : Hid (wy (2 * T.n) (fs T.n v m) a + 1 < 2 * T.n) := hide (go_room hfs ha HH.out.fr HX.out hxo.out (fun q hq hw => by obtain ⟨y, h1, h2, _⟩ := HG.out q hq hw; exact ⟨y, h1, h2⟩))
        have HK := hide hk
        have fin : Hid (∀ q, q < 2 * T.n → wy (2 * T.n) (fs T.n v m) q < wy (2 * T.n) (fs T.n v m) (nt (2 * T.n) a) → ∃ y, ps[q]? = some y ∧ y ≠ zE ∧ ky y v m = false) := hide (fun q hq hw => by
          rw [wy_nt hfs ha hgo.out] at hw
          by_cases d : wy (2 * T.n) (fs T.n v m) q < wy (2 * T.n) (fs T.n v m) a
          · exact HG.out q hq d
          · rw [wy_inj hfs hq ha (by omega)]; exact ⟨x, HX.out, hxo.out, hk⟩)
        have hm2 : Hid (2 * T.n - wy (2 * T.n) (fs T.n v m) (nt (2 * T.n) a) < 2 * T.n - wy (2 * T.n) (fs T.n v m) a) := hide (by rw [wy_nt hfs ha hgo.out]; have := hgo.out; omega)
        have hnt : Hid (nt (2 * T.n) a < 2 * T.n) := hide (nt_lt ha)
        rcases Bool.eq_false_or_eq_true (x.v == v) with k1 | k1
        · rw [ky, k1, Bool.true_and] at hk
          rw [hk] at q3
          clear hk
          go_wp2_with (first | (have _t := tk1; refine wpl_ent (.tmp 18) rfl A1 ?_ ?_ ?_; rfl; rfl; clear tk1) | (have _t := tk2; refine wpl_putE x zE (.tmp 8) (.tmp 19) rfl (box_e _ zE) ?_ rfl rfl ?_; rfl; intro w2 X2 G2; have X3 := X2.at_; clear tk2) | (have _t := tk3; refine wpl_ent (.tmp 8) rfl X3 ?_ ?_ ?_; rfl; rfl; clear tk3) | (go_at_call 59; refine (q2 _).mono ?_; rintro e w3 ⟨rfl, hb3⟩; have B3 := hide (up3 HB.out G2 hb3); have X4 := X2.on hb3; have X5 := mac_of X4; have c3 := X4.cell 0 _ rfl; have M3 := (HA.out.below (Nat.lt_succ_self _) B3.out).at_; have HX4 := hide X4; clear hb3 G2 X2 X3 X4 A1) | (have _t := tk4; refine wpl_mac (.tmp 29) rfl X5 ?_ ?_ ?_; rfl; rfl; clear tk4) | (have _t := tk5; refine wpl_mac (.tmp 5) rfl M3 ?_ ?_ ?_; rfl; rfl; clear tk5) | (go_at_call 75; refine (q4 _ ((HH.out.on W0.out).below B3.out (by have := HH.out.lt; omega)).bx).mono ?_; rintro e w5 ⟨rfl, rfl⟩))
          go_roundw
          case rel => exact ⟨_, rfl, hnt.out, fin.out, B3.out⟩
          case measure => simpa [intOf] using hm2.out
        · clear hk q3
          go_wp2_with (first | (have _t := tk1; refine wpl_ent (.tmp 18) rfl A1 ?_ ?_ ?_; rfl; rfl; clear tk1) | (have _t := tk2; refine wpl_putE x zE (.tmp 8) (.tmp 19) rfl (box_e _ zE) ?_ rfl rfl ?_; rfl; intro w2 X2 G2; have X3 := X2.at_; clear tk2) | (have _t := tk3; refine wpl_ent (.tmp 8) rfl X3 ?_ ?_ ?_; rfl; rfl; clear tk3) | (go_at_call 59; refine (q2 _).mono ?_; rintro e w3 ⟨rfl, hb3⟩; have B3 := hide (up3 HB.out G2 hb3); have X4 := X2.on hb3; have X5 := mac_of X4; have c3 := X4.cell 0 _ rfl; have M3 := (HA.out.below (Nat.lt_succ_self _) B3.out).at_; have HX4 := hide X4; clear hb3 G2 X2 X3 X4 A1) | (go_at_call 75; refine (q4 _ ((HH.out.on W0.out).below B3.out (by have := HH.out.lt; omega)).bx).mono ?_; rintro e w5 ⟨rfl, rfl⟩))
          go_roundw
          case rel => exact ⟨_, rfl, hnt.out, fin.out, B3.out⟩
          case measure => simpa [intOf] using hm2.out
end Go.Proofs.YtgpdjfaklcmoiaaDoor
/- The document's table in memory; rows of entries that grow. -/
namespace Go.Proofs.YtgpdjfaklcmoiaaDoor
open Go.RowKit Go.PlainAid

theorem Tryd.info103 : (Tryd.prog.info? 103).map (fun i => (i.zero, i.size, i.bytes)) = some (some (.agg (EC zE)), 10, 40) := by kernel_rfl
end Go.Proofs.YtgpdjfaklcmoiaaDoor
/- Contract of set: one that is there. -/
namespace Go.Proofs.YtgpdjfaklcmoiaaDoor
open Go.RowKit Go.PlainAid
theorem estore {w : World} {k : Nat} {l : List En} (h : Box w k (es l)) {j : Nat} (hj : j < l.length) (x : En) :
    ∃ w', (storeVar 103 ⟨k, j * 10, none⟩ (.agg (EC x))).run Tryd.prog w = .ok () w' ∧ Box w' k (es (l.set j x)) ∧ w.grownBy w' (some k) :=
  ⟨_, run_storeVar_mid w k (j * 10) 103 (EC x) (h.thE hj) Tryd.size103 (one_EC x), h.putE (List.getElem?_eq_getElem hj) x, setCells_grown k _ _ w⟩
theorem up_len_there {l : List En} (h : Srt l) {x : En} (hh : fhs l x.v x.m = true) : (up l x).length = l.length := by
  have hk := (ky_iff _ _ _).1 (lk_ky l x.v x.m hh)
  rw [← up_set h (fix_get l x.v x.m hh) (by simp [ke, hk.1, hk.2]), List.length_set]
theorem up_wf {T : FT} (H : FW T) {x : En} (hx : Gd x) (hl : (up T.l x).length ≤ T.n) : FW ⟨T.n, up T.l x⟩ :=
  ⟨H.n1, H.n2, hl, up_srt H.srt x, fun z hz => by
    rcases up_mem.1 hz with e | ⟨e, _⟩
    · rw [e]; exact hx
    · exact H.gd z e⟩
theorem hf_ky {n : Nat} {x y : En} (h : ky y x.v x.m = true) : hf n y = hf n x := by
  have := (ky_iff _ _ _).1 h
  simp [hf, this.1, this.2]
theorem grown_drew' {w w1 : World} {row : Option Nat} (h : w.drew.grownBy w1 row) : w.grownBy w1 row := ⟨h.os, h.tape, h.output, h.size, h.block⟩
theorem PF.putThere {w w1 : World} {h : Nat} {ps : List En} {T : FT} (H : PF w h ps T) {x : En} (hx : Gd x) (hh : fhs T.l x.v x.m = true) {a : Nat} (P : Pl (2 * T.n) ps (fs T.n x.v x.m) x.v x.m a) (Y : Box w1 h (es (ps.set a x))) (G : w.drew.grownBy w1 (some h)) : PF w1 h (ps.set a x) ⟨T.n, up T.l x⟩ := by
  have hl := up_len_there H.wf.srt hh
  refine ⟨?_, Y, H.rp.set H.wf hx (fun y hy => hf_ky hy) P, up_wf H.wf hx (by rw [hl]; exact H.wf.le)⟩
  show Box w1 (h + 1) (tcl h T.n (up T.l x).length)
  rw [hl]
  exact H.bx.drew.kept (Nat.succ_ne_self h) G
set_option maxRecDepth 100000 in
set_option maxHeartbeats 2000000 in
theorem set33_there (h : Nat) (ps : List En) (T : FT) (x : En) (w : World) (hx : Gd x) (H : PF w h ps T) (hh : fhs T.l x.v x.m = true) :
    Calls Tryd.prog 73 #[.pointer (some ⟨h + 1, 0, none⟩), .agg (EC x)] w fun e w' => e = .returned (.int .i64 0) ∧ (∃ ps', PF w' h ps' ⟨T.n, up T.l x⟩) ∧ Mid h (h + 2) w w' := by
  have n1 := H.wf.n1
  have n2 := H.wf.n2
  have X0 := box_e w x
  have c0 := X0.cell 0 _ rfl
  have M0 := mac_of X0
  have W0 : Hid (Below w.heap.size w (w.alloc (.cells (EC x) 103))) := hide (below_alloc w _)
  have HH := hide H
  have HX0 := hide X0
  have q1 := fun w H => place26 h ps T x.v x.m w hx.ok H
  have q2 := fun w => free27 (lk T.l x.v x.m) w
  rw [(H.wf.gd _ (lk_mem hh)).fre] at q2
  clear H X0
  have tk1 : True := trivial
  have tk2 : True := trivial
  go_enter Tryd.func73, Tryd.ntmps73
  go_wp2_with (first | (have _t := tk1; refine wpl_mac (.tmp 9) rfl M0 ?_ ?_ ?_; rfl; rfl; clear tk1))
  refine (q1 _ (HH.out.on W0.out)).mono ?_
  rintro e w1 ⟨a, rfl, P, hb⟩
  have P1 := (HH.out.on W0.out).on hb
  have A1 := P1.pl.ent (P.lk P1.rp P1.wf hx.ok (fs_lt _ _ _ n1 n2) (fun y hy => by rw [(ky_iff _ _ _).1 hy |>.1.symm, ((ky_iff _ _ _).1 hy).2.symm]; rfl))
  have c1 := P1.bx.cell 0 _ rfl
  have ha0 : (a : Int) < 2 * (T.n : Int) := by have := P.lt; omega
  have HP1 := hide P1
  have HX1 := hide (HX0.out.on hb)
  have HB1 := hide (belowOn W0.out hb)
  have HP := hide P
  clear P1 P hb q1 HX0 c0 M0
  have tk1 : True := trivial
  go_wp2_with (first | (have _t := tk1; refine wpl_ent (.tmp 17) rfl A1 ?_ ?_ ?_; rfl; rfl; clear tk1))
  refine (q2 _).mono ?_
  rintro e w2 ⟨rfl, hb⟩
  have HP2 := hide (HP1.out.on hb)
  have c2 := HP2.out.bx.cell 0 _ rfl
  have HX2 := hide (HX1.out.on hb)
  have HB2 := hide (belowOn HB1.out hb)
  clear hb HP1 HX1 HB1 A1 c1
  obtain ⟨U, hU⟩ : ∃ U, U = T.l.length := ⟨_, rfl⟩
  have HT : Hid (Box w2 (h + 1) (tcl h T.n U)) := hide (by rw [hU]; exact HP2.out.bx)
  have HX := HX2
  have HL := hide HP2.out.pl
  have HA : Hid (a < ps.length) := hide (by have := HP.out.lt; rw [HP2.out.rp.len]; exact this)
  have HK : Hid (w.heap.size ≠ h) := hide (by have := HH.out.lt; omega)
  obtain ⟨W2, hW2⟩ : ∃ W2, W2 = w2 := ⟨_, rfl⟩
  subst hW2
  go_wp2_with fail
  refine wp_region_held_drew (S := fun w' => Box w' (h + 1) (tcl h T.n U) ∧ Box w' w.heap.size (ecl x)) (by kernel_rfl) ⟨HT.out.drew, HX.out.drew⟩ (fun hHeld => ?_)
  refine wpAnyH_take (i := 0) (v := .pointer (some ⟨h + 1, 0, none⟩)) rfl (by kernel_rfl) (by kernel_rfl) (by kernel_rfl) (fun _ _ _ h => h) (Or.inl ⟨by rfl, ?_⟩) hHeld ?_
  · intro W hW; (try dsimp only at hW); go_simp
  change wpAnyH _ _ _ _ _ _ _ ⟨#[.pointer (some ⟨h + 1, 0, none⟩), _, _, .pointer (some ⟨w.heap.size, 0, none⟩), _, .int .i64 (a : Int), _, _, _, _, _, _, _, _, _, _, _, _, _, _, _, _, _, _, _, _, _, _, _, _, _, _, _, _, _, _, .pointer (some ⟨h + 1, 0, none⟩), _, _, _, _, _, _], []⟩ _
  refine wpAnyH_take (i := 1) (v := .pointer (some ⟨h + 1, 0, none⟩)) rfl (by kernel_rfl) (by kernel_rfl) (by kernel_rfl) (fun _ _ _ h => h) (Or.inl ⟨by rfl, ?_⟩) hHeld ?_
  · intro W hW; (try dsimp only at hW); go_simp
  change wpAnyH _ _ _ _ _ _ _ ⟨#[.pointer (some ⟨h + 1, 0, none⟩), _, _, .pointer (some ⟨w.heap.size, 0, none⟩), _, .int .i64 (a : Int), _, _, _, _, _, _, _, _, _, _, _, _, _, _, _, _, _, _, _, _, _, _, _, _, _, _, _, _, _, _, .pointer (some ⟨h + 1, 0, none⟩), .pointer (some ⟨h + 1, 0, none⟩), _, _, _, _, _], []⟩ _
  refine wpAnyH_take (i := 2) (v := .pointer (some ⟨h + 1, 0, none⟩)) rfl (by kernel_rfl) (by kernel_rfl) (by kernel_rfl) (fun _ _ _ h => h) (Or.inl ⟨by rfl, ?_⟩) hHeld ?_
  · intro W hW; (try dsimp only at hW); go_simp
  change wpAnyH _ _ _ _ _ _ _ ⟨#[.pointer (some ⟨h + 1, 0, none⟩), _, _, .pointer (some ⟨w.heap.size, 0, none⟩), _, .int .i64 (a : Int), _, _, _, _, _, _, _, _, _, _, _, _, _, _, _, _, _, _, _, _, _, _, _, _, _, _, _, _, _, _, .pointer (some ⟨h + 1, 0, none⟩), .pointer (some ⟨h + 1, 0, none⟩), .pointer (some ⟨h + 1, 0, none⟩), _, _, _, _], []⟩ _
  refine wpAnyH_take (i := 3) (v := .slice (some ⟨h, 0, none⟩) (2 * T.n) (2 * T.n)) rfl (by kernel_rfl) (by kernel_rfl) (by kernel_rfl) (fun _ _ _ h => h) (Or.inl ⟨by rfl, ?_⟩) hHeld ?_
  · intro W hW; (try dsimp only at hW); have hc := hW.1.cell 0 _ rfl; clear hW; go_simp
  change wpAnyH _ _ _ _ _ _ _ ⟨#[.pointer (some ⟨h + 1, 0, none⟩), _, _, .pointer (some ⟨w.heap.size, 0, none⟩), _, .int .i64 (a : Int), _, _, _, _, _, _, _, _, _, _, _, _, _, _, _, _, _, _, _, _, _, _, _, _, _, _, _, _, _, _, .pointer (some ⟨h + 1, 0, none⟩), .pointer (some ⟨h + 1, 0, none⟩), .pointer (some ⟨h + 1, 0, none⟩), .slice (some ⟨h, 0, none⟩) (2 * T.n) (2 * T.n), _, _, _], []⟩ _
  refine wpAnyH_take (i := 4) (v := .int .i64 (a : Int)) rfl (by kernel_rfl) (by kernel_rfl) (by kernel_rfl) (fun _ _ _ h => h) (Or.inl ⟨by rfl, ?_⟩) hHeld ?_
  · intro W hW; (try dsimp only at hW); go_simp
  change wpAnyH _ _ _ _ _ _ _ ⟨#[.pointer (some ⟨h + 1, 0, none⟩), _, _, .pointer (some ⟨w.heap.size, 0, none⟩), _, .int .i64 (a : Int), _, _, _, _, _, _, _, _, _, _, _, _, _, _, _, _, _, _, _, _, _, _, _, _, _, _, _, _, _, _, .pointer (some ⟨h + 1, 0, none⟩), .pointer (some ⟨h + 1, 0, none⟩), .pointer (some ⟨h + 1, 0, none⟩), .slice (some ⟨h, 0, none⟩) (2 * T.n) (2 * T.n), .int .i64 (a : Int), _, _], []⟩ _
  refine wpAnyH_take (i := 5) (v := .agg (EC x)) rfl (by kernel_rfl) (by kernel_rfl) (by kernel_rfl) (fun _ _ _ h => h) (yieldsIf_load_mid (by rfl) 103 (.tmp 3) rfl w.heap.size 0 rfl (ecl x) _ (fun W hW => hW.2.at_) Tryd.underlying103 rfl Tryd.size103) hHeld ?_
  change wpAnyH _ _ _ _ _ _ _ ⟨#[.pointer (some ⟨h + 1, 0, none⟩), _, _, .pointer (some ⟨w.heap.size, 0, none⟩), _, .int .i64 (a : Int), _, _, _, _, _, _, _, _, _, _, _, _, _, _, _, _, _, _, _, _, _, _, _, _, _, _, _, _, _, _, .pointer (some ⟨h + 1, 0, none⟩), .pointer (some ⟨h + 1, 0, none⟩), .pointer (some ⟨h + 1, 0, none⟩), .slice (some ⟨h, 0, none⟩) (2 * T.n) (2 * T.n), .int .i64 (a : Int), .agg (EC x), _], []⟩ _
  refine wpAnyH_take (i := 6) (v := .pointer (some ⟨h, a * 10, none⟩)) rfl (by kernel_rfl) (by kernel_rfl) (by kernel_rfl) (fun _ _ _ h => h) (Or.inl ⟨by rfl, ?_⟩) hHeld ?_
  · intro W hW; (try dsimp only at hW); go_simp
  change wpAnyH _ _ _ _ _ _ _ ⟨#[.pointer (some ⟨h + 1, 0, none⟩), _, _, .pointer (some ⟨w.heap.size, 0, none⟩), _, .int .i64 (a : Int), _, _, _, _, _, _, _, _, _, _, _, _, _, _, _, _, _, _, _, _, _, _, _, _, _, _, _, _, _, _, .pointer (some ⟨h + 1, 0, none⟩), .pointer (some ⟨h + 1, 0, none⟩), .pointer (some ⟨h + 1, 0, none⟩), .slice (some ⟨h, 0, none⟩) (2 * T.n) (2 * T.n), .int .i64 (a : Int), .agg (EC x), .pointer (some ⟨h, a * 10, none⟩)], []⟩ _
  refine wpAnyH_ready (rs := [7]) (by kernel_rfl) (by simp) ?_
  refine AllReadyH.cons rfl (fun K hK => ?_) AllReadyH.nil
  rw [if_pos (by rfl)]
  refine wp_store_mid 103 (.tmp 42) (.tmp 41) rfl h (a * 10) (EC x) rfl rfl (HL.out.drew.thE HA.out) Tryd.size103 (one_EC x) ?_
  have Y3 := HL.out.drew.putE (List.getElem?_eq_getElem HA.out) x
  have G3 := setCells_grown h (ecl x) (a * 10) W2.drew
  refine hK.out _ _ ⟨HT.out.drew.kept (Nat.succ_ne_self h) G3, HX.out.drew.kept HK.out G3⟩ (fun hHeld => ?_)
  clear hK K hHeld
  obtain ⟨w4, hw4⟩ : ∃ w4, w4 = World.setCells W2.drew h (a * 10) (ecl x) := ⟨_, rfl⟩
  rw [← hw4] at Y3 G3
  have e4 : World.setCells W2.drew h (a * 10) (EC x).toList = w4 := by rw [hw4]; rfl
  rw [e4]
  have HY := hide Y3
  have HG := hide G3
  clear e4 hw4 Y3 G3
  change wpAnyH _ _ _ _ _ _ _ ⟨#[.pointer (some ⟨h + 1, 0, none⟩), _, _, .pointer (some ⟨w.heap.size, 0, none⟩), _, .int .i64 (a : Int), _, _, _, _, _, _, _, _, _, _, _, _, _, _, _, _, _, _, _, _, _, _, _, _, _, _, _, _, _, _, .pointer (some ⟨h + 1, 0, none⟩), .pointer (some ⟨h + 1, 0, none⟩), .pointer (some ⟨h + 1, 0, none⟩), .slice (some ⟨h, 0, none⟩) (2 * T.n) (2 * T.n), .int .i64 (a : Int), .agg (EC x), .pointer (some ⟨h, a * 10, none⟩)], []⟩ _
  refine wpAnyH_done (by kernel_rfl) ?_ _
  go_wp2
  go_ret
  refine ⟨rfl, ⟨ps.set a x, HP2.out.putThere hx hh HP.out HY.out HG.out⟩, ?_⟩
  exact (Mid.on (Mid.refl _ _ _) (HB2.out)).grown (grown_drew' HG.out) (Or.inr ⟨Nat.le_refl _, by omega⟩)
end Go.Proofs.YtgpdjfaklcmoiaaDoor
/- Contract of set. -/
namespace Go.Proofs.YtgpdjfaklcmoiaaDoor
open Go.RowKit Go.PlainAid

theorem PF.putNew {w w1 : World} {h : Nat} {ps : List En} {T : FT} (H : PF w h ps T) {x : En} (hx : Gd x) (hh : fhs T.l x.v x.m = false) (hl : T.l.length < T.n) {a : Nat} (P : Pl (2 * T.n) ps (fs T.n x.v x.m) x.v x.m a) (Y : Box w1 h (es (ps.set a x))) (X : Box w1 (h + 1) (tcl h T.n (T.l.length + 1))) : PF w1 h (ps.set a x) ⟨T.n, up T.l x⟩ := by
  have e := up_len (l := T.l) (x := x) (fun y hy e => by
    have := hs_no hh y hy
    rw [(ky_ke (H.wf.gd y hy).ok hx.ok).2 e] at this
    cases this)
  refine ⟨?_, Y, H.rp.set H.wf hx (fun y hy => hf_ky hy) P, up_wf H.wf hx (by rw [e]; exact hl)⟩
  show Box w1 (h + 1) (tcl h T.n (up T.l x).length)
  rw [e]
  exact X
theorem tcl_used {w : World} {h n u u' : Nat} (H : Box w (h + 1) (tcl h n u)) : Box (w.setCell ⟨h + 1, 2, none⟩ (.int .i64 u')) (h + 1) (tcl h n u') :=
  Box.set (A := [.slice (some ⟨h, 0, none⟩) (2 * n) (2 * n), .int .i64 n]) (C := []) H rfl
set_option maxRecDepth 100000 in
set_option maxHeartbeats 2000000 in
theorem set33_full (h : Nat) (ps : List En) (T : FT) (x : En) (w : World) (hx : Gd x) (H : PF w h ps T) (hh : fhs T.l x.v x.m = false) (hl : T.l.length = T.n) :
    Calls Tryd.prog 73 #[.pointer (some ⟨h + 1, 0, none⟩), .agg (EC x)] w fun e w' => e = .returned (.int .i64 3) ∧ Below w.heap.size w w' := by
  have n1 := H.wf.n1
  have n2 := H.wf.n2
  have hle := H.wf.le
  have X0 := box_e w x
  have c0 := X0.cell 0 _ rfl
  have M0 := mac_of X0
  have W0 : Hid (Below w.heap.size w (w.alloc (.cells (EC x) 103))) := hide (below_alloc w _)
  have HH := hide H
  have HX0 := hide X0
  have q1 := fun w H => place26 h ps T x.v x.m w hx.ok H
  have q2 := fun w => free27 zE w
  have ez : fre zE = true := rfl
  rw [ez] at q2
  have el := lk_no _ _ _ hh
  clear H X0 ez
  have tk1 : True := trivial
  have tk2 : True := trivial
  go_enter Tryd.func73, Tryd.ntmps73
  go_wp2_with (first | (have _t := tk1; refine wpl_mac (.tmp 9) rfl M0 ?_ ?_ ?_; rfl; rfl; clear tk1))
  refine (q1 _ (HH.out.on W0.out)).mono ?_
  rintro e w1 ⟨a, rfl, P, hb⟩
  have P1 := (HH.out.on W0.out).on hb
  have A1 := P1.pl.ent (P.lk P1.rp P1.wf hx.ok (fs_lt _ _ _ n1 n2) (fun y hy => by rw [(ky_iff _ _ _).1 hy |>.1.symm, ((ky_iff _ _ _).1 hy).2.symm]; rfl))
  rw [el] at A1
  have c1 := P1.bx.cell 0 _ rfl
  have ha0 : (a : Int) < 2 * (T.n : Int) := by have := P.lt; omega
  have HP1 := hide P1
  have HX1 := hide (HX0.out.on hb)
  have HB1 := hide (belowOn W0.out hb)
  have HP := hide P
  clear P1 P hb q1 HX0 c0 M0 el
  have tk1 : True := trivial
  go_wp2_with (first | (have _t := tk1; refine wpl_ent (.tmp 17) rfl A1 ?_ ?_ ?_; rfl; rfl; clear tk1))
  refine (q2 _).mono ?_
  rintro e w2 ⟨rfl, hb⟩
  have HP2 := hide (HP1.out.on hb)
  have HX2 := hide (HX1.out.on hb)
  have HB2 := hide (belowOn HB1.out hb)
  have c2 := HP2.out.bx.cell 0 _ rfl
  have c3 := HP2.out.bx.cell 1 _ rfl
  have c4 := HP2.out.bx.cell 2 _ rfl
  have f4 := HP2.out.bx.free 2 (by simp [tcl])
  clear hb HP1 HX1 HB1 A1 c1
  have hq : ((T.l.length : Int) == T.n) = true := by simp [hl]
  have hq2 : (T.l.length : Int) = T.n := by omega
  have HLL := hide hl
  clear hl
  go_wp2_with fail
  go_quiet (fail)
  go_wp2
  go_ret
  exact ⟨rfl, HB2.out.trans ⟨rfl, rfl, rfl, Nat.le_refl _, fun _ _ => rfl⟩⟩
set_option maxRecDepth 100000 in
set_option maxHeartbeats 2000000 in
theorem set33_new (h : Nat) (ps : List En) (T : FT) (x : En) (w : World) (hx : Gd x) (H : PF w h ps T) (hh : fhs T.l x.v x.m = false) (hl : T.l.length < T.n) :
    Calls Tryd.prog 73 #[.pointer (some ⟨h + 1, 0, none⟩), .agg (EC x)] w fun e w' => e = .returned (.int .i64 0) ∧ (∃ ps', PF w' h ps' ⟨T.n, up T.l x⟩) ∧ Mid h (h + 2) w w' := by
  have n1 := H.wf.n1
  have n2 := H.wf.n2
  have hle := H.wf.le
  have X0 := box_e w x
  have c0 := X0.cell 0 _ rfl
  have M0 := mac_of X0
  have W0 : Hid (Below w.heap.size w (w.alloc (.cells (EC x) 103))) := hide (below_alloc w _)
  have HH := hide H
  have HX0 := hide X0
  have q1 := fun w H => place26 h ps T x.v x.m w hx.ok H
  have q2 := fun w => free27 zE w
  have ez : fre zE = true := rfl
  rw [ez] at q2
  have el := lk_no _ _ _ hh
  clear H X0 ez
  have tk1 : True := trivial
  have tk2 : True := trivial
  go_enter Tryd.func73, Tryd.ntmps73
  go_wp2_with (first | (have _t := tk1; refine wpl_mac (.tmp 9) rfl M0 ?_ ?_ ?_; rfl; rfl; clear tk1))
  refine (q1 _ (HH.out.on W0.out)).mono ?_
  rintro e w1 ⟨a, rfl, P, hb⟩
  have P1 := (HH.out.on W0.out).on hb
  have A1 := P1.pl.ent (P.lk P1.rp P1.wf hx.ok (fs_lt _ _ _ n1 n2) (fun y hy => by rw [(ky_iff _ _ _).1 hy |>.1.symm, ((ky_iff _ _ _).1 hy).2.symm]; rfl))
  rw [el] at A1
  have c1 := P1.bx.cell 0 _ rfl
  have ha0 : (a : Int) < 2 * (T.n : Int) := by have := P.lt; omega
  have HP1 := hide P1
  have HX1 := hide (HX0.out.on hb)
  have HB1 := hide (belowOn W0.out hb)
  have HP := hide P
  clear P1 P hb q1 HX0 c0 M0 el
  have tk1 : True := trivial
  go_wp2_with (first | (have _t := tk1; refine wpl_ent (.tmp 17) rfl A1 ?_ ?_ ?_; rfl; rfl; clear tk1))
  refine (q2 _).mono ?_
  rintro e w2 ⟨rfl, hb⟩
  have HP2 := hide (HP1.out.on hb)
  have HX2 := hide (HX1.out.on hb)
  have HB2 := hide (belowOn HB1.out hb)
  have c2 := HP2.out.bx.cell 0 _ rfl
  have c3 := HP2.out.bx.cell 1 _ rfl
  have c4 := HP2.out.bx.cell 2 _ rfl
  have f4 := HP2.out.bx.free 2 (by simp [tcl])
  clear hb HP1 HX1 HB1 A1 c1
  have hq : ((T.l.length : Int) == T.n) = false := by simp; omega
  have hq2 : ¬ (T.l.length : Int) = T.n := by omega
  have e5 : IntKind.i64.wrap ((T.l.length : Int) + 1) = (T.l.length : Int) + 1 := IntWalk.i64_in _ (by omega)
  have HLL := hide hl
  clear hl
  go_wp2_with fail
  go_quiet (fail)
  go_wp2_with fail
  have T3 : Box ((w2.drewN nq).setCell ⟨h + 1, 2, none⟩ (.int .i64 ((T.l.length : Int) + 1))) (h + 1) (tcl h T.n (T.l.length + 1)) := tcl_used (u' := T.l.length + 1) (HP2.out.bx.drewN nq)
  have G3 := setCell_grown (w2.drewN nq) (h + 1) 2 (.int .i64 ((T.l.length : Int) + 1))
  have L3 := (HP2.out.pl.drewN nq).kept (by omega) G3
  have HX := hide ((HX2.out.drewN nq).kept (by have := HH.out.lt; omega) G3)
  have HM3 : Hid (Mid h (h + 2) w ((w2.drewN nq).setCell ⟨h + 1, 2, none⟩ (.int .i64 ((T.l.length : Int) + 1)))) := hide ((Mid.on (Mid.refl _ _ _) (HB2.out.trans ⟨rfl, rfl, rfl, Nat.le_refl _, fun _ _ => rfl⟩ : Below w.heap.size w (w2.drewN nq))).grown G3 (Or.inr ⟨by omega, by omega⟩))
  clear G3
  generalize (w2.drewN nq).setCell ⟨h + 1, 2, none⟩ (.int .i64 ((T.l.length : Int) + 1)) = W2 at *
  obtain ⟨U, hU⟩ : ∃ U, U = T.l.length + 1 := ⟨_, rfl⟩
  rw [← hU] at T3
  have HU := hide hU
  clear hU
  have HT := hide T3
  have HL := hide L3
  have HA : Hid (a < ps.length) := hide (by have := HP.out.lt; rw [HP2.out.rp.len]; exact this)
  have HK : Hid (w.heap.size ≠ h) := hide (by have := HH.out.lt; omega)
  clear T3 L3 c2 c3 c4 f4
  refine wp_region_held_drew (S := fun w' => Box w' (h + 1) (tcl h T.n U) ∧ Box w' w.heap.size (ecl x)) (by kernel_rfl) ⟨HT.out.drew, HX.out.drew⟩ (fun hHeld => ?_)
  refine wpAnyH_take (i := 0) (v := .pointer (some ⟨h + 1, 0, none⟩)) rfl (by kernel_rfl) (by kernel_rfl) (by kernel_rfl) (fun _ _ _ h => h) (Or.inl ⟨by rfl, ?_⟩) hHeld ?_
  · intro W hW; (try dsimp only at hW); go_simp
  change wpAnyH _ _ _ _ _ _ _ ⟨#[.pointer (some ⟨h + 1, 0, none⟩), _, _, .pointer (some ⟨w.heap.size, 0, none⟩), _, .int .i64 (a : Int), _, _, _, _, _, _, _, _, _, _, _, _, _, _, _, _, _, _, _, _, _, _, _, _, _, _, _, _, _, _, .pointer (some ⟨h + 1, 0, none⟩), _, _, _, _, _, _], []⟩ _
  refine wpAnyH_take (i := 1) (v := .pointer (some ⟨h + 1, 0, none⟩)) rfl (by kernel_rfl) (by kernel_rfl) (by kernel_rfl) (fun _ _ _ h => h) (Or.inl ⟨by rfl, ?_⟩) hHeld ?_
  · intro W hW; (try dsimp only at hW); go_simp
  change wpAnyH _ _ _ _ _ _ _ ⟨#[.pointer (some ⟨h + 1, 0, none⟩), _, _, .pointer (some ⟨w.heap.size, 0, none⟩), _, .int .i64 (a : Int), _, _, _, _, _, _, _, _, _, _, _, _, _, _, _, _, _, _, _, _, _, _, _, _, _, _, _, _, _, _, .pointer (some ⟨h + 1, 0, none⟩), .pointer (some ⟨h + 1, 0, none⟩), _, _, _, _, _], []⟩ _
  refine wpAnyH_take (i := 2) (v := .pointer (some ⟨h + 1, 0, none⟩)) rfl (by kernel_rfl) (by kernel_rfl) (by kernel_rfl) (fun _ _ _ h => h) (Or.inl ⟨by rfl, ?_⟩) hHeld ?_
  · intro W hW; (try dsimp only at hW); go_simp
  change wpAnyH _ _ _ _ _ _ _ ⟨#[.pointer (some ⟨h + 1, 0, none⟩), _, _, .pointer (some ⟨w.heap.size, 0, none⟩), _, .int .i64 (a : Int), _, _, _, _, _, _, _, _, _, _, _, _, _, _, _, _, _, _, _, _, _, _, _, _, _, _, _, _, _, _, .pointer (some ⟨h + 1, 0, none⟩), .pointer (some ⟨h + 1, 0, none⟩), .pointer (some ⟨h + 1, 0, none⟩), _, _, _, _], []⟩ _
  refine wpAnyH_take (i := 3) (v := .slice (some ⟨h, 0, none⟩) (2 * T.n) (2 * T.n)) rfl (by kernel_rfl) (by kernel_rfl) (by kernel_rfl) (fun _ _ _ h => h) (Or.inl ⟨by rfl, ?_⟩) hHeld ?_
  · intro W hW; (try dsimp only at hW); have hc := hW.1.cell 0 _ rfl; clear hW; go_simp
  change wpAnyH _ _ _ _ _ _ _ ⟨#[.pointer (some ⟨h + 1, 0, none⟩), _, _, .pointer (some ⟨w.heap.size, 0, none⟩), _, .int .i64 (a : Int), _, _, _, _, _, _, _, _, _, _, _, _, _, _, _, _, _, _, _, _, _, _, _, _, _, _, _, _, _, _, .pointer (some ⟨h + 1, 0, none⟩), .pointer (some ⟨h + 1, 0, none⟩), .pointer (some ⟨h + 1, 0, none⟩), .slice (some ⟨h, 0, none⟩) (2 * T.n) (2 * T.n), _, _, _], []⟩ _
  refine wpAnyH_take (i := 4) (v := .int .i64 (a : Int)) rfl (by kernel_rfl) (by kernel_rfl) (by kernel_rfl) (fun _ _ _ h => h) (Or.inl ⟨by rfl, ?_⟩) hHeld ?_
  · intro W hW; (try dsimp only at hW); go_simp
  change wpAnyH _ _ _ _ _ _ _ ⟨#[.pointer (some ⟨h + 1, 0, none⟩), _, _, .pointer (some ⟨w.heap.size, 0, none⟩), _, .int .i64 (a : Int), _, _, _, _, _, _, _, _, _, _, _, _, _, _, _, _, _, _, _, _, _, _, _, _, _, _, _, _, _, _, .pointer (some ⟨h + 1, 0, none⟩), .pointer (some ⟨h + 1, 0, none⟩), .pointer (some ⟨h + 1, 0, none⟩), .slice (some ⟨h, 0, none⟩) (2 * T.n) (2 * T.n), .int .i64 (a : Int), _, _], []⟩ _
  refine wpAnyH_take (i := 5) (v := .agg (EC x)) rfl (by kernel_rfl) (by kernel_rfl) (by kernel_rfl) (fun _ _ _ h => h) (yieldsIf_load_mid (by rfl) 103 (.tmp 3) rfl w.heap.size 0 rfl (ecl x) _ (fun W hW => hW.2.at_) Tryd.underlying103 rfl Tryd.size103) hHeld ?_
  change wpAnyH _ _ _ _ _ _ _ ⟨#[.pointer (some ⟨h + 1, 0, none⟩), _, _, .pointer (some ⟨w.heap.size, 0, none⟩), _, .int .i64 (a : Int), _, _, _, _, _, _, _, _, _, _, _, _, _, _, _, _, _, _, _, _, _, _, _, _, _, _, _, _, _, _, .pointer (some ⟨h + 1, 0, none⟩), .pointer (some ⟨h + 1, 0, none⟩), .pointer (some ⟨h + 1, 0, none⟩), .slice (some ⟨h, 0, none⟩) (2 * T.n) (2 * T.n), .int .i64 (a : Int), .agg (EC x), _], []⟩ _
  refine wpAnyH_take (i := 6) (v := .pointer (some ⟨h, a * 10, none⟩)) rfl (by kernel_rfl) (by kernel_rfl) (by kernel_rfl) (fun _ _ _ h => h) (Or.inl ⟨by rfl, ?_⟩) hHeld ?_
  · intro W hW; (try dsimp only at hW); go_simp
  change wpAnyH _ _ _ _ _ _ _ ⟨#[.pointer (some ⟨h + 1, 0, none⟩), _, _, .pointer (some ⟨w.heap.size, 0, none⟩), _, .int .i64 (a : Int), _, _, _, _, _, _, _, _, _, _, _, _, _, _, _, _, _, _, _, _, _, _, _, _, _, _, _, _, _, _, .pointer (some ⟨h + 1, 0, none⟩), .pointer (some ⟨h + 1, 0, none⟩), .pointer (some ⟨h + 1, 0, none⟩), .slice (some ⟨h, 0, none⟩) (2 * T.n) (2 * T.n), .int .i64 (a : Int), .agg (EC x), .pointer (some ⟨h, a * 10, none⟩)], []⟩ _
  refine wpAnyH_ready (rs := [7]) (by kernel_rfl) (by simp) ?_
  refine AllReadyH.cons rfl (fun K hK => ?_) AllReadyH.nil
  rw [if_pos (by rfl)]
  refine wp_store_mid 103 (.tmp 42) (.tmp 41) rfl h (a * 10) (EC x) rfl rfl (HL.out.drew.thE HA.out) Tryd.size103 (one_EC x) ?_
  have Y3 := HL.out.drew.putE (List.getElem?_eq_getElem HA.out) x
  have G3 := setCells_grown h (ecl x) (a * 10) W2.drew
  refine hK.out _ _ ⟨HT.out.drew.kept (Nat.succ_ne_self h) G3, HX.out.drew.kept HK.out G3⟩ (fun hHeld => ?_)
  clear hK K hHeld
  obtain ⟨w4, hw4⟩ : ∃ w4, w4 = World.setCells W2.drew h (a * 10) (ecl x) := ⟨_, rfl⟩
  rw [← hw4] at Y3 G3
  have e4 : World.setCells W2.drew h (a * 10) (EC x).toList = w4 := by rw [hw4]; rfl
  rw [e4]
  have HY := hide Y3
  have HG := hide G3
  clear e4 hw4 Y3 G3
  change wpAnyH _ _ _ _ _ _ _ ⟨#[.pointer (some ⟨h + 1, 0, none⟩), _, _, .pointer (some ⟨w.heap.size, 0, none⟩), _, .int .i64 (a : Int), _, _, _, _, _, _, _, _, _, _, _, _, _, _, _, _, _, _, _, _, _, _, _, _, _, _, _, _, _, _, .pointer (some ⟨h + 1, 0, none⟩), .pointer (some ⟨h + 1, 0, none⟩), .pointer (some ⟨h + 1, 0, none⟩), .slice (some ⟨h, 0, none⟩) (2 * T.n) (2 * T.n), .int .i64 (a : Int), .agg (EC x), .pointer (some ⟨h, a * 10, none⟩)], []⟩ _
  refine wpAnyH_done (by kernel_rfl) ?_ _
  go_wp2
  go_ret
  refine ⟨rfl, ⟨ps.set a x, HP2.out.putNew hx hh HLL.out HP.out HY.out ?_⟩, ?_⟩
  · rw [← HU.out]; exact HT.out.drew.kept (by omega) HG.out
  · exact HM3.out.grown (grown_drew' HG.out) (Or.inr ⟨Nat.le_refl _, by omega⟩)
/-- What set answers, and what it leaves. -/
def full (T : FT) (v : Int) (m : Mc) : Bool := !fhs T.l v m && decide (T.n ≤ T.l.length)
def sT (T : FT) (x : En) : FT := if full T x.v x.m then T else ⟨T.n, up T.l x⟩
def sE (T : FT) (x : En) : Int := if full T x.v x.m then 3 else 0
theorem set33 (h : Nat) (ps : List En) (T : FT) (x : En) (w : World) (hx : Gd x) (H : PF w h ps T) :
    Calls Tryd.prog 73 #[.pointer (some ⟨h + 1, 0, none⟩), .agg (EC x)] w fun e w' => e = .returned (.int .i64 (sE T x)) ∧ (∃ ps', PF w' h ps' (sT T x)) ∧ Mid h (h + 2) w w' := by
  rcases Bool.eq_false_or_eq_true (fhs T.l x.v x.m) with hh | hh
  · have e : full T x.v x.m = false := by simp [full, hh]
    rw [sE, sT, e]
    exact set33_there h ps T x w hx H hh
  · by_cases hl : T.l.length < T.n
    · have e : full T x.v x.m = false := by simp [full, hh]; omega
      rw [sE, sT, e]
      exact set33_new h ps T x w hx H hh hl
    · have e : full T x.v x.m = true := by simp [full, hh]; omega
      rw [sE, sT, e]
      have := H.wf.le
      refine (set33_full h ps T x w hx H hh (by omega)).mono ?_
      rintro e w' ⟨rfl, hb⟩
      exact ⟨rfl, ⟨ps, H.on hb⟩, Mid.on (Mid.refl _ _ _) hb⟩
end Go.Proofs.YtgpdjfaklcmoiaaDoor
/- Contracts of takeOut and Remove. -/
namespace Go.Proofs.YtgpdjfaklcmoiaaDoor
open Go.RowKit Go.PlainAid

theorem Mid.grownM {h : Nat} {w wr w2 w3 : World} {o : Obj} (M : Mid h (h + 2) w wr) (hg : (wr.alloc o).grownBy w2 (some wr.heap.size)) (hb : Below w2.heap.size w2 w3) : Mid h (h + 2) w w3 :=
  Mid.on ((M.on (below_alloc wr o)).grown hg (Or.inl M.size)) hb
attribute [local go_sem] ZE
theorem rm_key {T : FT} (H : FW T) {v : Int} {m : Mc} (hh : fhs T.l v m = true) : T.l.filter (fun y => !eqE y (lk T.l v m)) = frm T.l v m := by
  refine List.filter_congr (fun y hy => ?_)
  congr 1
  rw [Bool.eq_iff_iff, eqE_iff]
  constructor
  · intro e; rw [e]; exact lk_ky T.l v m hh
  · intro e; exact (lk_of H hy e).2.symm
theorem rm_wf {T : FT} (H : FW T) (v : Int) (m : Mc) : FW ⟨T.n, frm T.l v m⟩ :=
  ⟨H.n1, H.n2, Nat.le_trans (List.length_filter_le _ _) H.le, rm_srt H.srt v m, fun z hz => H.gd z (rm_mem.1 hz).1⟩
end Go.Proofs.YtgpdjfaklcmoiaaDoor
/- Contract of Look. -/
namespace Go.Proofs.YtgpdjfaklcmoiaaDoor
open Go.RowKit Go.PlainAid

theorem res_ent_tmp {fn : Func} {p u : Tmp} (h : fn.results = #[.cell p 103, .tmp u]) {tmps : Array Value} {w : World} {k : Nat} {x : En} (hp : tmps.getD p undef = .pointer (some ⟨k, 0, none⟩)) (hA : Box w k (ecl x)) :
    (results fn tmps).run Tryd.prog w = .ok (.tuple #[.agg (EC x), tmps.getD u undef]) w := by
  have hl := run_loadVar_mid (P := Tryd.prog) w k 0 103 _ _ hA.at_ Tryd.underlying103 rfl Tryd.size103
  have hp' : tmps[p]?.getD undef = .pointer (some ⟨k, 0, none⟩) := by simpa using hp
  simp only [results, h]
  simp [hp', asAddr, hl, EC]
theorem hs_fre {T : FT} (H : FW T) (v : Int) (m : Mc) : (!fre (lk T.l v m)) = fhs T.l v m := by
  rcases Bool.eq_false_or_eq_true (fhs T.l v m) with hh | hh
  · rw [(H.gd _ (lk_mem hh)).fre, hh]; rfl
  · rw [lk_no _ _ _ hh, hh]; rfl
theorem belowOn' {N : Nat} {w w1 : World} (h : Below N w w1) : Below N w w1.drew := ⟨h.os, h.tape, h.output, h.size, h.block⟩
theorem below_more {w w1 w2 : World} {N : Nat} (h : Below N w w1) (hb : Below w1.heap.size w1 w2) (hN : N ≤ w1.heap.size) : Below N w w2 := h.trans (hb.mono hN)
attribute [local go_sem] ZE
set_option maxRecDepth 100000 in
set_option maxHeartbeats 4000000 in
theorem look11 (h : Nat) (ps : List En) (T : FT) (v : Int) (m : Mc) (w : World) (hm : Mok m) (H : PF w h ps T) :
    Calls Tryd.prog 41 #[.pointer (some ⟨h + 1, 0, none⟩), .int .i64 v, .agg (MC m)] w fun e w' => e = .returned (.tuple #[.agg (EC (lk T.l v m)), .bool (fhs T.l v m)]) ∧ Below w.heap.size w w' := by
  have n1 := H.wf.n1
  have n2 := H.wf.n2
  rw [← hs_fre H.wf]
  have M0 : Box ((w.alloc (.cells (MC m) 23)).alloc (.cells (EC zE) 103)) w.heap.size (mcl m) := (box_m w m).alloc _
  have Z0 : Box ((w.alloc (.cells (MC m) 23)).alloc (.cells (EC zE) 103)) (w.heap.size + 1) (ecl zE) := by
    have := box_e (w.alloc (.cells (MC m) 23)) zE
    rwa [World.size_alloc] at this
  have W0 : Below w.heap.size w ((w.alloc (.cells (MC m) 23)).alloc (.cells (EC zE) 103)) := by go_grown
  have P0 := H.on W0
  have HH := hide H
  have HM := hide hm
  have hlt := H.lt
  clear H hm
  have hk1 : Hid (h + 1 < w.heap.size ∧ w.heap.size < w.heap.size + 1) := hide ⟨by omega, by omega⟩
  go_enter Tryd.func41, Tryd.ntmps41
  go_wp2_with fail
  have HM0 := hide M0
  have HZ0 := hide Z0
  have HW0 := hide W0
  have HP0 := hide P0
  clear M0 Z0 W0 P0 hlt
  generalize (w.alloc (.cells (MC m) 23)).alloc (.cells (EC zE) 103) = W1 at *
  generalize hk : w.heap.size = k0 at *
  generalize hk' : k0 + 1 = k1 at *
  have hk2 : Hid (k0 < k1) := hide (by omega)
  clear hk'
  have HKK := hide hk
  clear hk
  refine wp_region_held_drew (S := fun w' => PF w' h ps T ∧ Box w' k0 (mcl m) ∧ Box w' k1 (ecl zE)) (by kernel_rfl) ⟨HP0.out.drew, HM0.out.drew, HZ0.out.drew⟩ (fun hHeld => ?_)
  have B := hide (belowOn' HW0.out)
  clear HP0 HM0 HZ0 HW0
  generalize W1.drew = u0 at *
  refine wpAnyH_take (i := 0) (v := .pointer (some ⟨h + 1, 0, none⟩)) rfl (by kernel_rfl) (by kernel_rfl) (by kernel_rfl) (fun _ _ _ h => h) (Or.inl ⟨by rfl, ?_⟩) hHeld ?_
  · intro W hW; (try dsimp only at hW); go_simp
  change wpAnyH _ _ _ _ _ _ _ ⟨#[.pointer (some ⟨h + 1, 0, none⟩), .int .i64 v, _, _, _, .pointer (some ⟨k0, 0, none⟩), .pointer (some ⟨k1, 0, none⟩), .bool false, _, .pointer (some ⟨h + 1, 0, none⟩), _, _, _, _, _, _, _, _, _, _, _, _, _], []⟩ _
  refine wpAnyH_take (i := 1) (v := .pointer (some ⟨h + 1, 0, none⟩)) rfl (by kernel_rfl) (by kernel_rfl) (by kernel_rfl) (fun _ _ _ h => h) (Or.inl ⟨by rfl, ?_⟩) hHeld ?_
  · intro W hW; (try dsimp only at hW); go_simp
  change wpAnyH _ _ _ _ _ _ _ ⟨#[.pointer (some ⟨h + 1, 0, none⟩), .int .i64 v, _, _, _, .pointer (some ⟨k0, 0, none⟩), .pointer (some ⟨k1, 0, none⟩), .bool false, _, .pointer (some ⟨h + 1, 0, none⟩), .pointer (some ⟨h + 1, 0, none⟩), _, _, _, _, _, _, _, _, _, _, _, _], []⟩ _
  refine wpAnyH_take (i := 2) (v := .pointer (some ⟨h + 1, 0, none⟩)) rfl (by kernel_rfl) (by kernel_rfl) (by kernel_rfl) (fun _ _ _ h => h) (Or.inl ⟨by rfl, ?_⟩) hHeld ?_
  · intro W hW; (try dsimp only at hW); go_simp
  change wpAnyH _ _ _ _ _ _ _ ⟨#[.pointer (some ⟨h + 1, 0, none⟩), .int .i64 v, _, _, _, .pointer (some ⟨k0, 0, none⟩), .pointer (some ⟨k1, 0, none⟩), .bool false, _, .pointer (some ⟨h + 1, 0, none⟩), .pointer (some ⟨h + 1, 0, none⟩), .pointer (some ⟨h + 1, 0, none⟩), _, _, _, _, _, _, _, _, _, _, _], []⟩ _
  refine wpAnyH_take (i := 3) (v := .slice (some ⟨h, 0, none⟩) (2 * T.n) (2 * T.n)) rfl (by kernel_rfl) (by kernel_rfl) (by kernel_rfl) (fun _ _ _ h => h) (Or.inl ⟨by rfl, ?_⟩) hHeld ?_
  · intro W hW; (try dsimp only at hW); have hc := hW.1.bx.cell 0 _ rfl; clear hW; go_simp
  change wpAnyH _ _ _ _ _ _ _ ⟨#[.pointer (some ⟨h + 1, 0, none⟩), .int .i64 v, _, _, _, .pointer (some ⟨k0, 0, none⟩), .pointer (some ⟨k1, 0, none⟩), .bool false, _, .pointer (some ⟨h + 1, 0, none⟩), .pointer (some ⟨h + 1, 0, none⟩), .pointer (some ⟨h + 1, 0, none⟩), .slice (some ⟨h, 0, none⟩) (2 * T.n) (2 * T.n), _, _, _, _, _, _, _, _, _, _], []⟩ _
  refine wpAnyH_take (i := 4) (v := .pointer (some ⟨h + 1, 0, none⟩)) rfl (by kernel_rfl) (by kernel_rfl) (by kernel_rfl) (fun _ _ _ h => h) (Or.inl ⟨by rfl, ?_⟩) hHeld ?_
  · intro W hW; (try dsimp only at hW); go_simp
  change wpAnyH _ _ _ _ _ _ _ ⟨#[.pointer (some ⟨h + 1, 0, none⟩), .int .i64 v, _, _, _, .pointer (some ⟨k0, 0, none⟩), .pointer (some ⟨k1, 0, none⟩), .bool false, _, .pointer (some ⟨h + 1, 0, none⟩), .pointer (some ⟨h + 1, 0, none⟩), .pointer (some ⟨h + 1, 0, none⟩), .slice (some ⟨h, 0, none⟩) (2 * T.n) (2 * T.n), .pointer (some ⟨h + 1, 0, none⟩), _, _, _, _, _, _, _, _, _], []⟩ _
  refine wpAnyH_take (i := 5) (v := .int .i64 v) rfl (by kernel_rfl) (by kernel_rfl) (by kernel_rfl) (fun _ _ _ h => h) (Or.inl ⟨by rfl, ?_⟩) hHeld ?_
  · intro W hW; (try dsimp only at hW); go_simp
  change wpAnyH _ _ _ _ _ _ _ ⟨#[.pointer (some ⟨h + 1, 0, none⟩), .int .i64 v, _, _, _, .pointer (some ⟨k0, 0, none⟩), .pointer (some ⟨k1, 0, none⟩), .bool false, _, .pointer (some ⟨h + 1, 0, none⟩), .pointer (some ⟨h + 1, 0, none⟩), .pointer (some ⟨h + 1, 0, none⟩), .slice (some ⟨h, 0, none⟩) (2 * T.n) (2 * T.n), .pointer (some ⟨h + 1, 0, none⟩), .int .i64 v, _, _, _, _, _, _, _, _], []⟩ _
  refine wpAnyH_take (i := 6) (v := .agg (MC m)) rfl (by kernel_rfl) (by kernel_rfl) (by kernel_rfl) (fun _ _ _ h => h) (yieldsIf_load_mid (by rfl) 23 (.tmp 5) rfl k0 0 rfl (mcl m) _ (fun W hW => hW.2.1.at_) Tryd.underlying23 rfl Tryd.size23) hHeld ?_
  change wpAnyH _ _ _ _ _ _ _ ⟨#[.pointer (some ⟨h + 1, 0, none⟩), .int .i64 v, _, _, _, .pointer (some ⟨k0, 0, none⟩), .pointer (some ⟨k1, 0, none⟩), .bool false, _, .pointer (some ⟨h + 1, 0, none⟩), .pointer (some ⟨h + 1, 0, none⟩), .pointer (some ⟨h + 1, 0, none⟩), .slice (some ⟨h, 0, none⟩) (2 * T.n) (2 * T.n), .pointer (some ⟨h + 1, 0, none⟩), .int .i64 v, .agg (MC m), _, _, _, _, _, _, _], []⟩ _
  refine wpAnyH_ready (rs := [7, 10]) (by kernel_rfl) (by simp) ?_
  refine AllReadyH.cons rfl (fun K hK => ?_) (AllReadyH.cons rfl (fun K hK => ?_) AllReadyH.nil)
  · skip
    go_simp
    refine (place26 h ps T v m _ HM.out hHeld.1).mono ?_
    rintro e u2 ⟨a, rfl, Q, hb⟩
    have ga := hide (Q.lk hHeld.1.rp hHeld.1.wf HM.out (fs_lt _ _ _ n1 n2) (fun y hy => by rw [(ky_iff _ _ _).1 hy |>.1.symm, ((ky_iff _ _ _).1 hy).2.symm]; rfl))
    have ha0 : (a : Int) < 2 * (T.n : Int) := by have := Q.lt; omega
    replace B := hide (below_more B.out hb (by have := B.out.size; have := HKK.out; omega))
    refine hK.out _ _ ⟨hHeld.1.on hb, hHeld.2.1.on hb, hHeld.2.2.on hb⟩ (fun hHeld => ?_)
    clear hK K Q
    change wpAnyH _ _ _ _ _ _ _ ⟨#[.pointer (some ⟨h + 1, 0, none⟩), .int .i64 v, _, _, _, .pointer (some ⟨k0, 0, none⟩), .pointer (some ⟨k1, 0, none⟩), .bool false, _, .pointer (some ⟨h + 1, 0, none⟩), .pointer (some ⟨h + 1, 0, none⟩), .pointer (some ⟨h + 1, 0, none⟩), .slice (some ⟨h, 0, none⟩) (2 * T.n) (2 * T.n), .pointer (some ⟨h + 1, 0, none⟩), .int .i64 v, .agg (MC m), .int .i64 (a : Int), _, _, _, _, _, _], []⟩ _
    refine wpAnyH_take (i := 8) (v := .pointer (some ⟨h, a * 10, none⟩)) rfl (by kernel_rfl) (by kernel_rfl) (by kernel_rfl) (fun _ _ _ h => h) (Or.inl ⟨by rfl, ?_⟩) hHeld ?_
    · intro W hW; (try dsimp only at hW); go_simp
    change wpAnyH _ _ _ _ _ _ _ ⟨#[.pointer (some ⟨h + 1, 0, none⟩), .int .i64 v, _, _, _, .pointer (some ⟨k0, 0, none⟩), .pointer (some ⟨k1, 0, none⟩), .bool false, _, .pointer (some ⟨h + 1, 0, none⟩), .pointer (some ⟨h + 1, 0, none⟩), .pointer (some ⟨h + 1, 0, none⟩), .slice (some ⟨h, 0, none⟩) (2 * T.n) (2 * T.n), .pointer (some ⟨h + 1, 0, none⟩), .int .i64 v, .agg (MC m), .int .i64 (a : Int), .pointer (some ⟨h, a * 10, none⟩), _, _, _, _, _], []⟩ _
    refine wpAnyH_take (i := 9) (v := .agg (EC (lk T.l v m))) rfl (by kernel_rfl) (by kernel_rfl) (by kernel_rfl) (fun _ _ _ h => h) (yieldsIf_load_mid (by rfl) 103 (.tmp 17) rfl h (a * 10) rfl (ecl (lk T.l v m)) _ (fun W hW => hW.1.pl.ent ga.out) Tryd.underlying103 rfl Tryd.size103) hHeld ?_
    change wpAnyH _ _ _ _ _ _ _ ⟨#[.pointer (some ⟨h + 1, 0, none⟩), .int .i64 v, _, _, _, .pointer (some ⟨k0, 0, none⟩), .pointer (some ⟨k1, 0, none⟩), .bool false, _, .pointer (some ⟨h + 1, 0, none⟩), .pointer (some ⟨h + 1, 0, none⟩), .pointer (some ⟨h + 1, 0, none⟩), .slice (some ⟨h, 0, none⟩) (2 * T.n) (2 * T.n), .pointer (some ⟨h + 1, 0, none⟩), .int .i64 v, .agg (MC m), .int .i64 (a : Int), .pointer (some ⟨h, a * 10, none⟩), .agg (EC (lk T.l v m)), _, _, _, _], []⟩ _
    refine wpAnyH_ready (rs := [10]) (by kernel_rfl) (by simp) ?_
    refine AllReadyH.cons rfl (fun K hK => ?_) AllReadyH.nil
    go_simp
    have HE : Hid (Box (World.alloc u2 (.cells (EC zE) 103)) (World.heap u2).size (ecl zE)) := hide (box_e u2 zE)
    have hn : Hid ((World.heap u2).size ≠ h ∧ (World.heap u2).size ≠ h + 1 ∧ (World.heap u2).size ≠ k0 ∧ (World.heap u2).size ≠ k1 ∧ k0 ≤ (World.heap u2).size) := hide (by have := hHeld.1.lt; have := hHeld.2.1.lt; have := hHeld.2.2.lt; omega)
    replace B := hide (below_more B.out (below_alloc u2 (.cells (EC zE) 103)) (by have := B.out.size; have := HKK.out; omega))
    refine hK.out _ _ ⟨hHeld.1.alloc _, hHeld.2.1.alloc _, hHeld.2.2.alloc _⟩ (fun hHeld => ?_)
    clear hK K
    generalize (World.heap u2).size = kx at *
    generalize World.alloc u2 (.cells (EC zE) 103) = u1 at *
    change wpAnyH _ _ _ _ _ _ _ ⟨#[.pointer (some ⟨h + 1, 0, none⟩), .int .i64 v, _, _, _, .pointer (some ⟨k0, 0, none⟩), .pointer (some ⟨k1, 0, none⟩), .bool false, .pointer (some ⟨kx, 0, none⟩), .pointer (some ⟨h + 1, 0, none⟩), .pointer (some ⟨h + 1, 0, none⟩), .pointer (some ⟨h + 1, 0, none⟩), .slice (some ⟨h, 0, none⟩) (2 * T.n) (2 * T.n), .pointer (some ⟨h + 1, 0, none⟩), .int .i64 v, .agg (MC m), .int .i64 (a : Int), .pointer (some ⟨h, a * 10, none⟩), .agg (EC (lk T.l v m)), _, _, _, _], []⟩ _
    refine wpAnyH_ready (rs := [11]) (by kernel_rfl) (by simp) ?_
    refine AllReadyH.cons rfl (fun K hK => ?_) AllReadyH.nil
    rw [if_pos (by rfl)]
    refine wp_store_mid 103 (.tmp 8) (.tmp 18) rfl kx 0 (EC (lk T.l v m)) rfl rfl HE.out.th Tryd.size103 (one_EC _) ?_
    have Y3 := HE.out.self (cs' := ecl (lk T.l v m)) rfl
    have G3 := setCells_grown kx (ecl (lk T.l v m)) 0 u1
    have hHeld3 : PF (World.setCells u1 kx 0 (ecl (lk T.l v m))) h ps T ∧ Box (World.setCells u1 kx 0 (ecl (lk T.l v m))) k0 (mcl m) ∧ Box (World.setCells u1 kx 0 (ecl (lk T.l v m))) k1 (ecl zE) := ⟨hHeld.1.keep (fun q h1 h2 => G3.block q (by have := hHeld.1.lt; omega) (fun e => by have := Option.some.inj e; have := hn.out; omega)), hHeld.2.1.kept (by have := hn.out; omega) G3, hHeld.2.2.kept (by have := hn.out; omega) G3⟩
    refine hK.out _ _ hHeld3 (fun hHeld => ?_)
    clear hK K hHeld hHeld3
    replace B := hide (below_grown B.out G3 (by have := hn.out; omega) (by have := B.out.size; have := HKK.out; omega))
    have PP := hide (hHeld.1.keep (fun q h1 h2 => G3.block q (by have := hHeld.1.lt; omega) (fun e => by have := Option.some.inj e; have := hn.out; omega)))
    have ZZ := hide (hHeld.2.2.kept (show k1 ≠ kx by have := hn.out; omega) G3)
    clear hHeld
    obtain ⟨w4, hw4⟩ : ∃ w4, w4 = World.setCells u1 kx 0 (ecl (lk T.l v m)) := ⟨_, rfl⟩
    rw [← hw4] at Y3 B PP ZZ
    have e4 : World.setCells u1 kx 0 (EC (lk T.l v m)).toList = w4 := by rw [hw4]; rfl
    rw [e4]
    have HY := hide Y3
    clear e4 hw4 Y3 G3 HE
    change wpAnyH _ _ _ _ _ _ _ ⟨#[.pointer (some ⟨h + 1, 0, none⟩), .int .i64 v, _, _, _, .pointer (some ⟨k0, 0, none⟩), .pointer (some ⟨k1, 0, none⟩), .bool false, .pointer (some ⟨kx, 0, none⟩), .pointer (some ⟨h + 1, 0, none⟩), .pointer (some ⟨h + 1, 0, none⟩), .pointer (some ⟨h + 1, 0, none⟩), .slice (some ⟨h, 0, none⟩) (2 * T.n) (2 * T.n), .pointer (some ⟨h + 1, 0, none⟩), .int .i64 v, .agg (MC m), .int .i64 (a : Int), .pointer (some ⟨h, a * 10, none⟩), .agg (EC (lk T.l v m)), _, _, _, _], []⟩ _
    refine wpAnyH_done (by kernel_rfl) ?_ _
    go_wp2_with fail
    refine wp_region_held_drew (S := fun w' => Box w' kx (ecl (lk T.l v m)) ∧ ∃ z, Box w' k1 (ecl z)) (by kernel_rfl) ⟨HY.out.drew, _, ZZ.out.drew⟩ (fun hHeld => ?_)
    replace B := hide (belowOn' B.out)
    clear HY ZZ PP
    generalize World.drew _ = u5 at *
    refine wpAnyH_take (i := 0) (v := .agg (EC (lk T.l v m))) rfl (by kernel_rfl) (by kernel_rfl) (by kernel_rfl) (fun _ _ _ h => h) (yieldsIf_load_mid (by rfl) 103 (.tmp 8) rfl kx 0 rfl (ecl (lk T.l v m)) _ (fun W hW => hW.1.at_) Tryd.underlying103 rfl Tryd.size103) hHeld ?_
    change wpAnyH _ _ _ _ _ _ _ ⟨#[_, _, _, _, _, _, .pointer (some ⟨k1, 0, none⟩), _, .pointer (some ⟨kx, 0, none⟩), _, _, _, _, _, _, _, _, _, _, .agg (EC (lk T.l v m)), _, _, _], []⟩ _
    refine wpAnyH_take (i := 1) (v := .agg (EC (lk T.l v m))) rfl (by kernel_rfl) (by kernel_rfl) (by kernel_rfl) (fun _ _ _ h => h) (yieldsIf_load_mid (by rfl) 103 (.tmp 8) rfl kx 0 rfl (ecl (lk T.l v m)) _ (fun W hW => hW.1.at_) Tryd.underlying103 rfl Tryd.size103) hHeld ?_
    change wpAnyH _ _ _ _ _ _ _ ⟨#[_, _, _, _, _, _, .pointer (some ⟨k1, 0, none⟩), _, .pointer (some ⟨kx, 0, none⟩), _, _, _, _, _, _, _, _, _, _, .agg (EC (lk T.l v m)), .agg (EC (lk T.l v m)), _, _], []⟩ _
    refine wpAnyH_ready (rs := [2]) (by kernel_rfl) (by simp) ?_
    refine AllReadyH.cons rfl (fun K hK => ?_) AllReadyH.nil
    go_simp
    refine (free27 (lk T.l v m) _).mono ?_
    rintro e u6 ⟨rfl, hb⟩
    replace B := hide (below_more B.out hb (by have := B.out.size; have := HKK.out; omega))
    obtain ⟨hx1, z, hx2⟩ := hHeld
    refine hK.out _ _ ⟨hx1.on hb, _, hx2.on hb⟩ (fun hHeld => ?_)
    have HZ := hide (hx2.on hb)
    have HE7 := hide (hx1.on hb)
    clear hK K hb hx1 hx2
    change wpAnyH _ _ _ _ _ _ _ ⟨#[_, _, _, _, _, _, .pointer (some ⟨k1, 0, none⟩), _, .pointer (some ⟨kx, 0, none⟩), _, _, _, _, _, _, _, _, _, _, .agg (EC (lk T.l v m)), .agg (EC (lk T.l v m)), .bool (fre (lk T.l v m)), _], []⟩ _
    refine wpAnyH_take (i := 3) (v := .bool (!fre (lk T.l v m))) rfl (by kernel_rfl) (by kernel_rfl) (by kernel_rfl) (fun _ _ _ h => h) (Or.inl ⟨by rfl, ?_⟩) hHeld ?_
    · intro W hW; (try dsimp only at hW); go_simp
    change wpAnyH _ _ _ _ _ _ _ ⟨#[_, _, _, _, _, _, .pointer (some ⟨k1, 0, none⟩), _, .pointer (some ⟨kx, 0, none⟩), _, _, _, _, _, _, _, _, _, _, .agg (EC (lk T.l v m)), .agg (EC (lk T.l v m)), .bool (fre (lk T.l v m)), .bool (!fre (lk T.l v m))], []⟩ _
    refine wpAnyH_ready (rs := [4]) (by kernel_rfl) (by simp) ?_
    refine AllReadyH.cons rfl (fun K hK => ?_) AllReadyH.nil
    rw [if_pos (by rfl)]
    refine wp_store_mid 103 (.tmp 6) (.tmp 19) rfl k1 0 (EC (lk T.l v m)) rfl rfl HZ.out.th Tryd.size103 (one_EC _) ?_
    have Y3 := HZ.out.self (cs' := ecl (lk T.l v m)) rfl
    have G3 := setCells_grown k1 (ecl (lk T.l v m)) 0 u6
    have Y4 := HE7.out.kept (show kx ≠ k1 by have := hn.out; omega) G3
    refine hK.out _ _ ⟨Y4, _, Y3⟩ (fun hHeld => ?_)
    replace B := hide (below_grown B.out G3 (by have := hk2.out; omega) (by have := B.out.size; have := HKK.out; omega))
    have HE8 := hide Y4
    clear hK K hHeld Y4
    obtain ⟨w7, hw7⟩ : ∃ w7, w7 = World.setCells u6 k1 0 (ecl (lk T.l v m)) := ⟨_, rfl⟩
    rw [← hw7] at Y3 B HE8
    have e7 : World.setCells u6 k1 0 (EC (lk T.l v m)).toList = w7 := by rw [hw7]; rfl
    rw [e7]
    have HY7 := hide Y3
    clear e7 hw7 Y3 G3
    have hHeld : Box w7 kx (ecl (lk T.l v m)) ∧ ∃ z, Box w7 k1 (ecl z) := ⟨HE8.out, _, HY7.out⟩
    change wpAnyH _ _ _ _ _ _ _ ⟨#[_, _, _, _, _, _, .pointer (some ⟨k1, 0, none⟩), _, .pointer (some ⟨kx, 0, none⟩), _, _, _, _, _, _, _, _, _, _, .agg (EC (lk T.l v m)), .agg (EC (lk T.l v m)), .bool (fre (lk T.l v m)), .bool (!fre (lk T.l v m))], []⟩ _
    refine wpAnyH_take (i := 5) (v := .bool (!fre (lk T.l v m))) rfl (by kernel_rfl) (by kernel_rfl) (by kernel_rfl) (fun _ _ _ h => h) (Or.inl ⟨by rfl, ?_⟩) hHeld ?_
    · intro W hW; (try dsimp only at hW); go_simp
    change wpAnyH _ _ _ _ _ _ _ ⟨#[_, _, _, _, _, _, .pointer (some ⟨k1, 0, none⟩), .bool (!fre (lk T.l v m)), .pointer (some ⟨kx, 0, none⟩), _, _, _, _, _, _, _, _, _, _, .agg (EC (lk T.l v m)), .agg (EC (lk T.l v m)), .bool (fre (lk T.l v m)), .bool (!fre (lk T.l v m))], []⟩ _
    refine wpAnyH_done (by kernel_rfl) ?_ _
    go_wp2
    exact bodyPost_ret (res_ent_tmp rfl rfl HY7.out) rfl ⟨rfl, by have e := HKK.out; first | exact B.out | (rw [e]; exact B.out)⟩
  · skip
    go_simp
    have HE : Hid (Box (World.alloc u0 (.cells (EC zE) 103)) (World.heap u0).size (ecl zE)) := hide (box_e u0 zE)
    have hn : Hid ((World.heap u0).size ≠ h ∧ (World.heap u0).size ≠ h + 1 ∧ (World.heap u0).size ≠ k0 ∧ (World.heap u0).size ≠ k1 ∧ k0 ≤ (World.heap u0).size) := hide (by have := hHeld.1.lt; have := hHeld.2.1.lt; have := hHeld.2.2.lt; omega)
    replace B := hide (below_more B.out (below_alloc u0 (.cells (EC zE) 103)) (by have := B.out.size; have := HKK.out; omega))
    refine hK.out _ _ ⟨hHeld.1.alloc _, hHeld.2.1.alloc _, hHeld.2.2.alloc _⟩ (fun hHeld => ?_)
    clear hK K
    generalize (World.heap u0).size = kx at *
    generalize World.alloc u0 (.cells (EC zE) 103) = u1 at *
    change wpAnyH _ _ _ _ _ _ _ ⟨#[.pointer (some ⟨h + 1, 0, none⟩), .int .i64 v, _, _, _, .pointer (some ⟨k0, 0, none⟩), .pointer (some ⟨k1, 0, none⟩), .bool false, .pointer (some ⟨kx, 0, none⟩), .pointer (some ⟨h + 1, 0, none⟩), .pointer (some ⟨h + 1, 0, none⟩), .pointer (some ⟨h + 1, 0, none⟩), .slice (some ⟨h, 0, none⟩) (2 * T.n) (2 * T.n), .pointer (some ⟨h + 1, 0, none⟩), .int .i64 v, .agg (MC m), _, _, _, _, _, _, _], []⟩ _
    refine wpAnyH_ready (rs := [7]) (by kernel_rfl) (by simp) ?_
    refine AllReadyH.cons rfl (fun K hK => ?_) AllReadyH.nil
    go_simp
    refine (place26 h ps T v m _ HM.out hHeld.1).mono ?_
    rintro e u2 ⟨a, rfl, Q, hb⟩
    have ga := hide (Q.lk hHeld.1.rp hHeld.1.wf HM.out (fs_lt _ _ _ n1 n2) (fun y hy => by rw [(ky_iff _ _ _).1 hy |>.1.symm, ((ky_iff _ _ _).1 hy).2.symm]; rfl))
    have ha0 : (a : Int) < 2 * (T.n : Int) := by have := Q.lt; omega
    replace B := hide (below_more B.out hb (by have := B.out.size; have := HKK.out; omega))
    refine hK.out _ _ ⟨hHeld.1.on hb, hHeld.2.1.on hb, hHeld.2.2.on hb⟩ (fun hHeld => ?_)
    clear hK K Q
    change wpAnyH _ _ _ _ _ _ _ ⟨#[.pointer (some ⟨h + 1, 0, none⟩), .int .i64 v, _, _, _, .pointer (some ⟨k0, 0, none⟩), .pointer (some ⟨k1, 0, none⟩), .bool false, .pointer (some ⟨kx, 0, none⟩), .pointer (some ⟨h + 1, 0, none⟩), .pointer (some ⟨h + 1, 0, none⟩), .pointer (some ⟨h + 1, 0, none⟩), .slice (some ⟨h, 0, none⟩) (2 * T.n) (2 * T.n), .pointer (some ⟨h + 1, 0, none⟩), .int .i64 v, .agg (MC m), .int .i64 (a : Int), _, _, _, _, _, _], []⟩ _
    refine wpAnyH_take (i := 8) (v := .pointer (some ⟨h, a * 10, none⟩)) rfl (by kernel_rfl) (by kernel_rfl) (by kernel_rfl) (fun _ _ _ h => h) (Or.inl ⟨by rfl, ?_⟩) hHeld ?_
    · intro W hW; (try dsimp only at hW); go_simp
    change wpAnyH _ _ _ _ _ _ _ ⟨#[.pointer (some ⟨h + 1, 0, none⟩), .int .i64 v, _, _, _, .pointer (some ⟨k0, 0, none⟩), .pointer (some ⟨k1, 0, none⟩), .bool false, .pointer (some ⟨kx, 0, none⟩), .pointer (some ⟨h + 1, 0, none⟩), .pointer (some ⟨h + 1, 0, none⟩), .pointer (some ⟨h + 1, 0, none⟩), .slice (some ⟨h, 0, none⟩) (2 * T.n) (2 * T.n), .pointer (some ⟨h + 1, 0, none⟩), .int .i64 v, .agg (MC m), .int .i64 (a : Int), .pointer (some ⟨h, a * 10, none⟩), _, _, _, _, _], []⟩ _
    refine wpAnyH_take (i := 9) (v := .agg (EC (lk T.l v m))) rfl (by kernel_rfl) (by kernel_rfl) (by kernel_rfl) (fun _ _ _ h => h) (yieldsIf_load_mid (by rfl) 103 (.tmp 17) rfl h (a * 10) rfl (ecl (lk T.l v m)) _ (fun W hW => hW.1.pl.ent ga.out) Tryd.underlying103 rfl Tryd.size103) hHeld ?_
    change wpAnyH _ _ _ _ _ _ _ ⟨#[.pointer (some ⟨h + 1, 0, none⟩), .int .i64 v, _, _, _, .pointer (some ⟨k0, 0, none⟩), .pointer (some ⟨k1, 0, none⟩), .bool false, .pointer (some ⟨kx, 0, none⟩), .pointer (some ⟨h + 1, 0, none⟩), .pointer (some ⟨h + 1, 0, none⟩), .pointer (some ⟨h + 1, 0, none⟩), .slice (some ⟨h, 0, none⟩) (2 * T.n) (2 * T.n), .pointer (some ⟨h + 1, 0, none⟩), .int .i64 v, .agg (MC m), .int .i64 (a : Int), .pointer (some ⟨h, a * 10, none⟩), .agg (EC (lk T.l v m)), _, _, _, _], []⟩ _
    have HE2 := hide (HE.out.on hb)
    clear HE
    rename Hid (Box u2 kx (ecl zE)) => HE
    refine wpAnyH_ready (rs := [11]) (by kernel_rfl) (by simp) ?_
    refine AllReadyH.cons rfl (fun K hK => ?_) AllReadyH.nil
    rw [if_pos (by rfl)]
    refine wp_store_mid 103 (.tmp 8) (.tmp 18) rfl kx 0 (EC (lk T.l v m)) rfl rfl HE.out.th Tryd.size103 (one_EC _) ?_
    have Y3 := HE.out.self (cs' := ecl (lk T.l v m)) rfl
    have G3 := setCells_grown kx (ecl (lk T.l v m)) 0 u2
    have hHeld3 : PF (World.setCells u2 kx 0 (ecl (lk T.l v m))) h ps T ∧ Box (World.setCells u2 kx 0 (ecl (lk T.l v m))) k0 (mcl m) ∧ Box (World.setCells u2 kx 0 (ecl (lk T.l v m))) k1 (ecl zE) := ⟨hHeld.1.keep (fun q h1 h2 => G3.block q (by have := hHeld.1.lt; omega) (fun e => by have := Option.some.inj e; have := hn.out; omega)), hHeld.2.1.kept (by have := hn.out; omega) G3, hHeld.2.2.kept (by have := hn.out; omega) G3⟩
    refine hK.out _ _ hHeld3 (fun hHeld => ?_)
    clear hK K hHeld hHeld3
    replace B := hide (below_grown B.out G3 (by have := hn.out; omega) (by have := B.out.size; have := HKK.out; omega))
    have PP := hide (hHeld.1.keep (fun q h1 h2 => G3.block q (by have := hHeld.1.lt; omega) (fun e => by have := Option.some.inj e; have := hn.out; omega)))
    have ZZ := hide (hHeld.2.2.kept (show k1 ≠ kx by have := hn.out; omega) G3)
    clear hHeld
    obtain ⟨w4, hw4⟩ : ∃ w4, w4 = World.setCells u2 kx 0 (ecl (lk T.l v m)) := ⟨_, rfl⟩
    rw [← hw4] at Y3 B PP ZZ
    have e4 : World.setCells u2 kx 0 (EC (lk T.l v m)).toList = w4 := by rw [hw4]; rfl
    rw [e4]
    have HY := hide Y3
    clear e4 hw4 Y3 G3 HE
    change wpAnyH _ _ _ _ _ _ _ ⟨#[.pointer (some ⟨h + 1, 0, none⟩), .int .i64 v, _, _, _, .pointer (some ⟨k0, 0, none⟩), .pointer (some ⟨k1, 0, none⟩), .bool false, .pointer (some ⟨kx, 0, none⟩), .pointer (some ⟨h + 1, 0, none⟩), .pointer (some ⟨h + 1, 0, none⟩), .pointer (some ⟨h + 1, 0, none⟩), .slice (some ⟨h, 0, none⟩) (2 * T.n) (2 * T.n), .pointer (some ⟨h + 1, 0, none⟩), .int .i64 v, .agg (MC m), .int .i64 (a : Int), .pointer (some ⟨h, a * 10, none⟩), .agg (EC (lk T.l v m)), _, _, _, _], []⟩ _
    refine wpAnyH_done (by kernel_rfl) ?_ _
    go_wp2_with fail
    refine wp_region_held_drew (S := fun w' => Box w' kx (ecl (lk T.l v m)) ∧ ∃ z, Box w' k1 (ecl z)) (by kernel_rfl) ⟨HY.out.drew, _, ZZ.out.drew⟩ (fun hHeld => ?_)
    replace B := hide (belowOn' B.out)
    clear HY ZZ PP
    generalize World.drew _ = u5 at *
    refine wpAnyH_take (i := 0) (v := .agg (EC (lk T.l v m))) rfl (by kernel_rfl) (by kernel_rfl) (by kernel_rfl) (fun _ _ _ h => h) (yieldsIf_load_mid (by rfl) 103 (.tmp 8) rfl kx 0 rfl (ecl (lk T.l v m)) _ (fun W hW => hW.1.at_) Tryd.underlying103 rfl Tryd.size103) hHeld ?_
    change wpAnyH _ _ _ _ _ _ _ ⟨#[_, _, _, _, _, _, .pointer (some ⟨k1, 0, none⟩), _, .pointer (some ⟨kx, 0, none⟩), _, _, _, _, _, _, _, _, _, _, .agg (EC (lk T.l v m)), _, _, _], []⟩ _
    refine wpAnyH_take (i := 1) (v := .agg (EC (lk T.l v m))) rfl (by kernel_rfl) (by kernel_rfl) (by kernel_rfl) (fun _ _ _ h => h) (yieldsIf_load_mid (by rfl) 103 (.tmp 8) rfl kx 0 rfl (ecl (lk T.l v m)) _ (fun W hW => hW.1.at_) Tryd.underlying103 rfl Tryd.size103) hHeld ?_
    change wpAnyH _ _ _ _ _ _ _ ⟨#[_, _, _, _, _, _, .pointer (some ⟨k1, 0, none⟩), _, .pointer (some ⟨kx, 0, none⟩), _, _, _, _, _, _, _, _, _, _, .agg (EC (lk T.l v m)), .agg (EC (lk T.l v m)), _, _], []⟩ _
    refine wpAnyH_ready (rs := [2]) (by kernel_rfl) (by simp) ?_
    refine AllReadyH.cons rfl (fun K hK => ?_) AllReadyH.nil
    go_simp
    refine (free27 (lk T.l v m) _).mono ?_
    rintro e u6 ⟨rfl, hb⟩
    replace B := hide (below_more B.out hb (by have := B.out.size; have := HKK.out; omega))
    obtain ⟨hx1, z, hx2⟩ := hHeld
    refine hK.out _ _ ⟨hx1.on hb, _, hx2.on hb⟩ (fun hHeld => ?_)
    have HZ := hide (hx2.on hb)
    have HE7 := hide (hx1.on hb)
    clear hK K hb hx1 hx2
    change wpAnyH _ _ _ _ _ _ _ ⟨#[_, _, _, _, _, _, .pointer (some ⟨k1, 0, none⟩), _, .pointer (some ⟨kx, 0, none⟩), _, _, _, _, _, _, _, _, _, _, .agg (EC (lk T.l v m)), .agg (EC (lk T.l v m)), .bool (fre (lk T.l v m)), _], []⟩ _
    refine wpAnyH_take (i := 3) (v := .bool (!fre (lk T.l v m))) rfl (by kernel_rfl) (by kernel_rfl) (by kernel_rfl) (fun _ _ _ h => h) (Or.inl ⟨by rfl, ?_⟩) hHeld ?_
    · intro W hW; (try dsimp only at hW); go_simp
    change wpAnyH _ _ _ _ _ _ _ ⟨#[_, _, _, _, _, _, .pointer (some ⟨k1, 0, none⟩), _, .pointer (some ⟨kx, 0, none⟩), _, _, _, _, _, _, _, _, _, _, .agg (EC (lk T.l v m)), .agg (EC (lk T.l v m)), .bool (fre (lk T.l v m)), .bool (!fre (lk T.l v m))], []⟩ _
    refine wpAnyH_ready (rs := [4]) (by kernel_rfl) (by simp) ?_
    refine AllReadyH.cons rfl (fun K hK => ?_) AllReadyH.nil
    rw [if_pos (by rfl)]
    refine wp_store_mid 103 (.tmp 6) (.tmp 19) rfl k1 0 (EC (lk T.l v m)) rfl rfl HZ.out.th Tryd.size103 (one_EC _) ?_
    have Y3 := HZ.out.self (cs' := ecl (lk T.l v m)) rfl
    have G3 := setCells_grown k1 (ecl (lk T.l v m)) 0 u6
    have Y4 := HE7.out.kept (show kx ≠ k1 by have := hn.out; omega) G3
    refine hK.out _ _ ⟨Y4, _, Y3⟩ (fun hHeld => ?_)
    replace B := hide (below_grown B.out G3 (by have := hk2.out; omega) (by have := B.out.size; have := HKK.out; omega))
    have HE8 := hide Y4
    clear hK K hHeld Y4
    obtain ⟨w7, hw7⟩ : ∃ w7, w7 = World.setCells u6 k1 0 (ecl (lk T.l v m)) := ⟨_, rfl⟩
    rw [← hw7] at Y3 B HE8
    have e7 : World.setCells u6 k1 0 (EC (lk T.l v m)).toList = w7 := by rw [hw7]; rfl
    rw [e7]
    have HY7 := hide Y3
    clear e7 hw7 Y3 G3
    have hHeld : Box w7 kx (ecl (lk T.l v m)) ∧ ∃ z, Box w7 k1 (ecl z) := ⟨HE8.out, _, HY7.out⟩
    change wpAnyH _ _ _ _ _ _ _ ⟨#[_, _, _, _, _, _, .pointer (some ⟨k1, 0, none⟩), _, .pointer (some ⟨kx, 0, none⟩), _, _, _, _, _, _, _, _, _, _, .agg (EC (lk T.l v m)), .agg (EC (lk T.l v m)), .bool (fre (lk T.l v m)), .bool (!fre (lk T.l v m))], []⟩ _
    refine wpAnyH_take (i := 5) (v := .bool (!fre (lk T.l v m))) rfl (by kernel_rfl) (by kernel_rfl) (by kernel_rfl) (fun _ _ _ h => h) (Or.inl ⟨by rfl, ?_⟩) hHeld ?_
    · intro W hW; (try dsimp only at hW); go_simp
    change wpAnyH _ _ _ _ _ _ _ ⟨#[_, _, _, _, _, _, .pointer (some ⟨k1, 0, none⟩), .bool (!fre (lk T.l v m)), .pointer (some ⟨kx, 0, none⟩), _, _, _, _, _, _, _, _, _, _, .agg (EC (lk T.l v m)), .agg (EC (lk T.l v m)), .bool (fre (lk T.l v m)), .bool (!fre (lk T.l v m))], []⟩ _
    refine wpAnyH_done (by kernel_rfl) ?_ _
    go_wp2
    exact bodyPost_ret (res_ent_tmp rfl rfl HY7.out) rfl ⟨rfl, by have e := HKK.out; first | exact B.out | (rw [e]; exact B.out)⟩
end Go.Proofs.YtgpdjfaklcmoiaaDoor
/- Contracts of mayBe and right; the program's table in memory; next, way, first. -/
namespace Go.Proofs.YtgpdjfaklcmoiaaDoor
open Go.RowKit Go.PlainAid

theorem rgt_no {v : Int} {m : Mc} {p : Int} (h : ¬ (1 ≤ v ∧ v ≤ 4094 ∧ 0 ≤ p ∧ p ≤ 1000)) : rgt v m p = false := by
  rw [Bool.eq_false_iff]
  intro e
  have := rgt_v e
  omega
set_option maxRecDepth 100000 in
set_option maxHeartbeats 1000000 in
theorem maybe31 (v : Int) (m : Mc) (p : Int) (w : World) (h : Mok m) :
    Calls Tryd.prog 71 #[.int .i64 v, .agg (MC m), .int .i64 p] w fun e w' => e = .returned (.bool (rgt v m p)) ∧ Below w.heap.size w w' := by
  have A0 := (box_m w m).at_
  have W0 : Hid (Below w.heap.size w (w.alloc (.cells (MC m) 23))) := hide (below_alloc w _)
  by_cases h1 : 1 ≤ v
  · by_cases h2 : v ≤ 4094
    · have q := fun w => group53 m w h
      have e : rgt v m p = (isP p && !grp m) := by simp [rgt, fisV, h1, h2]
      rw [e]
      generalize grp m = g at q ⊢
      have tk1 : True := trivial
      cases g
      · by_cases h3 : 0 ≤ p
        · by_cases h4 : p ≤ 1000
          all_goals
            go_enter Tryd.func71, Tryd.ntmps71
            go_wp2_with (first | (have _t := tk1; refine wpl_mac (.tmp 4) rfl A0 ?_ ?_ ?_; rfl; rfl; clear tk1) | (go_at_call 56; refine (q _).mono ?_; rintro e w1 ⟨rfl, hb⟩))
            go_ret
            exact ⟨ret_bool (by simp [isP, h3, h4]), belowOn W0.out hb⟩
        · go_enter Tryd.func71, Tryd.ntmps71
          go_wp2_with (first | (have _t := tk1; refine wpl_mac (.tmp 4) rfl A0 ?_ ?_ ?_; rfl; rfl; clear tk1) | (go_at_call 56; refine (q _).mono ?_; rintro e w1 ⟨rfl, hb⟩))
          go_ret
          exact ⟨ret_bool (by simp [isP]; omega), belowOn W0.out hb⟩
      · go_enter Tryd.func71, Tryd.ntmps71
        go_wp2_with (first | (have _t := tk1; refine wpl_mac (.tmp 4) rfl A0 ?_ ?_ ?_; rfl; rfl; clear tk1) | (go_at_call 56; refine (q _).mono ?_; rintro e w1 ⟨rfl, hb⟩))
        go_ret
        exact ⟨ret_bool (by simp), belowOn W0.out hb⟩
    · go_enter Tryd.func71, Tryd.ntmps71
      go_wp2
      go_ret
      exact ⟨ret_bool ((rgt_no (by omega)).symm), W0.out⟩
  · go_enter Tryd.func71, Tryd.ntmps71
    go_wp2
    go_ret
    exact ⟨ret_bool ((rgt_no (by omega)).symm), W0.out⟩
end Go.Proofs.YtgpdjfaklcmoiaaDoor
