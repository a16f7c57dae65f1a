/- What the body of the loop over the ports wants: loads, builds inside a round; its invariant; Out of the program for any frame; senders. · Contracts: the closures that say which ports are meant. · Contract: the loop over the ports, for Relay. · Contracts: Relay and learn of the program's bridge. · Contract: enter of the program's bridge. -/
import Derived.Test.YtgpdjfaklcmoiaaDoorM07
import Derived.Maps.AppendAt
/- What the body of the loop over the ports wants: loads, builds inside a round; its invariant; Out of the program for any frame; senders. -/
namespace Go.Proofs.YtgpdjfaklcmoiaaDoor
open Go.RowKit Go.PlainAid Go.Shelf
attribute [local go_sem] Oper.semAt_some

section
theorem wplin_frame {F : Fence} {n : Nat} {ops : Array Oper} {rest : List Oper} {o : Oper} {a : Act} {w : World} {Q : Exit → Act → World → Prop} (hgd : o.guard = none) (x : Operand) (ho : o.op = .load 26 x) {k : Nat} {p : Fd} {s : Value} (hA : Box w k (fcl p s)) (hx : a.eval x = .pointer (some ⟨k, 0, none⟩))
    (h : wpListIn F n Tryd.prog ops Q rest (a.put o.dst (.agg (FC p s))) w) : wpListIn F n Tryd.prog ops Q (o :: rest) a w := by
  refine wpListIn_plain hgd fun K hK => ?_
  have hl := run_loadAt_mid (P := Tryd.prog) w k 0 26 _ _ hA.at_ Tryd.underlying26 rfl Tryd.size26
  unfold Oper.wpIn
  refine ⟨by simp [Oper.about, ho], ?_⟩
  rw [Oper.semAt_plain F _ _ (by rw [ho]; intro c hc; cases hc)]
  simp only [execOp, ho, hx, hl, Sem.run_bind, Sem.run_pure, Result.andThen_ok]
  exact hK _ _ h
theorem wplin_bO {F : Fence} {n : Nat} {ops : Array Oper} {rest : List Oper} {o : Oper} {a : Act} {w : World} {Q : Exit → Act → World → Prop} (hgd : o.guard = none) (x y : Operand) (p : Int) (f : Fd) (s : Option Addr) (m c : Nat) (ho : o.op = .build 94 #[(0, x), (1, y)]) (hx : a.eval x = .int .i64 p) (hy : a.eval y = .agg (FC f (.slice s m c)))
    (h : wpListIn F n Tryd.prog ops Q rest (a.put o.dst (.agg (OC ⟨⟨p, f⟩, s, m, c⟩))) w) : wpListIn F n Tryd.prog ops Q (o :: rest) a w := by
  refine wpListIn_plain hgd fun K hK => ?_
  unfold Oper.wpIn
  refine ⟨by simp [Oper.about, ho], ?_⟩
  rw [Oper.semAt_plain F _ _ (by rw [ho]; intro c hc; cases hc)]
  simp only [execOp, ho, List.map_toArray, List.map_cons, List.map_nil, hx, hy, run_bO, Sem.run_bind, Sem.run_pure, Result.andThen_ok]
  exact hK _ _ h
theorem wplin_bsO {F : Fence} {n : Nat} {ops : Array Oper} {rest : List Oper} {o : Oper} {a : Act} {w : World} {Q : Exit → Act → World → Prop} (hgd : o.guard = none) (x : Operand) (e : Ow) (ho : o.op = .buildSlice 38 1 #[(0, x)]) (hx : a.eval x = .agg (OC e))
    (h : wpListIn F n Tryd.prog ops Q rest (a.put o.dst (.slice (some ⟨w.heap.size, 0, none⟩) 1 1)) (w.alloc (.cells (OC e) 94))) : wpListIn F n Tryd.prog ops Q (o :: rest) a w := by
  refine wpListIn_plain hgd fun K hK => ?_
  unfold Oper.wpIn
  refine ⟨by simp [Oper.about, ho], ?_⟩
  rw [Oper.semAt_plain F _ _ (by rw [ho]; intro c hc; cases hc)]
  simp only [execOp, ho, List.map_toArray, List.map_cons, List.map_nil, hx, run_bsO, Sem.run_bind, Sem.run_pure, Result.andThen_ok]
  exact hK _ _ h
theorem wplin_oapp {F : Fence} {n : Nat} {ops : Array Oper} {rest : List Oper} {o : Oper} {a : Act} {w : World} {Q : Exit → Act → World → Prop} (hgd : o.guard = none) (hty : o.type = 38) (s x : Operand)
    (ho : o.op = .call { callee := .builtin .append, args := #[s, x], argTypes := #[38, 38] })
    (base : Nat) (v : Value) (k : Nat) (xs : List Ow) (hs : a.eval s = v) (hown : w.ownsRow base 94 18 v k (ocs xs)) (ad : Addr) (e : Ow) (hx : a.eval x = .slice (some ad) 1 1)
    (hn : ∀ j u, (ocl e)[j]? = some u → w.cell? (ad.add j) = some u) (h1 : k ≤ 100000) (hbase : base ≤ w.heap.size)
    (h : ∀ v' w', w'.ownsRow base 94 18 v' (k + 1) (ocs (xs ++ [e])) → w.grownBy w' v.ownBlock → (v'.ownBlock = v.ownBlock ∨ v'.ownBlock = some w.heap.size) → wpListIn F n Tryd.prog ops Q rest (a.put o.dst v') w') : wpListIn F n Tryd.prog ops Q (o :: rest) a w := by
  obtain ⟨i0, hi, hz0, hz1, hz2⟩ := info_parts Tryd.info94
  obtain ⟨v', w', hr, h2, h3, -, h4⟩ := run_append_own_at (P := Tryd.prog) w base 38 38 94 i0 _ 18 72 Tryd.underlying38 hi hz0 hz1 hz2 rfl (by decide) v k (ocs xs) hown ad 1 1 (ocl e) rfl hn (one_ocl e) (by unfold maxLen; omega) (by omega) hbase
  have hk := h v' w' (by rw [ocs_append]; simpa [ocs] using h2) h3 h4
  refine wpListIn_plain hgd fun K hK => ?_
  unfold Oper.wpIn
  refine ⟨by simp [Oper.about, ho, resolve, Target.leads, Sem.run_pure], ?_⟩
  rw [Oper.semAt_plain F _ _ (by rw [ho]; intro c hc; cases hc)]
  simp only [execOp, ho, hty, resolve, invoke, builtin, Sem.run_bind, Sem.run_pure, Result.andThen_ok, List.map_toArray, List.map_cons, List.map_nil, hs, hx, hr]
  exact hK _ _ hk
end
theorem row_lower {w : World} {base base' : Nat} {e : TypeId} {z n : Nat} {v : Value} {xs : List Value} (h : w.ownsRow base e z v n xs) (hb : base' ≤ base) : w.ownsRow base' e z v n xs := by
  refine ⟨h.1, ?_⟩
  rcases h.2 with h | ⟨b, cap, cur, rfl, hb', hc, r⟩
  · exact Or.inl h
  · exact Or.inr ⟨b, cap, cur, rfl, Nat.le_trans hb hb', hc, r⟩
theorem rt_len {f : Fd} (h : rt f = true) : f.bs.length ≤ 1500 := by
  unfold rt at h
  simp only [Bool.and_eq_true, decide_eq_true_eq] at h
  have := h.1.2
  omega
/-- Out, whatever the frame. -/
theorem outQ (h : Nat) (T : Tb) (v p : Int) (f : Fd) (a : Option Addr) (n c : Nat) (w : World) (P : PT w h T) (hY : Byt w a n c f.bs) :
    Calls Tryd.prog 53 #[.pointer (some ⟨h + 2, 0, none⟩), .int .i64 v, .int .i64 p, .agg (FC f (.slice a n c))] w (OuP T v p f w) := by
  rcases Bool.eq_false_or_eq_true (rt f) with hr | hr
  · exact out19 h T v p f a n c w P hY (by have := rt_len hr; have := hY.len; omega)
  · exact out19_arg h T v p f a n c w P hY.len (by rw [hr, Bool.and_false])
/-- What the loop over the ports has so far. -/
def Iow (b : Nat) (w W3 : World) (L : List Int → List Ot) (pre : List Int) (W : World) : Prop :=
  ∃ (lv : Value) (xs : List Ow), Boxed W (b + 4) 38 lv ∧ W.ownsRow (b + 8) 94 18 lv xs.length (ocs xs) ∧ xs.map Ow.o = L pre ∧ (∀ x ∈ xs, Byt W x.a x.n x.c x.o.f.bs) ∧ (∀ x ∈ xs, ∀ k o, x.a = some ⟨k, o, none⟩ → 0 < x.n → b + 8 ≤ k ∧ lv.ownBlock ≠ some k) ∧ Below b w W ∧ b + 8 ≤ W.heap.size ∧ (∀ k, k < b + 8 → k ≠ b + 4 → W.heap[k]? = W3.heap[k]?)
theorem byt_keep {w w1 : World} {ao : Option Addr} {n c : Nat} {ns : List Int} (h : Byt w ao n c ns) (hb : ∀ b o v, ao = some ⟨b, o, none⟩ → 0 < n → w.cell? ⟨b, o, none⟩ = some v → w1.heap[b]? = w.heap[b]?) : Byt w1 ao n c ns :=
  ⟨h.len, h.nil, fun j hj => by
    obtain ⟨b, o, e, hc⟩ := h.cell j hj
    obtain ⟨b', o', e', hc'⟩ := h.cell 0 (by omega)
    rw [e] at e'
    cases e'
    refine ⟨b, o, e, ?_⟩
    rw [World.cell?_of_block (a := ⟨b, o + j, none⟩) (hb b o _ e (by omega) (by rw [Nat.add_zero] at hc'; exact hc'))]
    exact hc, h.le, h.mx, h.rng⟩
theorem io_own (b : Nat) (w W3 : World) (L : List Int → List Ot) : OwnFrom (b + 8) (Iow b w W3 L) := by
  rintro pre W W' row ⟨lv, xs, h1, h2, h3, h4, h5, h6, h7, h8⟩ g hr
  refine ⟨lv, xs, (g.block (b + 4) h1.lt (fun e => by have := (hr _ e.symm).1; omega)).trans h1, h2.kept g ?_, h3, fun x hx => ?_, h5, h6.grown g (by omega) (fun k e => by have := (hr k e).1; omega), Nat.le_trans h7 g.size, fun k hk hk2 => (g.block k (by omega) (fun e => by have := (hr _ e.symm).1; omega)).trans (h8 k hk hk2)⟩
  · rcases h2.2 with ⟨rfl, _⟩ | ⟨g', cap, cur, rfl, _, hgb, _⟩
    · exact .inl rfl
    · refine .inr fun e' => ?_
      obtain ⟨_, o, ho, hc⟩ := hr g' (by simpa [Value.ownBlock] using e'.symm)
      rw [hgb] at ho
      cases ho
      cases hc
  · exact byt_keep (h4 x hx) (fun k o v e hp hc => grown_cells hc g (fun r e => (hr r e).2))
theorem io_on {b : Nat} {w W3 W W' : World} {L : List Int → List Ot} {pre : List Int} (h : Iow b w W3 L pre W) (hb : Below W.heap.size W W') : Iow b w W3 L pre W' :=
  io_own b w W3 L pre W W' none h (grown_none hb) (fun r e => by cases e)
theorem io_row {b : Nat} {w W3 W : World} {L : List Int → List Ot} {pre : List Int} (h : Iow b w W3 L pre W) : ∀ k, rowOf W (b + 4) = some k → b + 8 ≤ k := by
  obtain ⟨lv, xs, h1, h2, -⟩ := h
  intro k hk
  unfold rowOf at hk
  rw [h1.cell] at hk
  exact (h2.lt k hk).1
theorem keepsFrom_of {B : Nat} {W W' : World} (h : Below W.heap.size W W') : KeepsFrom B W W' := ⟨h.size, fun k o _ ho _ => by rw [h.block k (Array.getElem?_eq_some_iff.1 ho).1]; exact ho⟩
set_option maxRecDepth 100000 in
set_option maxHeartbeats 2000000 in
theorem senders_in (F : Fence) (n : Nat) (h32 : F.fn 52) (hro : F.round = none) (p : Option Addr) (v u : Int) (w : World) :
    CallsIn F n Tryd.prog 52 #[.pointer p, .int .i64 v, .int .i64 u] w fun e w' => e = .returned (.func (.func 66) #[] #[.pointer (some ⟨w.heap.size, 0, none⟩), .pointer (some ⟨w.heap.size + 1, 0, none⟩), .pointer (some ⟨w.heap.size + 1 + 1, 0, none⟩)]) ∧ w' = ((w.alloc (.cells #[.pointer p] 28)).alloc (.cells #[.int .i64 v] 3)).alloc (.cells #[.int .i64 u] 3) := by
  refine callsIn_of_wp Tryd.func52 rfl h32 ?_ hro
  simp only [Tryd.ntmps52, List.size_toArray, List.length_cons, List.length_nil, Nat.reduceAdd, Nat.reduceSub, Array.replicate_succ, Array.replicate_zero, List.push_toArray, List.append_toArray, List.nil_append, List.cons_append]
  gi_wp2
  go_ret
  exact ⟨by simp, rfl⟩
/-- Blocks laid one behind another. -/
def allocs (w : World) (l : List Obj) : World := l.foldl World.alloc w
theorem allocs_size (w : World) (l : List Obj) : (allocs w l).heap.size = w.heap.size + l.length := by
  unfold allocs
  induction l generalizing w with
  | nil => rfl
  | cons o r ih => rw [List.foldl_cons, ih, World.size_alloc, List.length_cons]; omega
theorem allocs_below (w : World) (l : List Obj) : Below w.heap.size w (allocs w l) := by
  unfold allocs
  induction l generalizing w with
  | nil => exact Below.refl _ _
  | cons o r ih =>
    rw [List.foldl_cons]
    have := below_alloc w o
    exact this.trans ((ih (w.alloc o)).mono this.size)
theorem allocs_get (w : World) (l : List Obj) : ∀ (i : Nat) (o : Obj), l[i]? = some o → ∃ w0 : World, w0.heap.size = w.heap.size + i ∧ (allocs w l).heap[w.heap.size + i]? = (w0.alloc o).heap[w.heap.size + i]? := by
  unfold allocs
  induction l generalizing w with
  | nil => intro i o h; simp at h
  | cons o r ih =>
    intro i o' h
    rw [List.foldl_cons]
    cases i with
    | zero =>
      obtain rfl : o = o' := by simpa using h
      refine ⟨w, rfl, ?_⟩
      exact (allocs_below (w.alloc o) r).block _ (by simp)
    | succ i =>
      obtain ⟨w0, h1, h2⟩ := ih (w.alloc o) i o' (by simpa using h)
      rw [World.size_alloc] at h1 h2
      refine ⟨w0, by omega, ?_⟩
      rw [show w.heap.size + (i + 1) = w.heap.size + 1 + i by omega]
      exact h2
theorem allocs_box {w : World} {l : List Obj} {i : Nat} {cs : List Value} {t : TypeId} (h : l[i]? = some (.cells cs.toArray t (0, 0))) : Box (allocs w l) (w.heap.size + i) cs := by
  obtain ⟨w0, h1, h2⟩ := allocs_get w l i _ h
  have b := Box.new w0 cs t
  rw [h1] at b
  exact b.block h2
end Go.Proofs.YtgpdjfaklcmoiaaDoor
/- Contracts: the closures that say which ports are meant. -/
namespace Go.Proofs.YtgpdjfaklcmoiaaDoor
open Go.RowKit Go.PlainAid Go.Shelf

set_option maxRecDepth 100000 in
set_option maxHeartbeats 1000000 in
theorem meantA (kt : Nat) (t x : Int) (W : World) (h : Box W kt [.int .i64 t]) : Calls Tryd.prog 37 #[.int .i64 x, .pointer (some ⟨kt, 0, none⟩)] W fun e w' => e = .returned (.bool (t == 0 || x == t)) ∧ w' = W := by
  have c0 := h.cell 0 _ rfl
  clear h
  rcases Bool.eq_false_or_eq_true (t == 0) with h1 | h1
  · rw [h1, Bool.true_or]
    go_enter Tryd.func37, Tryd.ntmps37
    go_wp2
    go_ret
    exact ⟨rfl, rfl⟩
  · rw [h1, Bool.false_or]
    go_enter Tryd.func37, Tryd.ntmps37
    go_wp2
    go_ret
    exact ⟨rfl, rfl⟩
set_option maxRecDepth 100000 in
set_option maxHeartbeats 1000000 in
theorem meantB (kk ks : Nat) (kn : Bool) (y : En) (x : Int) (W : World) (h : Box W kk [.bool kn] ∧ Box W ks (ecl y)) : Calls Tryd.prog 42 #[.int .i64 x, .pointer (some ⟨kk, 0, none⟩), .pointer (some ⟨ks, 0, none⟩)] W fun e w' => e = .returned (.bool (!kn || x == y.p)) ∧ w' = W := by
  have c0 := h.1.cell 0 _ rfl
  have c1 := h.2.cell 7 _ rfl
  clear h
  cases kn
  · go_enter Tryd.func42, Tryd.ntmps42
    go_wp2
    go_ret
    exact ⟨rfl, rfl⟩
  · rw [show (!true || x == y.p) = (x == y.p) from rfl]
    go_enter Tryd.func42, Tryd.ntmps42
    go_wp2
    go_ret
    exact ⟨rfl, rfl⟩
end Go.Proofs.YtgpdjfaklcmoiaaDoor
/- Contract: the loop over the ports, for Relay. -/
namespace Go.Proofs.YtgpdjfaklcmoiaaDoor
open Go.RowKit Go.PlainAid Go.Shelf
attribute [local go_sem] Oper.semAt_some ZF

set_option maxRecDepth 100000 in
set_option maxHeartbeats 8000000 in
theorem outsA (A : PAd) (B : Br) (v u : Int) (f : Fd) (a : Option Addr) (n c : Nat) (kt : Nat) (t : Int) (w : World) (H : PB w A B) (hY : Byt w a n c f.bs) (hv : I64 v) (hX : Box w kt [.int .i64 t]) :
    Calls Tryd.prog 36 #[.pointer (some ⟨A.g, 0, none⟩), .int .i64 v, .int .i64 u, .agg (FC f (.slice a n c)), .func (.func 37) #[] #[.pointer (some ⟨kt, 0, none⟩)]] w fun e w' => ∃ ao xs cc, e = .returned (.slice ao xs.length cc) ∧ Ots w' ao xs.length cc xs ∧ xs.map Ow.o = ols B v f (fun p : Int => (t == 0 || p == t)) (sel B u (mbs B.V.l v B.V.n)) ∧ Below w.heap.size w w' ∧ OwnO w ao xs := by
  obtain ⟨i0, hi, hz0, hz1, hz2⟩ := info_parts Tryd.info94
  obtain ⟨b, hb⟩ : ∃ b, b = w.heap.size := ⟨_, rfl⟩
  obtain ⟨z, hz⟩ : ∃ z, z = allocs w [.cells #[.pointer (some ⟨A.g, 0, none⟩)] 28, .cells #[.int .i64 v] 3, .cells (FC f (.slice a n c)) 26, .cells #[.func (.func 37) #[] #[.pointer (some ⟨kt, 0, none⟩)]] 67, .cells #[.slice none 0 0] 38, .cells #[.pointer (some ⟨A.g, 0, none⟩)] 28, .cells #[.int .i64 v] 3, .cells #[.int .i64 u] 3] := ⟨_, rfl⟩
  have hze : (((((((w.alloc (.cells #[.pointer (some ⟨A.g, 0, none⟩)] 28)).alloc (.cells #[.int .i64 v] 3)).alloc (.cells (FC f (.slice a n c)) 26)).alloc (.cells #[.func (.func 37) #[] #[.pointer (some ⟨kt, 0, none⟩)]] 67)).alloc (.cells #[.slice none 0 0] 38)).alloc (.cells #[.pointer (some ⟨A.g, 0, none⟩)] 28)).alloc (.cells #[.int .i64 v] 3)).alloc (.cells #[.int .i64 u] 3) = z := hz.symm
  have zs : z.heap.size = b + 8 := by rw [hz, allocs_size, hb]; rfl
  have zb : Below b w z := by rw [hz, hb]; exact allocs_below _ _
  have z0 : Box z b [.pointer (some ⟨A.g, 0, none⟩)] := by rw [hz, hb]; exact allocs_box (i := 0) (t := 28) rfl
  have z1 : Box z (b + 1) [.int .i64 v] := by rw [hz, hb]; exact allocs_box (i := 1) (t := 3) rfl
  have z2 : Box z (b + 2) (fcl f (.slice a n c)) := by rw [hz, hb]; exact allocs_box (i := 2) (t := 26) rfl
  have z3 : Box z (b + 3) [.func (.func 37) #[] #[.pointer (some ⟨kt, 0, none⟩)]] := by rw [hz, hb]; exact allocs_box (i := 3) (t := 67) rfl
  have z4 : Boxed z (b + 4) 38 (.slice none 0 0) := by
    obtain ⟨w0, h1, h2⟩ := allocs_get w [.cells #[.pointer (some ⟨A.g, 0, none⟩)] 28, .cells #[.int .i64 v] 3, .cells (FC f (.slice a n c)) 26, .cells #[.func (.func 37) #[] #[.pointer (some ⟨kt, 0, none⟩)]] 67, .cells #[.slice none 0 0] 38, .cells #[.pointer (some ⟨A.g, 0, none⟩)] 28, .cells #[.int .i64 v] 3, .cells #[.int .i64 u] 3] 4 _ rfl
    rw [← hz, ← hb] at h2
    have h3 := Boxed.new w0 38 (.slice none 0 0)
    rw [h1, ← hb] at h3
    exact h2.trans h3
  have z5 : Box z (b + 5) [.pointer (some ⟨A.g, 0, none⟩)] := by rw [hz, hb]; exact allocs_box (i := 5) (t := 28) rfl
  have z6 : Box z (b + 6) [.int .i64 v] := by rw [hz, hb]; exact allocs_box (i := 6) (t := 3) rfl
  have z7 : Box z (b + 7) [.int .i64 u] := by rw [hz, hb]; exact allocs_box (i := 7) (t := 3) rfl
  have hlt := H.lt
  have hkt : kt < b := by rw [hb]; exact hX.lt
  have ZP := hide (H.on (by rw [← hb]; exact zb))
  have ZY := hide (hY.on (by rw [← hb]; exact zb))
  have ZYL : Hid (∀ b' o, a = some ⟨b', o, none⟩ → 0 < n → b' < b) := hide (fun b' o e hp => by rw [hb]; exact hY.lt b' o e hp)
  have ZX : Hid (Box z kt [.int .i64 t]) := hide (by exact hX.on (by rw [← hb]; exact zb))
  have hbA : A.hi ≤ b := by omega
  have HZ := hide hz
  have HVI := hide hv
  have HL := hide (mbs_len B.V.l v B.V.n)
  have HVN : Hid (B.V.n ≤ 64) := hide (by have := H.wf.vn; have := H.wf.n2; omega)
  clear H hY hlt hX hv hz
  refine (callsIn_wide (n := 6)).1 ?_
  refine callsIn_of_wp_marks Tryd.func36 rfl trivial ?_ rfl
  simp only [Tryd.ntmps36, List.size_toArray, List.length_cons, List.length_nil, Nat.reduceAdd, Nat.reduceSub, Array.replicate_succ, Array.replicate_zero, List.push_toArray, List.append_toArray, List.nil_append, List.cons_append]
  gi_wp2_with (refine ⟨trivial, ?_⟩; gi_at_call 52; refine (senders_in _ _ trivial rfl _ _ _ _).mono ?_; rintro e w' ⟨rfl, rfl⟩)
  rw [← hb]
  clear hze
  have HB := hide hb
  clear hb
  have sq9 : SeqStopsK Fence.wide (6 - 1) Tryd.prog 66 #[.pointer (some ⟨b + 5, 0, none⟩), .pointer (some ⟨b + 6, 0, none⟩), .pointer (some ⟨b + 7, 0, none⟩)] (fun x : Int => #[Value.int .i64 x]) (KpO (b + 8) (b + 4)) (fun xs => xs = sel B u (mbs B.V.l v B.V.n)) (fun _ => True) (mbs B.V.l v B.V.n).length z := fun l J Jx W hW hJ _ hY h0 =>
    each107_in (6 - 1) (by omega) l (b + 5) (b + 6) (b + 7) (b + 4) (b + 8) A B v u J Jx HVI.out (by omega) hY W hJ (by rw [← zs]; exact hW.size) (z5.on hW) (z6.on hW) (z7.on hW) (ZP.out.on hW) (by
      unfold rowOf
      rw [World.cell?_of_block (a := ⟨b + 4, 0, none⟩) (hW.block (b + 4) (by omega)), z4.cell]
      rfl) h0
  refine wpIn_rangeFunc_ownH (α := Int) rfl (by omega) (gf := 66) (lb := #[.pointer (some ⟨b + 5, 0, none⟩), .pointer (some ⟨b + 6, 0, none⟩), .pointer (some ⟨b + 7, 0, none⟩)]) rfl trivial (enters_of Tryd.func66 (by kernel_rfl) rfl)
    sq9 (fun h1 h2 => h1.trans h2) (fun W l o o' hl h hc _ => KpO.putObj W o' (by rw [← zs]; exact hl) (by omega) h hc) (Below.refl _ _) (fun _ => rfl)
    (Iow b w z (fun pre => ols B v f (fun p : Int => (t == 0 || p == t)) pre)) (fun _ _ _ => False) (by rw [zs]; exact io_own b w z _) (fun _ _ _ _ _ hs _ _ => hs)
    ⟨_, [], z4, World.ownsRow_nil _ _ _ _, rfl, fun x hx => (by cases hx), fun x hx => (by cases hx), zb, by omega, fun _ _ _ => rfl⟩
    (fun x a' _ => a' = ⟨#[.pointer (some ⟨A.g, 0, none⟩), .int .i64 v, .int .i64 u, .agg (FC f (.slice a n c)), .func (.func 37) #[] #[.pointer (some ⟨kt, 0, none⟩)], .pointer (some ⟨b, 0, none⟩), .pointer (some ⟨b + 1, 0, none⟩), undef, .pointer (some ⟨b + 2, 0, none⟩), .pointer (some ⟨b + 3, 0, none⟩), .slice none 0 0, .pointer (some ⟨b + 4, 0, none⟩), .int .i64 x, undef, undef, .pointer (some ⟨A.g, 0, none⟩), .int .i64 v, .int .i64 u, .func (.func 66) #[] #[.pointer (some ⟨b + 5, 0, none⟩), .pointer (some ⟨b + 6, 0, none⟩), .pointer (some ⟨b + 7, 0, none⟩)], .int .i64 x, undef, undef, undef, undef, undef, undef, undef, undef, undef, undef, undef, undef, undef, undef, undef, undef, undef, undef, undef, undef, undef, undef, undef, undef], []⟩) (fun _ _ _ _ _ _ hs _ _ => hs) ?cA ?cB ?cD ?cS
  case cA =>
    intro l pre x W K hI hK
    have HI := hide hI
    have HKK := hide hK
    clear hI hK
    gi_wp2
    exact HKK.out _ W (KeepsFrom.refl _ _) (KpO.refl _ _ _) HI.out rfl
  case cB =>
    rintro l pre x a' wr hl ⟨rec, hrec⟩ hI rfl hpl
    have hir := io_row hI
    have HII := hide hI
    obtain ⟨lv, xs, i1, i2, i3, i4, i5, i6, i7, i8⟩ := hI
    have W0 := hide (z0.block (i8 b (by omega) (by omega)))
    have W1 := hide (z1.block (i8 (b + 1) (by omega) (by omega)))
    have W2 := hide (z2.block (i8 (b + 2) (by omega) (by omega)))
    have W3 := hide (z3.block (i8 (b + 3) (by omega) (by omega)))
    have WP := hide (ZP.out.keep (fun k h1 h2 => i8 k (by omega) (by omega)))
    have WY := hide (byt_keep ZY.out (fun b' o v e hp _ => i8 b' (by have := ZYL.out b' o e hp; omega) (by have := ZYL.out b' o e hp; omega)))
    have WX : Hid (Box wr kt [.int .i64 t]) := hide (by exact ZX.out.block (i8 kt (by omega) (by omega)))
    have HIR := hide hir
    have c3 := W3.out.cell 0 _ rfl
    have hmt := fun W h => meantA kt t x W h
    have hpl2 : Hid (pre.length ≤ 64) := hide (by have := HL.out; have := HVN.out; omega)
    have HXS : Hid (xs.length ≤ 64) := hide (by
      have h1 := congrArg List.length i3
      rw [List.length_map] at h1
      dsimp only at h1
      have h2 := ols_len B v f (fun p : Int => (t == 0 || p == t)) pre
      have := hpl2.out
      omega)
    have I1 := hide i1
    have I2 := hide i2
    have I3 := hide i3
    have I4 := hide i4
    have I5 := hide i5
    have I6 := hide i6
    have I7 := hide i7
    have I8 := hide i8
    clear z0 z1 z2 z3 z4 z5 z6 z7 hir i1 i2 i3 i4 i5 i6 i7 i8 sq9 hpl hrec
    rcases Bool.eq_false_or_eq_true ((fun p : Int => (t == 0 || p == t)) x) with hM | hM
    rotate_left
    · dsimp only at hM
      have HN : Hid (ols B v f (fun p : Int => (t == 0 || p == t)) (pre ++ [x]) = ols B v f (fun p : Int => (t == 0 || p == t)) pre) := hide (by rw [ols_append, ols_one, hM, Bool.false_and, if_neg (by simp), List.append_nil])
      have hmq := hmt _ WX.out
      rw [hM] at hmq
      have HMQ := hide hmq
      clear hmq hmt
      gi_wp2_with (refine ⟨trivial, ?_⟩; gi_at_call 37; refine (callsRound HMQ.out).mono ?_; rintro e w' ⟨rfl, hw⟩; obtain rfl : wr = w' := hw.symm)
      exact ⟨KeepsFrom.refl _ _, KpO.refl _ _ _, lv, xs, I1.out, I2.out, by rw [I3.out]; exact HN.out.symm, I4.out, I5.out, I6.out, I7.out, I8.out⟩
    have hmq := hmt _ WX.out
    dsimp only at hM
    have HMX := hide hM
    rw [hM] at hmq
    have HMQ := hide hmq
    clear hmq hmt hM
    gi_wp2_with (refine ⟨trivial, ?_⟩; gi_at_call 37; refine (callsRound HMQ.out).mono ?_; rintro e w' ⟨rfl, hw⟩; obtain rfl : wr = w' := hw.symm)
    have SS : Hid (∀ z : World, Below wr.heap.size wr z → (z.cell? ⟨b, 0, none⟩ = some (.pointer (some ⟨A.g, 0, none⟩)) ∧ z.cell? ⟨A.g, 0, none⟩ = some (.pointer (some ⟨A.h + 2, 0, none⟩)) ∧ z.cell? ⟨b + 1, 0, none⟩ = some (.int .i64 v) ∧ Box z (b + 2) (fcl f (.slice a n c))) ∧ PB z A B ∧ Byt z a n c f.bs) := hide (fun z q => ⟨⟨(W0.out.on q).cell 0 _ rfl, (WP.out.on q).bx.cell 0 _ rfl, (W1.out.on q).cell 0 _ rfl, W2.out.on q⟩, WP.out.on q, WY.out.on q⟩)
    have BW : Hid (Below wr.heap.size wr wr.drew) := hide ⟨rfl, rfl, rfl, Nat.le_refl _, fun _ _ => rfl⟩
    clear c3
    refine wpIn_then (fun a' w' => ∃ k13 a1 m1 c1, a' = ⟨#[.pointer (some ⟨A.g, 0, none⟩), .int .i64 v, .int .i64 u, .agg (FC f (.slice a n c)), .func (.func 37) #[] #[.pointer (some ⟨kt, 0, none⟩)], .pointer (some ⟨b, 0, none⟩), .pointer (some ⟨b + 1, 0, none⟩), undef, .pointer (some ⟨b + 2, 0, none⟩), .pointer (some ⟨b + 3, 0, none⟩), .slice none 0 0, .pointer (some ⟨b + 4, 0, none⟩), .int .i64 x, .pointer (some ⟨k13, 0, none⟩), .int .i64 (ouE B.V v x f), .pointer (some ⟨A.g, 0, none⟩), .int .i64 v, .int .i64 u, .func (.func 66) #[] #[.pointer (some ⟨b + 5, 0, none⟩), .pointer (some ⟨b + 6, 0, none⟩), .pointer (some ⟨b + 7, 0, none⟩)], .int .i64 x, .func (.func 37) #[] #[.pointer (some ⟨kt, 0, none⟩)], .int .i64 x, .bool true, .bool false, .tuple #[.agg (FC (ouF B.V v x f) (.slice a1 m1 c1)), .int .i64 (ouE B.V v x f)], .pointer (some ⟨A.g, 0, none⟩), .pointer (some ⟨A.g, 0, none⟩), .pointer (some ⟨A.g, 0, none⟩), .pointer (some ⟨A.h + 2, 0, none⟩), .int .i64 v, .int .i64 x, .agg (FC f (.slice a n c)), .tuple #[.agg (FC (ouF B.V v x f) (.slice a1 m1 c1)), .int .i64 (ouE B.V v x f)], .agg (FC (ouF B.V v x f) (.slice a1 m1 c1)), .int .i64 (ouE B.V v x f), undef, undef, undef, undef, undef, undef, undef, undef, undef], []⟩ ∧ Box w' k13 (fcl (ouF B.V v x f) (.slice a1 m1 c1)) ∧ Byt w' a1 m1 c1 (ouF B.V v x f).bs ∧ (∀ b' o, a1 = some ⟨b', o, none⟩ → wr.heap.size ≤ b') ∧ wr.heap.size ≤ k13 ∧ Below wr.heap.size wr w') (region_round (S := fun w' => w'.cell? ⟨b, 0, none⟩ = some (.pointer (some ⟨A.g, 0, none⟩)) ∧ w'.cell? ⟨A.g, 0, none⟩ = some (.pointer (some ⟨A.h + 2, 0, none⟩)) ∧ w'.cell? ⟨b + 1, 0, none⟩ = some (.int .i64 v) ∧ Box w' (b + 2) (fcl f (.slice a n c))) (by kernel_rfl) (noDefers (by kernel_rfl)) (fun ⟨_, _, h⟩ => h) (SS.out _ BW.out).1 (fun hHeld => ?_)) ?_
    · generalize wr.drew = u0 at *
      refine wpAnyH_take (i := 0) (v := .pointer (some ⟨A.g, 0, none⟩)) rfl (by kernel_rfl) (by kernel_rfl) (by kernel_rfl) (fun _ _ _ h => h) (Or.inl ⟨by rfl, ?_⟩) hHeld ?_
      · intro W hW; (try dsimp only at hW); have hc := hW.1; clear hW; go_simp
      change wpAnyH _ _ _ _ _ _ _ ⟨#[.pointer (some ⟨A.g, 0, none⟩),.int .i64 v,.int .i64 u,.agg (FC f (.slice a n c)),.func (.func 37) #[] #[.pointer (some ⟨kt, 0, none⟩)],.pointer (some ⟨b, 0, none⟩),.pointer (some ⟨b + 1, 0, none⟩),_,.pointer (some ⟨b + 2, 0, none⟩),.pointer (some ⟨b + 3, 0, none⟩),.slice none 0 0,.pointer (some ⟨b + 4, 0, none⟩),.int .i64 x,_,_,.pointer (some ⟨A.g, 0, none⟩),.int .i64 v,.int .i64 u,.func (.func 66) #[] #[.pointer (some ⟨b + 5, 0, none⟩), .pointer (some ⟨b + 6, 0, none⟩), .pointer (some ⟨b + 7, 0, none⟩)],.int .i64 x,.func (.func 37) #[] #[.pointer (some ⟨kt, 0, none⟩)],.int .i64 x,.bool true,.bool false,_,.pointer (some ⟨A.g, 0, none⟩),_,_,_,_,_,_,_,_,_,_,_,_,_,_,_,_,_,_], []⟩ _
      refine wpAnyH_take (i := 1) (v := .pointer (some ⟨A.g, 0, none⟩)) rfl (by kernel_rfl) (by kernel_rfl) (by kernel_rfl) (fun _ _ _ h => h) (Or.inl ⟨by rfl, ?_⟩) hHeld ?_
      · intro W hW; (try dsimp only at hW); go_simp
      change wpAnyH _ _ _ _ _ _ _ ⟨#[.pointer (some ⟨A.g, 0, none⟩),.int .i64 v,.int .i64 u,.agg (FC f (.slice a n c)),.func (.func 37) #[] #[.pointer (some ⟨kt, 0, none⟩)],.pointer (some ⟨b, 0, none⟩),.pointer (some ⟨b + 1, 0, none⟩),_,.pointer (some ⟨b + 2, 0, none⟩),.pointer (some ⟨b + 3, 0, none⟩),.slice none 0 0,.pointer (some ⟨b + 4, 0, none⟩),.int .i64 x,_,_,.pointer (some ⟨A.g, 0, none⟩),.int .i64 v,.int .i64 u,.func (.func 66) #[] #[.pointer (some ⟨b + 5, 0, none⟩), .pointer (some ⟨b + 6, 0, none⟩), .pointer (some ⟨b + 7, 0, none⟩)],.int .i64 x,.func (.func 37) #[] #[.pointer (some ⟨kt, 0, none⟩)],.int .i64 x,.bool true,.bool false,_,.pointer (some ⟨A.g, 0, none⟩),.pointer (some ⟨A.g, 0, none⟩),_,_,_,_,_,_,_,_,_,_,_,_,_,_,_,_,_], []⟩ _
      refine wpAnyH_take (i := 2) (v := .pointer (some ⟨A.g, 0, none⟩)) rfl (by kernel_rfl) (by kernel_rfl) (by kernel_rfl) (fun _ _ _ h => h) (Or.inl ⟨by rfl, ?_⟩) hHeld ?_
      · intro W hW; (try dsimp only at hW); go_simp
      change wpAnyH _ _ _ _ _ _ _ ⟨#[.pointer (some ⟨A.g, 0, none⟩),.int .i64 v,.int .i64 u,.agg (FC f (.slice a n c)),.func (.func 37) #[] #[.pointer (some ⟨kt, 0, none⟩)],.pointer (some ⟨b, 0, none⟩),.pointer (some ⟨b + 1, 0, none⟩),_,.pointer (some ⟨b + 2, 0, none⟩),.pointer (some ⟨b + 3, 0, none⟩),.slice none 0 0,.pointer (some ⟨b + 4, 0, none⟩),.int .i64 x,_,_,.pointer (some ⟨A.g, 0, none⟩),.int .i64 v,.int .i64 u,.func (.func 66) #[] #[.pointer (some ⟨b + 5, 0, none⟩), .pointer (some ⟨b + 6, 0, none⟩), .pointer (some ⟨b + 7, 0, none⟩)],.int .i64 x,.func (.func 37) #[] #[.pointer (some ⟨kt, 0, none⟩)],.int .i64 x,.bool true,.bool false,_,.pointer (some ⟨A.g, 0, none⟩),.pointer (some ⟨A.g, 0, none⟩),.pointer (some ⟨A.g, 0, none⟩),_,_,_,_,_,_,_,_,_,_,_,_,_,_,_,_], []⟩ _
      refine wpAnyH_take (i := 3) (v := .pointer (some ⟨A.h + 2, 0, none⟩)) rfl (by kernel_rfl) (by kernel_rfl) (by kernel_rfl) (fun _ _ _ h => h) (Or.inl ⟨by rfl, ?_⟩) hHeld ?_
      · intro W hW; (try dsimp only at hW); have hc := hW.2.1; clear hW; go_simp
      change wpAnyH _ _ _ _ _ _ _ ⟨#[.pointer (some ⟨A.g, 0, none⟩),.int .i64 v,.int .i64 u,.agg (FC f (.slice a n c)),.func (.func 37) #[] #[.pointer (some ⟨kt, 0, none⟩)],.pointer (some ⟨b, 0, none⟩),.pointer (some ⟨b + 1, 0, none⟩),_,.pointer (some ⟨b + 2, 0, none⟩),.pointer (some ⟨b + 3, 0, none⟩),.slice none 0 0,.pointer (some ⟨b + 4, 0, none⟩),.int .i64 x,_,_,.pointer (some ⟨A.g, 0, none⟩),.int .i64 v,.int .i64 u,.func (.func 66) #[] #[.pointer (some ⟨b + 5, 0, none⟩), .pointer (some ⟨b + 6, 0, none⟩), .pointer (some ⟨b + 7, 0, none⟩)],.int .i64 x,.func (.func 37) #[] #[.pointer (some ⟨kt, 0, none⟩)],.int .i64 x,.bool true,.bool false,_,.pointer (some ⟨A.g, 0, none⟩),.pointer (some ⟨A.g, 0, none⟩),.pointer (some ⟨A.g, 0, none⟩),.pointer (some ⟨A.h + 2, 0, none⟩),_,_,_,_,_,_,_,_,_,_,_,_,_,_,_], []⟩ _
      refine wpAnyH_take (i := 4) (v := .int .i64 v) rfl (by kernel_rfl) (by kernel_rfl) (by kernel_rfl) (fun _ _ _ h => h) (Or.inl ⟨by rfl, ?_⟩) hHeld ?_
      · intro W hW; (try dsimp only at hW); have hc := hW.2.2.1; clear hW; go_simp
      change wpAnyH _ _ _ _ _ _ _ ⟨#[.pointer (some ⟨A.g, 0, none⟩),.int .i64 v,.int .i64 u,.agg (FC f (.slice a n c)),.func (.func 37) #[] #[.pointer (some ⟨kt, 0, none⟩)],.pointer (some ⟨b, 0, none⟩),.pointer (some ⟨b + 1, 0, none⟩),_,.pointer (some ⟨b + 2, 0, none⟩),.pointer (some ⟨b + 3, 0, none⟩),.slice none 0 0,.pointer (some ⟨b + 4, 0, none⟩),.int .i64 x,_,_,.pointer (some ⟨A.g, 0, none⟩),.int .i64 v,.int .i64 u,.func (.func 66) #[] #[.pointer (some ⟨b + 5, 0, none⟩), .pointer (some ⟨b + 6, 0, none⟩), .pointer (some ⟨b + 7, 0, none⟩)],.int .i64 x,.func (.func 37) #[] #[.pointer (some ⟨kt, 0, none⟩)],.int .i64 x,.bool true,.bool false,_,.pointer (some ⟨A.g, 0, none⟩),.pointer (some ⟨A.g, 0, none⟩),.pointer (some ⟨A.g, 0, none⟩),.pointer (some ⟨A.h + 2, 0, none⟩),.int .i64 v,_,_,_,_,_,_,_,_,_,_,_,_,_,_], []⟩ _
      refine wpAnyH_take (i := 5) (v := .int .i64 x) rfl (by kernel_rfl) (by kernel_rfl) (by kernel_rfl) (fun _ _ _ h => h) (Or.inl ⟨by rfl, ?_⟩) hHeld ?_
      · intro W hW; (try dsimp only at hW); go_simp
      change wpAnyH _ _ _ _ _ _ _ ⟨#[.pointer (some ⟨A.g, 0, none⟩),.int .i64 v,.int .i64 u,.agg (FC f (.slice a n c)),.func (.func 37) #[] #[.pointer (some ⟨kt, 0, none⟩)],.pointer (some ⟨b, 0, none⟩),.pointer (some ⟨b + 1, 0, none⟩),_,.pointer (some ⟨b + 2, 0, none⟩),.pointer (some ⟨b + 3, 0, none⟩),.slice none 0 0,.pointer (some ⟨b + 4, 0, none⟩),.int .i64 x,_,_,.pointer (some ⟨A.g, 0, none⟩),.int .i64 v,.int .i64 u,.func (.func 66) #[] #[.pointer (some ⟨b + 5, 0, none⟩), .pointer (some ⟨b + 6, 0, none⟩), .pointer (some ⟨b + 7, 0, none⟩)],.int .i64 x,.func (.func 37) #[] #[.pointer (some ⟨kt, 0, none⟩)],.int .i64 x,.bool true,.bool false,_,.pointer (some ⟨A.g, 0, none⟩),.pointer (some ⟨A.g, 0, none⟩),.pointer (some ⟨A.g, 0, none⟩),.pointer (some ⟨A.h + 2, 0, none⟩),.int .i64 v,.int .i64 x,_,_,_,_,_,_,_,_,_,_,_,_,_], []⟩ _
      refine wpAnyH_take (i := 6) (v := .agg (FC f (.slice a n c))) rfl (by kernel_rfl) (by kernel_rfl) (by kernel_rfl) (fun _ _ _ h => h) (yieldsIf_load_mid (by rfl) 26 (.tmp 8) rfl (b + 2) 0 rfl (fcl f (.slice a n c)) _ (fun W hW => hW.2.2.2.at_) Tryd.underlying26 rfl Tryd.size26) hHeld ?_
      change wpAnyH _ _ _ _ _ _ _ ⟨#[.pointer (some ⟨A.g, 0, none⟩),.int .i64 v,.int .i64 u,.agg (FC f (.slice a n c)),.func (.func 37) #[] #[.pointer (some ⟨kt, 0, none⟩)],.pointer (some ⟨b, 0, none⟩),.pointer (some ⟨b + 1, 0, none⟩),_,.pointer (some ⟨b + 2, 0, none⟩),.pointer (some ⟨b + 3, 0, none⟩),.slice none 0 0,.pointer (some ⟨b + 4, 0, none⟩),.int .i64 x,_,_,.pointer (some ⟨A.g, 0, none⟩),.int .i64 v,.int .i64 u,.func (.func 66) #[] #[.pointer (some ⟨b + 5, 0, none⟩), .pointer (some ⟨b + 6, 0, none⟩), .pointer (some ⟨b + 7, 0, none⟩)],.int .i64 x,.func (.func 37) #[] #[.pointer (some ⟨kt, 0, none⟩)],.int .i64 x,.bool true,.bool false,_,.pointer (some ⟨A.g, 0, none⟩),.pointer (some ⟨A.g, 0, none⟩),.pointer (some ⟨A.g, 0, none⟩),.pointer (some ⟨A.h + 2, 0, none⟩),.int .i64 v,.int .i64 x,.agg (FC f (.slice a n c)),_,_,_,_,_,_,_,_,_,_,_,_], []⟩ _
      refine wpAnyH_ready (rs := [7, 11]) (by kernel_rfl) (by simp) ?_
      refine AllReadyH.cons rfl (fun K hK => ?_) (AllReadyH.cons rfl (fun K hK => ?_) AllReadyH.nil)
      · skip
        go_simp
        refine (outQ A.h B.V v x f a n c _ (SS.out _ BW.out).2.1.pv (SS.out _ BW.out).2.2).mono ?_
        rintro e u1 ⟨a1, m1, c1, rfl, Y1, ha1, b1⟩
        have HA1 : Hid (∀ b' o, a1 = some ⟨b', o, none⟩ → wr.heap.size ≤ b') := hide (fun b' o e => Nat.le_trans BW.out.size (ha1 b' o e))
        replace BW := hide (belowOn BW.out b1)
        refine hK.out _ _ (SS.out _ BW.out).1 (fun hHeld => ?_)
        have HY4 := hide Y1
        clear hK K b1 Y1 ha1
        change wpAnyH _ _ _ _ _ _ _ ⟨#[.pointer (some ⟨A.g, 0, none⟩),.int .i64 v,.int .i64 u,.agg (FC f (.slice a n c)),.func (.func 37) #[] #[.pointer (some ⟨kt, 0, none⟩)],.pointer (some ⟨b, 0, none⟩),.pointer (some ⟨b + 1, 0, none⟩),_,.pointer (some ⟨b + 2, 0, none⟩),.pointer (some ⟨b + 3, 0, none⟩),.slice none 0 0,.pointer (some ⟨b + 4, 0, none⟩),.int .i64 x,_,_,.pointer (some ⟨A.g, 0, none⟩),.int .i64 v,.int .i64 u,.func (.func 66) #[] #[.pointer (some ⟨b + 5, 0, none⟩), .pointer (some ⟨b + 6, 0, none⟩), .pointer (some ⟨b + 7, 0, none⟩)],.int .i64 x,.func (.func 37) #[] #[.pointer (some ⟨kt, 0, none⟩)],.int .i64 x,.bool true,.bool false,_,.pointer (some ⟨A.g, 0, none⟩),.pointer (some ⟨A.g, 0, none⟩),.pointer (some ⟨A.g, 0, none⟩),.pointer (some ⟨A.h + 2, 0, none⟩),.int .i64 v,.int .i64 x,.agg (FC f (.slice a n c)),.tuple #[.agg (FC (ouF B.V v x f) (.slice a1 m1 c1)), .int .i64 (ouE B.V v x f)],_,_,_,_,_,_,_,_,_,_,_], []⟩ _
        refine wpAnyH_take (i := 8) (v := .tuple #[.agg (FC (ouF B.V v x f) (.slice a1 m1 c1)), .int .i64 (ouE B.V v x f)]) rfl (by kernel_rfl) (by kernel_rfl) (by kernel_rfl) (fun _ _ _ h => h) (Or.inl ⟨by rfl, ?_⟩) hHeld ?_
        · intro W hW; (try dsimp only at hW); go_simp
        change wpAnyH _ _ _ _ _ _ _ ⟨#[.pointer (some ⟨A.g, 0, none⟩),.int .i64 v,.int .i64 u,.agg (FC f (.slice a n c)),.func (.func 37) #[] #[.pointer (some ⟨kt, 0, none⟩)],.pointer (some ⟨b, 0, none⟩),.pointer (some ⟨b + 1, 0, none⟩),_,.pointer (some ⟨b + 2, 0, none⟩),.pointer (some ⟨b + 3, 0, none⟩),.slice none 0 0,.pointer (some ⟨b + 4, 0, none⟩),.int .i64 x,_,_,.pointer (some ⟨A.g, 0, none⟩),.int .i64 v,.int .i64 u,.func (.func 66) #[] #[.pointer (some ⟨b + 5, 0, none⟩), .pointer (some ⟨b + 6, 0, none⟩), .pointer (some ⟨b + 7, 0, none⟩)],.int .i64 x,.func (.func 37) #[] #[.pointer (some ⟨kt, 0, none⟩)],.int .i64 x,.bool true,.bool false,.tuple #[.agg (FC (ouF B.V v x f) (.slice a1 m1 c1)), .int .i64 (ouE B.V v x f)],.pointer (some ⟨A.g, 0, none⟩),.pointer (some ⟨A.g, 0, none⟩),.pointer (some ⟨A.g, 0, none⟩),.pointer (some ⟨A.h + 2, 0, none⟩),.int .i64 v,.int .i64 x,.agg (FC f (.slice a n c)),.tuple #[.agg (FC (ouF B.V v x f) (.slice a1 m1 c1)), .int .i64 (ouE B.V v x f)],_,_,_,_,_,_,_,_,_,_,_], []⟩ _
        refine wpAnyH_take (i := 9) (v := .agg (FC (ouF B.V v x f) (.slice a1 m1 c1))) rfl (by kernel_rfl) (by kernel_rfl) (by kernel_rfl) (fun _ _ _ h => h) (Or.inl ⟨by rfl, ?_⟩) hHeld ?_
        · intro W hW; (try dsimp only at hW); go_simp
        change wpAnyH _ _ _ _ _ _ _ ⟨#[.pointer (some ⟨A.g, 0, none⟩),.int .i64 v,.int .i64 u,.agg (FC f (.slice a n c)),.func (.func 37) #[] #[.pointer (some ⟨kt, 0, none⟩)],.pointer (some ⟨b, 0, none⟩),.pointer (some ⟨b + 1, 0, none⟩),_,.pointer (some ⟨b + 2, 0, none⟩),.pointer (some ⟨b + 3, 0, none⟩),.slice none 0 0,.pointer (some ⟨b + 4, 0, none⟩),.int .i64 x,_,_,.pointer (some ⟨A.g, 0, none⟩),.int .i64 v,.int .i64 u,.func (.func 66) #[] #[.pointer (some ⟨b + 5, 0, none⟩), .pointer (some ⟨b + 6, 0, none⟩), .pointer (some ⟨b + 7, 0, none⟩)],.int .i64 x,.func (.func 37) #[] #[.pointer (some ⟨kt, 0, none⟩)],.int .i64 x,.bool true,.bool false,.tuple #[.agg (FC (ouF B.V v x f) (.slice a1 m1 c1)), .int .i64 (ouE B.V v x f)],.pointer (some ⟨A.g, 0, none⟩),.pointer (some ⟨A.g, 0, none⟩),.pointer (some ⟨A.g, 0, none⟩),.pointer (some ⟨A.h + 2, 0, none⟩),.int .i64 v,.int .i64 x,.agg (FC f (.slice a n c)),.tuple #[.agg (FC (ouF B.V v x f) (.slice a1 m1 c1)), .int .i64 (ouE B.V v x f)],.agg (FC (ouF B.V v x f) (.slice a1 m1 c1)),_,_,_,_,_,_,_,_,_,_], []⟩ _
        refine wpAnyH_take (i := 10) (v := .int .i64 (ouE B.V v x f)) rfl (by kernel_rfl) (by kernel_rfl) (by kernel_rfl) (fun _ _ _ h => h) (Or.inl ⟨by rfl, ?_⟩) hHeld ?_
        · intro W hW; (try dsimp only at hW); go_simp
        change wpAnyH _ _ _ _ _ _ _ ⟨#[.pointer (some ⟨A.g, 0, none⟩),.int .i64 v,.int .i64 u,.agg (FC f (.slice a n c)),.func (.func 37) #[] #[.pointer (some ⟨kt, 0, none⟩)],.pointer (some ⟨b, 0, none⟩),.pointer (some ⟨b + 1, 0, none⟩),_,.pointer (some ⟨b + 2, 0, none⟩),.pointer (some ⟨b + 3, 0, none⟩),.slice none 0 0,.pointer (some ⟨b + 4, 0, none⟩),.int .i64 x,_,_,.pointer (some ⟨A.g, 0, none⟩),.int .i64 v,.int .i64 u,.func (.func 66) #[] #[.pointer (some ⟨b + 5, 0, none⟩), .pointer (some ⟨b + 6, 0, none⟩), .pointer (some ⟨b + 7, 0, none⟩)],.int .i64 x,.func (.func 37) #[] #[.pointer (some ⟨kt, 0, none⟩)],.int .i64 x,.bool true,.bool false,.tuple #[.agg (FC (ouF B.V v x f) (.slice a1 m1 c1)), .int .i64 (ouE B.V v x f)],.pointer (some ⟨A.g, 0, none⟩),.pointer (some ⟨A.g, 0, none⟩),.pointer (some ⟨A.g, 0, none⟩),.pointer (some ⟨A.h + 2, 0, none⟩),.int .i64 v,.int .i64 x,.agg (FC f (.slice a n c)),.tuple #[.agg (FC (ouF B.V v x f) (.slice a1 m1 c1)), .int .i64 (ouE B.V v x f)],.agg (FC (ouF B.V v x f) (.slice a1 m1 c1)),.int .i64 (ouE B.V v x f),_,_,_,_,_,_,_,_,_], []⟩ _
        refine wpAnyH_ready (rs := [11]) (by kernel_rfl) (by simp) ?_
        refine AllReadyH.cons rfl (fun K hK => ?_) AllReadyH.nil
        go_simp
        have bz := Box.new u1 (fcl zeroF (.slice none 0 0)) 26
        have HYK : Hid (∀ b o, a1 = some ⟨b, o, none⟩ → 0 < m1 → b ≠ u1.heap.size) := hide (fun b o e hp => by have := HY4.out.lt b o e hp; omega)
        have HK13 : Hid (wr.heap.size ≤ u1.heap.size) := hide BW.out.size
        replace BW := hide (belowOn BW.out (below_alloc u1 (.cells (FC zeroF (.slice none 0 0)) 26)))
        replace HY4 := hide (HY4.out.on (below_alloc u1 (.cells (FC zeroF (.slice none 0 0)) 26)))
        have bz' : Box (u1.alloc (.cells (FC zeroF (.slice none 0 0)) 26)) u1.heap.size (fcl zeroF (.slice none 0 0)) := bz
        replace bz := bz'
        clear bz'
        generalize (u1.alloc (.cells (FC zeroF (.slice none 0 0)) 26)) = u2 at *
        generalize u1.heap.size = k13 at *
        refine hK.out _ _ (SS.out _ BW.out).1 (fun hHeld => ?_)
        clear hK K
        change wpAnyH _ _ _ _ _ _ _ ⟨#[.pointer (some ⟨A.g, 0, none⟩),.int .i64 v,.int .i64 u,.agg (FC f (.slice a n c)),.func (.func 37) #[] #[.pointer (some ⟨kt, 0, none⟩)],.pointer (some ⟨b, 0, none⟩),.pointer (some ⟨b + 1, 0, none⟩),_,.pointer (some ⟨b + 2, 0, none⟩),.pointer (some ⟨b + 3, 0, none⟩),.slice none 0 0,.pointer (some ⟨b + 4, 0, none⟩),.int .i64 x,.pointer (some ⟨k13, 0, none⟩),_,.pointer (some ⟨A.g, 0, none⟩),.int .i64 v,.int .i64 u,.func (.func 66) #[] #[.pointer (some ⟨b + 5, 0, none⟩), .pointer (some ⟨b + 6, 0, none⟩), .pointer (some ⟨b + 7, 0, none⟩)],.int .i64 x,.func (.func 37) #[] #[.pointer (some ⟨kt, 0, none⟩)],.int .i64 x,.bool true,.bool false,.tuple #[.agg (FC (ouF B.V v x f) (.slice a1 m1 c1)), .int .i64 (ouE B.V v x f)],.pointer (some ⟨A.g, 0, none⟩),.pointer (some ⟨A.g, 0, none⟩),.pointer (some ⟨A.g, 0, none⟩),.pointer (some ⟨A.h + 2, 0, none⟩),.int .i64 v,.int .i64 x,.agg (FC f (.slice a n c)),.tuple #[.agg (FC (ouF B.V v x f) (.slice a1 m1 c1)), .int .i64 (ouE B.V v x f)],.agg (FC (ouF B.V v x f) (.slice a1 m1 c1)),.int .i64 (ouE B.V v x f),_,_,_,_,_,_,_,_,_], []⟩ _
        refine wpAnyH_ready (rs := [12]) (by kernel_rfl) (by simp) ?_
        refine AllReadyH.cons rfl (fun K hK => ?_) AllReadyH.nil
        rw [if_pos (by rfl)]
        refine wp_store_mid 26 (.tmp 13) (.tmp 33) rfl k13 0 (FC (ouF B.V v x f) (.slice a1 m1 c1)) rfl rfl bz.th Tryd.size26 (one_fcl _ _ rfl) ?_
        have G3 := setCells_grown k13 (fcl (ouF B.V v x f) (.slice a1 m1 c1)) 0 u2
        have bf := bz.self (cs' := fcl (ouF B.V v x f) (.slice a1 m1 c1)) rfl
        have BW3 := below_grown BW.out G3 HK13.out BW.out.size
        have Y3 := HY4.out.kept (k := k13) HYK.out G3
        have e4 : World.setCells u2 k13 0 (FC (ouF B.V v x f) (.slice a1 m1 c1)).toList = World.setCells u2 k13 0 (fcl (ouF B.V v x f) (.slice a1 m1 c1)) := rfl
        rw [e4]
        generalize World.setCells u2 k13 0 (fcl (ouF B.V v x f) (.slice a1 m1 c1)) = u9 at *
        refine hK.out _ _ (SS.out _ BW3).1 (fun hHeld => ?_)
        have BW9 := hide BW3
        have HY9 := hide Y3
        have HF9 := hide bf
        clear hK K G3 bf BW3 Y3 e4 bz HY4 HYK BW
        change wpAnyH _ _ _ _ _ _ _ ⟨#[.pointer (some ⟨A.g, 0, none⟩),.int .i64 v,.int .i64 u,.agg (FC f (.slice a n c)),.func (.func 37) #[] #[.pointer (some ⟨kt, 0, none⟩)],.pointer (some ⟨b, 0, none⟩),.pointer (some ⟨b + 1, 0, none⟩),_,.pointer (some ⟨b + 2, 0, none⟩),.pointer (some ⟨b + 3, 0, none⟩),.slice none 0 0,.pointer (some ⟨b + 4, 0, none⟩),.int .i64 x,.pointer (some ⟨k13, 0, none⟩),_,.pointer (some ⟨A.g, 0, none⟩),.int .i64 v,.int .i64 u,.func (.func 66) #[] #[.pointer (some ⟨b + 5, 0, none⟩), .pointer (some ⟨b + 6, 0, none⟩), .pointer (some ⟨b + 7, 0, none⟩)],.int .i64 x,.func (.func 37) #[] #[.pointer (some ⟨kt, 0, none⟩)],.int .i64 x,.bool true,.bool false,.tuple #[.agg (FC (ouF B.V v x f) (.slice a1 m1 c1)), .int .i64 (ouE B.V v x f)],.pointer (some ⟨A.g, 0, none⟩),.pointer (some ⟨A.g, 0, none⟩),.pointer (some ⟨A.g, 0, none⟩),.pointer (some ⟨A.h + 2, 0, none⟩),.int .i64 v,.int .i64 x,.agg (FC f (.slice a n c)),.tuple #[.agg (FC (ouF B.V v x f) (.slice a1 m1 c1)), .int .i64 (ouE B.V v x f)],.agg (FC (ouF B.V v x f) (.slice a1 m1 c1)),.int .i64 (ouE B.V v x f),_,_,_,_,_,_,_,_,_], []⟩ _
        refine wpAnyH_take (i := 13) (v := .int .i64 (ouE B.V v x f)) rfl (by kernel_rfl) (by kernel_rfl) (by kernel_rfl) (fun _ _ _ h => h) (Or.inl ⟨by rfl, ?_⟩) hHeld ?_
        · intro W hW; (try dsimp only at hW); go_simp
        change wpAnyH _ _ _ _ _ _ _ ⟨#[.pointer (some ⟨A.g, 0, none⟩),.int .i64 v,.int .i64 u,.agg (FC f (.slice a n c)),.func (.func 37) #[] #[.pointer (some ⟨kt, 0, none⟩)],.pointer (some ⟨b, 0, none⟩),.pointer (some ⟨b + 1, 0, none⟩),_,.pointer (some ⟨b + 2, 0, none⟩),.pointer (some ⟨b + 3, 0, none⟩),.slice none 0 0,.pointer (some ⟨b + 4, 0, none⟩),.int .i64 x,.pointer (some ⟨k13, 0, none⟩),.int .i64 (ouE B.V v x f),.pointer (some ⟨A.g, 0, none⟩),.int .i64 v,.int .i64 u,.func (.func 66) #[] #[.pointer (some ⟨b + 5, 0, none⟩), .pointer (some ⟨b + 6, 0, none⟩), .pointer (some ⟨b + 7, 0, none⟩)],.int .i64 x,.func (.func 37) #[] #[.pointer (some ⟨kt, 0, none⟩)],.int .i64 x,.bool true,.bool false,.tuple #[.agg (FC (ouF B.V v x f) (.slice a1 m1 c1)), .int .i64 (ouE B.V v x f)],.pointer (some ⟨A.g, 0, none⟩),.pointer (some ⟨A.g, 0, none⟩),.pointer (some ⟨A.g, 0, none⟩),.pointer (some ⟨A.h + 2, 0, none⟩),.int .i64 v,.int .i64 x,.agg (FC f (.slice a n c)),.tuple #[.agg (FC (ouF B.V v x f) (.slice a1 m1 c1)), .int .i64 (ouE B.V v x f)],.agg (FC (ouF B.V v x f) (.slice a1 m1 c1)),.int .i64 (ouE B.V v x f),_,_,_,_,_,_,_,_,_], []⟩ _
        refine wpAnyH_done (by kernel_rfl) ?_ _
        exact ⟨k13, a1, m1, c1, rfl, HF9.out, HY9.out, HA1.out, HK13.out, BW9.out⟩
      · skip
        go_simp
        have bz0 : Box (u0.alloc (.cells (FC zeroF (.slice none 0 0)) 26)) u0.heap.size (fcl zeroF (.slice none 0 0)) := Box.new u0 (fcl zeroF (.slice none 0 0)) 26
        have HK13 : Hid (wr.heap.size ≤ u0.heap.size) := hide BW.out.size
        have HKL : Hid (u0.heap.size < (u0.alloc (.cells (FC zeroF (.slice none 0 0)) 26)).heap.size) := hide (by simp)
        replace BW := hide (belowOn BW.out (below_alloc u0 (.cells (FC zeroF (.slice none 0 0)) 26)))
        generalize (u0.alloc (.cells (FC zeroF (.slice none 0 0)) 26)) = u1 at *
        generalize u0.heap.size = k13 at *
        refine hK.out _ _ (SS.out _ BW.out).1 (fun hHeld => ?_)
        clear hK K
        change wpAnyH _ _ _ _ _ _ _ ⟨#[.pointer (some ⟨A.g, 0, none⟩),.int .i64 v,.int .i64 u,.agg (FC f (.slice a n c)),.func (.func 37) #[] #[.pointer (some ⟨kt, 0, none⟩)],.pointer (some ⟨b, 0, none⟩),.pointer (some ⟨b + 1, 0, none⟩),_,.pointer (some ⟨b + 2, 0, none⟩),.pointer (some ⟨b + 3, 0, none⟩),.slice none 0 0,.pointer (some ⟨b + 4, 0, none⟩),.int .i64 x,.pointer (some ⟨k13, 0, none⟩),_,.pointer (some ⟨A.g, 0, none⟩),.int .i64 v,.int .i64 u,.func (.func 66) #[] #[.pointer (some ⟨b + 5, 0, none⟩), .pointer (some ⟨b + 6, 0, none⟩), .pointer (some ⟨b + 7, 0, none⟩)],.int .i64 x,.func (.func 37) #[] #[.pointer (some ⟨kt, 0, none⟩)],.int .i64 x,.bool true,.bool false,_,.pointer (some ⟨A.g, 0, none⟩),.pointer (some ⟨A.g, 0, none⟩),.pointer (some ⟨A.g, 0, none⟩),.pointer (some ⟨A.h + 2, 0, none⟩),.int .i64 v,.int .i64 x,.agg (FC f (.slice a n c)),_,_,_,_,_,_,_,_,_,_,_,_], []⟩ _
        refine wpAnyH_ready (rs := [7]) (by kernel_rfl) (by simp) ?_
        refine AllReadyH.cons rfl (fun K hK => ?_) AllReadyH.nil
        go_simp
        refine (outQ A.h B.V v x f a n c _ (SS.out _ BW.out).2.1.pv (SS.out _ BW.out).2.2).mono ?_
        rintro e u2 ⟨a1, m1, c1, rfl, Y1, ha1, b1⟩
        have HA1 : Hid (∀ b' o, a1 = some ⟨b', o, none⟩ → wr.heap.size ≤ b') := hide (fun b' o e => Nat.le_trans BW.out.size (ha1 b' o e))
        replace BW := hide (belowOn BW.out b1)
        have bz := bz0.on b1
        refine hK.out _ _ (SS.out _ BW.out).1 (fun hHeld => ?_)
        have HY4 := hide Y1
        have HYK : Hid (∀ b o, a1 = some ⟨b, o, none⟩ → 0 < m1 → b ≠ k13) := hide (fun b o e hp => by have := ha1 b o e; have := HKL.out; omega)
        clear hK K b1 Y1 bz0 ha1
        change wpAnyH _ _ _ _ _ _ _ ⟨#[.pointer (some ⟨A.g, 0, none⟩),.int .i64 v,.int .i64 u,.agg (FC f (.slice a n c)),.func (.func 37) #[] #[.pointer (some ⟨kt, 0, none⟩)],.pointer (some ⟨b, 0, none⟩),.pointer (some ⟨b + 1, 0, none⟩),_,.pointer (some ⟨b + 2, 0, none⟩),.pointer (some ⟨b + 3, 0, none⟩),.slice none 0 0,.pointer (some ⟨b + 4, 0, none⟩),.int .i64 x,.pointer (some ⟨k13, 0, none⟩),_,.pointer (some ⟨A.g, 0, none⟩),.int .i64 v,.int .i64 u,.func (.func 66) #[] #[.pointer (some ⟨b + 5, 0, none⟩), .pointer (some ⟨b + 6, 0, none⟩), .pointer (some ⟨b + 7, 0, none⟩)],.int .i64 x,.func (.func 37) #[] #[.pointer (some ⟨kt, 0, none⟩)],.int .i64 x,.bool true,.bool false,_,.pointer (some ⟨A.g, 0, none⟩),.pointer (some ⟨A.g, 0, none⟩),.pointer (some ⟨A.g, 0, none⟩),.pointer (some ⟨A.h + 2, 0, none⟩),.int .i64 v,.int .i64 x,.agg (FC f (.slice a n c)),.tuple #[.agg (FC (ouF B.V v x f) (.slice a1 m1 c1)), .int .i64 (ouE B.V v x f)],_,_,_,_,_,_,_,_,_,_,_], []⟩ _
        refine wpAnyH_take (i := 8) (v := .tuple #[.agg (FC (ouF B.V v x f) (.slice a1 m1 c1)), .int .i64 (ouE B.V v x f)]) rfl (by kernel_rfl) (by kernel_rfl) (by kernel_rfl) (fun _ _ _ h => h) (Or.inl ⟨by rfl, ?_⟩) hHeld ?_
        · intro W hW; (try dsimp only at hW); go_simp
        change wpAnyH _ _ _ _ _ _ _ ⟨#[.pointer (some ⟨A.g, 0, none⟩),.int .i64 v,.int .i64 u,.agg (FC f (.slice a n c)),.func (.func 37) #[] #[.pointer (some ⟨kt, 0, none⟩)],.pointer (some ⟨b, 0, none⟩),.pointer (some ⟨b + 1, 0, none⟩),_,.pointer (some ⟨b + 2, 0, none⟩),.pointer (some ⟨b + 3, 0, none⟩),.slice none 0 0,.pointer (some ⟨b + 4, 0, none⟩),.int .i64 x,.pointer (some ⟨k13, 0, none⟩),_,.pointer (some ⟨A.g, 0, none⟩),.int .i64 v,.int .i64 u,.func (.func 66) #[] #[.pointer (some ⟨b + 5, 0, none⟩), .pointer (some ⟨b + 6, 0, none⟩), .pointer (some ⟨b + 7, 0, none⟩)],.int .i64 x,.func (.func 37) #[] #[.pointer (some ⟨kt, 0, none⟩)],.int .i64 x,.bool true,.bool false,.tuple #[.agg (FC (ouF B.V v x f) (.slice a1 m1 c1)), .int .i64 (ouE B.V v x f)],.pointer (some ⟨A.g, 0, none⟩),.pointer (some ⟨A.g, 0, none⟩),.pointer (some ⟨A.g, 0, none⟩),.pointer (some ⟨A.h + 2, 0, none⟩),.int .i64 v,.int .i64 x,.agg (FC f (.slice a n c)),.tuple #[.agg (FC (ouF B.V v x f) (.slice a1 m1 c1)), .int .i64 (ouE B.V v x f)],_,_,_,_,_,_,_,_,_,_,_], []⟩ _
        refine wpAnyH_take (i := 9) (v := .agg (FC (ouF B.V v x f) (.slice a1 m1 c1))) rfl (by kernel_rfl) (by kernel_rfl) (by kernel_rfl) (fun _ _ _ h => h) (Or.inl ⟨by rfl, ?_⟩) hHeld ?_
        · intro W hW; (try dsimp only at hW); go_simp
        change wpAnyH _ _ _ _ _ _ _ ⟨#[.pointer (some ⟨A.g, 0, none⟩),.int .i64 v,.int .i64 u,.agg (FC f (.slice a n c)),.func (.func 37) #[] #[.pointer (some ⟨kt, 0, none⟩)],.pointer (some ⟨b, 0, none⟩),.pointer (some ⟨b + 1, 0, none⟩),_,.pointer (some ⟨b + 2, 0, none⟩),.pointer (some ⟨b + 3, 0, none⟩),.slice none 0 0,.pointer (some ⟨b + 4, 0, none⟩),.int .i64 x,.pointer (some ⟨k13, 0, none⟩),_,.pointer (some ⟨A.g, 0, none⟩),.int .i64 v,.int .i64 u,.func (.func 66) #[] #[.pointer (some ⟨b + 5, 0, none⟩), .pointer (some ⟨b + 6, 0, none⟩), .pointer (some ⟨b + 7, 0, none⟩)],.int .i64 x,.func (.func 37) #[] #[.pointer (some ⟨kt, 0, none⟩)],.int .i64 x,.bool true,.bool false,.tuple #[.agg (FC (ouF B.V v x f) (.slice a1 m1 c1)), .int .i64 (ouE B.V v x f)],.pointer (some ⟨A.g, 0, none⟩),.pointer (some ⟨A.g, 0, none⟩),.pointer (some ⟨A.g, 0, none⟩),.pointer (some ⟨A.h + 2, 0, none⟩),.int .i64 v,.int .i64 x,.agg (FC f (.slice a n c)),.tuple #[.agg (FC (ouF B.V v x f) (.slice a1 m1 c1)), .int .i64 (ouE B.V v x f)],.agg (FC (ouF B.V v x f) (.slice a1 m1 c1)),_,_,_,_,_,_,_,_,_,_], []⟩ _
        refine wpAnyH_take (i := 10) (v := .int .i64 (ouE B.V v x f)) rfl (by kernel_rfl) (by kernel_rfl) (by kernel_rfl) (fun _ _ _ h => h) (Or.inl ⟨by rfl, ?_⟩) hHeld ?_
        · intro W hW; (try dsimp only at hW); go_simp
        change wpAnyH _ _ _ _ _ _ _ ⟨#[.pointer (some ⟨A.g, 0, none⟩),.int .i64 v,.int .i64 u,.agg (FC f (.slice a n c)),.func (.func 37) #[] #[.pointer (some ⟨kt, 0, none⟩)],.pointer (some ⟨b, 0, none⟩),.pointer (some ⟨b + 1, 0, none⟩),_,.pointer (some ⟨b + 2, 0, none⟩),.pointer (some ⟨b + 3, 0, none⟩),.slice none 0 0,.pointer (some ⟨b + 4, 0, none⟩),.int .i64 x,.pointer (some ⟨k13, 0, none⟩),_,.pointer (some ⟨A.g, 0, none⟩),.int .i64 v,.int .i64 u,.func (.func 66) #[] #[.pointer (some ⟨b + 5, 0, none⟩), .pointer (some ⟨b + 6, 0, none⟩), .pointer (some ⟨b + 7, 0, none⟩)],.int .i64 x,.func (.func 37) #[] #[.pointer (some ⟨kt, 0, none⟩)],.int .i64 x,.bool true,.bool false,.tuple #[.agg (FC (ouF B.V v x f) (.slice a1 m1 c1)), .int .i64 (ouE B.V v x f)],.pointer (some ⟨A.g, 0, none⟩),.pointer (some ⟨A.g, 0, none⟩),.pointer (some ⟨A.g, 0, none⟩),.pointer (some ⟨A.h + 2, 0, none⟩),.int .i64 v,.int .i64 x,.agg (FC f (.slice a n c)),.tuple #[.agg (FC (ouF B.V v x f) (.slice a1 m1 c1)), .int .i64 (ouE B.V v x f)],.agg (FC (ouF B.V v x f) (.slice a1 m1 c1)),.int .i64 (ouE B.V v x f),_,_,_,_,_,_,_,_,_], []⟩ _
        refine wpAnyH_ready (rs := [12]) (by kernel_rfl) (by simp) ?_
        refine AllReadyH.cons rfl (fun K hK => ?_) AllReadyH.nil
        rw [if_pos (by rfl)]
        refine wp_store_mid 26 (.tmp 13) (.tmp 33) rfl k13 0 (FC (ouF B.V v x f) (.slice a1 m1 c1)) rfl rfl bz.th Tryd.size26 (one_fcl _ _ rfl) ?_
        have G3 := setCells_grown k13 (fcl (ouF B.V v x f) (.slice a1 m1 c1)) 0 u2
        have bf := bz.self (cs' := fcl (ouF B.V v x f) (.slice a1 m1 c1)) rfl
        have BW3 := below_grown BW.out G3 HK13.out BW.out.size
        have Y3 := HY4.out.kept (k := k13) HYK.out G3
        have e4 : World.setCells u2 k13 0 (FC (ouF B.V v x f) (.slice a1 m1 c1)).toList = World.setCells u2 k13 0 (fcl (ouF B.V v x f) (.slice a1 m1 c1)) := rfl
        rw [e4]
        generalize World.setCells u2 k13 0 (fcl (ouF B.V v x f) (.slice a1 m1 c1)) = u9 at *
        refine hK.out _ _ (SS.out _ BW3).1 (fun hHeld => ?_)
        have BW9 := hide BW3
        have HY9 := hide Y3
        have HF9 := hide bf
        clear hK K G3 bf BW3 Y3 e4 bz HY4 HYK BW
        change wpAnyH _ _ _ _ _ _ _ ⟨#[.pointer (some ⟨A.g, 0, none⟩),.int .i64 v,.int .i64 u,.agg (FC f (.slice a n c)),.func (.func 37) #[] #[.pointer (some ⟨kt, 0, none⟩)],.pointer (some ⟨b, 0, none⟩),.pointer (some ⟨b + 1, 0, none⟩),_,.pointer (some ⟨b + 2, 0, none⟩),.pointer (some ⟨b + 3, 0, none⟩),.slice none 0 0,.pointer (some ⟨b + 4, 0, none⟩),.int .i64 x,.pointer (some ⟨k13, 0, none⟩),_,.pointer (some ⟨A.g, 0, none⟩),.int .i64 v,.int .i64 u,.func (.func 66) #[] #[.pointer (some ⟨b + 5, 0, none⟩), .pointer (some ⟨b + 6, 0, none⟩), .pointer (some ⟨b + 7, 0, none⟩)],.int .i64 x,.func (.func 37) #[] #[.pointer (some ⟨kt, 0, none⟩)],.int .i64 x,.bool true,.bool false,.tuple #[.agg (FC (ouF B.V v x f) (.slice a1 m1 c1)), .int .i64 (ouE B.V v x f)],.pointer (some ⟨A.g, 0, none⟩),.pointer (some ⟨A.g, 0, none⟩),.pointer (some ⟨A.g, 0, none⟩),.pointer (some ⟨A.h + 2, 0, none⟩),.int .i64 v,.int .i64 x,.agg (FC f (.slice a n c)),.tuple #[.agg (FC (ouF B.V v x f) (.slice a1 m1 c1)), .int .i64 (ouE B.V v x f)],.agg (FC (ouF B.V v x f) (.slice a1 m1 c1)),.int .i64 (ouE B.V v x f),_,_,_,_,_,_,_,_,_], []⟩ _
        refine wpAnyH_take (i := 13) (v := .int .i64 (ouE B.V v x f)) rfl (by kernel_rfl) (by kernel_rfl) (by kernel_rfl) (fun _ _ _ h => h) (Or.inl ⟨by rfl, ?_⟩) hHeld ?_
        · intro W hW; (try dsimp only at hW); go_simp
        change wpAnyH _ _ _ _ _ _ _ ⟨#[.pointer (some ⟨A.g, 0, none⟩),.int .i64 v,.int .i64 u,.agg (FC f (.slice a n c)),.func (.func 37) #[] #[.pointer (some ⟨kt, 0, none⟩)],.pointer (some ⟨b, 0, none⟩),.pointer (some ⟨b + 1, 0, none⟩),_,.pointer (some ⟨b + 2, 0, none⟩),.pointer (some ⟨b + 3, 0, none⟩),.slice none 0 0,.pointer (some ⟨b + 4, 0, none⟩),.int .i64 x,.pointer (some ⟨k13, 0, none⟩),.int .i64 (ouE B.V v x f),.pointer (some ⟨A.g, 0, none⟩),.int .i64 v,.int .i64 u,.func (.func 66) #[] #[.pointer (some ⟨b + 5, 0, none⟩), .pointer (some ⟨b + 6, 0, none⟩), .pointer (some ⟨b + 7, 0, none⟩)],.int .i64 x,.func (.func 37) #[] #[.pointer (some ⟨kt, 0, none⟩)],.int .i64 x,.bool true,.bool false,.tuple #[.agg (FC (ouF B.V v x f) (.slice a1 m1 c1)), .int .i64 (ouE B.V v x f)],.pointer (some ⟨A.g, 0, none⟩),.pointer (some ⟨A.g, 0, none⟩),.pointer (some ⟨A.g, 0, none⟩),.pointer (some ⟨A.h + 2, 0, none⟩),.int .i64 v,.int .i64 x,.agg (FC f (.slice a n c)),.tuple #[.agg (FC (ouF B.V v x f) (.slice a1 m1 c1)), .int .i64 (ouE B.V v x f)],.agg (FC (ouF B.V v x f) (.slice a1 m1 c1)),.int .i64 (ouE B.V v x f),_,_,_,_,_,_,_,_,_], []⟩ _
        refine wpAnyH_done (by kernel_rfl) ?_ _
        exact ⟨k13, a1, m1, c1, rfl, HF9.out, HY9.out, HA1.out, HK13.out, BW9.out⟩
    rintro a2 w9 ⟨k13, a1, m1, c1, rfl, hf9, hy9, ha1, hk13, bw9⟩
    clear SS BW W0 W1 W2 W3 WP WY WX HMQ
    have HF9 := hide hf9
    have HY9 := hide hy9
    have HA1 := hide ha1
    have BW9 := hide bw9
    have HIO9 := hide (io_on HII.out bw9)
    have HNX : Hid (ols B v f (fun p : Int => (t == 0 || p == t)) (pre ++ [x]) = ols B v f (fun p : Int => (t == 0 || p == t)) pre ++ (if (ouE B.V v x f == 0) then [⟨x, ouF B.V v x f⟩] else [])) := hide (by rw [ols_append, ols_one, HMX.out, Bool.true_and])
    clear hf9 hy9 ha1 hk13 bw9
    generalize ouF B.V v x f = F at *
    generalize ouE B.V v x f = E at *
    have L1 := hide I2.out.lt
    rcases Bool.eq_false_or_eq_true (E == 0) with h7 | h7
    rotate_left
    · rw [h7, if_neg (by simp), List.append_nil] at HNX
      gi_wp2
      refine ⟨keepsFrom_of BW9.out, KpO.below BW9.out (by have := I7.out; omega), ?_⟩
      obtain ⟨lv', xs', j1, j2, j3, j4⟩ := HIO9.out
      exact ⟨lv', xs', j1, j2, by rw [j3]; exact HNX.out.symm, j4⟩
    rw [h7, if_pos rfl] at HNX
    have J1 : Hid (Boxed w9 (b + 4) 38 lv) := hide ((BW9.out.block _ I1.out.lt).trans I1.out)
    have J2 := hide (row_keep I2.out (fun r hr => BW9.out.block r (I2.out.lt r hr).2))
    have J4 : Hid (∀ y ∈ xs, Byt w9 y.a y.n y.c y.o.f.bs) := hide (fun y hy => (I4.out y hy).on BW9.out)
    obtain ⟨ao0, cc0, hlv⟩ := own_form J2.out
    have hc := J1.out.cell
    have HS9 : Hid (b + 8 ≤ w9.heap.size) := hide (Nat.le_trans I7.out BW9.out.size)
    have hnew : ∀ (j : Nat) (u : Value), (ocl ⟨⟨x, F⟩, a1, m1, c1⟩)[j]? = some u → (w9.alloc (.cells (OC ⟨⟨x, F⟩, a1, m1, c1⟩) 94)).cell? ((⟨w9.heap.size, 0, none⟩ : Addr).add j) = some u := fun j u hj => by
      rw [Addr.add_lit, Nat.zero_add, World.cell?_alloc_at _ _ _ _ rfl]
      show (ocl ⟨⟨x, F⟩, a1, m1, c1⟩).toArray[j]? = some u
      rw [List.getElem?_toArray]; exact hj
    have HN := hide hnew
    clear hnew HIO9
    subst hlv
    have tk1 : True := trivial
    have tk2 : True := trivial
    have tk3 : True := trivial
    have tk4 : True := trivial
    gi_wp2_with (first | (have _t := tk1; refine wplin_frame rfl (.tmp 13) rfl HF9.out rfl ?_; clear tk1) | (have _t := tk2; refine wplin_bO rfl (.tmp 38) (.tmp 39) x F a1 m1 c1 rfl rfl rfl ?_; clear tk2) | (have _t := tk3; refine wplin_bsO rfl (.tmp 40) ⟨⟨x, F⟩, a1, m1, c1⟩ rfl rfl ?_; clear tk3) | (have _t := tk4; gi_at_builtin; refine wplin_oapp rfl rfl (.tmp 37) (.tmp 41) rfl (b + 8) _ _ _ rfl (J2.out.alloc _) ⟨w9.heap.size, 0, none⟩ ⟨⟨x, F⟩, a1, m1, c1⟩ rfl HN.out (by have := HXS.out; omega) (by have := HS9.out; simp; omega) ?_; clear tk4; intro v' w1 hown' hgrow hat; obtain ⟨g', cap', rfl⟩ := ownsRow_succ hown'; have hap := J1.out.appended (n₀ := b + 4) (by decide) (row_lower J2.out (by omega)) (by have := HS9.out; omega) (Nat.le_refl _) (row_lower hown' (by omega)) hgrow; have HAP := hide hap; have HOW := hide hown'; have HGR := hide hgrow; have HAT := hide hat; have hc1 := hap.1.cell; have hf1 := hap.1.frozen; clear hap hown' hgrow hat hc))
    obtain ⟨hv1, hv2, -, hk2, hb2⟩ := HAP.out
    have s9 := HS9.out
    have sw := BW9.out.size
    have kk : ∀ k, k < w9.heap.size → k ≠ b + 4 → Value.ownBlock (.slice ao0 xs.length cc0) ≠ some k → (w1.setCell ⟨b + 4, 0, none⟩ (.slice (some ⟨g', 0, none⟩) (xs.length + 1) cap')).heap[k]? = w9.heap[k]? := fun k h1 h2 h3 =>
      (Below.heap_setCell w1 ⟨b + 4, 0, none⟩ (.slice (some ⟨g', 0, none⟩) (xs.length + 1) cap') k (fun e => h2 e)).trans ((HGR.out.block k (by simp; omega) (fun e => h3 e.symm)).trans ((below_alloc w9 _).block k h1))
    have g1 : some g' = Value.ownBlock (.slice ao0 xs.length cc0) ∨ some g' = some (w9.heap.size + 1) := by
      rcases HAT.out with h | h
      · exact Or.inl h
      · exact Or.inr (by simpa [Value.ownBlock] using h)
    refine ⟨⟨Nat.le_trans sw hk2.size, fun k o _ hk ho => hk2.same k o (by rw [BW9.out.block k (Array.getElem?_eq_some_iff.1 hk).1]; exact hk) ho⟩, (KpO.below BW9.out (by have := I7.out; omega)).trans ⟨hk2.size, fun k h1 h2 h3 _ => kk k h1 h2 (fun e => h3 (by unfold rowOf; rw [J1.out.cell]; exact e)), fun k hk => ?_⟩, ?_⟩
    · unfold rowOf at hk ⊢
      rw [hv2.cell] at hk
      rw [J1.out.cell]
      have hk' : g' = k := by simpa [Value.ownBlock] using hk
      rcases g1 with h | h
      · left
        rw [← hk']
        exact h.symm
      · right
        have := Option.some.inj h
        omega
    · refine ⟨.slice (some ⟨g', 0, none⟩) (xs.length + 1) cap', xs ++ [⟨⟨x, F⟩, a1, m1, c1⟩], hv2, ?_, ?_, fun y hy => ?_, fun y hy k o he hp => ?_, ?_, Nat.le_trans s9 hk2.size, fun k h1 h2 => ?_⟩
      · have h9 := HOW.out.kept (grownBy_setCell' w1 (b + 4) (.slice (some ⟨g', 0, none⟩) (xs.length + 1) cap')) (.inr (hv1.not_row (by decide) HOW.out).symm)
        rw [List.length_append]
        exact h9
      · rw [List.map_append, I3.out]
        exact HNX.out.symm
      · have hown : ∀ k o, y.a = some ⟨k, o, none⟩ → 0 < y.n → b + 8 ≤ k ∧ Value.ownBlock (.slice ao0 xs.length cc0) ≠ some k := fun k o he hp => by
          rcases List.mem_append.1 hy with hy | hy
          · exact I5.out y hy k o he hp
          · obtain rfl := List.mem_singleton.1 hy
            have h1 := HA1.out k o he
            have h2 := I7.out
            exact ⟨by omega, fun e => by have := (L1.out k e).2; omega⟩
        have hby : Byt w9 y.a y.n y.c y.o.f.bs := by
          rcases List.mem_append.1 hy with hy | hy
          · exact J4.out y hy
          · obtain rfl := List.mem_singleton.1 hy
            exact HY9.out
        exact byt_keep hby (fun k o v he hp hc => kk k (World.block_lt_of_cell? _ _ hc) (by have := (hown k o he hp).1; omega) (hown k o he hp).2)
      · have hown : b + 8 ≤ k ∧ Value.ownBlock (.slice ao0 xs.length cc0) ≠ some k ∧ k < w9.heap.size := by
          rcases List.mem_append.1 hy with hy | hy
          · have h1 := I5.out y hy k o he hp
            exact ⟨h1.1, h1.2, (J4.out y hy).lt k o he hp⟩
          · obtain rfl := List.mem_singleton.1 hy
            have h1 := HA1.out k o he
            have h2 := I7.out
            exact ⟨by omega, fun e => by have := (L1.out k e).2; omega, HY9.out.lt k o he hp⟩
        refine ⟨hown.1, fun e => ?_⟩
        have hk' : g' = k := by simpa [Value.ownBlock] using e
        rcases g1 with h | h
        · exact hown.2.1 (by rw [← hk']; exact h.symm)
        · have := Option.some.inj h
          omega
      · exact (I6.out.trans (BW9.out.mono (by have := I7.out; omega))).trans (hb2.mono (by omega))
      · refine (kk k (by omega) h2 (fun e => ?_)).trans ((BW9.out.block k (by have := I7.out; omega)).trans (I8.out k h1 h2))
        have := (L1.out k e).1
        omega
  case cD =>
    rintro D xs0 W hD rfl ⟨lv, xs, i1, i2, i3, i4, i5, i6, i7, i8⟩ hK
    have hc := i1.cell
    obtain ⟨ao0, cc0, hlv⟩ := own_form i2
    subst hlv
    have I2 := hide i2
    have I3 := hide i3
    have I4 := hide i4
    have I5 := hide i5
    have I6 := hide i6
    have HK := hide hK
    clear hK i1 i2 i3 i4 i5 i6 i8
    gi_wp2
    refine ⟨by simp, .inl ⟨_, _, rfl, run_takeDeferred HK.out, ?_⟩⟩
    have hr3 := ownsRow_putObj I2.out (.deferred none) HK.out rfl
    have hy3 : ∀ y ∈ xs, Byt (W.putObj D (.deferred none)) y.a y.n y.c y.o.f.bs := fun y hy => byt_keep (I4.out y hy) (fun k o v he hp hc => World.putObj_heap_other (fun e => by
      have h1 := cells_of_cell hc _ (by rw [e]; exact HK.out)
      cases h1))
    obtain ⟨ao, c9, e9, hE⟩ := row_ots hr3 hy3
    injection e9 with e1 e2 e3
    subst e1 e3
    refine ⟨_, results_tmp rfl _ _ _, ao0, xs, cc0, by simp, hE, I3.out, ?_, ?_, fun y hy b' o he hp => ?_⟩
    · rw [← HB.out]
      exact I6.out.trans ⟨rfl, rfl, rfl, by simp, fun k hk => World.putObj_heap_other (by omega)⟩
    · intro b' o he
      subst he
      have := (I2.out.lt b' (by rfl)).1
      rw [← HB.out]
      omega
    · have := (I5.out y hy b' o he hp).1
      rw [← HB.out]
      omega
  case cS =>
    rintro D c pre W _ _ h _
    exact h.elim
end Go.Proofs.YtgpdjfaklcmoiaaDoor
/- Contracts: Relay and learn of the program's bridge. -/
namespace Go.Proofs.YtgpdjfaklcmoiaaDoor
open Go.RowKit Go.PlainAid

theorem OwnO.from {w z : World} {ao : Option Addr} {xs : List Ow} (h : OwnO z ao xs) (hs : w.heap.size ≤ z.heap.size) : OwnO w ao xs :=
  ⟨fun b o e => Nat.le_trans hs (h.1 b o e), fun x hx b o e hp => Nat.le_trans hs (h.2 x hx b o e hp)⟩
set_option maxRecDepth 100000 in
set_option maxHeartbeats 4000000 in
theorem relayQ (A : PAd) (B : Br) (v u t : Int) (f : Fd) (a : Option Addr) (n c : Nat) (w : World) (H : PB w A B) (hY : Byt w a n c f.bs) (hv : I64 v) :
    Calls Tryd.prog 16 #[.pointer (some ⟨A.g, 0, none⟩), .int .i64 v, .int .i64 u, .int .i64 t, .agg (FC f (.slice a n c))] w fun e w' => ∃ ao xs cc, e = .returned (.slice ao xs.length cc) ∧ Ots w' ao xs.length cc xs ∧ xs.map Ow.o = rly B v u t f B.n ∧ Below w.heap.size w w' ∧ OwnO w ao xs := by
  have b0 := below_alloc w (.cells #[.int .i64 t] 3)
  have b1 := below_alloc (w.alloc (.cells #[.int .i64 t] 3)) (.cells (FC f (.slice a n c)) 26)
  have T0 : Box ((w.alloc (.cells #[.int .i64 t] 3)).alloc (.cells (FC f (.slice a n c)) 26)) w.heap.size [.int .i64 t] := (Box.new w [.int .i64 t] 3).alloc _
  have X0 : Box ((w.alloc (.cells #[.int .i64 t] 3)).alloc (.cells (FC f (.slice a n c)) 26)) (w.heap.size + 1) (fcl f (.slice a n c)) := by
    have := Box.new (w.alloc (.cells #[.int .i64 t] 3)) (fcl f (.slice a n c)) 26
    rw [World.size_alloc] at this
    exact this
  have HB := hide (belowOn b0 b1)
  have HT := hide T0
  have HX := hide X0
  have HP := hide (H.on HB.out)
  have HY := hide (hY.on HB.out)
  have HV := hide hv
  have HE : Hid (ols B v f (fun p : Int => (t == 0 || p == t)) (sel B u (mbs B.V.l v B.V.n)) = rly B v u t f B.n) := hide (by rw [H.wf.vn]; exact ols_rly H.wf v u t f _ (fun _ _ _ => rfl) B.n (Nat.le_refl _))
  clear b0 b1 T0 X0 H hY hv
  have tk1 : True := trivial
  go_enter Tryd.func16, Tryd.ntmps16
  go_wp2_with (first | (have _t := tk1; refine wpl_frame (.tmp 9) rfl HX.out ?_ ?_ ?_; rfl; rfl; clear tk1))
  generalize ((w.alloc (.cells #[.int .i64 t] 3)).alloc (.cells (FC f (.slice a n c)) 26)) = z0 at *
  refine (outsA A B v u f a n c w.heap.size t z0 HP.out HY.out HV.out HT.out).mono ?_
  rintro e z1 ⟨ao, xs, cc, rfl, hO, hm, hb, hown⟩
  have HO := hide hO
  have HM := hide hm
  have HB1 := hide (belowOn HB.out hb)
  have HOW := hide (hown.from HB.out.size)
  clear hO hm hb hown HB HT HX HP HY HV
  go_wp2
  go_ret
  exact ⟨ao, xs, cc, rfl, HO.out, HM.out.trans HE.out, HB1.out, HOW.out⟩
theorem mid_wide0 {a b N M : Nat} {w w1 : World} (h : Mid a b w w1) (h1 : N ≤ a) (h2 : b ≤ M) : Mid N M w w1 := ⟨h.os, h.tape, h.output, h.size, fun i hi ho => h.block i hi (by omega)⟩
section
set_option maxRecDepth 100000 in
set_option maxHeartbeats 4000000 in
theorem learnQ (A : PAd) (B : Br) (v : Int) (m : Mc) (p t : Int) (w : World) (hm : Mok m) (H : PB w A B) (hs : ∀ x ∈ B.ln, x + 1 < 1000000) :
    Calls Tryd.prog 39 #[.pointer (some ⟨A.g, 0, none⟩), .int .i64 v, .agg (MC m), .int .i64 p, .int .i64 t] w fun e w' => e = .returned (.tuple #[]) ∧ PB w' A (lrn B v m p t) ∧ Mid A.lo A.hi w w' := by
  have B0 := below_alloc w (.cells (MC m) 23)
  have HX := hide (box_m w m)
  have HC : Hid (Mid A.lo A.hi w (w.alloc (.cells (MC m) 23))) := hide (Mid.on (Mid.refl _ _ _) B0)
  have HR := hide (H.on B0)
  have HKX : Hid (A.hi ≤ w.heap.size) := hide H.lt.2.2.2.2
  have HS := hide hs
  have HM := hide hm
  clear H hs hm B0
  go_enter Tryd.func39, Tryd.ntmps39
  go_wp2_with fail
  generalize w.alloc (.cells (MC m) 23) = w1 at *
  obtain ⟨kx, hkx⟩ : ∃ kx, kx = w.heap.size := ⟨_, rfl⟩
  rw [← hkx] at HX HKX ⊢
  clear hkx
  refine wp_region_held_drew (S := fun w' => w'.cell? ⟨A.g, 1, none⟩ = some (.pointer (some ⟨A.hf + 1, 0, none⟩)) ∧ Box w' kx (mcl m)) (by kernel_rfl) ⟨HR.out.bx.cell 1 _ rfl, HX.out.drew⟩ (fun hHeld => ?_)
  replace HR := hide HR.out.drew
  replace HC := hide (Mid.on HC.out (⟨rfl, rfl, rfl, Nat.le_refl _, fun _ _ => rfl⟩ : Below w1.heap.size w1 w1.drew))
  clear HX
  generalize w1.drew = u0 at *
  refine wpAnyH_take (i := 0) (v := .pointer (some ⟨A.g, 0, none⟩)) rfl (by kernel_rfl) (by kernel_rfl) (by kernel_rfl) (fun _ _ _ h => h) (Or.inl ⟨by rfl, ?_⟩) hHeld ?_
  · intro W hW; (try dsimp only at hW); go_simp
  change wpAnyH _ _ _ _ _ _ _ ⟨#[.pointer (some ⟨A.g, 0, none⟩),.int .i64 v,_,.int .i64 p,.int .i64 t,_,_,.pointer (some ⟨kx, 0, none⟩),_,_,_,_,_,.pointer (some ⟨A.g, 0, none⟩),_,_,_,_,_,_,_,_,_,_,_,_,_,_,_,_,_,_,_,_,_,_,_,_,_,_,_,_,_,_,_,_,_,_,_,_,_,_,_,_,_,_,_,_,_,_], []⟩ _
  refine wpAnyH_take (i := 1) (v := .pointer (some ⟨A.g, 0, none⟩)) rfl (by kernel_rfl) (by kernel_rfl) (by kernel_rfl) (fun _ _ _ h => h) (Or.inl ⟨by rfl, ?_⟩) hHeld ?_
  · intro W hW; (try dsimp only at hW); go_simp
  change wpAnyH _ _ _ _ _ _ _ ⟨#[.pointer (some ⟨A.g, 0, none⟩),.int .i64 v,_,.int .i64 p,.int .i64 t,_,_,.pointer (some ⟨kx, 0, none⟩),_,_,_,_,_,.pointer (some ⟨A.g, 0, none⟩),.pointer (some ⟨A.g, 0, none⟩),_,_,_,_,_,_,_,_,_,_,_,_,_,_,_,_,_,_,_,_,_,_,_,_,_,_,_,_,_,_,_,_,_,_,_,_,_,_,_,_,_,_,_,_,_], []⟩ _
  refine wpAnyH_take (i := 2) (v := .pointer (some ⟨A.g, 1, none⟩)) rfl (by kernel_rfl) (by kernel_rfl) (by kernel_rfl) (fun _ _ _ h => h) (Or.inl ⟨by rfl, ?_⟩) hHeld ?_
  · intro W hW; (try dsimp only at hW); go_simp
  change wpAnyH _ _ _ _ _ _ _ ⟨#[.pointer (some ⟨A.g, 0, none⟩),.int .i64 v,_,.int .i64 p,.int .i64 t,_,_,.pointer (some ⟨kx, 0, none⟩),_,_,_,_,_,.pointer (some ⟨A.g, 0, none⟩),.pointer (some ⟨A.g, 0, none⟩),.pointer (some ⟨A.g, 1, none⟩),_,_,_,_,_,_,_,_,_,_,_,_,_,_,_,_,_,_,_,_,_,_,_,_,_,_,_,_,_,_,_,_,_,_,_,_,_,_,_,_,_,_,_,_], []⟩ _
  refine wpAnyH_take (i := 3) (v := .pointer (some ⟨A.hf + 1, 0, none⟩)) rfl (by kernel_rfl) (by kernel_rfl) (by kernel_rfl) (fun _ _ _ h => h) (Or.inl ⟨by rfl, ?_⟩) hHeld ?_
  · intro W hW; (try dsimp only at hW); have hc := hW.1; clear hW; go_simp
  change wpAnyH _ _ _ _ _ _ _ ⟨#[.pointer (some ⟨A.g, 0, none⟩),.int .i64 v,_,.int .i64 p,.int .i64 t,_,_,.pointer (some ⟨kx, 0, none⟩),_,_,_,_,_,.pointer (some ⟨A.g, 0, none⟩),.pointer (some ⟨A.g, 0, none⟩),.pointer (some ⟨A.g, 1, none⟩),.pointer (some ⟨A.hf + 1, 0, none⟩),_,_,_,_,_,_,_,_,_,_,_,_,_,_,_,_,_,_,_,_,_,_,_,_,_,_,_,_,_,_,_,_,_,_,_,_,_,_,_,_,_,_,_], []⟩ _
  refine wpAnyH_take (i := 4) (v := .int .i64 v) rfl (by kernel_rfl) (by kernel_rfl) (by kernel_rfl) (fun _ _ _ h => h) (Or.inl ⟨by rfl, ?_⟩) hHeld ?_
  · intro W hW; (try dsimp only at hW); go_simp
  change wpAnyH _ _ _ _ _ _ _ ⟨#[.pointer (some ⟨A.g, 0, none⟩),.int .i64 v,_,.int .i64 p,.int .i64 t,_,_,.pointer (some ⟨kx, 0, none⟩),_,_,_,_,_,.pointer (some ⟨A.g, 0, none⟩),.pointer (some ⟨A.g, 0, none⟩),.pointer (some ⟨A.g, 1, none⟩),.pointer (some ⟨A.hf + 1, 0, none⟩),.int .i64 v,_,_,_,_,_,_,_,_,_,_,_,_,_,_,_,_,_,_,_,_,_,_,_,_,_,_,_,_,_,_,_,_,_,_,_,_,_,_,_,_,_,_], []⟩ _
  refine wpAnyH_take (i := 5) (v := .agg (MC m)) rfl (by kernel_rfl) (by kernel_rfl) (by kernel_rfl) (fun _ _ _ h => h) (yieldsIf_load_mid (by rfl) 23 (.tmp 7) rfl kx 0 rfl (mcl m) _ (fun W hW => hW.2.at_) Tryd.underlying23 rfl Tryd.size23) hHeld ?_
  change wpAnyH _ _ _ _ _ _ _ ⟨#[.pointer (some ⟨A.g, 0, none⟩),.int .i64 v,_,.int .i64 p,.int .i64 t,_,_,.pointer (some ⟨kx, 0, none⟩),_,_,_,_,_,.pointer (some ⟨A.g, 0, none⟩),.pointer (some ⟨A.g, 0, none⟩),.pointer (some ⟨A.g, 1, none⟩),.pointer (some ⟨A.hf + 1, 0, none⟩),.int .i64 v,.agg (MC m),_,_,_,_,_,_,_,_,_,_,_,_,_,_,_,_,_,_,_,_,_,_,_,_,_,_,_,_,_,_,_,_,_,_,_,_,_,_,_,_,_], []⟩ _
  refine wpAnyH_take (i := 6) (v := .int .i64 p) rfl (by kernel_rfl) (by kernel_rfl) (by kernel_rfl) (fun _ _ _ h => h) (Or.inl ⟨by rfl, ?_⟩) hHeld ?_
  · intro W hW; (try dsimp only at hW); go_simp
  change wpAnyH _ _ _ _ _ _ _ ⟨#[.pointer (some ⟨A.g, 0, none⟩),.int .i64 v,_,.int .i64 p,.int .i64 t,_,_,.pointer (some ⟨kx, 0, none⟩),_,_,_,_,_,.pointer (some ⟨A.g, 0, none⟩),.pointer (some ⟨A.g, 0, none⟩),.pointer (some ⟨A.g, 1, none⟩),.pointer (some ⟨A.hf + 1, 0, none⟩),.int .i64 v,.agg (MC m),.int .i64 p,_,_,_,_,_,_,_,_,_,_,_,_,_,_,_,_,_,_,_,_,_,_,_,_,_,_,_,_,_,_,_,_,_,_,_,_,_,_,_,_], []⟩ _
  refine wpAnyH_take (i := 7) (v := .int .i64 t) rfl (by kernel_rfl) (by kernel_rfl) (by kernel_rfl) (fun _ _ _ h => h) (Or.inl ⟨by rfl, ?_⟩) hHeld ?_
  · intro W hW; (try dsimp only at hW); go_simp
  change wpAnyH _ _ _ _ _ _ _ ⟨#[.pointer (some ⟨A.g, 0, none⟩),.int .i64 v,_,.int .i64 p,.int .i64 t,_,_,.pointer (some ⟨kx, 0, none⟩),_,_,_,_,_,.pointer (some ⟨A.g, 0, none⟩),.pointer (some ⟨A.g, 0, none⟩),.pointer (some ⟨A.g, 1, none⟩),.pointer (some ⟨A.hf + 1, 0, none⟩),.int .i64 v,.agg (MC m),.int .i64 p,.int .i64 t,_,_,_,_,_,_,_,_,_,_,_,_,_,_,_,_,_,_,_,_,_,_,_,_,_,_,_,_,_,_,_,_,_,_,_,_,_,_,_], []⟩ _
  refine wpAnyH_ready (rs := [8]) (by kernel_rfl) (by simp) ?_
  refine AllReadyH.cons rfl (fun K hK => ?_) AllReadyH.nil
  go_simp
  obtain ⟨ps, hpf⟩ := HR.out.pf
  refine (learn16 A.hf ps B.F v m p t _ HM.out hpf).mono ?_
  rintro e u1 ⟨rfl, ⟨ps', F1⟩, F2⟩
  have R1 := HR.out.fdb F1 F2 (by unfold lT sT; (repeat' split) <;> rfl)
  have hlt := HR.out.lt
  have hg2 := R1.bx.cell 1 _ rfl
  have hx2 : Box u1 kx (mcl m) := hHeld.2.block (F2.block _ hHeld.2.lt (by have := HKX.out; omega))
  replace HC := hide (HC.out.trans (mid_wide0 F2 hlt.2.2.1 hlt.2.2.2.1))
  have HR1 := hide R1
  refine hK.out _ _ ⟨hg2, hx2⟩ (fun hHeld => ?_)
  clear hK K R1 F1 F2 HR hg2 hx2 hpf hlt
  change wpAnyH _ _ _ _ _ _ _ ⟨#[.pointer (some ⟨A.g, 0, none⟩),.int .i64 v,_,.int .i64 p,.int .i64 t,_,_,.pointer (some ⟨kx, 0, none⟩),_,_,_,_,_,.pointer (some ⟨A.g, 0, none⟩),.pointer (some ⟨A.g, 0, none⟩),.pointer (some ⟨A.g, 1, none⟩),.pointer (some ⟨A.hf + 1, 0, none⟩),.int .i64 v,.agg (MC m),.int .i64 p,.int .i64 t,.tuple #[.int .i64 (lK B.F v m p t), .int .i64 (lE B.F v m p t)],_,_,_,_,_,_,_,_,_,_,_,_,_,_,_,_,_,_,_,_,_,_,_,_,_,_,_,_,_,_,_,_,_,_,_,_,_,_], []⟩ _
  refine wpAnyH_take (i := 9) (v := .tuple #[.int .i64 (lK B.F v m p t), .int .i64 (lE B.F v m p t)]) rfl (by kernel_rfl) (by kernel_rfl) (by kernel_rfl) (fun _ _ _ h => h) (Or.inl ⟨by rfl, ?_⟩) hHeld ?_
  · intro W hW; (try dsimp only at hW); go_simp
  change wpAnyH _ _ _ _ _ _ _ ⟨#[.pointer (some ⟨A.g, 0, none⟩),.int .i64 v,_,.int .i64 p,.int .i64 t,_,_,.pointer (some ⟨kx, 0, none⟩),_,_,_,_,.tuple #[.int .i64 (lK B.F v m p t), .int .i64 (lE B.F v m p t)],.pointer (some ⟨A.g, 0, none⟩),.pointer (some ⟨A.g, 0, none⟩),.pointer (some ⟨A.g, 1, none⟩),.pointer (some ⟨A.hf + 1, 0, none⟩),.int .i64 v,.agg (MC m),.int .i64 p,.int .i64 t,.tuple #[.int .i64 (lK B.F v m p t), .int .i64 (lE B.F v m p t)],_,_,_,_,_,_,_,_,_,_,_,_,_,_,_,_,_,_,_,_,_,_,_,_,_,_,_,_,_,_,_,_,_,_,_,_,_,_], []⟩ _
  refine wpAnyH_take (i := 10) (v := .int .i64 (lK B.F v m p t)) rfl (by kernel_rfl) (by kernel_rfl) (by kernel_rfl) (fun _ _ _ h => h) (Or.inl ⟨by rfl, ?_⟩) hHeld ?_
  · intro W hW; (try dsimp only at hW); go_simp
  change wpAnyH _ _ _ _ _ _ _ ⟨#[.pointer (some ⟨A.g, 0, none⟩),.int .i64 v,_,.int .i64 p,.int .i64 t,_,_,.pointer (some ⟨kx, 0, none⟩),_,_,_,_,.tuple #[.int .i64 (lK B.F v m p t), .int .i64 (lE B.F v m p t)],.pointer (some ⟨A.g, 0, none⟩),.pointer (some ⟨A.g, 0, none⟩),.pointer (some ⟨A.g, 1, none⟩),.pointer (some ⟨A.hf + 1, 0, none⟩),.int .i64 v,.agg (MC m),.int .i64 p,.int .i64 t,.tuple #[.int .i64 (lK B.F v m p t), .int .i64 (lE B.F v m p t)],.int .i64 (lK B.F v m p t),_,_,_,_,_,_,_,_,_,_,_,_,_,_,_,_,_,_,_,_,_,_,_,_,_,_,_,_,_,_,_,_,_,_,_,_,_], []⟩ _
  refine wpAnyH_take (i := 11) (v := .int .i64 (lE B.F v m p t)) rfl (by kernel_rfl) (by kernel_rfl) (by kernel_rfl) (fun _ _ _ h => h) (Or.inl ⟨by rfl, ?_⟩) hHeld ?_
  · intro W hW; (try dsimp only at hW); go_simp
  change wpAnyH _ _ _ _ _ _ _ ⟨#[.pointer (some ⟨A.g, 0, none⟩),.int .i64 v,_,.int .i64 p,.int .i64 t,_,_,.pointer (some ⟨kx, 0, none⟩),_,_,_,_,.tuple #[.int .i64 (lK B.F v m p t), .int .i64 (lE B.F v m p t)],.pointer (some ⟨A.g, 0, none⟩),.pointer (some ⟨A.g, 0, none⟩),.pointer (some ⟨A.g, 1, none⟩),.pointer (some ⟨A.hf + 1, 0, none⟩),.int .i64 v,.agg (MC m),.int .i64 p,.int .i64 t,.tuple #[.int .i64 (lK B.F v m p t), .int .i64 (lE B.F v m p t)],.int .i64 (lK B.F v m p t),.int .i64 (lE B.F v m p t),_,_,_,_,_,_,_,_,_,_,_,_,_,_,_,_,_,_,_,_,_,_,_,_,_,_,_,_,_,_,_,_,_,_,_,_], []⟩ _
  refine wpAnyH_take (i := 12) (v := .int .i64 (lK B.F v m p t)) rfl (by kernel_rfl) (by kernel_rfl) (by kernel_rfl) (fun _ _ _ h => h) (Or.inl ⟨by rfl, ?_⟩) hHeld ?_
  · intro W hW; (try dsimp only at hW); go_simp
  change wpAnyH _ _ _ _ _ _ _ ⟨#[.pointer (some ⟨A.g, 0, none⟩),.int .i64 v,_,.int .i64 p,.int .i64 t,_,_,.pointer (some ⟨kx, 0, none⟩),_,_,.int .i64 (lK B.F v m p t),_,.tuple #[.int .i64 (lK B.F v m p t), .int .i64 (lE B.F v m p t)],.pointer (some ⟨A.g, 0, none⟩),.pointer (some ⟨A.g, 0, none⟩),.pointer (some ⟨A.g, 1, none⟩),.pointer (some ⟨A.hf + 1, 0, none⟩),.int .i64 v,.agg (MC m),.int .i64 p,.int .i64 t,.tuple #[.int .i64 (lK B.F v m p t), .int .i64 (lE B.F v m p t)],.int .i64 (lK B.F v m p t),.int .i64 (lE B.F v m p t),_,_,_,_,_,_,_,_,_,_,_,_,_,_,_,_,_,_,_,_,_,_,_,_,_,_,_,_,_,_,_,_,_,_,_,_], []⟩ _
  refine wpAnyH_take (i := 13) (v := .int .i64 (lE B.F v m p t)) rfl (by kernel_rfl) (by kernel_rfl) (by kernel_rfl) (fun _ _ _ h => h) (Or.inl ⟨by rfl, ?_⟩) hHeld ?_
  · intro W hW; (try dsimp only at hW); go_simp
  change wpAnyH _ _ _ _ _ _ _ ⟨#[.pointer (some ⟨A.g, 0, none⟩),.int .i64 v,_,.int .i64 p,.int .i64 t,_,_,.pointer (some ⟨kx, 0, none⟩),_,_,.int .i64 (lK B.F v m p t),.int .i64 (lE B.F v m p t),.tuple #[.int .i64 (lK B.F v m p t), .int .i64 (lE B.F v m p t)],.pointer (some ⟨A.g, 0, none⟩),.pointer (some ⟨A.g, 0, none⟩),.pointer (some ⟨A.g, 1, none⟩),.pointer (some ⟨A.hf + 1, 0, none⟩),.int .i64 v,.agg (MC m),.int .i64 p,.int .i64 t,.tuple #[.int .i64 (lK B.F v m p t), .int .i64 (lE B.F v m p t)],.int .i64 (lK B.F v m p t),.int .i64 (lE B.F v m p t),_,_,_,_,_,_,_,_,_,_,_,_,_,_,_,_,_,_,_,_,_,_,_,_,_,_,_,_,_,_,_,_,_,_,_,_], []⟩ _
  refine wpAnyH_done (by kernel_rfl) ?_ _
  clear hHeld
  have b := HR1.out.wf
  have hL : ({ B with F := lT B.F v m p t } : Br).ln = B.ln := rfl
  have c14 := HR1.out.bx.cell 14 _ (pbc_get _ _ b.cl (j := 2) (by rw [b.ll]; omega))
  have f14 := HR1.out.bx.free 14 (by rw [pbc_len _ _ b.cl b.ll]; omega)
  have F2 := hide (HR1.out.incL (j := 2) (by omega) HS.out)
  have c12 := HR1.out.bx.cell 12 _ (pbc_get _ _ b.cl (j := 0) (by rw [b.ll]; omega))
  have f12 := HR1.out.bx.free 12 (by rw [pbc_len _ _ b.cl b.ll]; omega)
  have F0 := hide (HR1.out.incL (j := 0) (by omega) HS.out)
  have c13 := HR1.out.bx.cell 13 _ (pbc_get _ _ b.cl (j := 1) (by rw [b.ll]; omega))
  have f13 := HR1.out.bx.free 13 (by rw [pbc_len _ _ b.cl b.ll]; omega)
  have F1 := hide (HR1.out.incL (j := 1) (by omega) HS.out)
  have hk := lK_012 B.F v m p t
  have el : ∀ j, j < 3 → IntKind.i64.wrap (B.ln.getD j 0 + 1) = B.ln.getD j 0 + 1 := fun j hj => by
    have hm : B.ln.getD j 0 ∈ B.ln := by
      rw [List.getD_eq_getElem?_getD, List.getElem?_eq_getElem (by have := b.ll; rw [hL] at this; rw [this]; exact hj)]
      exact List.getElem_mem _
    have h1 := HS.out _ hm
    have h0 := (b.ls _ hm).1
    exact IntWalk.i64_in _ (by omega)
  have e0 := el 0 (by omega)
  have e1 := el 1 (by omega)
  have e2 := el 2 (by omega)
  rw [hL] at c12 c13 c14 F0 F1 F2
  have HLR : Hid (lrn B v m p t = { B with F := lT B.F v m p t, ln := if lE B.F v m p t = 0 then (if 0 < lK B.F v m p t then inc B.ln (lK B.F v m p t - 1).toNat else B.ln) else inc B.ln 2 }) := hide rfl
  generalize lE B.F v m p t = rE at *
  generalize lK B.F v m p t = rK at *
  generalize lT B.F v m p t = rT at *
  have HRX := HR1
  clear b hL el HR1 HKX
  generalize B.ln.getD 0 0 = y0 at *
  generalize B.ln.getD 1 0 = y1 at *
  generalize B.ln.getD 2 0 = y2 at *
  have md : ∀ z : World, Mid A.lo A.hi z z.drew := fun z => Mid.on (Mid.refl _ _ _) ⟨rfl, rfl, rfl, Nat.le_refl _, fun _ _ => rfl⟩
  by_cases hE : rE = 0
  · subst hE
    rcases hk with rfl | rfl | rfl
    · go_wp2
      go_end0
      exact ⟨rfl, by rw [HLR.out]; exact HRX.out, HC.out⟩
    · go_wp2_with fail
      go_region
      go_wp2
      go_end0
      exact ⟨rfl, by rw [HLR.out]; exact F0.out.1.drew, (HC.out.trans F0.out.2).trans (md _)⟩
    · go_wp2_with fail
      go_region
      go_wp2
      go_end0
      exact ⟨rfl, by rw [HLR.out]; exact F1.out.1.drew, (HC.out.trans F1.out.2).trans (md _)⟩
  · have hE2 : (rE != 0) = true := by simp [hE]
    rw [if_neg hE] at HLR
    go_wp2_with fail
    go_region
    go_wp2
    go_end0
    exact ⟨rfl, by rw [HLR.out]; exact F2.out.1.drew, (HC.out.trans F2.out.2).trans (md _)⟩
end
end Go.Proofs.YtgpdjfaklcmoiaaDoor
/- Contract: enter of the program's bridge. -/
namespace Go.Proofs.YtgpdjfaklcmoiaaDoor
open Go.RowKit Go.PlainAid

/-- The VLAN that enter tells. -/
def evl (B : Br) (p : Int) (f : Fd) (t : Int) : Int := if preW B p f t == 0 || preW B p f t == 5 then inV B.V p f else 0
theorem pre1 {B : Br} {p : Int} {f : Fd} {t : Int} (h : badW B p f t = true) : preW B p f t = 1 := by unfold preW; rw [h]; rfl
theorem pre2 {B : Br} {p : Int} {f : Fd} {t : Int} (h : badW B p f t = false) (h2 : rsv (mD f) = true) : preW B p f t = 2 := by unfold preW; rw [h, h2]; rfl
theorem pre3 {B : Br} {p : Int} {f : Fd} {t : Int} (h : badW B p f t = false) (h2 : rsv (mD f) = false) (h3 : (sta B p == 0) = true) : preW B p f t = 3 := by unfold preW; rw [h, h2, h3]; rfl
theorem pre4 {B : Br} {p : Int} {f : Fd} {t : Int} (h : badW B p f t = false) (h2 : rsv (mD f) = false) (h3 : (sta B p == 0) = false) (h4 : (inE B.V p f != 0) = true) : preW B p f t = 4 := by unfold preW; rw [h, h2, h3, h4]; rfl
theorem pre5 {B : Br} {p : Int} {f : Fd} {t : Int} (h : badW B p f t = false) (h2 : rsv (mD f) = false) (h3 : (sta B p == 0) = false) (h4 : (inE B.V p f != 0) = false) (h5 : grp (mS f) = true) : preW B p f t = 5 := by unfold preW; rw [h, h2, h3, h4, h5]; rfl
theorem pre0 {B : Br} {p : Int} {f : Fd} {t : Int} (h : badW B p f t = false) (h2 : rsv (mD f) = false) (h3 : (sta B p == 0) = false) (h4 : (inE B.V p f != 0) = false) (h5 : grp (mS f) = false) : preW B p f t = 0 := by unfold preW; rw [h, h2, h3, h4, h5]; rfl
theorem evl_no {B : Br} {p : Int} {f : Fd} {t k : Int} (h : preW B p f t = k) (h0 : k ≠ 0) (h5 : k ≠ 5) : evl B p f t = 0 := by
  unfold evl
  rw [h, if_neg (by simp [h0, h5])]
theorem evl_yes {B : Br} {p : Int} {f : Fd} {t : Int} (h : preW B p f t = 0 ∨ preW B p f t = 5) : evl B p f t = inV B.V p f := by
  unfold evl
  rw [if_pos (by rcases h with h | h <;> simp [h])]
set_option maxRecDepth 100000 in
set_option maxHeartbeats 8000000 in
theorem enterQ (A : PAd) (B : Br) (p : Int) (f : Fd) (a : Option Addr) (n c : Nat) (t : Int) (w : World) (H : PB w A B) (hl : f.bs.length = n) (hd : Mok (mD f)) (hs : Mok (mS f)) :
    Calls Tryd.prog 38 #[.pointer (some ⟨A.g, 0, none⟩), .int .i64 p, .agg (FC f (.slice a n c)), .int .i64 t] w fun e w' => e = .returned (.tuple #[.int .i64 (evl B p f t), .int .i64 (preW B p f t)]) ∧ Below w.heap.size w w' := by
  have HB := hide (below_alloc w (.cells (FC f (.slice a n c)) 26))
  have HX := hide (Box.new w (fcl f (.slice a n c)) 26)
  have HR := hide (H.on HB.out)
  have q1 := fun W H => hasPortQ A B p W H
  have q2 := fun W => right34 f a n c hl W
  have HL := hide hl
  have HMD := hide hd
  have HMS := hide hs
  clear H hl hd hs
  rcases Bool.eq_false_or_eq_true (hasP B.n p) with hp | hp
  rotate_left
  · have e1 := pre1 (B := B) (p := p) (f := f) (t := t) (by unfold badW; rw [hp]; simp)
    have E1 := hide e1
    have E2 := hide (evl_no e1 (by decide) (by decide))
    rw [hp] at q1
    clear e1 hp
    go_enter Tryd.func38, Tryd.ntmps38
    go_wp2_with (first | (go_at_call 21; refine (q1 _ HR.out).mono ?_; rintro e w' ⟨rfl, rfl⟩))
    go_ret2
    exact ⟨by rw [E1.out, E2.out]; rfl, HB.out⟩
  rw [hp] at q1
  have hb : badW B p f t = !(rt f && isT t) := by unfold badW; rw [hp, Bool.and_true]
  rcases Bool.eq_false_or_eq_true (rt f) with hr | hr
  rotate_left
  · have e1 := pre1 (B := B) (p := p) (f := f) (t := t) (by rw [hb, hr]; rfl)
    have E1 := hide e1
    have E2 := hide (evl_no e1 (by decide) (by decide))
    rw [hr] at q2
    clear e1 hp hb hr
    have tk1 : True := trivial
    go_enter Tryd.func38, Tryd.ntmps38
    go_wp2_with (first | (go_at_call 21; refine (q1 _ HR.out).mono ?_; rintro e w' ⟨rfl, rfl⟩) | (have _t := tk1; refine wpl_frame (.tmp 6) rfl HX.out ?_ ?_ ?_; rfl; rfl; clear tk1))
    refine (q2 _).mono ?_
    rintro e w1 ⟨rfl, B1⟩
    have HB1 := hide (belowOn HB.out B1)
    clear B1
    go_wp2
    go_ret2
    exact ⟨by rw [E1.out, E2.out]; rfl, HB1.out⟩
  rw [hr] at q2
  rw [hr, Bool.true_and] at hb
  by_cases ht : isT t = true
  rotate_left
  · have e1 := pre1 (B := B) (p := p) (f := f) (t := t) (by rw [hb, Bool.eq_false_iff.2 ht]; rfl)
    have E1 := hide e1
    have E2 := hide (evl_no e1 (by decide) (by decide))
    have h3 : t < 0 ∨ (¬ t < 0 ∧ 1099511627776 < t) := by
      have : ¬ (0 ≤ t ∧ t ≤ 1099511627776) := fun h => ht (isT_iff.2 h)
      omega
    clear e1 hp hb hr ht
    rcases h3 with h3 | ⟨h3, h4⟩
    all_goals
      have tk1 : True := trivial
      go_enter Tryd.func38, Tryd.ntmps38
      go_wp2_with (first | (go_at_call 21; refine (q1 _ HR.out).mono ?_; rintro e w' ⟨rfl, rfl⟩) | (have _t := tk1; refine wpl_frame (.tmp 6) rfl HX.out ?_ ?_ ?_; rfl; rfl; clear tk1))
      refine (q2 _).mono ?_
      rintro e w1 ⟨rfl, B1⟩
      have HB1 := hide (belowOn HB.out B1)
      clear B1
      go_wp2
      go_ret2
      exact ⟨by rw [E1.out, E2.out]; rfl, HB1.out⟩
  rw [ht] at hb
  have HBD : Hid (badW B p f t = false) := hide hb
  have t0 : ¬ t < 0 := by have := isT_iff.1 ht; omega
  have t1 : ¬ 1099511627776 < t := by have := isT_iff.1 ht; omega
  clear hp hb hr ht
  have tk1 : True := trivial
  go_enter Tryd.func38, Tryd.ntmps38
  go_wp2_with (first | (go_at_call 21; refine (q1 _ HR.out).mono ?_; rintro e w' ⟨rfl, rfl⟩) | (have _t := tk1; refine wpl_frame (.tmp 6) rfl HX.out ?_ ?_ ?_; rfl; rfl; clear tk1))
  refine (q2 _).mono ?_
  rintro e z1 ⟨rfl, bb⟩
  replace HR := hide (HR.out.on bb)
  replace HX := hide (HX.out.on bb)
  replace HB := hide (belowOn HB.out bb)
  clear bb q1 q2
  have tk2 : True := trivial
  go_wp2_with (first | (have _t := tk2; refine wpl_mac (.tmp 31) rfl (fcl_dst HX.out) ?_ ?_ ?_; rfl; rfl; clear tk2))
  clear t0 t1
  refine (reservedQ (mD f) _ HMD.out).mono ?_
  rintro e z3 ⟨rfl, bb⟩
  replace HR := hide (HR.out.on bb)
  replace HX := hide (HX.out.on bb)
  replace HB := hide (belowOn HB.out bb)
  clear bb
  rcases Bool.eq_false_or_eq_true (rsv (mD f)) with h2 | h2
  · have e1 := pre2 HBD.out h2
    have E1 := hide e1
    have E2 := hide (evl_no e1 (by decide) (by decide))
    rw [h2]
    clear h2 e1
    go_wp2
    go_ret2
    exact ⟨by rw [E1.out, E2.out]; rfl, HB.out⟩
  rw [h2]
  have H2 := hide h2
  clear h2
  have hst := fun W H => stateQ A B p W H
  rcases Bool.eq_false_or_eq_true (sta B p == 0) with h3 | h3
  · have e1 := pre3 HBD.out H2.out h3
    have E1 := hide e1
    have E2 := hide (evl_no e1 (by decide) (by decide))
    clear e1
    go_wp2_with (first | (go_at_call 40; refine (hst _ HR.out).mono ?_; rintro e w' ⟨rfl, rfl⟩))
    go_ret2
    exact ⟨by rw [E1.out, E2.out]; rfl, HB.out⟩
  have H3 := hide h3
  go_wp2_with (first | (go_at_call 40; refine (hst _ HR.out).mono ?_; rintro e w' ⟨rfl, hw⟩; obtain rfl : z3 = w' := hw.symm))
  clear h3 hst
  have bb := below_drew z3
  refine wp_region_held_drew (S := fun w' => w'.cell? ⟨A.g, 0, none⟩ = some (.pointer (some ⟨A.h + 2, 0, none⟩)) ∧ Box w' w.heap.size (fcl f (.slice a n c))) (by kernel_rfl) ⟨HR.out.bx.cell 0 _ rfl, HX.out.drew⟩ (fun hHeld => ?_)
  replace HR := hide (HR.out.on bb)
  replace HX := hide (HX.out.on bb)
  replace HB := hide (belowOn HB.out bb)
  clear bb
  generalize z3.drew = u0 at *
  refine wpAnyH_take (i := 0) (v := .pointer (some ⟨A.g, 0, none⟩)) rfl (by kernel_rfl) (by kernel_rfl) (by kernel_rfl) (fun _ _ _ h => h) (Or.inl ⟨by rfl, ?_⟩) hHeld ?_
  · intro W hW; (try dsimp only at hW); go_simp
  change wpAnyH _ _ _ _ _ _ _ ⟨#[.pointer (some ⟨A.g, 0, none⟩),.int .i64 p,_,.int .i64 t,_,_,.pointer (some ⟨w.heap.size, 0, none⟩),_,_,_,_,_,_,_,_,_,_,_,_,_,_,_,_,_,_,_,_,_,_,_,_,_,_,_,_,_,_,_,_,_,.pointer (some ⟨A.g, 0, none⟩),_,_,_,_,_,_,_,_,_,_,_,_,_,_,_,_,_], []⟩ _
  refine wpAnyH_take (i := 1) (v := .pointer (some ⟨A.g, 0, none⟩)) rfl (by kernel_rfl) (by kernel_rfl) (by kernel_rfl) (fun _ _ _ h => h) (Or.inl ⟨by rfl, ?_⟩) hHeld ?_
  · intro W hW; (try dsimp only at hW); go_simp
  change wpAnyH _ _ _ _ _ _ _ ⟨#[.pointer (some ⟨A.g, 0, none⟩),.int .i64 p,_,.int .i64 t,_,_,.pointer (some ⟨w.heap.size, 0, none⟩),_,_,_,_,_,_,_,_,_,_,_,_,_,_,_,_,_,_,_,_,_,_,_,_,_,_,_,_,_,_,_,_,_,.pointer (some ⟨A.g, 0, none⟩),.pointer (some ⟨A.g, 0, none⟩),_,_,_,_,_,_,_,_,_,_,_,_,_,_,_,_], []⟩ _
  refine wpAnyH_take (i := 2) (v := .pointer (some ⟨A.g, 0, none⟩)) rfl (by kernel_rfl) (by kernel_rfl) (by kernel_rfl) (fun _ _ _ h => h) (Or.inl ⟨by rfl, ?_⟩) hHeld ?_
  · intro W hW; (try dsimp only at hW); go_simp
  change wpAnyH _ _ _ _ _ _ _ ⟨#[.pointer (some ⟨A.g, 0, none⟩),.int .i64 p,_,.int .i64 t,_,_,.pointer (some ⟨w.heap.size, 0, none⟩),_,_,_,_,_,_,_,_,_,_,_,_,_,_,_,_,_,_,_,_,_,_,_,_,_,_,_,_,_,_,_,_,_,.pointer (some ⟨A.g, 0, none⟩),.pointer (some ⟨A.g, 0, none⟩),.pointer (some ⟨A.g, 0, none⟩),_,_,_,_,_,_,_,_,_,_,_,_,_,_,_], []⟩ _
  refine wpAnyH_take (i := 3) (v := .pointer (some ⟨A.h + 2, 0, none⟩)) rfl (by kernel_rfl) (by kernel_rfl) (by kernel_rfl) (fun _ _ _ h => h) (Or.inl ⟨by rfl, ?_⟩) hHeld ?_
  · intro W hW; (try dsimp only at hW); have hc := hW.1; clear hW; go_simp
  change wpAnyH _ _ _ _ _ _ _ ⟨#[.pointer (some ⟨A.g, 0, none⟩),.int .i64 p,_,.int .i64 t,_,_,.pointer (some ⟨w.heap.size, 0, none⟩),_,_,_,_,_,_,_,_,_,_,_,_,_,_,_,_,_,_,_,_,_,_,_,_,_,_,_,_,_,_,_,_,_,.pointer (some ⟨A.g, 0, none⟩),.pointer (some ⟨A.g, 0, none⟩),.pointer (some ⟨A.g, 0, none⟩),.pointer (some ⟨A.h + 2, 0, none⟩),_,_,_,_,_,_,_,_,_,_,_,_,_,_], []⟩ _
  refine wpAnyH_take (i := 4) (v := .int .i64 p) rfl (by kernel_rfl) (by kernel_rfl) (by kernel_rfl) (fun _ _ _ h => h) (Or.inl ⟨by rfl, ?_⟩) hHeld ?_
  · intro W hW; (try dsimp only at hW); go_simp
  change wpAnyH _ _ _ _ _ _ _ ⟨#[.pointer (some ⟨A.g, 0, none⟩),.int .i64 p,_,.int .i64 t,_,_,.pointer (some ⟨w.heap.size, 0, none⟩),_,_,_,_,_,_,_,_,_,_,_,_,_,_,_,_,_,_,_,_,_,_,_,_,_,_,_,_,_,_,_,_,_,.pointer (some ⟨A.g, 0, none⟩),.pointer (some ⟨A.g, 0, none⟩),.pointer (some ⟨A.g, 0, none⟩),.pointer (some ⟨A.h + 2, 0, none⟩),.int .i64 p,_,_,_,_,_,_,_,_,_,_,_,_,_], []⟩ _
  refine wpAnyH_take (i := 5) (v := .agg (FC f (.slice a n c))) rfl (by kernel_rfl) (by kernel_rfl) (by kernel_rfl) (fun _ _ _ h => h) (yieldsIf_load_mid (by rfl) 26 (.tmp 6) rfl w.heap.size 0 rfl (fcl f (.slice a n c)) _ (fun W hW => hW.2.at_) Tryd.underlying26 rfl Tryd.size26) hHeld ?_
  change wpAnyH _ _ _ _ _ _ _ ⟨#[.pointer (some ⟨A.g, 0, none⟩),.int .i64 p,_,.int .i64 t,_,_,.pointer (some ⟨w.heap.size, 0, none⟩),_,_,_,_,_,_,_,_,_,_,_,_,_,_,_,_,_,_,_,_,_,_,_,_,_,_,_,_,_,_,_,_,_,.pointer (some ⟨A.g, 0, none⟩),.pointer (some ⟨A.g, 0, none⟩),.pointer (some ⟨A.g, 0, none⟩),.pointer (some ⟨A.h + 2, 0, none⟩),.int .i64 p,.agg (FC f (.slice a n c)),_,_,_,_,_,_,_,_,_,_,_,_], []⟩ _
  refine wpAnyH_ready (rs := [6]) (by kernel_rfl) (by simp) ?_
  refine AllReadyH.cons rfl (fun K hK => ?_) AllReadyH.nil
  go_simp
  refine (in17 A.h B.V p f a n c HL.out _ HR.out.pv).mono ?_
  rintro e z4 ⟨rfl, bb⟩
  refine hK.out _ _ ⟨(HR.out.on bb).bx.cell 0 _ rfl, HX.out.on bb⟩ (fun hHeld => ?_)
  clear hK K
  replace HR := hide (HR.out.on bb)
  replace HX := hide (HX.out.on bb)
  replace HB := hide (belowOn HB.out bb)
  clear bb
  change wpAnyH _ _ _ _ _ _ _ ⟨#[.pointer (some ⟨A.g, 0, none⟩),.int .i64 p,_,.int .i64 t,_,_,.pointer (some ⟨w.heap.size, 0, none⟩),_,_,_,_,_,_,_,_,_,_,_,_,_,_,_,_,_,_,_,_,_,_,_,_,_,_,_,_,_,_,_,_,_,.pointer (some ⟨A.g, 0, none⟩),.pointer (some ⟨A.g, 0, none⟩),.pointer (some ⟨A.g, 0, none⟩),.pointer (some ⟨A.h + 2, 0, none⟩),.int .i64 p,.agg (FC f (.slice a n c)),.tuple #[.int .i64 (inV B.V p f), .int .i64 (inE B.V p f)],_,_,_,_,_,_,_,_,_,_,_], []⟩ _
  refine wpAnyH_take (i := 7) (v := .tuple #[.int .i64 (inV B.V p f), .int .i64 (inE B.V p f)]) rfl (by kernel_rfl) (by kernel_rfl) (by kernel_rfl) (fun _ _ _ h => h) (Or.inl ⟨by rfl, ?_⟩) hHeld ?_
  · intro W hW; (try dsimp only at hW); go_simp
  change wpAnyH _ _ _ _ _ _ _ ⟨#[.pointer (some ⟨A.g, 0, none⟩),.int .i64 p,_,.int .i64 t,_,_,.pointer (some ⟨w.heap.size, 0, none⟩),_,_,_,_,_,_,_,_,_,_,_,_,_,_,_,_,_,_,_,_,_,_,_,_,_,_,_,_,_,_,_,_,.tuple #[.int .i64 (inV B.V p f), .int .i64 (inE B.V p f)],.pointer (some ⟨A.g, 0, none⟩),.pointer (some ⟨A.g, 0, none⟩),.pointer (some ⟨A.g, 0, none⟩),.pointer (some ⟨A.h + 2, 0, none⟩),.int .i64 p,.agg (FC f (.slice a n c)),.tuple #[.int .i64 (inV B.V p f), .int .i64 (inE B.V p f)],_,_,_,_,_,_,_,_,_,_,_], []⟩ _
  refine wpAnyH_take (i := 8) (v := .int .i64 (inV B.V p f)) rfl (by kernel_rfl) (by kernel_rfl) (by kernel_rfl) (fun _ _ _ h => h) (Or.inl ⟨by rfl, ?_⟩) hHeld ?_
  · intro W hW; (try dsimp only at hW); go_simp
  change wpAnyH _ _ _ _ _ _ _ ⟨#[.pointer (some ⟨A.g, 0, none⟩),.int .i64 p,_,.int .i64 t,_,_,.pointer (some ⟨w.heap.size, 0, none⟩),_,_,_,_,_,_,_,_,_,_,_,_,_,_,_,_,_,_,_,_,_,_,_,_,_,_,_,_,_,_,_,_,.tuple #[.int .i64 (inV B.V p f), .int .i64 (inE B.V p f)],.pointer (some ⟨A.g, 0, none⟩),.pointer (some ⟨A.g, 0, none⟩),.pointer (some ⟨A.g, 0, none⟩),.pointer (some ⟨A.h + 2, 0, none⟩),.int .i64 p,.agg (FC f (.slice a n c)),.tuple #[.int .i64 (inV B.V p f), .int .i64 (inE B.V p f)],.int .i64 (inV B.V p f),_,_,_,_,_,_,_,_,_,_], []⟩ _
  refine wpAnyH_take (i := 9) (v := .int .i64 (inE B.V p f)) rfl (by kernel_rfl) (by kernel_rfl) (by kernel_rfl) (fun _ _ _ h => h) (Or.inl ⟨by rfl, ?_⟩) hHeld ?_
  · intro W hW; (try dsimp only at hW); go_simp
  change wpAnyH _ _ _ _ _ _ _ ⟨#[.pointer (some ⟨A.g, 0, none⟩),.int .i64 p,_,.int .i64 t,_,_,.pointer (some ⟨w.heap.size, 0, none⟩),_,_,_,_,_,_,_,_,_,_,_,_,_,_,_,_,_,_,_,_,_,_,_,_,_,_,_,_,_,_,_,_,.tuple #[.int .i64 (inV B.V p f), .int .i64 (inE B.V p f)],.pointer (some ⟨A.g, 0, none⟩),.pointer (some ⟨A.g, 0, none⟩),.pointer (some ⟨A.g, 0, none⟩),.pointer (some ⟨A.h + 2, 0, none⟩),.int .i64 p,.agg (FC f (.slice a n c)),.tuple #[.int .i64 (inV B.V p f), .int .i64 (inE B.V p f)],.int .i64 (inV B.V p f),.int .i64 (inE B.V p f),_,_,_,_,_,_,_,_,_], []⟩ _
  refine wpAnyH_take (i := 10) (v := .int .i64 (inV B.V p f)) rfl (by kernel_rfl) (by kernel_rfl) (by kernel_rfl) (fun _ _ _ h => h) (Or.inl ⟨by rfl, ?_⟩) hHeld ?_
  · intro W hW; (try dsimp only at hW); go_simp
  change wpAnyH _ _ _ _ _ _ _ ⟨#[.pointer (some ⟨A.g, 0, none⟩),.int .i64 p,_,.int .i64 t,_,_,.pointer (some ⟨w.heap.size, 0, none⟩),_,_,_,.int .i64 (inV B.V p f),_,_,_,_,_,_,_,_,_,_,_,_,_,_,_,_,_,_,_,_,_,_,_,_,_,_,_,_,.tuple #[.int .i64 (inV B.V p f), .int .i64 (inE B.V p f)],.pointer (some ⟨A.g, 0, none⟩),.pointer (some ⟨A.g, 0, none⟩),.pointer (some ⟨A.g, 0, none⟩),.pointer (some ⟨A.h + 2, 0, none⟩),.int .i64 p,.agg (FC f (.slice a n c)),.tuple #[.int .i64 (inV B.V p f), .int .i64 (inE B.V p f)],.int .i64 (inV B.V p f),.int .i64 (inE B.V p f),_,_,_,_,_,_,_,_,_], []⟩ _
  refine wpAnyH_take (i := 11) (v := .int .i64 (inE B.V p f)) rfl (by kernel_rfl) (by kernel_rfl) (by kernel_rfl) (fun _ _ _ h => h) (Or.inl ⟨by rfl, ?_⟩) hHeld ?_
  · intro W hW; (try dsimp only at hW); go_simp
  change wpAnyH _ _ _ _ _ _ _ ⟨#[.pointer (some ⟨A.g, 0, none⟩),.int .i64 p,_,.int .i64 t,_,_,.pointer (some ⟨w.heap.size, 0, none⟩),_,_,_,.int .i64 (inV B.V p f),.int .i64 (inE B.V p f),_,_,_,_,_,_,_,_,_,_,_,_,_,_,_,_,_,_,_,_,_,_,_,_,_,_,_,.tuple #[.int .i64 (inV B.V p f), .int .i64 (inE B.V p f)],.pointer (some ⟨A.g, 0, none⟩),.pointer (some ⟨A.g, 0, none⟩),.pointer (some ⟨A.g, 0, none⟩),.pointer (some ⟨A.h + 2, 0, none⟩),.int .i64 p,.agg (FC f (.slice a n c)),.tuple #[.int .i64 (inV B.V p f), .int .i64 (inE B.V p f)],.int .i64 (inV B.V p f),.int .i64 (inE B.V p f),_,_,_,_,_,_,_,_,_], []⟩ _
  refine wpAnyH_done (by kernel_rfl) ?_ _
  clear hHeld
  rcases Bool.eq_false_or_eq_true (inE B.V p f != 0) with h4 | h4
  · have e1 := pre4 HBD.out H2.out H3.out h4
    have E1 := hide e1
    have E2 := hide (evl_no e1 (by decide) (by decide))
    clear e1
    go_wp2
    go_ret2
    exact ⟨by rw [E1.out, E2.out]; rfl, HB.out⟩
  have H4 := hide h4
  have tk3 : True := trivial
  go_wp2_with (first | (have _t := tk3; refine wpl_mac (.tmp 53) rfl (fcl_src HX.out) ?_ ?_ ?_; rfl; rfl; clear tk3))
  clear h4
  refine (group53 (mS f) _ HMS.out).mono ?_
  rintro e z5 ⟨rfl, bb⟩
  replace HB := hide (belowOn HB.out bb)
  clear bb HX HR
  rcases Bool.eq_false_or_eq_true (grp (mS f)) with h5 | h5
  · have e1 := pre5 HBD.out H2.out H3.out H4.out h5
    have E1 := hide e1
    have E2 := hide (evl_yes (Or.inr e1))
    rw [h5]
    clear e1 h5
    go_wp2
    go_ret2
    exact ⟨by rw [E1.out, E2.out]; rfl, HB.out⟩
  · have e1 := pre0 HBD.out H2.out H3.out H4.out h5
    have E1 := hide e1
    have E2 := hide (evl_yes (Or.inl e1))
    rw [h5]
    clear e1 h5
    go_wp2
    go_ret2
    exact ⟨by rw [E1.out, E2.out]; rfl, HB.out⟩
end Go.Proofs.YtgpdjfaklcmoiaaDoor
