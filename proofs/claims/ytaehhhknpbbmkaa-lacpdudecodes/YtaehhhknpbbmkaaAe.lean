/- Contract of readInfo. -/
import Derived.Test.YtaehhhknpbbmkaaAd
namespace Go.Proofs.Ytaehhhknpbbmkaa
open Go.RowKit

theorem ZI : (#[.int .i64 0, .int .u8 0, .int .u8 0, .int .u8 0, .int .u8 0, .int .u8 0, .int .u8 0, .int .i64 0, .int .i64 0, .int .i64 0, .int .i64 0] : Array Value) = IC zeroI := rfl
theorem Box.setsp {w : World} {k : Nat} {x : Inf} (h : Box w k (icl x)) (v : Int) : Box (w.setCell ⟨k, 0, none⟩ (.int .i64 v)) k (icl { x with sp := v }) := by
  have hb := Box.put (w := w) (k := k) (o := 0) (A := []) (B := [.int .i64 x.sp]) (C := mcl x ++ [.int .i64 x.ky, .int .i64 x.pp, .int .i64 x.po, .int .i64 x.st]) (B' := [.int .i64 v]) h rfl rfl
  exact hb
theorem Box.setky {w : World} {k : Nat} {x : Inf} (h : Box w k (icl x)) (v : Int) : Box (w.setCell ⟨k, 7, none⟩ (.int .i64 v)) k (icl { x with ky := v }) := by
  have hb := Box.put (w := w) (k := k) (o := 7) (A := .int .i64 x.sp :: mcl x) (B := [.int .i64 x.ky]) (C := [.int .i64 x.pp, .int .i64 x.po, .int .i64 x.st]) (B' := [.int .i64 v]) h rfl rfl
  exact hb
theorem Box.setpp {w : World} {k : Nat} {x : Inf} (h : Box w k (icl x)) (v : Int) : Box (w.setCell ⟨k, 8, none⟩ (.int .i64 v)) k (icl { x with pp := v }) := by
  have hb := Box.put (w := w) (k := k) (o := 8) (A := .int .i64 x.sp :: mcl x ++ [.int .i64 x.ky]) (B := [.int .i64 x.pp]) (C := [.int .i64 x.po, .int .i64 x.st]) (B' := [.int .i64 v]) h rfl rfl
  exact hb
theorem Box.setpo {w : World} {k : Nat} {x : Inf} (h : Box w k (icl x)) (v : Int) : Box (w.setCell ⟨k, 9, none⟩ (.int .i64 v)) k (icl { x with po := v }) := by
  have hb := Box.put (w := w) (k := k) (o := 9) (A := .int .i64 x.sp :: mcl x ++ [.int .i64 x.ky, .int .i64 x.pp]) (B := [.int .i64 x.po]) (C := [.int .i64 x.st]) (B' := [.int .i64 v]) h rfl rfl
  exact hb
theorem Box.setst {w : World} {k : Nat} {x : Inf} (h : Box w k (icl x)) (v : Int) : Box (w.setCell ⟨k, 10, none⟩ (.int .i64 v)) k (icl { x with st := v }) := by
  have hb := Box.put (w := w) (k := k) (o := 10) (A := .int .i64 x.sp :: mcl x ++ [.int .i64 x.ky, .int .i64 x.pp, .int .i64 x.po]) (B := [.int .i64 x.st]) (C := []) (B' := [.int .i64 v]) h rfl rfl
  exact hb
/-- With the address of the first six bytes. -/
def setm (x : Inf) (ns : List Int) : Inf := { x with m0 := ns.getD 0 0, m1 := ns.getD 1 0, m2 := ns.getD 2 0, m3 := ns.getD 3 0, m4 := ns.getD 4 0, m5 := ns.getD 5 0 }
theorem mac6_list (x : Inf) (ns : List Int) : (mac6 ns).toList = mcl (setm x ns) := rfl
theorem one_mac6 (ns : List Int) : (mac6 ns).all (·.oneCell') = true := by simp [mac6, Value.oneCell']
theorem wpl_putM {ops : Array Oper} {rest : List Oper} {op : Oper} {a : Act} {w : World} {Q : Exit → Act → World → Prop} {k : Nat} {m : Inf} (ns : List Int) (x y : Operand) (ho : op.op = .store 23 x y) (ht : Box w k (icl m)) (hw : Region.wanted op (yielded ops a.tmps) = true) (hx : a.eval x = .pointer (some ⟨k, 1, none⟩)) (hy : a.eval y = .agg (mac6 ns))
    (h : ∀ w', Box w' k (icl (setm m ns)) → w.grownBy w' (some k) → wpList Try.prog ops Q rest (a.put op.dst undef) w') : wpList Try.prog ops Q (op :: rest) a w :=
  wpList_step fun K hK => by
    rw [if_pos hw]
    refine wp_store_mid 23 x y ho k 1 (mac6 ns) hx hy (fun j hj => ?_) Try.size23 (one_mac6 ns) (hK _ _ (h _ ?_ (setCells_grown k _ 1 w)))
    · have hj' : j < 6 := hj
      have := ht.th (1 + j) (by simp [icl_length]; omega)
      rw [Nat.zero_add] at this
      exact this
    · rw [mac6_list m ns]
      exact Box.put (o := 1) (A := [.int .i64 m.sp]) (B := mcl m) (C := [.int .i64 m.ky, .int .i64 m.pp, .int .i64 m.po, .int .i64 m.st]) (B' := mcl (setm m ns)) ht rfl rfl
theorem wpl_putI0 {ops : Array Oper} {rest : List Oper} {op : Oper} {a : Act} {w : World} {Q : Exit → Act → World → Prop} {k : Nat} {m : Inf} (i : Inf) (x y : Operand) (ho : op.op = .store 25 x y) (ht : Box w k (icl m)) (hw : Region.wanted op (yielded ops a.tmps) = true) (hx : a.eval x = .pointer (some ⟨k, 0, none⟩)) (hy : a.eval y = .agg (IC i))
    (h : ∀ w', Box w' k (icl i) → w.grownBy w' (some k) → wpList Try.prog ops Q rest (a.put op.dst undef) w') : wpList Try.prog ops Q (op :: rest) a w :=
  wpl_putI i [] [] m x y ho (by rw [List.append_nil]; exact ht) rfl hw hx hy (fun w' hb hg => h w' (by rw [List.append_nil] at hb; exact hb) hg)
theorem res_info {fn : Func} {p : Tmp} (h : fn.results = #[.cell p 25]) {tmps : Array Value} {w : World} {k : Nat} {x : Inf} (hp : tmps.getD p undef = .pointer (some ⟨k, 0, none⟩)) (hA : Box w k (icl x)) :
    (results fn tmps).run Try.prog w = .ok (.agg (IC x)) w := by
  have hl := run_loadVar_mid (P := Try.prog) w k 0 25 _ _ hA.at_ Try.underlying25 rfl Try.size25
  have hp' : tmps[p]?.getD undef = .pointer (some ⟨k, 0, none⟩) := by simpa using hp
  simp only [results, h]
  simp [hp', asAddr, hl, IC]
def hd1 (l : List Int) : Int := l.getD 0 0
theorem single44' (r B : Nat) (ns : List Int) (w : World) (h : RdE w r B ns) :
    Calls Try.prog 44 #[.pointer (some ⟨r, 0, none⟩)] w fun e w' => (1 ≤ ns.length ∧ e = .returned (.int .i64 (hd1 ns)) ∧ RdE w' r B (ns.drop 1) ∨ ns.length < 1 ∧ e = .panicked pan) ∧ w.grownBy w' (some r) := single44 r B ns w h
theorem iok_short {l : List Int} (h : l.length < 18) : iok l = false := by
  have : ¬ 18 ≤ l.length := by omega
  simp [iok, this]
theorem iok_zero {l : List Int} (h : mok (zs 3) (l.drop 15) = false) : iok l = false := by simp [iok, h]
theorem iok_make {l : List Int} (h : 15 ≤ l.length) (k : mok (zs 3) (l.drop 15) = true) : iok l = true := by
  have e : (l.drop 15).take (zs 3).length = zs 3 := of_decide_eq_true k
  have e2 := congrArg List.length e
  rw [List.length_take, List.length_drop, zs_length] at e2
  have : 18 ≤ l.length := by omega
  simp [iok, k, this]
theorem inf_eq (ns : List Int) : inf ns = { sp := pr ns, m0 := (ns.drop 2).getD 0 0, m1 := (ns.drop 2).getD 1 0, m2 := (ns.drop 2).getD 2 0, m3 := (ns.drop 2).getD 3 0, m4 := (ns.drop 2).getD 4 0, m5 := (ns.drop 2).getD 5 0, ky := pr (ns.drop 8), pp := pr (ns.drop 10), po := pr (ns.drop 12), st := hd1 (ns.drop 14) } := by
  simp [inf, hd1, List.getD_eq_getElem?_getD]
section
attribute [local go_sem] ZI
set_option maxRecDepth 100000 in
set_option maxHeartbeats 4000000 in
theorem info36 (r B : Nat) (ns : List Int) (w : World) (h : RdE w r B ns) :
    Calls Try.prog 36 #[.pointer (some ⟨r, 0, none⟩)] w fun e w' => (iok ns = true ∧ e = .returned (.agg (IC (inf ns))) ∧ RdE w' r B (ns.drop 18) ∨ iok ns = false ∧ e = .panicked pan) ∧ w.grownBy w' (some r) := by
  have hsz := h.sz
  have hrb := h.rb
  have A0 := (Box.new w (icl zeroI) 25).alloc (.cells (IC zeroI) 25)
  have C0 := Box.new (w.alloc (.cells (IC zeroI) 25)) (icl zeroI) 25
  rw [World.size_alloc] at C0
  have G0 : w.grownBy ((w.alloc (.cells (IC zeroI) 25)).alloc (.cells (IC zeroI) 25)) (some r) := grown_alloc (World.grownBy_alloc w _ (some r)) _
  have HR := hide ((h.alloc (.cells (IC zeroI) 25)).alloc (.cells (IC zeroI) 25))
  clear h
  go_enter Try.func36, Try.ntmps36
  go_wp2_with fail
  refine (pair37 r B ns _ HR.out).mono ?_
  rintro e w1 ⟨⟨hl, rfl, hR2⟩ | ⟨hl, rfl⟩, g1⟩
  rotate_left
  · have HF := hide (iok_short (l := ns) (by have := hl; omega))
    clear hl A0 C0
    go_wp2
    exact ⟨rfl, Or.inr ⟨HF.out, rfl⟩, grown_trans G0 g1⟩
  replace A0 := A0.kept (by omega) g1
  replace C0 := C0.kept (by omega) g1
  replace G0 := grown_trans G0 g1
  have L1 : 2 ≤ ns.length := by have := hl; omega
  have q1 := C0.cell 0 _ rfl
  have q2 := C0.free 0 (by simp [icl_length])
  have g2 := setCell_grown w1 (w.heap.size + 1) 0 (.int .i64 (pr ns))
  have C1 := C0.setsp (pr ns)
  have A1 := A0.kept (by omega) g2
  have G1 := grown_new G0 g2 (by omega)
  have hR3 : RdE (w1.setCell ⟨w.heap.size + 1, 0, none⟩ (.int .i64 (pr ns))) r B (ns.drop 2) := by
    have h := hR2.kept (by omega) g2
    exact h
  have HR3 := hide hR3
  clear hl hR2 g1 g2 HR A0 C0 G0 hR3
  have A0 := A1; have C0 := C1; have G0 := G1; have HR := HR3
  clear A1 C1 G1 HR3
  go_wp2_with fail
  refine (mac43 r B (ns.drop 2) _ HR.out).mono ?_
  rintro e w2 ⟨⟨hl, rfl, hR2⟩ | ⟨hl, rfl⟩, g1⟩
  rotate_left
  · have HF := hide (iok_short (l := ns) (by have := hl; rw [List.length_drop] at this; omega))
    clear hl A0 C0 q1 q2
    go_wp2
    exact ⟨rfl, Or.inr ⟨HF.out, rfl⟩, grown_trans G0 g1⟩
  replace A0 := A0.kept (by omega) g1
  replace C0 := C0.kept (by omega) g1
  replace G0 := grown_trans G0 g1
  have L2 : 8 ≤ ns.length := by have := hl; rw [List.length_drop] at this; omega
  have tk1 : True := trivial
  clear q1 q2
  go_wp2_with (have _t := tk1; refine wpl_putM (ns.drop 2) (.tmp 9) (.tmp 8) rfl C0 ?_ ?_ ?_ ?_; rfl; rfl; rfl; clear tk1; intro w2' C1 g2)
  have A1 := A0.kept (by omega) g2
  have G1 := grown_new G0 g2 (by omega)
  have hR3 : RdE w2' r B (ns.drop 8) := by
    have h := hR2.kept (by omega) g2
    rw [List.drop_drop] at h
    exact h
  have HR3 := hide hR3
  clear hl hR2 g1 g2 HR A0 C0 G0 hR3
  have A0 := A1; have C0 := C1; have G0 := G1; have HR := HR3
  clear A1 C1 G1 HR3
  go_wp2_with fail
  refine (pair37 r B (ns.drop 8) _ HR.out).mono ?_
  rintro e w3 ⟨⟨hl, rfl, hR2⟩ | ⟨hl, rfl⟩, g1⟩
  rotate_left
  · have HF := hide (iok_short (l := ns) (by have := hl; rw [List.length_drop] at this; omega))
    clear hl A0 C0
    go_wp2
    exact ⟨rfl, Or.inr ⟨HF.out, rfl⟩, grown_trans G0 g1⟩
  replace A0 := A0.kept (by omega) g1
  replace C0 := C0.kept (by omega) g1
  replace G0 := grown_trans G0 g1
  have L3 : 10 ≤ ns.length := by have := hl; rw [List.length_drop] at this; omega
  have q1 := C0.cell 7 _ rfl
  have q2 := C0.free 7 (by simp [icl_length])
  have g2 := setCell_grown w3 (w.heap.size + 1) 7 (.int .i64 (pr (ns.drop 8)))
  have C1 := C0.setky (pr (ns.drop 8))
  have A1 := A0.kept (by omega) g2
  have G1 := grown_new G0 g2 (by omega)
  have hR3 : RdE (w3.setCell ⟨w.heap.size + 1, 7, none⟩ (.int .i64 (pr (ns.drop 8)))) r B (ns.drop 10) := by
    have h := hR2.kept (by omega) g2
    rw [List.drop_drop] at h
    exact h
  have HR3 := hide hR3
  clear hl hR2 g1 g2 HR A0 C0 G0 hR3
  have A0 := A1; have C0 := C1; have G0 := G1; have HR := HR3
  clear A1 C1 G1 HR3
  go_wp2_with fail
  refine (pair37 r B (ns.drop 10) _ HR.out).mono ?_
  rintro e w4 ⟨⟨hl, rfl, hR2⟩ | ⟨hl, rfl⟩, g1⟩
  rotate_left
  · have HF := hide (iok_short (l := ns) (by have := hl; rw [List.length_drop] at this; omega))
    clear hl A0 C0 q1 q2
    go_wp2
    exact ⟨rfl, Or.inr ⟨HF.out, rfl⟩, grown_trans G0 g1⟩
  clear q1 q2
  replace A0 := A0.kept (by omega) g1
  replace C0 := C0.kept (by omega) g1
  replace G0 := grown_trans G0 g1
  have L4 : 12 ≤ ns.length := by have := hl; rw [List.length_drop] at this; omega
  have q1 := C0.cell 8 _ rfl
  have q2 := C0.free 8 (by simp [icl_length])
  have g2 := setCell_grown w4 (w.heap.size + 1) 8 (.int .i64 (pr (ns.drop 10)))
  have C1 := C0.setpp (pr (ns.drop 10))
  have A1 := A0.kept (by omega) g2
  have G1 := grown_new G0 g2 (by omega)
  have hR3 : RdE (w4.setCell ⟨w.heap.size + 1, 8, none⟩ (.int .i64 (pr (ns.drop 10)))) r B (ns.drop 12) := by
    have h := hR2.kept (by omega) g2
    rw [List.drop_drop] at h
    exact h
  have HR3 := hide hR3
  clear hl hR2 g1 g2 HR A0 C0 G0 hR3
  have A0 := A1; have C0 := C1; have G0 := G1; have HR := HR3
  clear A1 C1 G1 HR3
  go_wp2_with fail
  refine (pair37 r B (ns.drop 12) _ HR.out).mono ?_
  rintro e w5 ⟨⟨hl, rfl, hR2⟩ | ⟨hl, rfl⟩, g1⟩
  rotate_left
  · have HF := hide (iok_short (l := ns) (by have := hl; rw [List.length_drop] at this; omega))
    clear hl A0 C0 q1 q2
    go_wp2
    exact ⟨rfl, Or.inr ⟨HF.out, rfl⟩, grown_trans G0 g1⟩
  clear q1 q2
  replace A0 := A0.kept (by omega) g1
  replace C0 := C0.kept (by omega) g1
  replace G0 := grown_trans G0 g1
  have L5 : 14 ≤ ns.length := by have := hl; rw [List.length_drop] at this; omega
  have q1 := C0.cell 9 _ rfl
  have q2 := C0.free 9 (by simp [icl_length])
  have g2 := setCell_grown w5 (w.heap.size + 1) 9 (.int .i64 (pr (ns.drop 12)))
  have C1 := C0.setpo (pr (ns.drop 12))
  have A1 := A0.kept (by omega) g2
  have G1 := grown_new G0 g2 (by omega)
  have hR3 : RdE (w5.setCell ⟨w.heap.size + 1, 9, none⟩ (.int .i64 (pr (ns.drop 12)))) r B (ns.drop 14) := by
    have h := hR2.kept (by omega) g2
    rw [List.drop_drop] at h
    exact h
  have HR3 := hide hR3
  clear hl hR2 g1 g2 HR A0 C0 G0 hR3
  have A0 := A1; have C0 := C1; have G0 := G1; have HR := HR3
  clear A1 C1 G1 HR3
  go_wp2_with fail
  refine (single44' r B (ns.drop 14) _ HR.out).mono ?_
  rintro e w6 ⟨⟨hl, rfl, hR2⟩ | ⟨hl, rfl⟩, g1⟩
  rotate_left
  · have HF := hide (iok_short (l := ns) (by have := hl; rw [List.length_drop] at this; omega))
    clear hl A0 C0 q1 q2
    go_wp2
    exact ⟨rfl, Or.inr ⟨HF.out, rfl⟩, grown_trans G0 g1⟩
  clear q1 q2
  replace A0 := A0.kept (by omega) g1
  replace C0 := C0.kept (by omega) g1
  replace G0 := grown_trans G0 g1
  have L6 : 15 ≤ ns.length := by have := hl; rw [List.length_drop] at this; omega
  have q1 := C0.cell 10 _ rfl
  have q2 := C0.free 10 (by simp [icl_length])
  have g2 := setCell_grown w6 (w.heap.size + 1) 10 (.int .i64 (hd1 (ns.drop 14)))
  have C1 := C0.setst (hd1 (ns.drop 14))
  have A1 := A0.kept (by omega) g2
  have G1 := grown_new G0 g2 (by omega)
  have hR3 : RdE (w6.setCell ⟨w.heap.size + 1, 10, none⟩ (.int .i64 (hd1 (ns.drop 14)))) r B (ns.drop 15) := by
    have h := hR2.kept (by omega) g2
    rw [List.drop_drop] at h
    exact h
  have HR3 := hide hR3
  clear hl hR2 g1 g2 HR A0 C0 G0 hR3
  have A0 := A1; have C0 := C1; have G0 := G1; have HR := HR3
  clear A1 C1 G1 HR3
  go_wp2_with fail
  refine (zeros38 r B 3 3 (ns.drop 15) _ HR.out rfl (by omega) (by omega)).mono ?_
  rintro e w7 ⟨⟨hl, rfl, hR2⟩ | ⟨hl, rfl⟩, g1⟩
  rotate_left
  · have HF := hide (iok_zero hl)
    clear hl A0 C0 q1 q2
    go_wp2
    exact ⟨rfl, Or.inr ⟨HF.out, rfl⟩, grown_trans G0 g1⟩
  replace A0 := A0.kept (by omega) g1
  replace C0 := C0.kept (by omega) g1
  replace G0 := grown_trans G0 g1
  have HT := hide (iok_make L6 hl)
  clear q1 q2
  replace C0 : Box w7 (w.heap.size + 1) (icl (inf ns)) := by rw [inf_eq ns]; exact C0
  have tk1 : True := trivial
  have tk2 : True := trivial
  clear hl g1 HR
  go_wp2_with (first | (have _t := tk1; refine wpl_info (.tmp 3) rfl C0.at_ ?_ ?_ ?_; rfl; rfl; clear tk1) | (have _t := tk2; refine wpl_putI0 (inf ns) (.tmp 2) (.tmp 24) rfl A0 ?_ ?_ ?_ ?_; rfl; rfl; rfl; clear tk2; intro w8 A1 g2))
  have hR3 : RdE w8 r B (ns.drop 18) := by
    have h := hR2.kept (by omega) g2
    rw [List.drop_drop] at h
    exact h
  refine bodyPost_ret (res_info rfl rfl A1) rfl ⟨Or.inl ⟨HT.out, rfl, hR3⟩, grown_new G0 g2 (by omega)⟩
end
end Go.Proofs.Ytaehhhknpbbmkaa
