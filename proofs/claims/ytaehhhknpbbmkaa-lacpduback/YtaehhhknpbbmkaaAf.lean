/- Contract of readLacp. -/
import Derived.Test.YtaehhhknpbbmkaaAe
namespace Go.Proofs.Ytaehhhknpbbmkaa
open Go.RowKit

theorem ZL : (#[.int .i64 0, .int .u8 0, .int .u8 0, .int .u8 0, .int .u8 0, .int .u8 0, .int .u8 0, .int .i64 0, .int .i64 0, .int .i64 0, .int .i64 0, .int .i64 0, .int .u8 0, .int .u8 0, .int .u8 0, .int .u8 0, .int .u8 0, .int .u8 0, .int .i64 0, .int .i64 0, .int .i64 0, .int .i64 0, .int .i64 0] : Array Value) = LC zeroL := rfl
theorem wpl_putA {ops : Array Oper} {rest : List Oper} {op : Oper} {a : Act} {w : World} {Q : Exit → Act → World → Prop} {k : Nat} {m : Lac} (i : Inf) (x y : Operand) (ho : op.op = .store 25 x y) (ht : Box w k (lcl m)) (hw : Region.wanted op (yielded ops a.tmps) = true) (hx : a.eval x = .pointer (some ⟨k, 0, none⟩)) (hy : a.eval y = .agg (IC i))
    (h : ∀ w', Box w' k (lcl { m with a := i }) → w.grownBy w' (some k) → wpList Try.prog ops Q rest (a.put op.dst undef) w') : wpList Try.prog ops Q (op :: rest) a w :=
  wpl_putI i [] (icl m.p ++ [.int .i64 m.dl]) m.a x y ho ht rfl hw hx hy (fun w' hb hg => h w' hb hg)
theorem wpl_putP {ops : Array Oper} {rest : List Oper} {op : Oper} {a : Act} {w : World} {Q : Exit → Act → World → Prop} {k : Nat} {m : Lac} (i : Inf) (x y : Operand) (ho : op.op = .store 25 x y) (ht : Box w k (lcl m)) (hw : Region.wanted op (yielded ops a.tmps) = true) (hx : a.eval x = .pointer (some ⟨k, 11, none⟩)) (hy : a.eval y = .agg (IC i))
    (h : ∀ w', Box w' k (lcl { m with p := i }) → w.grownBy w' (some k) → wpList Try.prog ops Q rest (a.put op.dst undef) w') : wpList Try.prog ops Q (op :: rest) a w :=
  wpl_putI i (icl m.a) [.int .i64 m.dl] m.p x y ho ht rfl hw hx hy (fun w' hb hg => h w' hb hg)
theorem Box.setdl {w : World} {k : Nat} {m : Lac} (h : Box w k (lcl m)) (v : Int) : Box (w.setCell ⟨k, 22, none⟩ (.int .i64 v)) k (lcl { m with dl := v }) := by
  have hb := Box.put (w := w) (k := k) (o := 22) (A := icl m.a ++ icl m.p) (B := [.int .i64 m.dl]) (C := []) (B' := [.int .i64 v]) h rfl rfl
  exact hb
theorem res_lacp {fn : Func} {p : Tmp} (h : fn.results = #[.cell p 27]) {tmps : Array Value} {w : World} {k : Nat} {l : Lac} (hp : tmps.getD p undef = .pointer (some ⟨k, 0, none⟩)) (hA : Box w k (lcl l)) :
    (results fn tmps).run Try.prog w = .ok (.agg (LC l)) w := by
  have hl := run_loadVar_mid (P := Try.prog) w k 0 27 _ _ hA.at_ Try.underlying27 rfl Try.size27
  have hp' : tmps[p]?.getD undef = .pointer (some ⟨k, 0, none⟩) := by simpa using hp
  simp only [results, h]
  simp [hp', asAddr, hl, LC]
theorem ok_f1 {l : List Int} (h : mok [1, 1] l = false) : ok l = false := by simp [ok, h]
theorem ok_f2 {l : List Int} (h : mok [1, 20] (l.drop 2) = false) : ok l = false := by simp [ok, h]
theorem ok_f3 {l : List Int} (h : iok (l.drop 4) = false) : ok l = false := by simp [ok, h]
theorem ok_f4 {l : List Int} (h : mok [2, 20] (l.drop 22) = false) : ok l = false := by simp [ok, h]
theorem ok_f5 {l : List Int} (h : iok (l.drop 24) = false) : ok l = false := by simp [ok, h]
theorem ok_f6 {l : List Int} (h : mok [3, 16] (l.drop 42) = false) : ok l = false := by simp [ok, h]
theorem ok_f7 {l : List Int} (h : (l.drop 44).length < 2) : ok l = false := by
  rw [List.length_drop] at h
  have : ¬ 46 ≤ l.length := by omega
  simp [ok, this]
theorem ok_f8 {l : List Int} (h : mok (zs 12) (l.drop 46) = false) : ok l = false := by simp [ok, h]
theorem ok_f9 {l : List Int} (h : mok [0, 0] (l.drop 58) = false) : ok l = false := by simp [ok, h]
theorem ok_f10 {l : List Int} (h : mok (zs 50) (l.drop 60) = false) : ok l = false := by simp [ok, h]
theorem ok_f11 {l : List Int} (h : 0 < (l.drop 110).length) : ok l = false := by
  rw [List.length_drop] at h
  have : ¬ l.length ≤ 110 := by omega
  simp [ok, this]
theorem ok_make {l : List Int} (h1 : mok [1, 1] l = true) (h2 : mok [1, 20] (l.drop 2) = true) (h3 : iok (l.drop 4) = true) (h4 : mok [2, 20] (l.drop 22) = true) (h5 : iok (l.drop 24) = true) (h6 : mok [3, 16] (l.drop 42) = true) (h7 : 2 ≤ (l.drop 44).length) (h8 : mok (zs 12) (l.drop 46) = true) (h9 : mok [0, 0] (l.drop 58) = true) (h10 : mok (zs 50) (l.drop 60) = true) (h11 : (l.drop 110).length = 0) : ok l = true := by
  rw [List.length_drop] at h7 h11
  have e1 : 46 ≤ l.length := by omega
  have e2 : l.length ≤ 110 := by omega
  simp [ok, h1, h2, h3, h4, h5, h6, h8, h9, h10, e1, e2]
section
attribute [local go_sem] ZL
set_option maxRecDepth 100000 in
set_option maxHeartbeats 8000000 in
theorem lacp30 (r B : Nat) (ns : List Int) (w : World) (h : RdE w r B ns) :
    Calls Try.prog 30 #[.pointer (some ⟨r, 0, none⟩)] w fun e w' => (ok ns = true ∧ e = .returned (.agg (LC (lac ns))) ∨ ok ns = false ∧ e = .panicked pan) ∧ w.grownBy w' (some r) := by
  have hsz := h.sz
  have hrb := h.rb
  obtain ⟨w0, hw0⟩ : ∃ w0, w0 = ((w.alloc (.cells (LC zeroL) 27)).alloc (.cells (LC zeroL) 27)) := ⟨_, rfl⟩
  have A0 : Box w0 w.heap.size (lcl zeroL) := by rw [hw0]; exact (Box.new w (lcl zeroL) 27).alloc (.cells (LC zeroL) 27)
  have C0 : Box w0 (w.heap.size + 1) (lcl zeroL) := by
    have h := Box.new (w.alloc (.cells (LC zeroL) 27)) (lcl zeroL) 27
    rw [World.size_alloc] at h
    rw [hw0]
    exact h
  have G0 : w.grownBy w0 (some r) := by rw [hw0]; exact grown_alloc (World.grownBy_alloc w _ (some r)) _
  have HR := hide (show RdE w0 r B ns from by rw [hw0]; exact (h.alloc _).alloc _)
  have hs0 : w0.heap.size = w.heap.size + 1 + 1 := by rw [hw0]; simp
  have HS0 := hide hs0
  have HW0 := hide hw0
  clear h hw0 hs0
  go_enter Try.func30, Try.ntmps30
  have BB := hide (byt2 w0 1 1 (by omega) (by omega))
  have SZ : w.heap.size + 1 < w0.heap.size := C0.lt
  go_wp2_with fail
  rw [← HW0.out, ← HS0.out]
  refine (must35 r B w0.heap.size 2 [1, 1] ns _ (HR.out.alloc _) BB.out (by omega) (by omega) (by omega)).mono ?_
  rintro e w1 ⟨⟨hl, rfl, hR2⟩ | ⟨hl, rfl⟩, g1⟩
  rotate_left
  · have HF := hide (ok_f1 hl)
    clear hl A0 C0
    go_wp2
    exact ⟨rfl, Or.inr ⟨HF.out, rfl⟩, grown_trans (grown_alloc G0 _) g1⟩
  replace A0 := (A0.alloc _).kept (by omega) g1
  replace C0 := (C0.alloc _).kept (by omega) g1
  replace G0 := grown_trans (grown_alloc G0 _) g1
  have H1 := hide hl
  have hR3 : RdE w1 r B (ns.drop 2) := by
    have h := hR2
    exact h
  have HR3 := hide hR3
  clear hl hR2 g1 HR BB SZ hR3
  have HR := HR3
  clear HR3
  clear HW0 HS0
  have BB := hide (byt2 w1 1 20 (by omega) (by omega))
  have SZ : w.heap.size + 1 < w1.heap.size := C0.lt
  go_wp2_with fail
  refine (must35 r B w1.heap.size 2 [1, 20] (ns.drop 2) _ (HR.out.alloc _) BB.out (by omega) (by omega) (by omega)).mono ?_
  rintro e w2 ⟨⟨hl, rfl, hR2⟩ | ⟨hl, rfl⟩, g1⟩
  rotate_left
  · have HF := hide (ok_f2 hl)
    clear hl A0 C0
    go_wp2
    exact ⟨rfl, Or.inr ⟨HF.out, rfl⟩, grown_trans (grown_alloc G0 _) g1⟩
  replace A0 := (A0.alloc _).kept (by omega) g1
  replace C0 := (C0.alloc _).kept (by omega) g1
  replace G0 := grown_trans (grown_alloc G0 _) g1
  have H2 := hide hl
  have hR3 : RdE w2 r B (ns.drop 4) := by
    have h := hR2
    rw [List.drop_drop] at h
    exact h
  have HR3 := hide hR3
  clear hl hR2 g1 HR BB SZ hR3
  have HR := HR3
  clear HR3
  go_wp2_with fail
  refine (info36 r B (ns.drop 4) _ HR.out).mono ?_
  rintro e w3 ⟨⟨hl, rfl, hR2⟩ | ⟨hl, rfl⟩, g1⟩
  rotate_left
  · have HF := hide (ok_f3 hl)
    clear hl A0 C0
    go_wp2
    exact ⟨rfl, Or.inr ⟨HF.out, rfl⟩, grown_trans G0 g1⟩
  replace A0 := A0.kept (by omega) g1
  replace C0 := C0.kept (by omega) g1
  replace G0 := grown_trans G0 g1
  have H3 := hide hl
  have tk1 : True := trivial
  clear hl g1 HR
  go_wp2_with (have _t := tk1; refine wpl_putA (inf (ns.drop 4)) (.tmp 12) (.tmp 11) rfl C0 ?_ ?_ ?_ ?_; rfl; rfl; rfl; clear tk1; intro w4 C1 g2)
  have A1 := A0.kept (by omega) g2
  have G1 := grown_new G0 g2 (by omega)
  have hR3 : RdE w4 r B (ns.drop 22) := by
    have h := hR2.kept (by omega) g2
    rw [List.drop_drop] at h
    exact h
  have HR := hide hR3
  clear hR2 g2 A0 C0 G0 hR3
  have A0 := A1; have C0 := C1; have G0 := G1
  clear A1 C1 G1
  have BB := hide (byt2 w4 2 20 (by omega) (by omega))
  have SZ : w.heap.size + 1 < w4.heap.size := C0.lt
  go_wp2_with fail
  refine (must35 r B w4.heap.size 2 [2, 20] (ns.drop 22) _ (HR.out.alloc _) BB.out (by omega) (by omega) (by omega)).mono ?_
  rintro e w5 ⟨⟨hl, rfl, hR2⟩ | ⟨hl, rfl⟩, g1⟩
  rotate_left
  · have HF := hide (ok_f4 hl)
    clear hl A0 C0
    go_wp2
    exact ⟨rfl, Or.inr ⟨HF.out, rfl⟩, grown_trans (grown_alloc G0 _) g1⟩
  replace A0 := (A0.alloc _).kept (by omega) g1
  replace C0 := (C0.alloc _).kept (by omega) g1
  replace G0 := grown_trans (grown_alloc G0 _) g1
  have H4 := hide hl
  have hR3 : RdE w5 r B (ns.drop 24) := by
    have h := hR2
    rw [List.drop_drop] at h
    exact h
  have HR3 := hide hR3
  clear hl hR2 g1 HR BB SZ hR3
  have HR := HR3
  clear HR3
  go_wp2_with fail
  refine (info36 r B (ns.drop 24) _ HR.out).mono ?_
  rintro e w6 ⟨⟨hl, rfl, hR2⟩ | ⟨hl, rfl⟩, g1⟩
  rotate_left
  · have HF := hide (ok_f5 hl)
    clear hl A0 C0
    go_wp2
    exact ⟨rfl, Or.inr ⟨HF.out, rfl⟩, grown_trans G0 g1⟩
  replace A0 := A0.kept (by omega) g1
  replace C0 := C0.kept (by omega) g1
  replace G0 := grown_trans G0 g1
  have H5 := hide hl
  have tk1 : True := trivial
  clear hl g1 HR
  go_wp2_with (have _t := tk1; refine wpl_putP (inf (ns.drop 24)) (.tmp 18) (.tmp 17) rfl C0 ?_ ?_ ?_ ?_; rfl; rfl; rfl; clear tk1; intro w7 C1 g2)
  have A1 := A0.kept (by omega) g2
  have G1 := grown_new G0 g2 (by omega)
  have hR3 : RdE w7 r B (ns.drop 42) := by
    have h := hR2.kept (by omega) g2
    rw [List.drop_drop] at h
    exact h
  have HR := hide hR3
  clear hR2 g2 A0 C0 G0 hR3
  have A0 := A1; have C0 := C1; have G0 := G1
  clear A1 C1 G1
  have BB := hide (byt2 w7 3 16 (by omega) (by omega))
  have SZ : w.heap.size + 1 < w7.heap.size := C0.lt
  go_wp2_with fail
  refine (must35 r B w7.heap.size 2 [3, 16] (ns.drop 42) _ (HR.out.alloc _) BB.out (by omega) (by omega) (by omega)).mono ?_
  rintro e w8 ⟨⟨hl, rfl, hR2⟩ | ⟨hl, rfl⟩, g1⟩
  rotate_left
  · have HF := hide (ok_f6 hl)
    clear hl A0 C0
    go_wp2
    exact ⟨rfl, Or.inr ⟨HF.out, rfl⟩, grown_trans (grown_alloc G0 _) g1⟩
  replace A0 := (A0.alloc _).kept (by omega) g1
  replace C0 := (C0.alloc _).kept (by omega) g1
  replace G0 := grown_trans (grown_alloc G0 _) g1
  have H6 := hide hl
  have hR3 : RdE w8 r B (ns.drop 44) := by
    have h := hR2
    rw [List.drop_drop] at h
    exact h
  have HR3 := hide hR3
  clear hl hR2 g1 HR BB SZ hR3
  have HR := HR3
  clear HR3
  go_wp2_with fail
  refine (pair37 r B (ns.drop 44) _ HR.out).mono ?_
  rintro e w9 ⟨⟨hl, rfl, hR2⟩ | ⟨hl, rfl⟩, g1⟩
  rotate_left
  · have HF := hide (ok_f7 hl)
    clear hl A0 C0
    go_wp2
    exact ⟨rfl, Or.inr ⟨HF.out, rfl⟩, grown_trans G0 g1⟩
  replace A0 := A0.kept (by omega) g1
  replace C0 := C0.kept (by omega) g1
  replace G0 := grown_trans G0 g1
  have H7 := hide hl
  have q1 := C0.cell 22 _ rfl
  have q2 := C0.free 22 (by simp [lcl_length])
  have g2 := setCell_grown w9 (w.heap.size + 1) 22 (.int .i64 (pr (ns.drop 44)))
  have C1 := C0.setdl (pr (ns.drop 44))
  have A1 := A0.kept (by omega) g2
  have G1 := grown_new G0 g2 (by omega)
  have hR3 : RdE (w9.setCell ⟨w.heap.size + 1, 22, none⟩ (.int .i64 (pr (ns.drop 44)))) r B (ns.drop 46) := by
    have h := hR2.kept (by omega) g2
    rw [List.drop_drop] at h
    exact h
  have HR3 := hide hR3
  clear hl hR2 g1 g2 HR A0 C0 G0 hR3
  have A0 := A1; have C0 := C1; have G0 := G1; have HR := HR3
  clear A1 C1 G1 HR3
  go_wp2_with fail
  refine (zeros38 r B 12 12 (ns.drop 46) _ HR.out rfl (by omega) (by omega)).mono ?_
  rintro e w10 ⟨⟨hl, rfl, hR2⟩ | ⟨hl, rfl⟩, g1⟩
  rotate_left
  · have HF := hide (ok_f8 hl)
    clear hl A0 C0 q1 q2
    go_wp2
    exact ⟨rfl, Or.inr ⟨HF.out, rfl⟩, grown_trans G0 g1⟩
  replace A0 := A0.kept (by omega) g1
  replace C0 := C0.kept (by omega) g1
  replace G0 := grown_trans G0 g1
  have H8 := hide hl
  have hR3 : RdE w10 r B (ns.drop 58) := by
    have h := hR2
    rw [List.drop_drop] at h
    exact h
  clear hl hR2 g1 HR q1 q2
  have HR := hide hR3
  clear hR3
  have BB := hide (byt2 w10 0 0 (by omega) (by omega))
  have SZ : w.heap.size + 1 < w10.heap.size := C0.lt
  go_wp2_with fail
  refine (must35 r B w10.heap.size 2 [0, 0] (ns.drop 58) _ (HR.out.alloc _) BB.out (by omega) (by omega) (by omega)).mono ?_
  rintro e w11 ⟨⟨hl, rfl, hR2⟩ | ⟨hl, rfl⟩, g1⟩
  rotate_left
  · have HF := hide (ok_f9 hl)
    clear hl A0 C0
    go_wp2
    exact ⟨rfl, Or.inr ⟨HF.out, rfl⟩, grown_trans (grown_alloc G0 _) g1⟩
  replace A0 := (A0.alloc _).kept (by omega) g1
  replace C0 := (C0.alloc _).kept (by omega) g1
  replace G0 := grown_trans (grown_alloc G0 _) g1
  have H9 := hide hl
  have hR3 : RdE w11 r B (ns.drop 60) := by
    have h := hR2
    rw [List.drop_drop] at h
    exact h
  have HR3 := hide hR3
  clear hl hR2 g1 HR BB SZ hR3
  have HR := HR3
  clear HR3
  go_wp2_with fail
  refine (zeros38 r B 50 50 (ns.drop 60) _ HR.out rfl (by omega) (by omega)).mono ?_
  rintro e w12 ⟨⟨hl, rfl, hR2⟩ | ⟨hl, rfl⟩, g1⟩
  rotate_left
  · have HF := hide (ok_f10 hl)
    clear hl A0 C0
    go_wp2
    exact ⟨rfl, Or.inr ⟨HF.out, rfl⟩, grown_trans G0 g1⟩
  replace A0 := A0.kept (by omega) g1
  replace C0 := C0.kept (by omega) g1
  replace G0 := grown_trans G0 g1
  have H10 := hide hl
  have hR3 : RdE w12 r B (ns.drop 110) := by
    have h := hR2
    rw [List.drop_drop] at h
    exact h
  clear hl hR2 g1 HR
  have HR := hide hR3
  clear hR3
  go_wp2_with fail
  refine (end39 r B (ns.drop 110) _ HR.out).mono ?_
  rintro e w13 ⟨⟨hl, rfl⟩ | ⟨hl, rfl⟩, rfl⟩
  rotate_left
  · have HF := hide (ok_f11 hl)
    clear hl A0 C0
    go_wp2
    exact ⟨rfl, Or.inr ⟨HF.out, rfl⟩, G0⟩
  have HT := hide (ok_make H1.out H2.out H3.out H4.out H5.out H6.out H7.out H8.out H9.out H10.out hl)
  replace C0 : Box w13 (w.heap.size + 1) (lcl (lac ns)) := C0
  have tk1 : True := trivial
  have tk2 : True := trivial
  clear hl HR H1 H2 H3 H4 H5 H6 H7 H8 H9 H10
  go_wp2_with (first | (have _t := tk1; refine wpl_lacp (.tmp 3) rfl C0 ?_ ?_ ?_; rfl; rfl; clear tk1) | (have _t := tk2; refine wpl_putL (lac ns) zeroL (.tmp 2) (.tmp 34) rfl A0 ?_ ?_ ?_ ?_; rfl; rfl; rfl; clear tk2; intro w14 A1 g2))
  refine bodyPost_ret (res_lacp rfl rfl A1) rfl ⟨Or.inl ⟨HT.out, rfl⟩, grown_new G0 g2 (by omega)⟩
end
end Go.Proofs.Ytaehhhknpbbmkaa
