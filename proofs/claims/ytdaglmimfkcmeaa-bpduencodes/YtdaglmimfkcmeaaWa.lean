/- Contract of the walk through the fields, with any step. -/
import Derived.Test.YtdaglmimfkcmeaaWk
namespace Go.Proofs.Ytdaglmimfkcmeaa
open Go.RowKit

theorem set_kd {w : World} {K : Nat} {p : Bpd} (n : Int) (h : Box w K (bcl p)) : Box (w.setCell ⟨K, 0, none⟩ (.int .i64 n)) K (bcl { p with kd := n }) :=
  Box.set (v := .int .i64 p.kd) (A := []) (C := .int .i64 p.fl :: (icl p.r ++ (.int .i64 p.c :: (icl p.b ++ tcl p)))) h rfl
theorem set_fl {w : World} {K : Nat} {p : Bpd} (n : Int) (h : Box w K (bcl p)) : Box (w.setCell ⟨K, 1, none⟩ (.int .i64 n)) K (bcl { p with fl := n }) :=
  Box.set (v := .int .i64 p.fl) (A := [.int .i64 p.kd]) (C := icl p.r ++ (.int .i64 p.c :: (icl p.b ++ tcl p))) h rfl
theorem set_c {w : World} {K : Nat} {p : Bpd} (n : Int) (h : Box w K (bcl p)) : Box (w.setCell ⟨K, 9, none⟩ (.int .i64 n)) K (bcl { p with c := n }) :=
  Box.set (v := .int .i64 p.c) (A := .int .i64 p.kd :: .int .i64 p.fl :: icl p.r) (C := icl p.b ++ tcl p) h rfl
theorem set_po {w : World} {K : Nat} {p : Bpd} (n : Int) (h : Box w K (bcl p)) : Box (w.setCell ⟨K, 17, none⟩ (.int .i64 n)) K (bcl { p with po := n }) :=
  Box.set (v := .int .i64 p.po) (A := .int .i64 p.kd :: .int .i64 p.fl :: (icl p.r ++ (.int .i64 p.c :: icl p.b))) (C := [.int .i64 p.ag, .int .i64 p.mx, .int .i64 p.he, .int .i64 p.fw]) h rfl
theorem set_ag {w : World} {K : Nat} {p : Bpd} (n : Int) (h : Box w K (bcl p)) : Box (w.setCell ⟨K, 18, none⟩ (.int .i64 n)) K (bcl { p with ag := n }) :=
  Box.set (v := .int .i64 p.ag) (A := .int .i64 p.kd :: .int .i64 p.fl :: (icl p.r ++ (.int .i64 p.c :: (icl p.b ++ [.int .i64 p.po])))) (C := [.int .i64 p.mx, .int .i64 p.he, .int .i64 p.fw]) h rfl
theorem set_mx {w : World} {K : Nat} {p : Bpd} (n : Int) (h : Box w K (bcl p)) : Box (w.setCell ⟨K, 19, none⟩ (.int .i64 n)) K (bcl { p with mx := n }) :=
  Box.set (v := .int .i64 p.mx) (A := .int .i64 p.kd :: .int .i64 p.fl :: (icl p.r ++ (.int .i64 p.c :: (icl p.b ++ [.int .i64 p.po, .int .i64 p.ag])))) (C := [.int .i64 p.he, .int .i64 p.fw]) h rfl
theorem set_he {w : World} {K : Nat} {p : Bpd} (n : Int) (h : Box w K (bcl p)) : Box (w.setCell ⟨K, 20, none⟩ (.int .i64 n)) K (bcl { p with he := n }) :=
  Box.set (v := .int .i64 p.he) (A := .int .i64 p.kd :: .int .i64 p.fl :: (icl p.r ++ (.int .i64 p.c :: (icl p.b ++ [.int .i64 p.po, .int .i64 p.ag, .int .i64 p.mx])))) (C := [.int .i64 p.fw]) h rfl
theorem set_fw {w : World} {K : Nat} {p : Bpd} (n : Int) (h : Box w K (bcl p)) : Box (w.setCell ⟨K, 21, none⟩ (.int .i64 n)) K (bcl { p with fw := n }) :=
  Box.set (v := .int .i64 p.fw) (A := .int .i64 p.kd :: .int .i64 p.fl :: (icl p.r ++ (.int .i64 p.c :: (icl p.b ++ [.int .i64 p.po, .int .i64 p.ag, .int .i64 p.mx, .int .i64 p.he])))) (C := []) h rfl
theorem blen (p : Bpd) (j : Nat) (h : j < 22) : j < (bcl p).length := by rw [bcl_length]; exact h
section
attribute [local go_sem] ZB
set_option maxRecDepth 100000 in
set_option maxHeartbeats 8000000 in
theorem walk18 {σ : Type} {f N B : Nat} {y : Value} {Inv : σ → World → Prop} {st : Stp σ} (hs : StepC f #[y] N B Inv st) (s : σ) (p : Bpd) (hp : BpdB p) (r0 : Option (σ × Bpd)) (w : World) (hI : Inv s w) (hr : wAll st s p = some r0) :
    Calls Try.prog 18 #[.agg (BC p), .func (.func f) #[] #[y]] w fun e w' => Mid N B w w' ∧ ((r0 = none ∧ e = .panicked pan) ∨ ∃ s' m, r0 = some (s', m) ∧ e = .returned (.agg (BC m)) ∧ Inv s' w') := by
  have he := hs.ent
  have hz := hs.sz s w hI
  obtain ⟨r1, h1, hn1, hy1⟩ := bnd_some hr
  clear hr
  have A0 : Box ((w.alloc (.cells (BC p) 27)).alloc (.cells (BC zeroB) 27)) w.heap.size (bcl p) := (Box.new w (bcl p) 27).alloc _
  have D0 : Box ((w.alloc (.cells (BC p) 27)).alloc (.cells (BC zeroB) 27)) (w.heap.size + 1) (bcl zeroB) := by
    have := Box.new (w.alloc (.cells (BC p) 27)) (bcl zeroB) 27
    rwa [World.size_alloc] at this
  have L0 : Below w.heap.size w ((w.alloc (.cells (BC p) 27)).alloc (.cells (BC zeroB) 27)) := by go_grown
  have M0 := (Mid.refl N B w).on L0
  have I0 := hs.on s _ _ hI (L0.mono hz)
  have rr := hide hp.r
  have rb := hide hp.b
  obtain ⟨kd, fl, r, c, b, po, ag, mx, he', fw⟩ := p
  have c0 := A0.cell 0 (.int .i64 kd) rfl
  clear L0 hI hp
  go_enter Try.func18, Try.ntmps18
  go_wp2_with fail
  refine (head34 hs s kd r1 _ I0 h1).mono ?_
  rintro e w1 ⟨M1, ⟨rfl, rfl⟩ | ⟨s1, k, rfl, rfl, I1⟩⟩
  · have hq := hide (hn1 rfl)
    go_wp2
    exact ⟨rfl, M0.trans M1, Or.inl ⟨hq.out, rfl⟩⟩
  have HY := hide (hy1 s1 k rfl)
  replace A0 := A0.midst hz M1
  replace D0 := D0.midst (by omega) M1
  have M := M0.trans M1
  have c1 := A0.cell 0 (.int .i64 kd) rfl
  have f1 := A0.free 0 (blen _ _ (by omega))
  have g := setCell_grown w1 w.heap.size 0 (.int .i64 k)
  have A1 : Box (w1.setCell ⟨w.heap.size, 0, none⟩ (.int .i64 k)) w.heap.size (bcl ⟨k, fl, r, c, b, po, ag, mx, he', fw⟩) := set_kd k A0
  replace D0 := D0.kept (by omega) g
  replace M := M.grown g (Or.inl (Nat.le_refl _))
  have I := hs.on s1 _ _ I1 (below_of_grown g hz (hs.sz _ _ I1))
  clear M0 M1 I0 I1 c0 A0 g h1 hn1 hy1
  by_cases hk : k = 128
  · have HR : Hid (some (s1, (⟨k, fl, r, c, b, po, ag, mx, he', fw⟩ : Bpd)) = r0) := by
      have h := HY.out
      rw [if_pos hk] at h
      exact hide (Option.some.inj h)
    have hk1 : (k == 128) = true := by simp [hk]
    clear HY hk
    have tk1 : True := trivial
    have tk2 : True := trivial
    go_wp2_with (first | (have _t := tk1; refine wpl_bpdu (.tmp 2) rfl A1 ?_ ?_ ?_; rfl; rfl; clear tk1) | (have _t := tk2; refine wpl_putB ⟨k, fl, r, c, b, po, ag, mx, he', fw⟩ zeroB (.tmp 4) (.tmp 13) rfl D0 ?_ ?_ ?_ ?_; rfl; rfl; rfl; clear tk2; intro w6 D4 g4))
    replace I := hs.on s1 _ _ I (below_of_grown g4 (by omega) (hs.sz _ _ I))
    replace M := M.grown g4 (Or.inl (by omega))
    exact bodyPost_ret (v := .agg (BC ⟨k, fl, r, c, b, po, ag, mx, he', fw⟩)) (res_bpdu_cell rfl rfl D4) rfl ⟨M, Or.inr ⟨s1, _, HR.out.symm, rfl, I⟩⟩
  have HR : Hid (wRest st s1 ⟨k, fl, r, c, b, po, ag, mx, he', fw⟩ = some r0) := by
    have h := HY.out
    rw [if_neg hk] at h
    exact hide h
  have hk1 : (k == 128) = false := by simp [hk]
  have hk2 : (k == 2) = decide (k = 2) := by by_cases h : k = 2 <;> simp [h]
  clear HY hk
  obtain ⟨r2, h1, hn1, hy1⟩ := bnd_some HR.out
  have c0 := A1.cell 1 (.int .i64 fl) rfl
  go_wp2_with fail
  clear c0 c1 f1 HR
  refine (hs.run s1 fl 1 _ r2 I (by omega) h1).mono ?_
  rintro e w2 ⟨M1, ⟨rfl, rfl⟩ | ⟨s2, n2, rfl, rfl, I1⟩⟩
  · have hq := hide (hn1 rfl)
    go_wp2
    exact ⟨rfl, M.trans M1, Or.inl ⟨hq.out, rfl⟩⟩
  have HR2 := hide (hy1 s2 n2 rfl)
  clear h1 hn1 hy1 I
  replace A1 := A1.midst hz M1
  replace D0 := D0.midst (by omega) M1
  replace M := M.trans M1
  clear M1
  obtain ⟨r3, h1, hn1, hy1⟩ := bnd_some HR2.out
  clear HR2
  have c1 := A1.cell 1 (.int .i64 fl) rfl
  have f1 := A1.free 1 (blen _ _ (by omega))
  have g := setCell_grown w2 w.heap.size 1 (.int .i64 n2)
  have A2 : Box (w2.setCell ⟨w.heap.size, 1, none⟩ (.int .i64 n2)) w.heap.size (bcl ⟨k, n2, r, c, b, po, ag, mx, he', fw⟩) := set_fl n2 A1
  replace D0 := D0.kept (by omega) g
  replace M := M.grown g (Or.inl (Nat.le_refl _))
  have I := hs.on s2 _ _ I1 (below_of_grown g hz (hs.sz _ _ I1))
  clear A1 g I1
  have c0 := A2.rtc
  have tk1 : True := trivial
  go_wp2_with (have _t := tk1; refine wpl_id (.tmp 19) rfl c0 ?_ ?_ ?_; rfl; rfl; clear tk1)
  clear c0 c1 f1
  have A1 := A2
  clear A2
  refine (id35 hs s2 r rr.out r3 _ I h1).mono ?_
  rintro e w3 ⟨M1, ⟨rfl, rfl⟩ | ⟨s3, n3, rfl, rfl, I1⟩⟩
  · have hq := hide (hn1 rfl)
    go_wp2
    exact ⟨rfl, M.trans M1, Or.inl ⟨hq.out, rfl⟩⟩
  have HR3 := hide (hy1 s3 n3 rfl)
  clear h1 hn1 hy1 I
  replace A1 := A1.midst hz M1
  replace D0 := D0.midst (by omega) M1
  replace M := M.trans M1
  clear M1
  obtain ⟨r4, h1, hn1, hy1⟩ := bnd_some HR3.out
  clear HR3
  have A2 : Box w3 w.heap.size ([.int .i64 k, .int .i64 n2] ++ (icl r ++ (.int .i64 c :: (icl b ++ tcl ⟨k, n2, n3, c, b, po, ag, mx, he', fw⟩)))) := A1
  clear A1
  have tk1 : True := trivial
  go_wp2_with (have _t := tk1; refine wpl_putI n3 [.int .i64 k, .int .i64 n2] (.int .i64 c :: (icl b ++ tcl ⟨k, n2, n3, c, b, po, ag, mx, he', fw⟩)) r (.tmp 23) (.tmp 22) rfl A2 rfl ?_ ?_ ?_ ?_; rfl; rfl; rfl; clear tk1; intro u3 A3 g; have A1 : Box u3 w.heap.size (bcl ⟨k, n2, n3, c, b, po, ag, mx, he', fw⟩) := A3; have c0 := A1.cell 9 (.int .i64 c) rfl)
  replace D0 := D0.kept (by omega) g
  replace M := M.grown g (Or.inl (Nat.le_refl _))
  have I := hs.on s3 _ _ I1 (below_of_grown g hz (hs.sz _ _ I1))
  clear A2 A3 g I1 c0
  refine (hs.run s3 c 4 _ r4 I (by omega) h1).mono ?_
  rintro e w4 ⟨M1, ⟨rfl, rfl⟩ | ⟨s4, n4, rfl, rfl, I1⟩⟩
  · have hq := hide (hn1 rfl)
    go_wp2
    exact ⟨rfl, M.trans M1, Or.inl ⟨hq.out, rfl⟩⟩
  have HR4 := hide (hy1 s4 n4 rfl)
  clear h1 hn1 hy1 I
  replace A1 := A1.midst hz M1
  replace D0 := D0.midst (by omega) M1
  replace M := M.trans M1
  clear M1
  obtain ⟨r5, h1, hn1, hy1⟩ := bnd_some HR4.out
  clear HR4
  have c1 := A1.cell 9 (.int .i64 c) rfl
  have f1 := A1.free 9 (blen _ _ (by omega))
  have g := setCell_grown w4 w.heap.size 9 (.int .i64 n4)
  have A2 : Box (w4.setCell ⟨w.heap.size, 9, none⟩ (.int .i64 n4)) w.heap.size (bcl ⟨k, n2, n3, n4, b, po, ag, mx, he', fw⟩) := set_c n4 A1
  replace D0 := D0.kept (by omega) g
  replace M := M.grown g (Or.inl (Nat.le_refl _))
  have I := hs.on s4 _ _ I1 (below_of_grown g hz (hs.sz _ _ I1))
  clear A1 g I1
  have c0 := A2.brid
  have tk1 : True := trivial
  go_wp2_with (have _t := tk1; refine wpl_id (.tmp 29) rfl c0 ?_ ?_ ?_; rfl; rfl; clear tk1)
  clear c0 c1 f1
  have A1 := A2
  clear A2
  refine (id35 hs s4 b rb.out r5 _ I h1).mono ?_
  rintro e w5 ⟨M1, ⟨rfl, rfl⟩ | ⟨s5, n5, rfl, rfl, I1⟩⟩
  · have hq := hide (hn1 rfl)
    go_wp2
    exact ⟨rfl, M.trans M1, Or.inl ⟨hq.out, rfl⟩⟩
  have HR5 := hide (hy1 s5 n5 rfl)
  clear h1 hn1 hy1 I
  replace A1 := A1.midst hz M1
  replace D0 := D0.midst (by omega) M1
  replace M := M.trans M1
  clear M1
  obtain ⟨r6, h1, hn1, hy1⟩ := bnd_some HR5.out
  clear HR5
  have A2 : Box w5 w.heap.size ((.int .i64 k :: .int .i64 n2 :: (icl n3 ++ [.int .i64 n4])) ++ (icl b ++ (tcl ⟨k, n2, n3, n4, n5, po, ag, mx, he', fw⟩))) := A1
  clear A1
  have tk1 : True := trivial
  go_wp2_with (have _t := tk1; refine wpl_putI n5 (.int .i64 k :: .int .i64 n2 :: (icl n3 ++ [.int .i64 n4])) (tcl ⟨k, n2, n3, n4, n5, po, ag, mx, he', fw⟩) b (.tmp 33) (.tmp 32) rfl A2 rfl ?_ ?_ ?_ ?_; rfl; rfl; rfl; clear tk1; intro u5 A3 g; have A1 : Box u5 w.heap.size (bcl ⟨k, n2, n3, n4, n5, po, ag, mx, he', fw⟩) := A3; have c0 := A1.cell 17 (.int .i64 po) rfl)
  replace D0 := D0.kept (by omega) g
  replace M := M.grown g (Or.inl (Nat.le_refl _))
  have I := hs.on s5 _ _ I1 (below_of_grown g hz (hs.sz _ _ I1))
  clear A2 A3 g I1 c0
  refine (hs.run s5 po 2 _ r6 I (by omega) h1).mono ?_
  rintro e w6 ⟨M1, ⟨rfl, rfl⟩ | ⟨s6, n6, rfl, rfl, I1⟩⟩
  · have hq := hide (hn1 rfl)
    go_wp2
    exact ⟨rfl, M.trans M1, Or.inl ⟨hq.out, rfl⟩⟩
  have HR6 := hide (hy1 s6 n6 rfl)
  clear h1 hn1 hy1 I
  replace A1 := A1.midst hz M1
  replace D0 := D0.midst (by omega) M1
  replace M := M.trans M1
  clear M1
  obtain ⟨r7, h1, hn1, hy1⟩ := bnd_some HR6.out
  clear HR6
  have c1 := A1.cell 17 (.int .i64 po) rfl
  have f1 := A1.free 17 (blen _ _ (by omega))
  have g := setCell_grown w6 w.heap.size 17 (.int .i64 n6)
  have A2 : Box (w6.setCell ⟨w.heap.size, 17, none⟩ (.int .i64 n6)) w.heap.size (bcl ⟨k, n2, n3, n4, n5, n6, ag, mx, he', fw⟩) := set_po n6 A1
  replace D0 := D0.kept (by omega) g
  replace M := M.grown g (Or.inl (Nat.le_refl _))
  have I := hs.on s6 _ _ I1 (below_of_grown g hz (hs.sz _ _ I1))
  clear A1 g I1
  have c0 := A2.cell 18 (.int .i64 ag) rfl
  go_wp2_with fail
  clear c0 c1 f1
  have A1 := A2
  clear A2
  refine (hs.run s6 ag 2 _ r7 I (by omega) h1).mono ?_
  rintro e w7 ⟨M1, ⟨rfl, rfl⟩ | ⟨s7, n7, rfl, rfl, I1⟩⟩
  · have hq := hide (hn1 rfl)
    go_wp2
    exact ⟨rfl, M.trans M1, Or.inl ⟨hq.out, rfl⟩⟩
  have HR7 := hide (hy1 s7 n7 rfl)
  clear h1 hn1 hy1 I
  replace A1 := A1.midst hz M1
  replace D0 := D0.midst (by omega) M1
  replace M := M.trans M1
  clear M1
  obtain ⟨r8, h1, hn1, hy1⟩ := bnd_some HR7.out
  clear HR7
  have c1 := A1.cell 18 (.int .i64 ag) rfl
  have f1 := A1.free 18 (blen _ _ (by omega))
  have g := setCell_grown w7 w.heap.size 18 (.int .i64 n7)
  have A2 : Box (w7.setCell ⟨w.heap.size, 18, none⟩ (.int .i64 n7)) w.heap.size (bcl ⟨k, n2, n3, n4, n5, n6, n7, mx, he', fw⟩) := set_ag n7 A1
  replace D0 := D0.kept (by omega) g
  replace M := M.grown g (Or.inl (Nat.le_refl _))
  have I := hs.on s7 _ _ I1 (below_of_grown g hz (hs.sz _ _ I1))
  clear A1 g I1
  have c0 := A2.cell 19 (.int .i64 mx) rfl
  go_wp2_with fail
  clear c0 c1 f1
  have A1 := A2
  clear A2
  refine (hs.run s7 mx 2 _ r8 I (by omega) h1).mono ?_
  rintro e w8 ⟨M1, ⟨rfl, rfl⟩ | ⟨s8, n8, rfl, rfl, I1⟩⟩
  · have hq := hide (hn1 rfl)
    go_wp2
    exact ⟨rfl, M.trans M1, Or.inl ⟨hq.out, rfl⟩⟩
  have HR8 := hide (hy1 s8 n8 rfl)
  clear h1 hn1 hy1 I
  replace A1 := A1.midst hz M1
  replace D0 := D0.midst (by omega) M1
  replace M := M.trans M1
  clear M1
  obtain ⟨r9, h1, hn1, hy1⟩ := bnd_some HR8.out
  clear HR8
  have c1 := A1.cell 19 (.int .i64 mx) rfl
  have f1 := A1.free 19 (blen _ _ (by omega))
  have g := setCell_grown w8 w.heap.size 19 (.int .i64 n8)
  have A2 : Box (w8.setCell ⟨w.heap.size, 19, none⟩ (.int .i64 n8)) w.heap.size (bcl ⟨k, n2, n3, n4, n5, n6, n7, n8, he', fw⟩) := set_mx n8 A1
  replace D0 := D0.kept (by omega) g
  replace M := M.grown g (Or.inl (Nat.le_refl _))
  have I := hs.on s8 _ _ I1 (below_of_grown g hz (hs.sz _ _ I1))
  clear A1 g I1
  have c0 := A2.cell 20 (.int .i64 he') rfl
  go_wp2_with fail
  clear c0 c1 f1
  have A1 := A2
  clear A2
  refine (hs.run s8 he' 2 _ r9 I (by omega) h1).mono ?_
  rintro e w9 ⟨M1, ⟨rfl, rfl⟩ | ⟨s9, n9, rfl, rfl, I1⟩⟩
  · have hq := hide (hn1 rfl)
    go_wp2
    exact ⟨rfl, M.trans M1, Or.inl ⟨hq.out, rfl⟩⟩
  have HR9 := hide (hy1 s9 n9 rfl)
  clear h1 hn1 hy1 I
  replace A1 := A1.midst hz M1
  replace D0 := D0.midst (by omega) M1
  replace M := M.trans M1
  clear M1
  obtain ⟨r10, h1, hn1, hy1⟩ := bnd_some HR9.out
  clear HR9
  have c1 := A1.cell 20 (.int .i64 he') rfl
  have f1 := A1.free 20 (blen _ _ (by omega))
  have g := setCell_grown w9 w.heap.size 20 (.int .i64 n9)
  have A2 : Box (w9.setCell ⟨w.heap.size, 20, none⟩ (.int .i64 n9)) w.heap.size (bcl ⟨k, n2, n3, n4, n5, n6, n7, n8, n9, fw⟩) := set_he n9 A1
  replace D0 := D0.kept (by omega) g
  replace M := M.grown g (Or.inl (Nat.le_refl _))
  have I := hs.on s9 _ _ I1 (below_of_grown g hz (hs.sz _ _ I1))
  clear A1 g I1
  have c0 := A2.cell 21 (.int .i64 fw) rfl
  go_wp2_with fail
  clear c0 c1 f1
  have A1 := A2
  clear A2
  refine (hs.run s9 fw 2 _ r10 I (by omega) h1).mono ?_
  rintro e w10 ⟨M1, ⟨rfl, rfl⟩ | ⟨s10, n10, rfl, rfl, I1⟩⟩
  · have hq := hide (hn1 rfl)
    go_wp2
    exact ⟨rfl, M.trans M1, Or.inl ⟨hq.out, rfl⟩⟩
  have HR10 := hide (hy1 s10 n10 rfl)
  clear h1 hn1 hy1 I
  replace A1 := A1.midst hz M1
  replace D0 := D0.midst (by omega) M1
  replace M := M.trans M1
  clear M1
  have c1 := A1.cell 21 (.int .i64 fw) rfl
  have f1 := A1.free 21 (blen _ _ (by omega))
  have g := setCell_grown w10 w.heap.size 21 (.int .i64 n10)
  have A2 : Box (w10.setCell ⟨w.heap.size, 21, none⟩ (.int .i64 n10)) w.heap.size (bcl ⟨k, n2, n3, n4, n5, n6, n7, n8, n9, n10⟩) := set_fw n10 A1
  replace D0 := D0.kept (by omega) g
  replace M := M.grown g (Or.inl (Nat.le_refl _))
  have I := hs.on s10 _ _ I1 (below_of_grown g hz (hs.sz _ _ I1))
  clear A1 g I1
  by_cases hk : k = 2
  · have HQ : Hid (bnd (st s10 0 1) (fun s z => mst (z == 0) (rtn s ⟨k, n2, n3, n4, n5, n6, n7, n8, n9, n10⟩)) = some r0) := by
      have h := HR10.out
      simp only [if_pos hk] at h
      exact hide h
    have hk3 : (k == 2) = true := by simp [hk]
    obtain ⟨r11, h1, hn1, hy1⟩ := bnd_some HQ.out
    have c0 := A2.cell 0 (.int .i64 k) rfl
    clear hk2 HR10 HQ hk
    go_wp2_with fail
    clear c0 c1 f1
    refine (hs.run s10 0 1 _ r11 I (by omega) h1).mono ?_
    rintro e w11 ⟨M1, ⟨rfl, rfl⟩ | ⟨s11, z, rfl, rfl, I1⟩⟩
    · have hq := hide (hn1 rfl)
      go_wp2
      exact ⟨rfl, M.trans M1, Or.inl ⟨hq.out, rfl⟩⟩
    obtain ⟨hf, hg⟩ := mst_some (hy1 s11 z rfl)
    replace A2 := A2.midst hz M1
    replace D0 := D0.midst (by omega) M1
    replace M := M.trans M1
    clear M1 h1 hn1 hy1 I
    go_wp2_with fail
    refine (must36 (z == 0) _).mono ?_
    rintro e v1 ⟨⟨hb, rfl⟩ | ⟨hb, rfl⟩, rfl⟩
    rotate_left
    · have hq := hide (hf hb)
      go_wp2
      exact ⟨rfl, M, Or.inl ⟨hq.out, rfl⟩⟩
    have HG := hide (Option.some.inj (hg hb))
    clear hf hg hb
    have tk1 : True := trivial
    have tk2 : True := trivial
    go_wp2_with (first | (have _t := tk1; refine wpl_bpdu (.tmp 2) rfl A2 ?_ ?_ ?_; rfl; rfl; clear tk1) | (have _t := tk2; refine wpl_putB ⟨k, n2, n3, n4, n5, n6, n7, n8, n9, n10⟩ zeroB (.tmp 4) (.tmp 66) rfl D0 ?_ ?_ ?_ ?_; rfl; rfl; rfl; clear tk2; intro w20 D4 g4))
    replace I1 := hs.on s11 _ _ I1 (below_of_grown g4 (by omega) (hs.sz _ _ I1))
    replace M := M.grown g4 (Or.inl (by omega))
    exact bodyPost_ret (v := .agg (BC ⟨k, n2, n3, n4, n5, n6, n7, n8, n9, n10⟩)) (res_bpdu_cell rfl rfl D4) rfl ⟨M, Or.inr ⟨s11, _, HG.out.symm, rfl, I1⟩⟩
  · have HG : Hid (some (s10, (⟨k, n2, n3, n4, n5, n6, n7, n8, n9, n10⟩ : Bpd)) = r0) := by
      have h := HR10.out
      simp only [if_neg hk] at h
      exact hide (Option.some.inj h)
    have hk3 : (k == 2) = false := by simp [hk]
    have c0 := A2.cell 0 (.int .i64 k) rfl
    clear hk2 HR10 hk
    have tk1 : True := trivial
    have tk2 : True := trivial
    go_wp2_with (first | (have _t := tk1; refine wpl_bpdu (.tmp 2) rfl A2 ?_ ?_ ?_; rfl; rfl; clear tk1) | (have _t := tk2; refine wpl_putB ⟨k, n2, n3, n4, n5, n6, n7, n8, n9, n10⟩ zeroB (.tmp 4) (.tmp 66) rfl D0 ?_ ?_ ?_ ?_; rfl; rfl; rfl; clear tk2; intro w20 D4 g4))
    replace I := hs.on s10 _ _ I (below_of_grown g4 (by omega) (hs.sz _ _ I))
    replace M := M.grown g4 (Or.inl (by omega))
    exact bodyPost_ret (v := .agg (BC ⟨k, n2, n3, n4, n5, n6, n7, n8, n9, n10⟩)) (res_bpdu_cell rfl rfl D4) rfl ⟨M, Or.inr ⟨s10, _, HG.out.symm, rfl, I⟩⟩
end
end Go.Proofs.Ytdaglmimfkcmeaa
