/- Contracts: In, of both; Same, of one frame twice. · Contracts: SameOuts and Same of the document's, of two answers that tell the same. · Contracts: Same of two frames, whichever. -/
import Derived.Test.YtgpdjfaklcmoiaaGreatM00
import Derived.Test.YtgpdjfaklcmoiaaGreatM12
/- Contracts: In, of both; Same, of one frame twice. -/
namespace Go.Proofs.YtgpdjfaklcmoiaaGreat
open Go.RowKit

theorem Box.dst {w : World} {k : Nat} {f : Fd} {s : Value} (h : Box w k (fcl f s)) : w.rangeAt k 0 (dcl f) := rangeAt_left h.at_
theorem Box.src {w : World} {k : Nat} {f : Fd} {s : Value} (h : Box w k (fcl f s)) : w.rangeAt k 6 (scl f) := rangeAt_left (rangeAt_right h.at_ (q := 6) rfl)
theorem wpl_dst {ops : Array Oper} {rest : List Oper} {op : Oper} {a : Act} {w : World} {Q : Exit → Act → World → Prop} {k o : Nat} {cs : List Value} (x : Operand) (ho : op.op = .load 35 x) (hA : w.rangeAt k o cs) (hl : cs.length = 6) (hw : Region.wanted op (yielded ops a.tmps) = true) (hx : a.eval x = .pointer (some ⟨k, o, none⟩))
    (h : wpList Tryz.prog ops Q rest (a.put op.dst (.agg cs.toArray)) w) : wpList Tryz.prog ops Q (op :: rest) a w :=
  wpl_load 35 x ho k o _ _ hA Tryz.underlying35 rfl (by rw [hl]; exact Tryz.size35) hw hx h
theorem Tryz.info5v : ∃ i, Tryz.prog.info? 5 = some i := ⟨_, (info_parts Tryz.info5).choose_spec.1⟩
theorem eqSelf (a0 a1 a2 a3 a4 a5 : Int) (w : World) :
    (Op.equalIn 10000 35 (.agg #[.int .u8 a0, .int .u8 a1, .int .u8 a2, .int .u8 a3, .int .u8 a4, .int .u8 a5]) (.agg #[.int .u8 a0, .int .u8 a1, .int .u8 a2, .int .u8 a3, .int .u8 a4, .int .u8 a5])).run Tryz.prog w = .ok true w := by
  obtain ⟨i, hi⟩ := Tryz.info5v
  rw [show (10000 : Nat) = 9999 + 1 from rfl, run_equalIn_array w 9999 _ _ Tryz.underlying35 hi, Tryz.cells5]
  have p0 : ∀ (c0 c1 c2 c3 c4 c5 : Int) (w : World), (part 5 #[.int .u8 c0, .int .u8 c1, .int .u8 c2, .int .u8 c3, .int .u8 c4, .int .u8 c5] 0).run Tryz.prog w = .ok (.int .u8 c0) w := fun _ _ _ _ _ _ _ => by kernel_rfl
  have p1 : ∀ (c0 c1 c2 c3 c4 c5 : Int) (w : World), (part 5 #[.int .u8 c0, .int .u8 c1, .int .u8 c2, .int .u8 c3, .int .u8 c4, .int .u8 c5] 1).run Tryz.prog w = .ok (.int .u8 c1) w := fun _ _ _ _ _ _ _ => by kernel_rfl
  have p2 : ∀ (c0 c1 c2 c3 c4 c5 : Int) (w : World), (part 5 #[.int .u8 c0, .int .u8 c1, .int .u8 c2, .int .u8 c3, .int .u8 c4, .int .u8 c5] 2).run Tryz.prog w = .ok (.int .u8 c2) w := fun _ _ _ _ _ _ _ => by kernel_rfl
  have p3 : ∀ (c0 c1 c2 c3 c4 c5 : Int) (w : World), (part 5 #[.int .u8 c0, .int .u8 c1, .int .u8 c2, .int .u8 c3, .int .u8 c4, .int .u8 c5] 3).run Tryz.prog w = .ok (.int .u8 c3) w := fun _ _ _ _ _ _ _ => by kernel_rfl
  have p4 : ∀ (c0 c1 c2 c3 c4 c5 : Int) (w : World), (part 5 #[.int .u8 c0, .int .u8 c1, .int .u8 c2, .int .u8 c3, .int .u8 c4, .int .u8 c5] 4).run Tryz.prog w = .ok (.int .u8 c4) w := fun _ _ _ _ _ _ _ => by kernel_rfl
  have p5 : ∀ (c0 c1 c2 c3 c4 c5 : Int) (w : World), (part 5 #[.int .u8 c0, .int .u8 c1, .int .u8 c2, .int .u8 c3, .int .u8 c4, .int .u8 c5] 5).run Tryz.prog w = .ok (.int .u8 c5) w := fun _ _ _ _ _ _ _ => by kernel_rfl
  have pe : ∀ (x y : Int) (w : World), (Op.equalIn 9999 5 (.int .u8 x) (.int .u8 y)).run Tryz.prog w = .ok (x == y) w := fun x y w => run_equalIn_int w 9998 5 _ _ x y Tryz.underlying5
  simp [Op.eqItems, show List.range 6 = [0, 1, 2, 3, 4, 5] from rfl, p0, p1, p2, p3, p4, p5, pe]
theorem eqD (f : Fd) (w : World) : (Op.equalIn 10000 35 (.agg (dcl f).toArray) (.agg (dcl f).toArray)).run Tryz.prog w = .ok true w := eqSelf _ _ _ _ _ _ w
theorem eqS (f : Fd) (w : World) : (Op.equalIn 10000 35 (.agg (scl f).toArray) (.agg (scl f).toArray)).run Tryz.prog w = .ok true w := eqSelf _ _ _ _ _ _ w
section
attribute [local go_sem] FC12 FC13 FC14 FC15 FC16 FC_size ZF
set_option maxRecDepth 100000 in
set_option maxHeartbeats 4000000 in
theorem same21 (f : Fd) (ao bo : Option Addr) (n c m d : Nat) (w : World) (ha : Byt w ao n c f.bs) (hb : Byt w bo m d f.bs) :
    Calls Tryz.prog 60 #[.agg (FC f (.slice ao n c)), .agg (FC f (.slice bo m d))] w fun e w' => e = .returned (.bool true) ∧ Below w.heap.size w w' := by
  have W0 : Below w.heap.size w ((w.alloc (.cells (FC f (.slice ao n c)) 38)).alloc (.cells (FC f (.slice bo m d)) 38)) := by go_grown
  have hc1 := bytStr (ha.on W0)
  have hc2 := bytStr (hb.on W0)
  have A0 := hide ((Box.new w (fcl f (.slice ao n c)) 38).alloc (.cells (FC f (.slice bo m d)) 38))
  have b0 := Box.new (w.alloc (.cells (FC f (.slice ao n c)) 38)) (fcl f (.slice bo m d)) 38
  rw [World.size_alloc] at b0
  have B0 := hide b0
  have hq := bs_beq_self f.bs
  have e1 := eqD f
  have e2 := eqS f
  have k1 : (f.tg == f.tg) = true := by simp
  have k2 : (f.vl == f.vl) = true := by simp
  have k3 : (f.pr == f.pr) = true := by simp
  have k4 : (f.ty == f.ty) = true := by simp
  have WW := hide W0
  clear ha hb b0 W0
  have tk1 : True := trivial
  have tk2 : True := trivial
  have tk3 : True := trivial
  have tk4 : True := trivial
  go_enter Tryz.func60, Tryz.ntmps60
  go_wp2_with (first | (have _t := tk1; refine wpl_dst (.tmp 5) rfl A0.out.dst rfl ?_ ?_ ?_; rfl; rfl; clear tk1) | (have _t := tk2; refine wpl_dst (.tmp 7) rfl B0.out.dst rfl ?_ ?_ ?_; rfl; rfl; clear tk2) | (have _t := tk3; refine wpl_dst (.tmp 11) rfl A0.out.src rfl ?_ ?_ ?_; rfl; rfl; clear tk3) | (have _t := tk4; refine wpl_dst (.tmp 13) rfl B0.out.src rfl ?_ ?_ ?_; rfl; rfl; clear tk4))
  go_ret
  exact ⟨rfl, WW.out⟩
end
end Go.Proofs.YtgpdjfaklcmoiaaGreat
/- Contracts: SameOuts and Same of the document's, of two answers that tell the same. -/
namespace Go.Proofs.YtgpdjfaklcmoiaaGreat
open Go.RowKit Go.PlainAid

theorem ocl_frame {w : World} {b o : Nat} {x : Ow} (h : w.rangeAt b o (ocl x)) : w.rangeAt b (o + 1) (fcl x.o.f (.slice x.a x.n x.c)) := rangeAt_right (A := [.int .i64 x.o.p]) (q := o + 1) h rfl
theorem ocl_port {w : World} {b o : Nat} {x : Ow} (h : w.rangeAt b o (ocl x)) : w.cell? ⟨b, o, none⟩ = some (.int .i64 x.o.p) := by
  have := h 0 _ rfl
  rwa [Nat.add_zero] at this
set_option maxRecDepth 100000 in
set_option maxHeartbeats 8000000 in
theorem sameOutsR (ao bo : Option Addr) (n c m d : Nat) (xs ys : List Ow) (w : World) (X : Ots w ao n c xs) (Y : Ots w bo m d ys) (he : xs.map Ow.o = ys.map Ow.o) :
    Calls Tryz.prog 27 #[.slice ao n c, .slice bo m d] w fun e w' => e = .returned (.bool true) ∧ Below w.heap.size w w' := by
  have hl : xs.length = ys.length := by have := congrArg List.length he; simpa using this
  obtain rfl : n = m := by rw [← X.len, ← Y.len]; exact hl
  have HX := hide X
  have HY := hide Y
  have HL := hide X.len
  have HL2 := hide Y.len
  have HE := hide he
  have hmx := X.mx
  have hle := X.le
  have hle2 := Y.le
  have hmx2 := Y.mx
  unfold maxLen at hmx hmx2
  have hne : ((n : Int) != (n : Int)) = false := by simp
  clear X Y he hl
  go_enter Tryz.func27, Tryz.ntmps27
  go_wp2
  go_loopg [5] n (fun r i wr => ∃ k : Nat, k ≤ n ∧ r = n - k ∧ i = .int .i64 k ∧ Below w.heap.size w wr)
  case atStart => exact ⟨0, Nat.zero_le _, rfl, rfl, Below.refl _ _⟩
  case round =>
    obtain ⟨k, hk, hr, rfl, hB⟩ := hrel
    have HRK := hide hr
    have HB := hide hB
    clear hr hB
    by_cases hc : k < n
    · obtain ⟨x, hx⟩ : ∃ x, xs[k]? = some x := ⟨_, List.getElem?_eq_getElem (by rw [HL.out]; exact hc)⟩
      obtain ⟨y, hy⟩ : ∃ y, ys[k]? = some y := ⟨_, List.getElem?_eq_getElem (by rw [HL2.out]; exact hc)⟩
      obtain ⟨b1, o1, rfl, r1⟩ := (HX.out.on HB.out).at_ k x hx
      obtain ⟨b2, o2, rfl, r2⟩ := (HY.out.on HB.out).at_ k y hy
      have hxy : x.o = y.o := by
        have h1 := congrArg (fun l => l[k]?) HE.out
        simp only [List.getElem?_map, hx, hy, Option.map_some, Option.some.injEq] at h1
        exact h1
      have Y1 := hide ((HX.out.on HB.out).byt x (List.mem_of_getElem? hx))
      have Y2 := hide ((HY.out.on HB.out).byt y (List.mem_of_getElem? hy))
      have k1 : (0 : Int) ≤ (k : Int) := by omega
      have k2 : (k : Int) < (n : Int) := by omega
      have e1 : IntKind.i64.wrap ((k : Int) + 1) = (k : Int) + 1 := IntWalk.i64_in _ (by omega)
      have HXY := hide hxy
      have BD : Below wr.heap.size wr wr.drew := ⟨rfl, rfl, rfl, Nat.le_refl _, fun _ _ => rfl⟩
      clear hx hy hxy
      go_wp2_with fail
      refine wp_region_held_drew (S := fun w' => w'.rangeAt b1 (o1 + k * 18) (ocl x) ∧ w'.rangeAt b2 (o2 + k * 18) (ocl y)) (by kernel_rfl) ⟨range_on r1 BD, range_on r2 BD⟩ (fun hHeld => ?_)
      replace HB := hide (belowOn HB.out BD)
      replace Y1 := hide (Y1.out.on BD)
      replace Y2 := hide (Y2.out.on BD)
      clear BD r1 r2
      generalize wr.drew = u0 at *
      refine wpAnyH_take (i := 0) (v := .slice (some ⟨b1, o1, none⟩) n c) rfl (by kernel_rfl) (by kernel_rfl) (by kernel_rfl) (fun _ _ _ h => h) (Or.inl ⟨by rfl, ?_⟩) hHeld ?_
      · intro W hW; (try dsimp only at hW); go_simp
      change wpAnyH _ _ _ _ _ _ _ ⟨#[.slice (some ⟨b1, o1, none⟩) n c,.slice (some ⟨b2, o2, none⟩) n d,_,_,_,.int .i64 (k : Int),_,_,_,_,_,_,_,_,_,_,_,_,.slice (some ⟨b1, o1, none⟩) n c,_,_,_,_,_,_,_,_,_,_,_,_,_,_,_,_,_,_,_,_,_,_,_,_,_], []⟩ _
      refine wpAnyH_take (i := 1) (v := .int .i64 (k : Int)) rfl (by kernel_rfl) (by kernel_rfl) (by kernel_rfl) (fun _ _ _ h => h) (Or.inl ⟨by rfl, ?_⟩) hHeld ?_
      · intro W hW; (try dsimp only at hW); go_simp
      change wpAnyH _ _ _ _ _ _ _ ⟨#[.slice (some ⟨b1, o1, none⟩) n c,.slice (some ⟨b2, o2, none⟩) n d,_,_,_,.int .i64 (k : Int),_,_,_,_,_,_,_,_,_,_,_,_,.slice (some ⟨b1, o1, none⟩) n c,.int .i64 (k : Int),_,_,_,_,_,_,_,_,_,_,_,_,_,_,_,_,_,_,_,_,_,_,_,_], []⟩ _
      refine wpAnyH_take (i := 2) (v := .pointer (some ⟨b1, o1 + k * 18, none⟩)) rfl (by kernel_rfl) (by kernel_rfl) (by kernel_rfl) (fun _ _ _ h => h) (Or.inl ⟨by rfl, ?_⟩) hHeld ?_
      · intro W hW; (try dsimp only at hW); clear hW; go_simp
      change wpAnyH _ _ _ _ _ _ _ ⟨#[.slice (some ⟨b1, o1, none⟩) n c,.slice (some ⟨b2, o2, none⟩) n d,_,_,_,.int .i64 (k : Int),_,_,_,_,_,_,_,_,_,_,_,_,.slice (some ⟨b1, o1, none⟩) n c,.int .i64 (k : Int),.pointer (some ⟨b1, o1 + k * 18, none⟩),_,_,_,_,_,_,_,_,_,_,_,_,_,_,_,_,_,_,_,_,_,_,_], []⟩ _
      refine wpAnyH_take (i := 3) (v := .pointer (some ⟨b1, o1 + k * 18 + 1, none⟩)) rfl (by kernel_rfl) (by kernel_rfl) (by kernel_rfl) (fun _ _ _ h => h) (Or.inl ⟨by rfl, ?_⟩) hHeld ?_
      · intro W hW; (try dsimp only at hW); clear hW; go_simp
      change wpAnyH _ _ _ _ _ _ _ ⟨#[.slice (some ⟨b1, o1, none⟩) n c,.slice (some ⟨b2, o2, none⟩) n d,_,_,_,.int .i64 (k : Int),_,_,_,_,_,_,_,_,_,_,_,_,.slice (some ⟨b1, o1, none⟩) n c,.int .i64 (k : Int),.pointer (some ⟨b1, o1 + k * 18, none⟩),.pointer (some ⟨b1, o1 + k * 18 + 1, none⟩),_,_,_,_,_,_,_,_,_,_,_,_,_,_,_,_,_,_,_,_,_,_], []⟩ _
      refine wpAnyH_take (i := 4) (v := .agg (FC x.o.f (.slice x.a x.n x.c))) rfl (by kernel_rfl) (by kernel_rfl) (by kernel_rfl) (fun _ _ _ h => h) (yieldsIf_load_mid (by rfl) 38 (.tmp 21) rfl b1 (o1 + k * 18 + 1) rfl (fcl x.o.f (.slice x.a x.n x.c)) _ (fun W hW => ocl_frame hW.1) Tryz.underlying38 rfl Tryz.size38) hHeld ?_
      change wpAnyH _ _ _ _ _ _ _ ⟨#[.slice (some ⟨b1, o1, none⟩) n c,.slice (some ⟨b2, o2, none⟩) n d,_,_,_,.int .i64 (k : Int),_,_,_,_,_,_,_,_,_,_,_,_,.slice (some ⟨b1, o1, none⟩) n c,.int .i64 (k : Int),.pointer (some ⟨b1, o1 + k * 18, none⟩),.pointer (some ⟨b1, o1 + k * 18 + 1, none⟩),.agg (FC x.o.f (.slice x.a x.n x.c)),_,_,_,_,_,_,_,_,_,_,_,_,_,_,_,_,_,_,_,_,_], []⟩ _
      refine wpAnyH_take (i := 5) (v := .slice (some ⟨b2, o2, none⟩) n d) rfl (by kernel_rfl) (by kernel_rfl) (by kernel_rfl) (fun _ _ _ h => h) (Or.inl ⟨by rfl, ?_⟩) hHeld ?_
      · intro W hW; (try dsimp only at hW); go_simp
      change wpAnyH _ _ _ _ _ _ _ ⟨#[.slice (some ⟨b1, o1, none⟩) n c,.slice (some ⟨b2, o2, none⟩) n d,_,_,_,.int .i64 (k : Int),_,_,_,_,_,_,_,_,_,_,_,_,.slice (some ⟨b1, o1, none⟩) n c,.int .i64 (k : Int),.pointer (some ⟨b1, o1 + k * 18, none⟩),.pointer (some ⟨b1, o1 + k * 18 + 1, none⟩),.agg (FC x.o.f (.slice x.a x.n x.c)),.slice (some ⟨b2, o2, none⟩) n d,_,_,_,_,_,_,_,_,_,_,_,_,_,_,_,_,_,_,_,_], []⟩ _
      refine wpAnyH_take (i := 6) (v := .int .i64 (k : Int)) rfl (by kernel_rfl) (by kernel_rfl) (by kernel_rfl) (fun _ _ _ h => h) (Or.inl ⟨by rfl, ?_⟩) hHeld ?_
      · intro W hW; (try dsimp only at hW); go_simp
      change wpAnyH _ _ _ _ _ _ _ ⟨#[.slice (some ⟨b1, o1, none⟩) n c,.slice (some ⟨b2, o2, none⟩) n d,_,_,_,.int .i64 (k : Int),_,_,_,_,_,_,_,_,_,_,_,_,.slice (some ⟨b1, o1, none⟩) n c,.int .i64 (k : Int),.pointer (some ⟨b1, o1 + k * 18, none⟩),.pointer (some ⟨b1, o1 + k * 18 + 1, none⟩),.agg (FC x.o.f (.slice x.a x.n x.c)),.slice (some ⟨b2, o2, none⟩) n d,.int .i64 (k : Int),_,_,_,_,_,_,_,_,_,_,_,_,_,_,_,_,_,_,_], []⟩ _
      refine wpAnyH_take (i := 7) (v := .pointer (some ⟨b2, o2 + k * 18, none⟩)) rfl (by kernel_rfl) (by kernel_rfl) (by kernel_rfl) (fun _ _ _ h => h) (Or.inl ⟨by rfl, ?_⟩) hHeld ?_
      · intro W hW; (try dsimp only at hW); clear hW; go_simp
      change wpAnyH _ _ _ _ _ _ _ ⟨#[.slice (some ⟨b1, o1, none⟩) n c,.slice (some ⟨b2, o2, none⟩) n d,_,_,_,.int .i64 (k : Int),_,_,_,_,_,_,_,_,_,_,_,_,.slice (some ⟨b1, o1, none⟩) n c,.int .i64 (k : Int),.pointer (some ⟨b1, o1 + k * 18, none⟩),.pointer (some ⟨b1, o1 + k * 18 + 1, none⟩),.agg (FC x.o.f (.slice x.a x.n x.c)),.slice (some ⟨b2, o2, none⟩) n d,.int .i64 (k : Int),.pointer (some ⟨b2, o2 + k * 18, none⟩),_,_,_,_,_,_,_,_,_,_,_,_,_,_,_,_,_,_], []⟩ _
      refine wpAnyH_take (i := 8) (v := .pointer (some ⟨b2, o2 + k * 18 + 1, none⟩)) rfl (by kernel_rfl) (by kernel_rfl) (by kernel_rfl) (fun _ _ _ h => h) (Or.inl ⟨by rfl, ?_⟩) hHeld ?_
      · intro W hW; (try dsimp only at hW); clear hW; go_simp
      change wpAnyH _ _ _ _ _ _ _ ⟨#[.slice (some ⟨b1, o1, none⟩) n c,.slice (some ⟨b2, o2, none⟩) n d,_,_,_,.int .i64 (k : Int),_,_,_,_,_,_,_,_,_,_,_,_,.slice (some ⟨b1, o1, none⟩) n c,.int .i64 (k : Int),.pointer (some ⟨b1, o1 + k * 18, none⟩),.pointer (some ⟨b1, o1 + k * 18 + 1, none⟩),.agg (FC x.o.f (.slice x.a x.n x.c)),.slice (some ⟨b2, o2, none⟩) n d,.int .i64 (k : Int),.pointer (some ⟨b2, o2 + k * 18, none⟩),.pointer (some ⟨b2, o2 + k * 18 + 1, none⟩),_,_,_,_,_,_,_,_,_,_,_,_,_,_,_,_,_], []⟩ _
      refine wpAnyH_take (i := 9) (v := .agg (FC y.o.f (.slice y.a y.n y.c))) rfl (by kernel_rfl) (by kernel_rfl) (by kernel_rfl) (fun _ _ _ h => h) (yieldsIf_load_mid (by rfl) 38 (.tmp 26) rfl b2 (o2 + k * 18 + 1) rfl (fcl y.o.f (.slice y.a y.n y.c)) _ (fun W hW => ocl_frame hW.2) Tryz.underlying38 rfl Tryz.size38) hHeld ?_
      change wpAnyH _ _ _ _ _ _ _ ⟨#[.slice (some ⟨b1, o1, none⟩) n c,.slice (some ⟨b2, o2, none⟩) n d,_,_,_,.int .i64 (k : Int),_,_,_,_,_,_,_,_,_,_,_,_,.slice (some ⟨b1, o1, none⟩) n c,.int .i64 (k : Int),.pointer (some ⟨b1, o1 + k * 18, none⟩),.pointer (some ⟨b1, o1 + k * 18 + 1, none⟩),.agg (FC x.o.f (.slice x.a x.n x.c)),.slice (some ⟨b2, o2, none⟩) n d,.int .i64 (k : Int),.pointer (some ⟨b2, o2 + k * 18, none⟩),.pointer (some ⟨b2, o2 + k * 18 + 1, none⟩),.agg (FC y.o.f (.slice y.a y.n y.c)),_,_,_,_,_,_,_,_,_,_,_,_,_,_,_,_], []⟩ _
      refine wpAnyH_ready (rs := [10]) (by kernel_rfl) (by simp) ?_
      refine AllReadyH.cons rfl (fun K hK => ?_) AllReadyH.nil
      go_simp
      have hq := same21 x.o.f x.a y.a x.n x.c y.n y.c u0 Y1.out (by rw [HXY.out]; exact Y2.out)
      rw [show FC x.o.f (.slice y.a y.n y.c) = FC y.o.f (.slice y.a y.n y.c) by rw [HXY.out]] at hq
      refine hq.mono ?_
      rintro e u1 ⟨rfl, bb⟩
      replace HB := hide (belowOn HB.out bb)
      refine hK.out _ _ ⟨range_on hHeld.1 bb, range_on hHeld.2 bb⟩ (fun hHeld => ?_)
      clear hK K hq Y1 Y2
      change wpAnyH _ _ _ _ _ _ _ ⟨#[.slice (some ⟨b1, o1, none⟩) n c,.slice (some ⟨b2, o2, none⟩) n d,_,_,_,.int .i64 (k : Int),_,_,_,_,_,_,_,_,_,_,_,_,.slice (some ⟨b1, o1, none⟩) n c,.int .i64 (k : Int),.pointer (some ⟨b1, o1 + k * 18, none⟩),.pointer (some ⟨b1, o1 + k * 18 + 1, none⟩),.agg (FC x.o.f (.slice x.a x.n x.c)),.slice (some ⟨b2, o2, none⟩) n d,.int .i64 (k : Int),.pointer (some ⟨b2, o2 + k * 18, none⟩),.pointer (some ⟨b2, o2 + k * 18 + 1, none⟩),.agg (FC y.o.f (.slice y.a y.n y.c)),.bool true,_,_,_,_,_,_,_,_,_,_,_,_,_,_,_], []⟩ _
      refine wpAnyH_take (i := 11) (v := .bool true) rfl (by kernel_rfl) (by kernel_rfl) (by kernel_rfl) (fun _ _ _ h => h) (Or.inl ⟨by rfl, ?_⟩) hHeld ?_
      · intro W hW; (try dsimp only at hW); go_simp
      change wpAnyH _ _ _ _ _ _ _ ⟨#[.slice (some ⟨b1, o1, none⟩) n c,.slice (some ⟨b2, o2, none⟩) n d,_,_,_,.int .i64 (k : Int),.bool true,_,_,_,_,_,_,_,_,_,_,_,.slice (some ⟨b1, o1, none⟩) n c,.int .i64 (k : Int),.pointer (some ⟨b1, o1 + k * 18, none⟩),.pointer (some ⟨b1, o1 + k * 18 + 1, none⟩),.agg (FC x.o.f (.slice x.a x.n x.c)),.slice (some ⟨b2, o2, none⟩) n d,.int .i64 (k : Int),.pointer (some ⟨b2, o2 + k * 18, none⟩),.pointer (some ⟨b2, o2 + k * 18 + 1, none⟩),.agg (FC y.o.f (.slice y.a y.n y.c)),.bool true,_,_,_,_,_,_,_,_,_,_,_,_,_,_,_], []⟩ _
      refine wpAnyH_done (by kernel_rfl) ?_ _
      have p1 := ocl_port hHeld.1
      have p2 := ocl_port hHeld.2
      rw [← HXY.out] at p2
      have hne2 : (x.o.p != x.o.p) = false := by simp
      have BD : Below u1.heap.size u1 u1.drew := ⟨rfl, rfl, rfl, Nat.le_refl _, fun _ _ => rfl⟩
      replace HB := hide (belowOn HB.out BD)
      clear BD hHeld bb
      go_wp2_with fail
      go_region
      go_wp2
      go_roundg (n - (k + 1))
      case measure => rw [HRK.out]; omega
      case rel => exact ⟨k + 1, by omega, rfl, by go_num, HB.out⟩
    · obtain rfl : k = n := by omega
      have hq2 : ¬ (k : Int) < (k : Int) := by omega
      clear hc
      go_wp2
      go_ret
      exact ⟨rfl, HB.out⟩
theorem Ots.len_int {w : World} {ao : Option Addr} {n c : Nat} {xs : List Ow} (h : Ots w ao n c xs) : xs.length = n := h.len
set_option maxRecDepth 100000 in
set_option maxHeartbeats 2000000 in
theorem sameR (C v t : Int) (ao bo : Option Addr) (n c m d : Nat) (xs ys : List Ow) (w : World) (X : Ots w ao n c xs) (Y : Ots w bo m d ys) (he : xs.map Ow.o = ys.map Ow.o) :
    Calls Tryz.prog 32 #[.agg #[.int .i64 C, .int .i64 v, .int .i64 t, .slice ao n c], .agg #[.int .i64 C, .int .i64 v, .int .i64 t, .slice bo m d]] w fun e w' => e = .returned (.bool true) ∧ Below w.heap.size w w' := by
  have b0 := below_alloc w (.cells #[.int .i64 C, .int .i64 v, .int .i64 t, .slice ao n c] 50)
  have b1 := below_alloc (w.alloc (.cells #[.int .i64 C, .int .i64 v, .int .i64 t, .slice ao n c] 50)) (.cells #[.int .i64 C, .int .i64 v, .int .i64 t, .slice bo m d] 50)
  have HB := hide (belowOn b0 b1)
  have X1 := hide ((Box.new w (wcl C v t (.slice ao n c)) 50).on b1)
  have Y1 := Box.new (w.alloc (.cells #[.int .i64 C, .int .i64 v, .int .i64 t, .slice ao n c] 50)) (wcl C v t (.slice bo m d)) 50
  rw [World.size_alloc] at Y1
  have HX := hide (X.on HB.out)
  have HY := hide (Y.on HB.out)
  have HE := hide he
  have HY1 := hide Y1
  clear b0 b1 X Y he Y1
  go_enter Tryz.func32, Tryz.ntmps32
  go_wp2_with fail
  refine (sameOutsR ao bo n c m d xs ys _ HX.out HY.out HE.out).mono ?_
  rintro e z1 ⟨rfl, bb⟩
  have HB2 := hide (belowOn HB.out bb)
  have X2 := X1.out.on bb
  have Y2 := HY1.out.on bb
  have x0 := X2.cell 0 _ rfl
  have x1 := X2.cell 1 _ rfl
  have x2 := X2.cell 2 _ rfl
  have y0 := Y2.cell 0 _ rfl
  have y1 := Y2.cell 1 _ rfl
  have y2 := Y2.cell 2 _ rfl
  clear bb X1 HY1 X2 Y2 HB HX HY
  go_wp2
  go_ret
  exact ⟨ret_bool (by first | rfl | simp), HB2.out⟩
end Go.Proofs.YtgpdjfaklcmoiaaGreat
/- Contracts: Same of two frames, whichever. -/
namespace Go.Proofs.YtgpdjfaklcmoiaaGreat
open Go.RowKit Go.PlainAid
section
attribute [local go_sem] FC12 FC13 FC14 FC15 FC16 FC_size ZF
set_option maxRecDepth 100000 in
set_option maxHeartbeats 8000000 in
theorem same21g (f g : Fd) (ao bo : Option Addr) (n c m d : Nat) (w : World) (ha : Byt w ao n c f.bs) (hb : Byt w bo m d g.bs) :
    Calls Tryz.prog 60 #[.agg (FC f (.slice ao n c)), .agg (FC g (.slice bo m d))] w fun e w' => ∃ z, e = .returned (.bool z) ∧ (f = g → z = true) ∧ Below w.heap.size w w' := by
  by_cases hfg : f = g
  · subst hfg
    exact (same21 f ao bo n c m d w ha hb).mono (fun e w' h => ⟨true, h.1, fun _ => rfl, h.2⟩)
  have W0 : Below w.heap.size w ((w.alloc (.cells (FC f (.slice ao n c)) 38)).alloc (.cells (FC g (.slice bo m d)) 38)) := by go_grown
  have hc1 := bytStr (ha.on W0)
  have hc2 := bytStr (hb.on W0)
  have A0 := hide ((Box.new w (fcl f (.slice ao n c)) 38).alloc (.cells (FC g (.slice bo m d)) 38))
  have b0 := Box.new (w.alloc (.cells (FC f (.slice ao n c)) 38)) (fcl g (.slice bo m d)) 38
  rw [World.size_alloc] at b0
  have B0 := hide b0
  have e1 : ∀ w, (Op.equalIn 10000 35 (.agg (dcl f).toArray) (.agg (dcl g).toArray)).run Tryz.prog w = .ok (eqM (mD f) (mD g)) w := fun w => eqMac (mD f) (mD g) w
  have e2 : ∀ w, (Op.equalIn 10000 35 (.agg (scl f).toArray) (.agg (scl g).toArray)).run Tryz.prog w = .ok (eqM (mS f) (mS g)) w := fun w => eqMac (mS f) (mS g) w
  have HFG := hide hfg
  have WW := hide W0
  clear ha hb b0 W0 hfg
  generalize eqM (mD f) (mD g) = q1 at *
  generalize eqM (mS f) (mS g) = q2 at *
  obtain ⟨q3, k3⟩ : ∃ q, (f.tg == g.tg) = q := ⟨_, rfl⟩
  obtain ⟨q4, k4⟩ : ∃ q, (f.vl == g.vl) = q := ⟨_, rfl⟩
  obtain ⟨q5, k5⟩ : ∃ q, (f.pr == g.pr) = q := ⟨_, rfl⟩
  obtain ⟨q6, k6⟩ : ∃ q, (f.ty == g.ty) = q := ⟨_, rfl⟩
  obtain ⟨q7, k7⟩ : ∃ q, ((bs f.bs).toList == (bs g.bs).toList) = q := ⟨_, rfl⟩
  have tk1 : True := trivial
  have tk2 : True := trivial
  have tk3 : True := trivial
  have tk4 : True := trivial
  go_enter Tryz.func60, Tryz.ntmps60
  cases q1
  · go_wp2_with (first | (have _t := tk1; refine wpl_dst (.tmp 5) rfl A0.out.dst rfl ?_ ?_ ?_; rfl; rfl; clear tk1) | (have _t := tk2; refine wpl_dst (.tmp 7) rfl B0.out.dst rfl ?_ ?_ ?_; rfl; rfl; clear tk2) | (have _t := tk3; refine wpl_dst (.tmp 11) rfl A0.out.src rfl ?_ ?_ ?_; rfl; rfl; clear tk3) | (have _t := tk4; refine wpl_dst (.tmp 13) rfl B0.out.src rfl ?_ ?_ ?_; rfl; rfl; clear tk4))
    go_ret
    exact ⟨_, rfl, fun h => absurd h HFG.out, WW.out⟩
  cases q2
  · go_wp2_with (first | (have _t := tk1; refine wpl_dst (.tmp 5) rfl A0.out.dst rfl ?_ ?_ ?_; rfl; rfl; clear tk1) | (have _t := tk2; refine wpl_dst (.tmp 7) rfl B0.out.dst rfl ?_ ?_ ?_; rfl; rfl; clear tk2) | (have _t := tk3; refine wpl_dst (.tmp 11) rfl A0.out.src rfl ?_ ?_ ?_; rfl; rfl; clear tk3) | (have _t := tk4; refine wpl_dst (.tmp 13) rfl B0.out.src rfl ?_ ?_ ?_; rfl; rfl; clear tk4))
    go_ret
    exact ⟨_, rfl, fun h => absurd h HFG.out, WW.out⟩
  cases q3
  · go_wp2_with (first | (have _t := tk1; refine wpl_dst (.tmp 5) rfl A0.out.dst rfl ?_ ?_ ?_; rfl; rfl; clear tk1) | (have _t := tk2; refine wpl_dst (.tmp 7) rfl B0.out.dst rfl ?_ ?_ ?_; rfl; rfl; clear tk2) | (have _t := tk3; refine wpl_dst (.tmp 11) rfl A0.out.src rfl ?_ ?_ ?_; rfl; rfl; clear tk3) | (have _t := tk4; refine wpl_dst (.tmp 13) rfl B0.out.src rfl ?_ ?_ ?_; rfl; rfl; clear tk4))
    go_ret
    exact ⟨_, rfl, fun h => absurd h HFG.out, WW.out⟩
  cases q4
  · go_wp2_with (first | (have _t := tk1; refine wpl_dst (.tmp 5) rfl A0.out.dst rfl ?_ ?_ ?_; rfl; rfl; clear tk1) | (have _t := tk2; refine wpl_dst (.tmp 7) rfl B0.out.dst rfl ?_ ?_ ?_; rfl; rfl; clear tk2) | (have _t := tk3; refine wpl_dst (.tmp 11) rfl A0.out.src rfl ?_ ?_ ?_; rfl; rfl; clear tk3) | (have _t := tk4; refine wpl_dst (.tmp 13) rfl B0.out.src rfl ?_ ?_ ?_; rfl; rfl; clear tk4))
    go_ret
    exact ⟨_, rfl, fun h => absurd h HFG.out, WW.out⟩
  cases q5
  · go_wp2_with (first | (have _t := tk1; refine wpl_dst (.tmp 5) rfl A0.out.dst rfl ?_ ?_ ?_; rfl; rfl; clear tk1) | (have _t := tk2; refine wpl_dst (.tmp 7) rfl B0.out.dst rfl ?_ ?_ ?_; rfl; rfl; clear tk2) | (have _t := tk3; refine wpl_dst (.tmp 11) rfl A0.out.src rfl ?_ ?_ ?_; rfl; rfl; clear tk3) | (have _t := tk4; refine wpl_dst (.tmp 13) rfl B0.out.src rfl ?_ ?_ ?_; rfl; rfl; clear tk4))
    go_ret
    exact ⟨_, rfl, fun h => absurd h HFG.out, WW.out⟩
  cases q6
  · go_wp2_with (first | (have _t := tk1; refine wpl_dst (.tmp 5) rfl A0.out.dst rfl ?_ ?_ ?_; rfl; rfl; clear tk1) | (have _t := tk2; refine wpl_dst (.tmp 7) rfl B0.out.dst rfl ?_ ?_ ?_; rfl; rfl; clear tk2) | (have _t := tk3; refine wpl_dst (.tmp 11) rfl A0.out.src rfl ?_ ?_ ?_; rfl; rfl; clear tk3) | (have _t := tk4; refine wpl_dst (.tmp 13) rfl B0.out.src rfl ?_ ?_ ?_; rfl; rfl; clear tk4))
    go_ret
    exact ⟨_, rfl, fun h => absurd h HFG.out, WW.out⟩
  go_wp2_with (first | (have _t := tk1; refine wpl_dst (.tmp 5) rfl A0.out.dst rfl ?_ ?_ ?_; rfl; rfl; clear tk1) | (have _t := tk2; refine wpl_dst (.tmp 7) rfl B0.out.dst rfl ?_ ?_ ?_; rfl; rfl; clear tk2) | (have _t := tk3; refine wpl_dst (.tmp 11) rfl A0.out.src rfl ?_ ?_ ?_; rfl; rfl; clear tk3) | (have _t := tk4; refine wpl_dst (.tmp 13) rfl B0.out.src rfl ?_ ?_ ?_; rfl; rfl; clear tk4))
  go_ret
  exact ⟨_, rfl, fun h => absurd h HFG.out, WW.out⟩
end
set_option maxRecDepth 100000 in
set_option maxHeartbeats 2000000 in
theorem same13g (B B' : Nat) (l m : List En) (ao ao' : Option Addr) (c d : Nat) (w : World) (E : Ets w B ao l.length c l) (F : Ets w B' ao' m.length d m) :
    Calls Tryz.prog 29 #[.slice ao l.length c, .slice ao' m.length d] w fun e w' => ∃ z, e = .returned (.bool z) ∧ (l = m → z = true) ∧ Below w.heap.size w w' := by
  have HE := hide E
  have HF := hide F
  have h1 := E.le
  have h2 := E.mx
  unfold maxLen at h2
  clear E F
  by_cases hlm : l.length = m.length
  case neg =>
    have hne : ((l.length : Int) != (m.length : Int)) = true := by simp; omega
    have HNE := hide (fun h : l = m => hlm (congrArg List.length h))
    clear HE HF h1 h2
    go_enter Tryz.func29, Tryz.ntmps29
    go_wp2
    go_ret
    exact ⟨false, rfl, fun h => absurd h HNE.out, ⟨rfl, rfl, rfl, Nat.le_refl _, fun _ _ => rfl⟩⟩
  have hne : ((l.length : Int) != (m.length : Int)) = false := by simp; omega
  go_enter Tryz.func29, Tryz.ntmps29
  go_wp2
  go_loopw [5] (fun i wr => ∃ k q : Nat, k ≤ l.length ∧ i = .int .i64 k ∧ wr = w.drewN q) (fun i _ => l.length - (intOf i).toNat)
  case atStart => exact ⟨0, 0, Nat.zero_le _, rfl, rfl⟩
  case round =>
    obtain ⟨k, q, hk, rfl, rfl⟩ := hrel
    by_cases hkl : k < l.length
    · obtain ⟨x, hx⟩ : ∃ x, l[k]? = some x := ⟨_, List.getElem?_eq_getElem hkl⟩
      obtain ⟨y, hy⟩ : ∃ y, m[k]? = some y := ⟨_, List.getElem?_eq_getElem (by omega)⟩
      obtain ⟨b1, rfl, -, -, A1⟩ := HE.out.at hx
      obtain ⟨b2, rfl, -, -, A2⟩ := HF.out.at hy
      have hk2 : (k : Int) < l.length := by omega
      have e1 : IntKind.i64.wrap ((k : Int) + 1) = (k : Int) + 1 := IntWalk.i64_in _ (by omega)
      have HXY := hide (fun h : l = m => by rw [h, hy] at hx; exact (Option.some.inj hx).symm : l = m → x = y)
      clear hx hy
      have hq := eqEnt x y
      have HQE := hide (eqE_iff x y)
      generalize eqE x y = qe at *
      have hk3 : (k : Int) < m.length := by omega
      go_wp2_with fail
      refine wp_region_held_drew (S := fun w' => w'.rangeAt b1 (k * 10) (ecl x) ∧ w'.rangeAt b2 (k * 10) (ecl y)) (by kernel_rfl) ⟨A1, A2⟩ (fun hHeld => ?_)
      refine wpAnyH_take (i := 0) (v := .slice (some ⟨b1, 0, none⟩) l.length c) rfl (by kernel_rfl) (by kernel_rfl) (by kernel_rfl) (fun _ _ _ h => h) (Or.inl ⟨by rfl, ?_⟩) hHeld ?_
      · intro W hW; (try dsimp only at hW); go_simp
      change wpAnyH _ _ _ _ _ _ _ ⟨#[.slice (some ⟨b1, 0, none⟩) l.length c, .slice (some ⟨b2, 0, none⟩) m.length d, _, _, _, .int .i64 (k : Int), _, _, _, _, _, _, _, _, _, _, _, .slice (some ⟨b1, 0, none⟩) l.length c, _, _, _, _, _, _, _, _], []⟩ _
      refine wpAnyH_take (i := 1) (v := .int .i64 (k : Int)) rfl (by kernel_rfl) (by kernel_rfl) (by kernel_rfl) (fun _ _ _ h => h) (Or.inl ⟨by rfl, ?_⟩) hHeld ?_
      · intro W hW; (try dsimp only at hW); go_simp
      change wpAnyH _ _ _ _ _ _ _ ⟨#[.slice (some ⟨b1, 0, none⟩) l.length c, .slice (some ⟨b2, 0, none⟩) m.length d, _, _, _, .int .i64 (k : Int), _, _, _, _, _, _, _, _, _, _, _, .slice (some ⟨b1, 0, none⟩) l.length c, .int .i64 (k : Int), _, _, _, _, _, _, _], []⟩ _
      refine wpAnyH_take (i := 2) (v := .pointer (some ⟨b1, k * 10, none⟩)) rfl (by kernel_rfl) (by kernel_rfl) (by kernel_rfl) (fun _ _ _ h => h) (Or.inl ⟨by rfl, ?_⟩) hHeld ?_
      · intro W hW; (try dsimp only at hW); go_simp
      change wpAnyH _ _ _ _ _ _ _ ⟨#[.slice (some ⟨b1, 0, none⟩) l.length c, .slice (some ⟨b2, 0, none⟩) m.length d, _, _, _, .int .i64 (k : Int), _, _, _, _, _, _, _, _, _, _, _, .slice (some ⟨b1, 0, none⟩) l.length c, .int .i64 (k : Int), .pointer (some ⟨b1, k * 10, none⟩), _, _, _, _, _, _], []⟩ _
      refine wpAnyH_take (i := 3) (v := .agg (EC x)) rfl (by kernel_rfl) (by kernel_rfl) (by kernel_rfl) (fun _ _ _ h => h) (yieldsIf_load_mid (by rfl) 61 (.tmp 19) rfl b1 (k * 10) rfl (ecl x) _ (fun W hW => hW.1) Tryz.underlying61 rfl Tryz.size61) hHeld ?_
      change wpAnyH _ _ _ _ _ _ _ ⟨#[.slice (some ⟨b1, 0, none⟩) l.length c, .slice (some ⟨b2, 0, none⟩) m.length d, _, _, _, .int .i64 (k : Int), _, _, _, _, _, _, _, _, _, _, _, .slice (some ⟨b1, 0, none⟩) l.length c, .int .i64 (k : Int), .pointer (some ⟨b1, k * 10, none⟩), .agg (EC x), _, _, _, _, _], []⟩ _
      refine wpAnyH_take (i := 4) (v := .slice (some ⟨b2, 0, none⟩) m.length d) rfl (by kernel_rfl) (by kernel_rfl) (by kernel_rfl) (fun _ _ _ h => h) (Or.inl ⟨by rfl, ?_⟩) hHeld ?_
      · intro W hW; (try dsimp only at hW); go_simp
      change wpAnyH _ _ _ _ _ _ _ ⟨#[.slice (some ⟨b1, 0, none⟩) l.length c, .slice (some ⟨b2, 0, none⟩) m.length d, _, _, _, .int .i64 (k : Int), _, _, _, _, _, _, _, _, _, _, _, .slice (some ⟨b1, 0, none⟩) l.length c, .int .i64 (k : Int), .pointer (some ⟨b1, k * 10, none⟩), .agg (EC x), .slice (some ⟨b2, 0, none⟩) m.length d, _, _, _, _], []⟩ _
      refine wpAnyH_take (i := 5) (v := .int .i64 (k : Int)) rfl (by kernel_rfl) (by kernel_rfl) (by kernel_rfl) (fun _ _ _ h => h) (Or.inl ⟨by rfl, ?_⟩) hHeld ?_
      · intro W hW; (try dsimp only at hW); go_simp
      change wpAnyH _ _ _ _ _ _ _ ⟨#[.slice (some ⟨b1, 0, none⟩) l.length c, .slice (some ⟨b2, 0, none⟩) m.length d, _, _, _, .int .i64 (k : Int), _, _, _, _, _, _, _, _, _, _, _, .slice (some ⟨b1, 0, none⟩) l.length c, .int .i64 (k : Int), .pointer (some ⟨b1, k * 10, none⟩), .agg (EC x), .slice (some ⟨b2, 0, none⟩) m.length d, .int .i64 (k : Int), _, _, _], []⟩ _
      refine wpAnyH_take (i := 6) (v := .pointer (some ⟨b2, k * 10, none⟩)) rfl (by kernel_rfl) (by kernel_rfl) (by kernel_rfl) (fun _ _ _ h => h) (Or.inl ⟨by rfl, ?_⟩) hHeld ?_
      · intro W hW; (try dsimp only at hW); go_simp
      change wpAnyH _ _ _ _ _ _ _ ⟨#[.slice (some ⟨b1, 0, none⟩) l.length c, .slice (some ⟨b2, 0, none⟩) m.length d, _, _, _, .int .i64 (k : Int), _, _, _, _, _, _, _, _, _, _, _, .slice (some ⟨b1, 0, none⟩) l.length c, .int .i64 (k : Int), .pointer (some ⟨b1, k * 10, none⟩), .agg (EC x), .slice (some ⟨b2, 0, none⟩) m.length d, .int .i64 (k : Int), .pointer (some ⟨b2, k * 10, none⟩), _, _], []⟩ _
      refine wpAnyH_take (i := 7) (v := .agg (EC y)) rfl (by kernel_rfl) (by kernel_rfl) (by kernel_rfl) (fun _ _ _ h => h) (yieldsIf_load_mid (by rfl) 61 (.tmp 23) rfl b2 (k * 10) rfl (ecl y) _ (fun W hW => hW.2) Tryz.underlying61 rfl Tryz.size61) hHeld ?_
      change wpAnyH _ _ _ _ _ _ _ ⟨#[.slice (some ⟨b1, 0, none⟩) l.length c, .slice (some ⟨b2, 0, none⟩) m.length d, _, _, _, .int .i64 (k : Int), _, _, _, _, _, _, _, _, _, _, _, .slice (some ⟨b1, 0, none⟩) l.length c, .int .i64 (k : Int), .pointer (some ⟨b1, k * 10, none⟩), .agg (EC x), .slice (some ⟨b2, 0, none⟩) m.length d, .int .i64 (k : Int), .pointer (some ⟨b2, k * 10, none⟩), .agg (EC y), _], []⟩ _
      refine wpAnyH_take (i := 8) (v := .bool (!qe)) rfl (by kernel_rfl) (by kernel_rfl) (by kernel_rfl) (fun _ _ _ h => h) (Or.inl ⟨by rfl, ?_⟩) hHeld ?_
      · intro W hW; (try dsimp only at hW); clear hW; cases qe <;> go_simp
      change wpAnyH _ _ _ _ _ _ _ ⟨#[.slice (some ⟨b1, 0, none⟩) l.length c, .slice (some ⟨b2, 0, none⟩) m.length d, _, _, _, .int .i64 (k : Int), _, _, _, _, _, _, _, _, _, _, _, .slice (some ⟨b1, 0, none⟩) l.length c, .int .i64 (k : Int), .pointer (some ⟨b1, k * 10, none⟩), .agg (EC x), .slice (some ⟨b2, 0, none⟩) m.length d, .int .i64 (k : Int), .pointer (some ⟨b2, k * 10, none⟩), .agg (EC y), .bool (!qe)], []⟩ _
      refine wpAnyH_done (by kernel_rfl) ?_ _
      cases qe
      · go_wp2
        go_ret
        exact ⟨false, rfl, fun h => absurd (HQE.out.2 (HXY.out h)) (by decide), ⟨rfl, rfl, rfl, Nat.le_refl _, fun _ _ => rfl⟩⟩
      · go_wp2
        go_roundw
        case rel => exact ⟨k + 1, q + 1, by omega, by go_num, rfl⟩
        case measure => simp [intOf]; omega
    · have hk2 : ¬ (k : Int) < l.length := by omega
      go_wp2
      go_ret
      exact Or.inr ⟨rfl, ⟨rfl, rfl, rfl, Nat.le_refl _, fun _ _ => rfl⟩⟩
set_option maxRecDepth 100000 in
set_option maxHeartbeats 8000000 in
theorem sameOutsRg (ao bo : Option Addr) (n c m d : Nat) (xs ys : List Ow) (w : World) (X : Ots w ao n c xs) (Y : Ots w bo m d ys) :
    Calls Tryz.prog 27 #[.slice ao n c, .slice bo m d] w fun e w' => ∃ z, e = .returned (.bool z) ∧ (xs.map Ow.o = ys.map Ow.o → z = true) ∧ Below w.heap.size w w' := by
  by_cases hnm : n = m
  case neg =>
    have hne : ((n : Int) != (m : Int)) = true := by simp; omega
    have HNE := hide (fun h : xs.map Ow.o = ys.map Ow.o => hnm (by rw [← X.len, ← Y.len]; simpa using congrArg List.length h))
    clear X Y hnm
    go_enter Tryz.func27, Tryz.ntmps27
    go_wp2
    go_ret
    exact ⟨false, rfl, fun h => absurd h HNE.out, Below.refl _ _⟩
  obtain rfl := hnm
  have HX := hide X
  have HY := hide Y
  have HL := hide X.len
  have HL2 := hide Y.len
  have hmx := X.mx
  have hle := X.le
  have hle2 := Y.le
  have hmx2 := Y.mx
  unfold maxLen at hmx hmx2
  have hne : ((n : Int) != (n : Int)) = false := by simp
  clear X Y
  go_enter Tryz.func27, Tryz.ntmps27
  go_wp2
  go_loopg [5] n (fun r i wr => ∃ k : Nat, k ≤ n ∧ r = n - k ∧ i = .int .i64 k ∧ Below w.heap.size w wr)
  case atStart => exact ⟨0, Nat.zero_le _, rfl, rfl, Below.refl _ _⟩
  case round =>
    obtain ⟨k, hk, hr, rfl, hB⟩ := hrel
    have HRK := hide hr
    have HB := hide hB
    clear hr hB
    by_cases hc : k < n
    · obtain ⟨x, hx⟩ : ∃ x, xs[k]? = some x := ⟨_, List.getElem?_eq_getElem (by rw [HL.out]; exact hc)⟩
      obtain ⟨y, hy⟩ : ∃ y, ys[k]? = some y := ⟨_, List.getElem?_eq_getElem (by rw [HL2.out]; exact hc)⟩
      obtain ⟨b1, o1, rfl, r1⟩ := (HX.out.on HB.out).at_ k x hx
      obtain ⟨b2, o2, rfl, r2⟩ := (HY.out.on HB.out).at_ k y hy
      have hxy : xs.map Ow.o = ys.map Ow.o → x.o = y.o := by
        intro he
        have h1 := congrArg (fun l => l[k]?) he
        simp only [List.getElem?_map, hx, hy, Option.map_some, Option.some.injEq] at h1
        exact h1
      have Y1 := hide ((HX.out.on HB.out).byt x (List.mem_of_getElem? hx))
      have Y2 := hide ((HY.out.on HB.out).byt y (List.mem_of_getElem? hy))
      have k1 : (0 : Int) ≤ (k : Int) := by omega
      have k2 : (k : Int) < (n : Int) := by omega
      have e1 : IntKind.i64.wrap ((k : Int) + 1) = (k : Int) + 1 := IntWalk.i64_in _ (by omega)
      have HXY := hide hxy
      have BD : Below wr.heap.size wr wr.drew := ⟨rfl, rfl, rfl, Nat.le_refl _, fun _ _ => rfl⟩
      clear hx hy hxy
      go_wp2_with fail
      refine wp_region_held_drew (S := fun w' => w'.rangeAt b1 (o1 + k * 18) (ocl x) ∧ w'.rangeAt b2 (o2 + k * 18) (ocl y)) (by kernel_rfl) ⟨range_on r1 BD, range_on r2 BD⟩ (fun hHeld => ?_)
      replace HB := hide (belowOn HB.out BD)
      replace Y1 := hide (Y1.out.on BD)
      replace Y2 := hide (Y2.out.on BD)
      clear BD r1 r2
      generalize wr.drew = u0 at *
      refine wpAnyH_take (i := 0) (v := .slice (some ⟨b1, o1, none⟩) n c) rfl (by kernel_rfl) (by kernel_rfl) (by kernel_rfl) (fun _ _ _ h => h) (Or.inl ⟨by rfl, ?_⟩) hHeld ?_
      · intro W hW; (try dsimp only at hW); go_simp
      change wpAnyH _ _ _ _ _ _ _ ⟨#[.slice (some ⟨b1, o1, none⟩) n c,.slice (some ⟨b2, o2, none⟩) n d,_,_,_,.int .i64 (k : Int),_,_,_,_,_,_,_,_,_,_,_,_,.slice (some ⟨b1, o1, none⟩) n c,_,_,_,_,_,_,_,_,_,_,_,_,_,_,_,_,_,_,_,_,_,_,_,_,_], []⟩ _
      refine wpAnyH_take (i := 1) (v := .int .i64 (k : Int)) rfl (by kernel_rfl) (by kernel_rfl) (by kernel_rfl) (fun _ _ _ h => h) (Or.inl ⟨by rfl, ?_⟩) hHeld ?_
      · intro W hW; (try dsimp only at hW); go_simp
      change wpAnyH _ _ _ _ _ _ _ ⟨#[.slice (some ⟨b1, o1, none⟩) n c,.slice (some ⟨b2, o2, none⟩) n d,_,_,_,.int .i64 (k : Int),_,_,_,_,_,_,_,_,_,_,_,_,.slice (some ⟨b1, o1, none⟩) n c,.int .i64 (k : Int),_,_,_,_,_,_,_,_,_,_,_,_,_,_,_,_,_,_,_,_,_,_,_,_], []⟩ _
      refine wpAnyH_take (i := 2) (v := .pointer (some ⟨b1, o1 + k * 18, none⟩)) rfl (by kernel_rfl) (by kernel_rfl) (by kernel_rfl) (fun _ _ _ h => h) (Or.inl ⟨by rfl, ?_⟩) hHeld ?_
      · intro W hW; (try dsimp only at hW); clear hW; go_simp
      change wpAnyH _ _ _ _ _ _ _ ⟨#[.slice (some ⟨b1, o1, none⟩) n c,.slice (some ⟨b2, o2, none⟩) n d,_,_,_,.int .i64 (k : Int),_,_,_,_,_,_,_,_,_,_,_,_,.slice (some ⟨b1, o1, none⟩) n c,.int .i64 (k : Int),.pointer (some ⟨b1, o1 + k * 18, none⟩),_,_,_,_,_,_,_,_,_,_,_,_,_,_,_,_,_,_,_,_,_,_,_], []⟩ _
      refine wpAnyH_take (i := 3) (v := .pointer (some ⟨b1, o1 + k * 18 + 1, none⟩)) rfl (by kernel_rfl) (by kernel_rfl) (by kernel_rfl) (fun _ _ _ h => h) (Or.inl ⟨by rfl, ?_⟩) hHeld ?_
      · intro W hW; (try dsimp only at hW); clear hW; go_simp
      change wpAnyH _ _ _ _ _ _ _ ⟨#[.slice (some ⟨b1, o1, none⟩) n c,.slice (some ⟨b2, o2, none⟩) n d,_,_,_,.int .i64 (k : Int),_,_,_,_,_,_,_,_,_,_,_,_,.slice (some ⟨b1, o1, none⟩) n c,.int .i64 (k : Int),.pointer (some ⟨b1, o1 + k * 18, none⟩),.pointer (some ⟨b1, o1 + k * 18 + 1, none⟩),_,_,_,_,_,_,_,_,_,_,_,_,_,_,_,_,_,_,_,_,_,_], []⟩ _
      refine wpAnyH_take (i := 4) (v := .agg (FC x.o.f (.slice x.a x.n x.c))) rfl (by kernel_rfl) (by kernel_rfl) (by kernel_rfl) (fun _ _ _ h => h) (yieldsIf_load_mid (by rfl) 38 (.tmp 21) rfl b1 (o1 + k * 18 + 1) rfl (fcl x.o.f (.slice x.a x.n x.c)) _ (fun W hW => ocl_frame hW.1) Tryz.underlying38 rfl Tryz.size38) hHeld ?_
      change wpAnyH _ _ _ _ _ _ _ ⟨#[.slice (some ⟨b1, o1, none⟩) n c,.slice (some ⟨b2, o2, none⟩) n d,_,_,_,.int .i64 (k : Int),_,_,_,_,_,_,_,_,_,_,_,_,.slice (some ⟨b1, o1, none⟩) n c,.int .i64 (k : Int),.pointer (some ⟨b1, o1 + k * 18, none⟩),.pointer (some ⟨b1, o1 + k * 18 + 1, none⟩),.agg (FC x.o.f (.slice x.a x.n x.c)),_,_,_,_,_,_,_,_,_,_,_,_,_,_,_,_,_,_,_,_,_], []⟩ _
      refine wpAnyH_take (i := 5) (v := .slice (some ⟨b2, o2, none⟩) n d) rfl (by kernel_rfl) (by kernel_rfl) (by kernel_rfl) (fun _ _ _ h => h) (Or.inl ⟨by rfl, ?_⟩) hHeld ?_
      · intro W hW; (try dsimp only at hW); go_simp
      change wpAnyH _ _ _ _ _ _ _ ⟨#[.slice (some ⟨b1, o1, none⟩) n c,.slice (some ⟨b2, o2, none⟩) n d,_,_,_,.int .i64 (k : Int),_,_,_,_,_,_,_,_,_,_,_,_,.slice (some ⟨b1, o1, none⟩) n c,.int .i64 (k : Int),.pointer (some ⟨b1, o1 + k * 18, none⟩),.pointer (some ⟨b1, o1 + k * 18 + 1, none⟩),.agg (FC x.o.f (.slice x.a x.n x.c)),.slice (some ⟨b2, o2, none⟩) n d,_,_,_,_,_,_,_,_,_,_,_,_,_,_,_,_,_,_,_,_], []⟩ _
      refine wpAnyH_take (i := 6) (v := .int .i64 (k : Int)) rfl (by kernel_rfl) (by kernel_rfl) (by kernel_rfl) (fun _ _ _ h => h) (Or.inl ⟨by rfl, ?_⟩) hHeld ?_
      · intro W hW; (try dsimp only at hW); go_simp
      change wpAnyH _ _ _ _ _ _ _ ⟨#[.slice (some ⟨b1, o1, none⟩) n c,.slice (some ⟨b2, o2, none⟩) n d,_,_,_,.int .i64 (k : Int),_,_,_,_,_,_,_,_,_,_,_,_,.slice (some ⟨b1, o1, none⟩) n c,.int .i64 (k : Int),.pointer (some ⟨b1, o1 + k * 18, none⟩),.pointer (some ⟨b1, o1 + k * 18 + 1, none⟩),.agg (FC x.o.f (.slice x.a x.n x.c)),.slice (some ⟨b2, o2, none⟩) n d,.int .i64 (k : Int),_,_,_,_,_,_,_,_,_,_,_,_,_,_,_,_,_,_,_], []⟩ _
      refine wpAnyH_take (i := 7) (v := .pointer (some ⟨b2, o2 + k * 18, none⟩)) rfl (by kernel_rfl) (by kernel_rfl) (by kernel_rfl) (fun _ _ _ h => h) (Or.inl ⟨by rfl, ?_⟩) hHeld ?_
      · intro W hW; (try dsimp only at hW); clear hW; go_simp
      change wpAnyH _ _ _ _ _ _ _ ⟨#[.slice (some ⟨b1, o1, none⟩) n c,.slice (some ⟨b2, o2, none⟩) n d,_,_,_,.int .i64 (k : Int),_,_,_,_,_,_,_,_,_,_,_,_,.slice (some ⟨b1, o1, none⟩) n c,.int .i64 (k : Int),.pointer (some ⟨b1, o1 + k * 18, none⟩),.pointer (some ⟨b1, o1 + k * 18 + 1, none⟩),.agg (FC x.o.f (.slice x.a x.n x.c)),.slice (some ⟨b2, o2, none⟩) n d,.int .i64 (k : Int),.pointer (some ⟨b2, o2 + k * 18, none⟩),_,_,_,_,_,_,_,_,_,_,_,_,_,_,_,_,_,_], []⟩ _
      refine wpAnyH_take (i := 8) (v := .pointer (some ⟨b2, o2 + k * 18 + 1, none⟩)) rfl (by kernel_rfl) (by kernel_rfl) (by kernel_rfl) (fun _ _ _ h => h) (Or.inl ⟨by rfl, ?_⟩) hHeld ?_
      · intro W hW; (try dsimp only at hW); clear hW; go_simp
      change wpAnyH _ _ _ _ _ _ _ ⟨#[.slice (some ⟨b1, o1, none⟩) n c,.slice (some ⟨b2, o2, none⟩) n d,_,_,_,.int .i64 (k : Int),_,_,_,_,_,_,_,_,_,_,_,_,.slice (some ⟨b1, o1, none⟩) n c,.int .i64 (k : Int),.pointer (some ⟨b1, o1 + k * 18, none⟩),.pointer (some ⟨b1, o1 + k * 18 + 1, none⟩),.agg (FC x.o.f (.slice x.a x.n x.c)),.slice (some ⟨b2, o2, none⟩) n d,.int .i64 (k : Int),.pointer (some ⟨b2, o2 + k * 18, none⟩),.pointer (some ⟨b2, o2 + k * 18 + 1, none⟩),_,_,_,_,_,_,_,_,_,_,_,_,_,_,_,_,_], []⟩ _
      refine wpAnyH_take (i := 9) (v := .agg (FC y.o.f (.slice y.a y.n y.c))) rfl (by kernel_rfl) (by kernel_rfl) (by kernel_rfl) (fun _ _ _ h => h) (yieldsIf_load_mid (by rfl) 38 (.tmp 26) rfl b2 (o2 + k * 18 + 1) rfl (fcl y.o.f (.slice y.a y.n y.c)) _ (fun W hW => ocl_frame hW.2) Tryz.underlying38 rfl Tryz.size38) hHeld ?_
      change wpAnyH _ _ _ _ _ _ _ ⟨#[.slice (some ⟨b1, o1, none⟩) n c,.slice (some ⟨b2, o2, none⟩) n d,_,_,_,.int .i64 (k : Int),_,_,_,_,_,_,_,_,_,_,_,_,.slice (some ⟨b1, o1, none⟩) n c,.int .i64 (k : Int),.pointer (some ⟨b1, o1 + k * 18, none⟩),.pointer (some ⟨b1, o1 + k * 18 + 1, none⟩),.agg (FC x.o.f (.slice x.a x.n x.c)),.slice (some ⟨b2, o2, none⟩) n d,.int .i64 (k : Int),.pointer (some ⟨b2, o2 + k * 18, none⟩),.pointer (some ⟨b2, o2 + k * 18 + 1, none⟩),.agg (FC y.o.f (.slice y.a y.n y.c)),_,_,_,_,_,_,_,_,_,_,_,_,_,_,_,_], []⟩ _
      refine wpAnyH_ready (rs := [10]) (by kernel_rfl) (by simp) ?_
      refine AllReadyH.cons rfl (fun K hK => ?_) AllReadyH.nil
      go_simp
      refine (same21g x.o.f y.o.f x.a y.a x.n x.c y.n y.c u0 Y1.out Y2.out).mono ?_
      rintro e u1 ⟨z, rfl, hz, bb⟩
      have HZ := hide hz
      replace HB := hide (belowOn HB.out bb)
      refine hK.out _ _ ⟨range_on hHeld.1 bb, range_on hHeld.2 bb⟩ (fun hHeld => ?_)
      clear hK K Y1 Y2 hz
      change wpAnyH _ _ _ _ _ _ _ ⟨#[.slice (some ⟨b1, o1, none⟩) n c,.slice (some ⟨b2, o2, none⟩) n d,_,_,_,.int .i64 (k : Int),_,_,_,_,_,_,_,_,_,_,_,_,.slice (some ⟨b1, o1, none⟩) n c,.int .i64 (k : Int),.pointer (some ⟨b1, o1 + k * 18, none⟩),.pointer (some ⟨b1, o1 + k * 18 + 1, none⟩),.agg (FC x.o.f (.slice x.a x.n x.c)),.slice (some ⟨b2, o2, none⟩) n d,.int .i64 (k : Int),.pointer (some ⟨b2, o2 + k * 18, none⟩),.pointer (some ⟨b2, o2 + k * 18 + 1, none⟩),.agg (FC y.o.f (.slice y.a y.n y.c)),.bool z,_,_,_,_,_,_,_,_,_,_,_,_,_,_,_], []⟩ _
      refine wpAnyH_take (i := 11) (v := .bool z) rfl (by kernel_rfl) (by kernel_rfl) (by kernel_rfl) (fun _ _ _ h => h) (Or.inl ⟨by rfl, ?_⟩) hHeld ?_
      · intro W hW; (try dsimp only at hW); go_simp
      change wpAnyH _ _ _ _ _ _ _ ⟨#[.slice (some ⟨b1, o1, none⟩) n c,.slice (some ⟨b2, o2, none⟩) n d,_,_,_,.int .i64 (k : Int),.bool z,_,_,_,_,_,_,_,_,_,_,_,.slice (some ⟨b1, o1, none⟩) n c,.int .i64 (k : Int),.pointer (some ⟨b1, o1 + k * 18, none⟩),.pointer (some ⟨b1, o1 + k * 18 + 1, none⟩),.agg (FC x.o.f (.slice x.a x.n x.c)),.slice (some ⟨b2, o2, none⟩) n d,.int .i64 (k : Int),.pointer (some ⟨b2, o2 + k * 18, none⟩),.pointer (some ⟨b2, o2 + k * 18 + 1, none⟩),.agg (FC y.o.f (.slice y.a y.n y.c)),.bool z,_,_,_,_,_,_,_,_,_,_,_,_,_,_,_], []⟩ _
      refine wpAnyH_done (by kernel_rfl) ?_ _
      have p1 := ocl_port hHeld.1
      have p2 := ocl_port hHeld.2
      have BD : Below u1.heap.size u1 u1.drew := ⟨rfl, rfl, rfl, Nat.le_refl _, fun _ _ => rfl⟩
      replace HB := hide (belowOn HB.out BD)
      clear BD hHeld bb
      obtain ⟨qp, hqp⟩ : ∃ q, (x.o.p != y.o.p) = q := ⟨_, rfl⟩
      have HQP := hide hqp
      cases qp
      · cases z
        · go_wp2_with fail
          go_region
          go_wp2
          go_ret
          exact ⟨false, rfl, fun h => (HZ.out (congrArg Ot.f (HXY.out h))), HB.out⟩
        · go_wp2_with fail
          go_region
          go_wp2
          go_roundg (n - (k + 1))
          case measure => rw [HRK.out]; omega
          case rel => exact ⟨k + 1, by omega, rfl, by go_num, HB.out⟩
      · go_wp2_with fail
        go_region
        go_wp2
        go_ret
        exact ⟨false, rfl, fun h => absurd HQP.out (by rw [HXY.out h]; simp), HB.out⟩
    · obtain rfl : k = n := by omega
      have hq2 : ¬ (k : Int) < (k : Int) := by omega
      clear hc
      go_wp2
      go_ret
      exact Or.inr ⟨rfl, HB.out⟩
set_option maxRecDepth 100000 in
set_option maxHeartbeats 2000000 in
theorem sameRg (C v t C' v' t' : Int) (ao bo : Option Addr) (n c m d : Nat) (xs ys : List Ow) (w : World) (X : Ots w ao n c xs) (Y : Ots w bo m d ys) :
    Calls Tryz.prog 32 #[.agg #[.int .i64 C, .int .i64 v, .int .i64 t, .slice ao n c], .agg #[.int .i64 C', .int .i64 v', .int .i64 t', .slice bo m d]] w fun e w' => ∃ z, e = .returned (.bool z) ∧ (C = C' → v = v' → t = t' → xs.map Ow.o = ys.map Ow.o → z = true) ∧ Below w.heap.size w w' := by
  have b0 := below_alloc w (.cells #[.int .i64 C, .int .i64 v, .int .i64 t, .slice ao n c] 50)
  have b1 := below_alloc (w.alloc (.cells #[.int .i64 C, .int .i64 v, .int .i64 t, .slice ao n c] 50)) (.cells #[.int .i64 C', .int .i64 v', .int .i64 t', .slice bo m d] 50)
  have HB := hide (belowOn b0 b1)
  have X1 := hide ((Box.new w (wcl C v t (.slice ao n c)) 50).on b1)
  have Y1 := Box.new (w.alloc (.cells #[.int .i64 C, .int .i64 v, .int .i64 t, .slice ao n c] 50)) (wcl C' v' t' (.slice bo m d)) 50
  rw [World.size_alloc] at Y1
  have HX := hide (X.on HB.out)
  have HY := hide (Y.on HB.out)
  have HY1 := hide Y1
  clear b0 b1 X Y Y1
  go_enter Tryz.func32, Tryz.ntmps32
  go_wp2_with fail
  refine (sameOutsRg ao bo n c m d xs ys _ HX.out HY.out).mono ?_
  rintro e z1 ⟨z, rfl, hz, bb⟩
  have HZ := hide hz
  have HB2 := hide (belowOn HB.out bb)
  have X2 := X1.out.on bb
  have Y2 := HY1.out.on bb
  have x0 := X2.cell 0 _ rfl
  have x1 := X2.cell 1 _ rfl
  have x2 := X2.cell 2 _ rfl
  have y0 := Y2.cell 0 _ rfl
  have y1 := Y2.cell 1 _ rfl
  have y2 := Y2.cell 2 _ rfl
  clear bb X1 HY1 X2 Y2 HB HX HY hz
  obtain ⟨q1, k1⟩ : ∃ q, (C == C') = q := ⟨_, rfl⟩
  obtain ⟨q2, k2⟩ : ∃ q, (v == v') = q := ⟨_, rfl⟩
  obtain ⟨q3, k3⟩ : ∃ q, (t == t') = q := ⟨_, rfl⟩
  have HK1 := hide k1
  have HK2 := hide k2
  have HK3 := hide k3
  cases q1
  · go_wp2
    go_ret
    exact ⟨false, rfl, fun h _ _ _ => absurd h (by simpa using HK1.out), HB2.out⟩
  cases q2
  · go_wp2
    go_ret
    exact ⟨false, rfl, fun _ h _ _ => absurd h (by simpa using HK2.out), HB2.out⟩
  cases q3
  · go_wp2
    go_ret
    exact ⟨false, rfl, fun _ _ h _ => absurd h (by simpa using HK3.out), HB2.out⟩
  go_wp2
  go_ret
  exact ⟨z, rfl, fun _ _ _ h => HZ.out h, HB2.out⟩
end Go.Proofs.YtgpdjfaklcmoiaaGreat
