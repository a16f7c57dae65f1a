/- The library's SortFunc of entries: the shelf's contract, laid at this program. · Contracts of Compare, Or and the closure that orders entries, in worlds that only grow; the library's SortFunc. · The library's SortFunc at entries: a permutation, in order. · Contract of those. -/
import Derived.Shelf.SlSortCmp.WholeK
import Derived.Test.YtgpdjfaklcmoiaaGreatM03
import Derived.Test.YtgpdjfaklcmoiaaGreatM05
import Derived.Test.YtgpdjfaklcmoiaaGreatM04
import Derived.Shelf.SlSortCmp.NoneTotal
/- The library's SortFunc of entries: the shelf's contract, laid at this program. -/
namespace Go.Proofs.YtgpdjfaklcmoiaaGreat
open Go.Shelf
def Tryz.sortE_ren : Go.Shelf.Ren := ⟨fun | 6 => 86 | 15 => 111 | 14 => 110 | 28 => 126 | 29 => 127 | 20 => 118 | 21 => 119 | 22 => 120 | 23 => 121 | 24 => 122 | 25 => 123 | 26 => 124 | 27 => 125 | 46 => 129 | 47 => 130 | 48 => 131 | 49 => 132 | 50 => 133 | 57 => 134 | n => n, fun | 22 => 69 | 24 => 61 | 25 => 136 | 3 => 3 | 39 => 146 | 0 => 0 | 53 => 160 | 55 => 144 | 4 => 4 | 46 => 153 | 45 => 152 | 50 => 157 | 5 => 5 | 9 => 9 | 66 => 162 | 70 => 166 | 76 => 168 | 77 => 126 | n => n, fun | n => n⟩
theorem Tryz.sortE : Go.Proofs.SlLaysF0.n6 Tryz.prog Tryz.sortE_ren := {
  mixed := by kernel_rfl
  f6 := ⟨Tryz.f86.name, by decide, Tryz.func86.trans (congrArg some (by kernel_rfl))⟩
  f14 := ⟨Tryz.f110.name, by decide, Tryz.func110.trans (congrArg some (by kernel_rfl))⟩
  f15 := Tryz.func111.trans (congrArg some (by kernel_rfl))
  f20 := ⟨Tryz.f118.name, by decide, Tryz.func118.trans (congrArg some (by kernel_rfl))⟩
  f21 := ⟨Tryz.f119.name, by decide, Tryz.func119.trans (congrArg some (by kernel_rfl))⟩
  f22 := ⟨Tryz.f120.name, by decide, Tryz.func120.trans (congrArg some (by kernel_rfl))⟩
  f23 := ⟨Tryz.f121.name, by decide, Tryz.func121.trans (congrArg some (by kernel_rfl))⟩
  f24 := ⟨Tryz.f122.name, by decide, Tryz.func122.trans (congrArg some (by kernel_rfl))⟩
  f25 := ⟨Tryz.f123.name, by decide, Tryz.func123.trans (congrArg some (by kernel_rfl))⟩
  f26 := ⟨Tryz.f124.name, by decide, Tryz.func124.trans (congrArg some (by kernel_rfl))⟩
  f27 := ⟨Tryz.f125.name, by decide, Tryz.func125.trans (congrArg some (by kernel_rfl))⟩
  f28 := Tryz.func126.trans (congrArg some (by kernel_rfl))
  f29 := Tryz.func127.trans (congrArg some (by kernel_rfl))
  f46 := ⟨Tryz.f129.name, by decide, Tryz.func129.trans (congrArg some (by kernel_rfl))⟩
  f47 := Tryz.func130.trans (congrArg some (by kernel_rfl))
  f48 := Tryz.func131.trans (congrArg some (by kernel_rfl))
  f49 := ⟨Tryz.f132.name, by decide, Tryz.func132.trans (congrArg some (by kernel_rfl))⟩
  f50 := ⟨Tryz.f133.name, by decide, Tryz.func133.trans (congrArg some (by kernel_rfl))⟩
  f57 := ⟨Tryz.f134.name, by decide, Tryz.func134.trans (congrArg some (by kernel_rfl))⟩
  t0 := Tryz.underlying0
  a0 := Tryz.isAgg0
  z0 := Tryz.sizeOf0
  v0 := Tryz.zeroValue0
  t3 := Tryz.underlying3
  a3 := Tryz.isAgg3
  z3 := Tryz.sizeOf3
  v3 := Tryz.zeroValue3
  t4 := Tryz.underlying4
  a4 := Tryz.isAgg4
  z4 := Tryz.sizeOf4
  v4 := Tryz.zeroValue4
  t5 := Tryz.underlying5
  a5 := Tryz.isAgg5
  z5 := Tryz.sizeOf5
  v5 := Tryz.zeroValue5
  t9 := Tryz.underlying9
  a9 := Tryz.isAgg9
  z9 := Tryz.sizeOf9
  v9 := Tryz.zeroValue9
  t22 := Tryz.underlying69
  a22 := Tryz.isAgg69
  z22 := Tryz.sizeOf69
  v22 := Tryz.zeroValue69
  t25 := Tryz.underlying136
  a25 := Tryz.isAgg136
  z25 := Tryz.sizeOf136
  v25 := Tryz.zeroValue136
  t39 := Tryz.underlying146
  a39 := Tryz.isAgg146
  z39 := Tryz.sizeOf146
  v39 := Tryz.zeroValue146
  t45 := Tryz.underlying152
  a45 := Tryz.isAgg152
  z45 := Tryz.sizeOf152
  v45 := Tryz.zeroValue152
  t46 := Tryz.underlying153
  a46 := Tryz.isAgg153
  z46 := Tryz.sizeOf153
  v46 := Tryz.zeroValue153
  t50 := Tryz.underlying157
  a50 := Tryz.isAgg157
  z50 := Tryz.sizeOf157
  v50 := Tryz.zeroValue157
  t53 := Tryz.underlying160
  a53 := Tryz.isAgg160
  z53 := Tryz.sizeOf160
  v53 := Tryz.zeroValue160
  t55 := Tryz.underlying144
  a55 := Tryz.isAgg144
  z55 := Tryz.sizeOf144
  v55 := Tryz.zeroValue144
  t66 := Tryz.underlying162
  a66 := Tryz.isAgg162
  z66 := Tryz.sizeOf162
  v66 := Tryz.zeroValue162
  t70 := Tryz.underlying166
  a70 := Tryz.isAgg166
  z70 := Tryz.sizeOf166
  v70 := Tryz.zeroValue166
  t76 := Tryz.underlying168
  a76 := Tryz.isAgg168
  z76 := Tryz.sizeOf168
  v76 := Tryz.zeroValue168
  t77 := Tryz.underlying126
  a77 := Tryz.isAgg126
  z77 := Tryz.sizeOf126
  v77 := Tryz.zeroValue126 }
end Go.Proofs.YtgpdjfaklcmoiaaGreat
/- Contracts of Compare, Or and the closure that orders entries, in worlds that only grow; the library's SortFunc. -/
namespace Go.Proofs.YtgpdjfaklcmoiaaGreat
open Go.Shelf Go.RowKit Go.Lib Go.Sort Go.PlainAid

/-- Nothing but draws and new blocks. -/
def Grw (w w' : World) : Prop := ∃ q os, w' = grow (w.drewN q) os
theorem grow_nil (w : World) : grow w #[] = w := by simp [grow]
theorem Grw.refl (w : World) : Grw w w := ⟨0, #[], by simp [grow, World.drewN]⟩
theorem Grw.trans {w w1 w2 : World} (h : Grw w w1) (k : Grw w1 w2) : Grw w w2 := by
  obtain ⟨q, os, rfl⟩ := h
  obtain ⟨q2, os2, rfl⟩ := k
  refine ⟨q + q2, os ++ os2, ?_⟩
  rw [← grow_grow]
  simp [grow, World.drewN, Nat.add_assoc]
theorem Grw.alloc {w w1 : World} (h : Grw w w1) (o : Obj) : Grw w (w1.alloc o) := h.trans ⟨0, #[o], by rw [alloc_eq_grow]; rfl⟩
theorem Grw.drew {w w1 : World} (h : Grw w w1) : Grw w w1.drew := h.trans ⟨1, #[], (grow_nil _).symm⟩
theorem Grw.drewN {w w1 : World} (h : Grw w w1) (n : Nat) : Grw w (w1.drewN n) := h.trans ⟨n, #[], (grow_nil _).symm⟩
theorem Grw.below {w w1 : World} (h : Grw w w1) : Below w.heap.size w w1 := by
  obtain ⟨q, os, rfl⟩ := h
  refine ⟨rfl, rfl, rfl, by simp [World.drewN], fun k hk => ?_⟩
  show (w.heap ++ os)[k]? = w.heap[k]?
  rw [Array.getElem?_append_left hk]
section
attribute [local go_sem] MC0 MC1 MC2 MC3 MC4 MC5
set_option maxRecDepth 100000 in
set_option maxHeartbeats 400000 in
theorem num59g (m : Mc) (w : World) (h : Mok m) : Calls Tryz.prog 106 #[.agg (MC m)] w fun e w' => e = .returned (.int .u64 (num m)) ∧ Grw w w' := by
  go_enter Tryz.func106, Tryz.ntmps106
  go_wp2
  go_rounds 7
  go_ret
  exact ⟨ret_int (or_num h), (Grw.refl w).alloc _⟩
set_option maxRecDepth 100000 in
set_option maxHeartbeats 1000000 in
theorem compare52g (x y : Mc) (w : World) (h : Mok x) (k : Mok y) :
    Calls Tryz.prog 90 #[.agg (MC x), .agg (MC y)] w fun e w' => e = .returned (.int .i64 (cmp3 (num x) (num y))) ∧ Grw w w' := by
  have he := eqMac x y
  have h6 := eqM_num h k
  have W0 : Hid (Grw w ((w.alloc (.cells (MC x) 35)).alloc (.cells (MC y) 35))) := hide (((Grw.refl w).alloc _).alloc _)
  by_cases hx : num x = num y
  · have ht : eqM x y = true := by rw [h6]; simp [hx]
    have hr : cmp3 (num x) (num y) = 0 := by simp [cmp3, hx]
    rw [hr]
    clear h6 hx hr
    obtain ⟨A, B⟩ := box_m2 w x y
    have A0 := A.at_
    have B0 := B.at_
    clear A B
    have tk1 : True := trivial
    have tk2 : True := trivial
    go_enter Tryz.func90, Tryz.ntmps90
    go_wp2_with (first | (have _t := tk1; refine wpl_mac (.tmp 2) rfl A0 ?_ ?_ ?_; rfl; rfl; clear tk1) | (have _t := tk2; refine wpl_mac (.tmp 3) rfl B0 ?_ ?_ ?_; rfl; rfl; clear tk2))
    go_ret
    exact ⟨rfl, W0.out⟩
  · have ht : eqM x y = false := by rw [h6]; simp [hx]
    clear h6
    have HX : Hid (¬ num x = num y) := hide hx
    clear hx
    obtain ⟨A, B⟩ := box_m2 w x y
    have A0 := A.at_
    have B0 := B.at_
    have HA := hide (mc_cells A)
    have HB := hide (mc_cells B)
    clear A B
    have hz : w.heap.size < w.heap.size + 1 + 1 := by omega
    have tk1 : True := trivial
    have tk2 : True := trivial
    go_enter Tryz.func90, Tryz.ntmps90
    go_wp2_with (first | (have _t := tk1; refine wpl_mac (.tmp 2) rfl A0 ?_ ?_ ?_; rfl; rfl; clear tk1) | (have _t := tk2; refine wpl_mac (.tmp 3) rfl B0 ?_ ?_ ?_; rfl; rfl; clear tk2))
    clear A0 B0
    obtain ⟨c0, c1, c2, c3, c4, c5⟩ := HA.out
    obtain ⟨d0, d1, d2, d3, d4, d5⟩ := HB.out
    go_region_held3 (fun w' => w'.cell? ⟨w.heap.size, 0, none⟩ = some (.int .u8 x.a) ∧ w'.cell? ⟨w.heap.size, 1, none⟩ = some (.int .u8 x.b) ∧ w'.cell? ⟨w.heap.size, 2, none⟩ = some (.int .u8 x.c) ∧ w'.cell? ⟨w.heap.size, 3, none⟩ = some (.int .u8 x.d) ∧ w'.cell? ⟨w.heap.size, 4, none⟩ = some (.int .u8 x.e) ∧ w'.cell? ⟨w.heap.size, 5, none⟩ = some (.int .u8 x.f) ∧ w'.cell? ⟨w.heap.size + 1, 0, none⟩ = some (.int .u8 y.a) ∧ w'.cell? ⟨w.heap.size + 1, 1, none⟩ = some (.int .u8 y.b) ∧ w'.cell? ⟨w.heap.size + 1, 2, none⟩ = some (.int .u8 y.c) ∧ w'.cell? ⟨w.heap.size + 1, 3, none⟩ = some (.int .u8 y.d) ∧ w'.cell? ⟨w.heap.size + 1, 4, none⟩ = some (.int .u8 y.e) ∧ w'.cell? ⟨w.heap.size + 1, 5, none⟩ = some (.int .u8 y.f)) (go_keep)
      (first | (go_at_call_of 106 x.a; refine (num59g x _ h).mono ?_; rintro e w1 ⟨rfl, hg⟩; have hb := hg.below; obtain ⟨hc, hf⟩ := bcell hb; have hz1 : w.heap.size + 1 < w1.heap.size := (by have := hb.size; simp at this; omega); have hz0 : w.heap.size < w1.heap.size := (by omega); have HG1 := hide hg) | (go_at_call_of 106 y.a; refine (num59g y _ k).mono ?_; rintro e w2 ⟨rfl, hg2⟩; have hd := hg2.below; obtain ⟨hc2, hf2⟩ := bcell hd; have HG2 := hide hg2))
    have hB : Hid (Grw w w2) := hide ((W0.out.drew.trans HG1.out).trans HG2.out)
    clear hc hf hb hd hc2 hf2
    go_wp2
    · go_ret
      exact ⟨ret_int (cmp3_lt (by assumption)).symm, hB.out⟩
    · go_ret
      have hx := HX.out
      exact ⟨ret_int (cmp3_gt (by omega)).symm, hB.out⟩
end
set_option maxRecDepth 100000 in
set_option maxHeartbeats 1000000 in
theorem or50 (b : Nat) (x y : Int) (w : World) (c0 : w.cell? ⟨b, 0, none⟩ = some (.int .i64 x)) (c1 : w.cell? ⟨b, 1, none⟩ = some (.int .i64 y)) :
    Calls Tryz.prog 88 #[.slice (some ⟨b, 0, none⟩) 2 2] w fun e w' => e = .returned (.int .i64 (if x = 0 then y else x)) ∧ w' = w := by
  by_cases hx : x = 0
  · subst hx
    rw [if_pos rfl]
    by_cases hy : y = 0
    · subst hy
      go_enter Tryz.func88, Tryz.ntmps88
      go_wp2
      go_rounds 3
      go_ret
      exact ⟨rfl, rfl⟩
    · have hy2 : (y != 0) = true := by simp [hy]
      go_enter Tryz.func88, Tryz.ntmps88
      go_wp2
      go_rounds 3
      go_ret
      exact ⟨rfl, rfl⟩
  · have hx2 : (x != 0) = true := by simp [hx]
    rw [if_neg hx]
    go_enter Tryz.func88, Tryz.ntmps88
    go_wp2
    go_rounds 3
    go_ret
    exact ⟨rfl, rfl⟩
/-- How the closure orders two entries. -/
def cfE (x y : En) : Int := if cmp3 x.v y.v = 0 then cmp3 (num x.m) (num y.m) else cmp3 x.v y.v
theorem box_e2 (w : World) (x y : En) : Box ((w.alloc (.cells (EC x) 61)).alloc (.cells (EC y) 61)) w.heap.size (ecl x) ∧ Box ((w.alloc (.cells (EC x) 61)).alloc (.cells (EC y) 61)) (w.heap.size + 1) (ecl y) := box_two w (ecl x) (ecl y) 61
set_option maxRecDepth 100000 in
set_option maxHeartbeats 2000000 in
theorem order49 (x y : En) (w : World) (hx : Mok x.m) (hy : Mok y.m) :
    Calls Tryz.prog 87 #[.agg (EC x), .agg (EC y)] w fun e w' => e = .returned (.int .i64 (cfE x y)) ∧ Grw w w' := by
  have W0 : Hid (Grw w ((w.alloc (.cells (EC x) 61)).alloc (.cells (EC y) 61))) := hide (((Grw.refl w).alloc _).alloc _)
  obtain ⟨A, B⟩ := box_e2 w x y
  have HA := hide A
  have HB := hide B
  have HX := hide hx
  have HY := hide hy
  clear A B hx hy
  go_enter Tryz.func87, Tryz.ntmps87
  go_wp2_with fail
  generalize (w.alloc (.cells (EC x) 61)).alloc (.cells (EC y) 61) = W1 at *
  generalize w.heap.size = k0 at *
  obtain ⟨k1, hk1⟩ : ∃ k1, k1 = k0 + 1 := ⟨_, rfl⟩
  rw [← hk1] at HB ⊢
  clear hk1
  refine wp_region_held_drew (S := fun w' => Box w' k0 (ecl x) ∧ Box w' k1 (ecl y)) (by kernel_rfl) ⟨HA.out.drew, HB.out.drew⟩ (fun hHeld => ?_)
  replace W0 := hide W0.out.drew
  clear HA HB
  generalize W1.drew = u0 at *
  refine wpAnyH_take (i := 0) (v := .pointer (some ⟨k0, 0, none⟩)) rfl (by kernel_rfl) (by kernel_rfl) (by kernel_rfl) (fun _ _ _ h => h) (Or.inl ⟨by rfl, ?_⟩) hHeld ?_
  · intro W hW; (try dsimp only at hW); go_simp
  change wpAnyH _ _ _ _ _ _ _ ⟨#[_, _, .pointer (some ⟨k0, 0, none⟩), .pointer (some ⟨k1, 0, none⟩), _, .pointer (some ⟨k0, 0, none⟩), _, _, _, _, _, _, _, _, _, _, _], []⟩ _
  refine wpAnyH_take (i := 1) (v := .int .i64 x.v) rfl (by kernel_rfl) (by kernel_rfl) (by kernel_rfl) (fun _ _ _ h => h) (Or.inl ⟨by rfl, ?_⟩) hHeld ?_
  · intro W hW; (try dsimp only at hW); have hc := hW.1.cell 0 _ rfl; clear hW; go_simp
  change wpAnyH _ _ _ _ _ _ _ ⟨#[_, _, .pointer (some ⟨k0, 0, none⟩), .pointer (some ⟨k1, 0, none⟩), _, .pointer (some ⟨k0, 0, none⟩), .int .i64 x.v, _, _, _, _, _, _, _, _, _, _], []⟩ _
  refine wpAnyH_take (i := 2) (v := .pointer (some ⟨k1, 0, none⟩)) rfl (by kernel_rfl) (by kernel_rfl) (by kernel_rfl) (fun _ _ _ h => h) (Or.inl ⟨by rfl, ?_⟩) hHeld ?_
  · intro W hW; (try dsimp only at hW); go_simp
  change wpAnyH _ _ _ _ _ _ _ ⟨#[_, _, .pointer (some ⟨k0, 0, none⟩), .pointer (some ⟨k1, 0, none⟩), _, .pointer (some ⟨k0, 0, none⟩), .int .i64 x.v, .pointer (some ⟨k1, 0, none⟩), _, _, _, _, _, _, _, _, _], []⟩ _
  refine wpAnyH_take (i := 3) (v := .int .i64 y.v) rfl (by kernel_rfl) (by kernel_rfl) (by kernel_rfl) (fun _ _ _ h => h) (Or.inl ⟨by rfl, ?_⟩) hHeld ?_
  · intro W hW; (try dsimp only at hW); have hc := hW.2.cell 0 _ rfl; clear hW; go_simp
  change wpAnyH _ _ _ _ _ _ _ ⟨#[_, _, .pointer (some ⟨k0, 0, none⟩), .pointer (some ⟨k1, 0, none⟩), _, .pointer (some ⟨k0, 0, none⟩), .int .i64 x.v, .pointer (some ⟨k1, 0, none⟩), .int .i64 y.v, _, _, _, _, _, _, _, _], []⟩ _
  refine wpAnyH_take (i := 5) (v := .pointer (some ⟨k0, 1, none⟩)) rfl (by kernel_rfl) (by kernel_rfl) (by kernel_rfl) (fun _ _ _ h => h) (Or.inl ⟨by rfl, ?_⟩) hHeld ?_
  · intro W hW; (try dsimp only at hW); go_simp
  change wpAnyH _ _ _ _ _ _ _ ⟨#[_, _, .pointer (some ⟨k0, 0, none⟩), .pointer (some ⟨k1, 0, none⟩), _, .pointer (some ⟨k0, 0, none⟩), .int .i64 x.v, .pointer (some ⟨k1, 0, none⟩), .int .i64 y.v, _, .pointer (some ⟨k0, 1, none⟩), _, _, _, _, _, _], []⟩ _
  refine wpAnyH_take (i := 6) (v := .agg (MC x.m)) rfl (by kernel_rfl) (by kernel_rfl) (by kernel_rfl) (fun _ _ _ h => h) (yieldsIf_load_mid (by rfl) 35 (.tmp 10) rfl k0 1 rfl (mcl x.m) _ (fun W hW => mac_of hW.1) Tryz.underlying35 rfl Tryz.size35) hHeld ?_
  change wpAnyH _ _ _ _ _ _ _ ⟨#[_, _, .pointer (some ⟨k0, 0, none⟩), .pointer (some ⟨k1, 0, none⟩), _, .pointer (some ⟨k0, 0, none⟩), .int .i64 x.v, .pointer (some ⟨k1, 0, none⟩), .int .i64 y.v, _, .pointer (some ⟨k0, 1, none⟩), .agg (MC x.m), _, _, _, _, _], []⟩ _
  refine wpAnyH_take (i := 7) (v := .pointer (some ⟨k1, 1, none⟩)) rfl (by kernel_rfl) (by kernel_rfl) (by kernel_rfl) (fun _ _ _ h => h) (Or.inl ⟨by rfl, ?_⟩) hHeld ?_
  · intro W hW; (try dsimp only at hW); go_simp
  change wpAnyH _ _ _ _ _ _ _ ⟨#[_, _, .pointer (some ⟨k0, 0, none⟩), .pointer (some ⟨k1, 0, none⟩), _, .pointer (some ⟨k0, 0, none⟩), .int .i64 x.v, .pointer (some ⟨k1, 0, none⟩), .int .i64 y.v, _, .pointer (some ⟨k0, 1, none⟩), .agg (MC x.m), .pointer (some ⟨k1, 1, none⟩), _, _, _, _], []⟩ _
  refine wpAnyH_take (i := 8) (v := .agg (MC y.m)) rfl (by kernel_rfl) (by kernel_rfl) (by kernel_rfl) (fun _ _ _ h => h) (yieldsIf_load_mid (by rfl) 35 (.tmp 12) rfl k1 1 rfl (mcl y.m) _ (fun W hW => mac_of hW.2) Tryz.underlying35 rfl Tryz.size35) hHeld ?_
  change wpAnyH _ _ _ _ _ _ _ ⟨#[_, _, .pointer (some ⟨k0, 0, none⟩), .pointer (some ⟨k1, 0, none⟩), _, .pointer (some ⟨k0, 0, none⟩), .int .i64 x.v, .pointer (some ⟨k1, 0, none⟩), .int .i64 y.v, _, .pointer (some ⟨k0, 1, none⟩), .agg (MC x.m), .pointer (some ⟨k1, 1, none⟩), .agg (MC y.m), _, _, _], []⟩ _
  refine wpAnyH_ready (rs := [4]) (by kernel_rfl) (by simp) ?_
  refine AllReadyH.cons rfl (fun K hK => ?_) AllReadyH.nil
  go_simp
  refine (cmp51 x.v y.v _).mono ?_
  rintro e u1 ⟨rfl, rfl⟩
  refine hK.out _ _ hHeld (fun hHeld => ?_)
  clear hK K
  change wpAnyH _ _ _ _ _ _ _ ⟨#[_, _, .pointer (some ⟨k0, 0, none⟩), .pointer (some ⟨k1, 0, none⟩), _, .pointer (some ⟨k0, 0, none⟩), .int .i64 x.v, .pointer (some ⟨k1, 0, none⟩), .int .i64 y.v, .int .i64 (cmp3 x.v y.v), .pointer (some ⟨k0, 1, none⟩), .agg (MC x.m), .pointer (some ⟨k1, 1, none⟩), .agg (MC y.m), _, _, _], []⟩ _
  refine wpAnyH_ready (rs := [9]) (by kernel_rfl) (by simp) ?_
  refine AllReadyH.cons rfl (fun K hK => ?_) AllReadyH.nil
  go_simp
  refine (compare52g x.m y.m _ HX.out HY.out).mono ?_
  rintro e u2 ⟨rfl, hg⟩
  replace W0 := hide (W0.out.trans hg)
  refine hK.out _ _ ⟨hHeld.1.on hg.below, hHeld.2.on hg.below⟩ (fun hHeld => ?_)
  clear hK K hg
  change wpAnyH _ _ _ _ _ _ _ ⟨#[_, _, .pointer (some ⟨k0, 0, none⟩), .pointer (some ⟨k1, 0, none⟩), _, .pointer (some ⟨k0, 0, none⟩), .int .i64 x.v, .pointer (some ⟨k1, 0, none⟩), .int .i64 y.v, .int .i64 (cmp3 x.v y.v), .pointer (some ⟨k0, 1, none⟩), .agg (MC x.m), .pointer (some ⟨k1, 1, none⟩), .agg (MC y.m), .int .i64 (cmp3 (num x.m) (num y.m)), _, _], []⟩ _
  refine wpAnyH_ready (rs := [10]) (by kernel_rfl) (by simp) ?_
  refine AllReadyH.cons rfl (fun K hK => ?_) AllReadyH.nil
  go_simp
  have c0 : (u2.alloc (.cells #[.int .i64 (cmp3 x.v y.v), .int .i64 (cmp3 (num x.m) (num y.m))] 3)).cell? ⟨u2.heap.size, 0, none⟩ = some (.int .i64 (cmp3 x.v y.v)) := by rw [World.cell?_alloc_at _ _ _ _ rfl]; rfl
  have c1 : (u2.alloc (.cells #[.int .i64 (cmp3 x.v y.v), .int .i64 (cmp3 (num x.m) (num y.m))] 3)).cell? ⟨u2.heap.size, 1, none⟩ = some (.int .i64 (cmp3 (num x.m) (num y.m))) := by rw [World.cell?_alloc_at _ _ _ _ rfl]; rfl
  replace W0 := hide (W0.out.alloc (.cells #[.int .i64 (cmp3 x.v y.v), .int .i64 (cmp3 (num x.m) (num y.m))] 3))
  refine hK.out _ _ ⟨hHeld.1.alloc _, hHeld.2.alloc _⟩ (fun hHeld => ?_)
  clear hK K
  generalize (u2.alloc (.cells #[.int .i64 (cmp3 x.v y.v), .int .i64 (cmp3 (num x.m) (num y.m))] 3)) = u3 at *
  generalize u2.heap.size = kb at *
  change wpAnyH _ _ _ _ _ _ _ ⟨#[_, _, .pointer (some ⟨k0, 0, none⟩), .pointer (some ⟨k1, 0, none⟩), _, .pointer (some ⟨k0, 0, none⟩), .int .i64 x.v, .pointer (some ⟨k1, 0, none⟩), .int .i64 y.v, .int .i64 (cmp3 x.v y.v), .pointer (some ⟨k0, 1, none⟩), .agg (MC x.m), .pointer (some ⟨k1, 1, none⟩), .agg (MC y.m), .int .i64 (cmp3 (num x.m) (num y.m)), .slice (some ⟨kb, 0, none⟩) 2 2, _], []⟩ _
  refine wpAnyH_ready (rs := [11]) (by kernel_rfl) (by simp) ?_
  refine AllReadyH.cons rfl (fun K hK => ?_) AllReadyH.nil
  go_simp
  refine (or50 kb (cmp3 x.v y.v) (cmp3 (num x.m) (num y.m)) _ c0 c1).mono ?_
  rintro e u4 ⟨rfl, rfl⟩
  refine hK.out _ _ hHeld (fun hHeld => ?_)
  clear hK K
  change wpAnyH _ _ _ _ _ _ _ ⟨#[_, _, .pointer (some ⟨k0, 0, none⟩), .pointer (some ⟨k1, 0, none⟩), _, .pointer (some ⟨k0, 0, none⟩), .int .i64 x.v, .pointer (some ⟨k1, 0, none⟩), .int .i64 y.v, .int .i64 (cmp3 x.v y.v), .pointer (some ⟨k0, 1, none⟩), .agg (MC x.m), .pointer (some ⟨k1, 1, none⟩), .agg (MC y.m), .int .i64 (cmp3 (num x.m) (num y.m)), .slice (some ⟨kb, 0, none⟩) 2 2, .int .i64 (cfE x y)], []⟩ _
  refine wpAnyH_take (i := 12) (v := .int .i64 (cfE x y)) rfl (by kernel_rfl) (by kernel_rfl) (by kernel_rfl) (fun _ _ _ h => h) (Or.inl ⟨by rfl, ?_⟩) hHeld ?_
  · intro W hW; (try dsimp only at hW); go_simp
  change wpAnyH _ _ _ _ _ _ _ ⟨#[_, _, .pointer (some ⟨k0, 0, none⟩), .pointer (some ⟨k1, 0, none⟩), .int .i64 (cfE x y), .pointer (some ⟨k0, 0, none⟩), .int .i64 x.v, .pointer (some ⟨k1, 0, none⟩), .int .i64 y.v, .int .i64 (cmp3 x.v y.v), .pointer (some ⟨k0, 1, none⟩), .agg (MC x.m), .pointer (some ⟨k1, 1, none⟩), .agg (MC y.m), .int .i64 (cmp3 (num x.m) (num y.m)), .slice (some ⟨kb, 0, none⟩) 2 2, .int .i64 (cfE x y)], []⟩ _
  refine wpAnyH_done (by kernel_rfl) ?_ _
  go_wp2
  go_ret
  exact ⟨rfl, W0.out⟩
end Go.Proofs.YtgpdjfaklcmoiaaGreat
/- The library's SortFunc at entries: a permutation, in order. -/
namespace Go.Proofs.YtgpdjfaklcmoiaaGreat
open Go.Shelf Go.RowKit Go.Lib Go.PlainAid

theorem es_at {l : List En} {i c : Nat} {x : En} (h : l[i]? = some x) (hc : c < 10) : (es l)[i * 10 + c]? = (ecl x)[c]? := by
  rw [es_parts h, List.getElem?_append_right (by rw [es_take_len h]; omega), es_take_len h, show i * 10 + c - i * 10 = c by omega, List.getElem?_append_left (by rw [ecl_length]; exact hc)]
theorem get_some {cs : List Value} {c : Nat} (h : c < cs.length) : cs[c]? = some cs[c]! := by
  rw [List.getElem?_eq_getElem h, List.getElem!_eq_getElem?_getD, List.getElem?_eq_getElem h]; rfl
theorem arr_get {α : Type} [Inhabited α] (val : α → En) (d : Array α) {i : Nat} (h : i < d.size) : (d.toList.map val)[i]? = some (val d[i]!) := by
  rw [List.getElem?_map, Array.getElem?_toList, Array.getElem?_eq_getElem h, getElem!_pos d i h]; rfl
theorem holds_of_box {α : Type} [Inhabited α] (val : α → En) (d : Array α) {w : World} {blk : Nat} (h : Box w blk (es (d.toList.map val))) : Go.Sort.HoldsK (fun x => ecl (val x)) 10 w blk 0 d := by
  intro t ht
  rw [Go.Sort.size_flatK] at ht
  have hj : t / 10 < d.size := by omega
  have hc : t % 10 < 10 := by omega
  have hx := arr_get val d hj
  have e : t = t / 10 * 10 + t % 10 := by omega
  rw [Go.Sort.get_flatK _ _ _ _ ht]
  refine ⟨?_, ?_⟩
  · have := h.ent hx (t % 10) _ (get_some (by rw [ecl_length]; exact hc))
    rw [← e] at this
    rw [Nat.zero_add]
    exact this
  · exact (h.th t (by rw [es_length]; simp; omega)).2
theorem box_of_holds {α : Type} [Inhabited α] (val : α → En) (d : Array α) {w : World} {blk : Nat} (hb : blk < w.heap.size) (h : Go.Sort.HoldsK (fun x => ecl (val x)) 10 w blk 0 d) : Box w blk (es (d.toList.map val)) := by
  have key : ∀ j, j < (es (d.toList.map val)).length → w.cell? ⟨blk, 0 + j, none⟩ = (es (d.toList.map val))[j]? ∧ w.frozen? ⟨blk, 0 + j, none⟩ = false := fun j hj => by
    rw [es_length] at hj
    simp at hj
    have hi : j / 10 < d.size := by omega
    have hc : j % 10 < 10 := by omega
    obtain ⟨h1, h2⟩ := h.cell hi hc
    have e : j / 10 * 10 + j % 10 = j := by omega
    rw [Nat.zero_add, e] at h1 h2
    have h3 := es_at (arr_get val d hi) hc
    rw [e] at h3
    rw [Nat.zero_add, h3, get_some (cs := ecl (val d[j / 10]!)) (by rw [ecl_length]; exact hc)]
    exact ⟨h1, h2⟩
  refine ⟨hb, fun j v hj => ?_, fun j hj => ⟨?_, (key j hj).2⟩⟩
  · rw [(key j (List.getElem?_eq_some_iff.1 hj).1).1]; exact hj
  · rw [(key j hj).1]; simp [hj]
theorem grown_sort {α : Type} [Inhabited α] (enc : α → List Value) (k : Nat) (w : World) (blk off n : Nat) (d : Array α) (os : Array Obj) : w.grownBy (sortWorldK enc k w blk off n d os) (some blk) := by
  refine ⟨rfl, rfl, rfl, ?_, fun i hi hne => ?_⟩
  · show w.heap.size ≤ (w.heap.modify blk _ ++ os).size
    simp
  · show (w.heap.modify blk _ ++ os)[i]? = w.heap[i]?
    rw [Array.getElem?_append_left (by simpa using hi), Array.getElem?_modify, if_neg (fun e => hne (by rw [e]))]
theorem cfE_lt {x y : En} (h : Mok x.m) (k : Mok y.m) : decide (cfE x y < 0) = decide (ke x < ke y) := by
  have := num_0 h; have := num_1 h; have := num_0 k; have := num_1 k
  rw [decide_eq_decide]
  unfold cfE ke kn cmp3
  split <;> split <;> omega
theorem mok_list : ∀ l : List En, (∀ x ∈ l, Mok x.m) → ∃ ls : List {x : En // Mok x.m}, ls.map (·.1) = l
  | [], _ => ⟨[], rfl⟩
  | x :: r, h => by
    obtain ⟨ls, e⟩ := mok_list r (fun y hy => h y (by simp [hy]))
    exact ⟨⟨x, h x (by simp)⟩ :: ls, by simp [e]⟩
theorem Tryz.agg61 : ∀ w, (isAgg (Tryz.sortE_ren.t 24)).run Tryz.prog w = .ok true w := Tryz.isAgg61
theorem Tryz.siz61 : ∀ w, (Go.sizeOf (Tryz.sortE_ren.t 24)).run Tryz.prog w = .ok 10 w := Tryz.sizeOf61
theorem sort48 (blk cap : Nat) (l : List En) (w : World) (hl : l.length < 100000) (hB : Box w blk (es l)) (hm : ∀ x ∈ l, Mok x.m) :
    Calls Tryz.prog 86 #[.slice (some ⟨blk, 0, none⟩) l.length cap, .func (.func 87) #[] #[]] w fun e w' => e = .returned (.tuple #[]) ∧ ∃ l', l'.Perm l ∧ l'.Pairwise (fun x y => ke x ≤ ke y) ∧ Box w' blk (es l') ∧ w.grownBy w' (some blk) := by
  obtain ⟨ls, rfl⟩ := mok_list l hm
  haveI : Inhabited {x : En // Mok x.m} := ⟨⟨zE, mok_z⟩⟩
  have eg : ∀ args w, (callFunc 87 args).run Tryz.prog w = .ok (.enter 87 args) w := enters_of Tryz.func87 (by kernel_rfl) rfl
  have hlt : ∀ x y : {x : En // Mok x.m}, ltOf (fun x y : {x : En // Mok x.m} => cfE x.1 y.1) x y = decide (ke x.1 < ke y.1) := fun x y => cfE_lt x.2 y.2
  have hO : Go.Sort.SWO (ltOf (fun x y : {x : En // Mok x.m} => cfE x.1 y.1)) := by
    refine ⟨fun x => ?_, fun x y z h1 h2 => ?_, fun x y z h1 h2 => ?_⟩
    · rw [hlt]; simp
    · rw [hlt] at *; simp at *; omega
    · rw [hlt] at *; simp at *; omega
  have hcmp : CmpLays Tryz.prog 87 #[] (fun x : {x : En // Mok x.m} => ecl x.1) 10 (fun x y => cfE x.1 y.1) blk 0 ls.toArray.size w := fun _ _ _ _ x y => order49 x.1 y.1 _ x.2 y.2
  have hH := holds_of_box (fun x : {x : En // Mok x.m} => x.1) ls.toArray (w := w) (blk := blk) hB
  have hcon := AnyQ.slices_SortFunc Tryz.sortE 10 Tryz.agg61 Tryz.siz61 (fun x : {x : En // Mok x.m} => ecl x.1) (fun _ => rfl) (fun x => one_ecl x.1) (fun x y => cfE x.1 y.1) hO 87 #[] blk 0 cap ls.toArray w eg hcmp hH hB.lt (by simp at hl ⊢; omega)
  have e0 : (ls.map (·.1)).length = ls.toArray.size := by simp
  rw [e0]
  change Calls Tryz.prog 86 _ _ _ at hcon
  refine hcon.mono ?_
  rintro e w' ⟨rfl, d', n, os, hp, fhs, rfl⟩
  refine ⟨rfl, d'.toList.map (·.1), ?_, ?_, ?_, grown_sort _ _ _ _ _ _ _ _⟩
  · have h3 := hp.2.2
    rw [Array.extract_eq_self_of_le (by rw [hp.1]; exact Nat.le_refl _), Array.extract_eq_self_of_le (Nat.le_refl _)] at h3
    exact h3.map _
  · rw [List.pairwise_map, List.pairwise_iff_getElem]
    intro i j hi hj hij
    have h4 := fhs i j (Nat.zero_le _) hij (by simpa [hp.1] using hj)
    rw [hlt] at h4
    simp at h4
    rw [getElem!_pos d' i (by simpa using hi), getElem!_pos d' j (by simpa using hj)] at h4
    simpa using h4
  · refine box_of_holds _ d' (Nat.lt_of_lt_of_le hB.lt (size_sortWorldK_c _ _ _ _ _ _ _ _)) (holdsK_sortWorldK_c _ 10 w blk 0 ls.toArray d' n os hH hB.lt hp.1)
end Go.Proofs.YtgpdjfaklcmoiaaGreat
/- Contract of those. -/
namespace Go.Proofs.YtgpdjfaklcmoiaaGreat
open Go.RowKit Go.PlainAid

set_option maxRecDepth 100000 in
theorem run_bs (e : En) (w : World) : (Instr.buildSlice 69 1 #[(0, .agg (EC e))]).run Tryz.prog w = .ok (.slice (some ⟨w.heap.size, 0, none⟩) 1 1) (w.alloc (.cells (EC e) 61)) := by kernel_rfl
theorem wpl_bs {ops : Array Oper} {rest : List Oper} {o : Oper} {a : Act} {w : World} {Q : Exit → Act → World → Prop} (hgd : o.guard = none) (x : Operand) (e : En) (ho : o.op = .buildSlice 69 1 #[(0, x)]) (hx : a.eval x = .agg (EC e))
    (h : wpList Tryz.prog ops Q rest (a.put o.dst (.slice (some ⟨w.heap.size, 0, none⟩) 1 1)) (w.alloc (.cells (EC e) 61))) : wpList Tryz.prog ops Q (o :: rest) a w := by
  refine wpList_plain hgd fun K hK => ?_
  unfold Oper.wp execOp
  simp only [ho, List.map_toArray, List.map_cons, List.map_nil, hx, run_bs, Sem.run_bind, Sem.run_pure, Result.andThen_ok]
  exact hK _ _ h
theorem up2 {N : Nat} {w0 wr w2 : World} {o : Obj} (hB : Below N w0 wr) (hg : (wr.alloc o).grownBy w2 (some wr.heap.size)) (hN : N ≤ w0.heap.size := by simp) : Below N w0 w2 := by
  have h1 := hB.size
  have h2 : Below N w0 (wr.alloc o) := hB.alloc (by omega) o
  exact below_grown h2 hg (by omega) (by simp; omega)
/-- A function that tells of each entry; S: what it wants of the world. -/
structure Wh (S : World → Prop) (fn : Nat) (cb : Array Value) (f : En → Bool) : Prop where
  run : ∀ (x : En) (w : World), S w → Calls Tryz.prog fn (#[.agg (EC x)] ++ cb) w fun e w' => e = .returned (.bool (f x)) ∧ Below w.heap.size w w'
  on : ∀ (w w' : World), S w → Below w.heap.size w w' → S w'
  grow : ∀ (w w1 w2 : World) (v : Value) (n : Nat) (xs : List Value), S w1 → w1.ownsRow w.heap.size 61 10 v n xs → w1.grownBy w2 v.ownBlock → S w → w.heap.size ≤ w1.heap.size → S w2
set_option maxRecDepth 100000 in
set_option maxHeartbeats 4000000 in
theorem those29a (h : Nat) (ps : List En) (T : FT) (fn : Nat) {S : World → Prop} (f : En → Bool) (w : World) (H : PF w h ps T) (hw : Wh S fn #[] f) (hS : S w) (he : ∀ (args : Array Value) (w : World), (callFunc fn args).run Tryz.prog w = .ok (.enter fn args) w) :
    Calls Tryz.prog 61 #[.pointer (some ⟨h + 1, 0, none⟩), .func (.func fn) #[] #[]] w fun e w' => ∃ ao c, e = .returned (.slice ao (T.l.filter f).length c) ∧ Ets w' w.heap.size ao (T.l.filter f).length c (T.l.filter f) ∧ Below w.heap.size w w' := by
  have n1 := H.wf.n1
  have n2 := H.wf.n2
  have c0 := H.bx.cell 0 _ rfl
  have hlen := H.rp.len
  have HH := hide H
  have HS := hide hS
  have HW := hide hw
  have hlt := H.lt
  clear H hS hw
  go_enter Tryz.func61, Tryz.ntmps61
  go_wp2
  clear c0
  go_loopw [5, 7, 13] (fun lv _ i wr => ∃ k : Nat, k ≤ 2 * T.n ∧ i = .int .i64 k ∧ wr.ownsRow w.heap.size 61 10 lv ((ps.take k).filter (fun x => !fre x && f x)).length (es ((ps.take k).filter (fun x => !fre x && f x))) ∧ S wr ∧ Below w.heap.size w wr) (fun _ _ i _ => 2 * T.n - (intOf i).toNat)
  case atStart => exact ⟨0, Nat.zero_le _, rfl, World.ownsRow_nil _ _ _ _, HS.out, Below.refl _ _⟩
  case round =>
    obtain ⟨k, hk, rfl, O, S1, B1⟩ := hrel
    obtain ⟨ao0, cc0, hlv⟩ := own_form O
    by_cases hkl : k < 2 * T.n
    · have P1 := HH.out.on B1
      obtain ⟨x, hx, A1⟩ := P1.get hkl
      have hk2 : (k : Int) < 2 * (T.n : Int) := by omega
      have e1 : IntKind.i64.wrap ((k : Int) + 1) = (k : Int) + 1 := IntWalk.i64_in _ (by omega)
      have HO := hide O
      have HS1 := hide S1
      have HB1 := hide B1
      have htk : ps.take (k + 1) = ps.take k ++ [x] := by
        obtain ⟨h1, h2⟩ := List.getElem?_eq_some_iff.1 hx
        rw [List.take_add_one, hx]; rfl
      have hF : Hid ((ps.take (k + 1)).filter (fun x => !fre x && f x) = (ps.take k).filter (fun x => !fre x && f x) ++ (if !fre x && f x then [x] else [])) := hide (by
        rw [htk, List.filter_append]
        congr 1
        rw [List.filter_cons]
        split <;> simp_all)
      have hql : Hid (((ps.take k).filter (fun x => !fre x && f x)).length ≤ 2048) := hide (Nat.le_trans (List.length_filter_le _ _) (by rw [List.length_take]; omega))
      clear O S1 B1 P1 htk hx
      subst hlv
      have q2 := fun w => free27 x w
      have q3 := fun w hS => HW.out.run x w hS
      have tk1 : True := trivial
      have tk2 : True := trivial
      have tk3 : True := trivial
      have tk4 : True := trivial
      go_wp2_with (first | (have _t := tk1; refine wpl_ent (.tmp 15) rfl A1 ?_ ?_ ?_; rfl; rfl; clear tk1) | (have _t := tk2; refine wpl_putE x zE (.tmp 7) (.tmp 16) rfl (box_e _ zE) ?_ rfl rfl ?_; rfl; clear tk2))
      intro w2 X2 G2
      have B2 := hide (up2 HB1.out G2)
      have S2 := hide (HW.out.on _ _ HS1.out (up2 (Below.refl _ _) G2))
      have O2 := hide (row_on HO.out (up2 (Below.refl _ _) G2))
      have X3 := X2.at_
      have HX2 := hide X2
      clear G2 X2 HB1 HS1 HO A1
      go_wp2_with (first | (have _t := tk3; refine wpl_ent (.tmp 7) rfl X3 ?_ ?_ ?_; rfl; rfl; clear tk3))
      refine (q2 _).mono ?_
      rintro e w3 ⟨rfl, hb⟩
      have B3 := hide (below_more B2.out hb B2.out.size)
      have S3 := hide (HW.out.on _ _ S2.out hb)
      have O3 := hide (row_on O2.out hb)
      have HX3 := hide (HX2.out.on hb)
      have X4 := HX3.out.at_
      clear hb B2 S2 O2 HX2 X3 q2
      rcases Bool.eq_false_or_eq_true (fre x) with hfr | hfr
      · rw [hfr]
        have hF2 := hF.out
        rw [hfr] at hF2
        simp only [Bool.not_true, Bool.false_and, Bool.false_eq_true, if_false, List.append_nil] at hF2
        have HF2 := hide hF2
        clear hF2 hF
        go_wp2
        go_roundw
        case rel => exact ⟨k + 1, by omega, by go_num, by rw [HF2.out]; exact O3.out, S3.out, B3.out⟩
        case measure => simp [intOf]; omega
      · rw [hfr]
        have hF2 := hF.out
        rw [hfr] at hF2
        simp only [Bool.not_false, Bool.true_and] at hF2
        have HF2 := hide hF2
        clear hF2 hF
        go_wp2_with (first | (have _t := tk4; refine wpl_ent (.tmp 7) rfl X4 ?_ ?_ ?_; rfl; rfl; clear tk4))
        refine (q3 _ S3.out).mono ?_
        rintro e w4 ⟨rfl, hb⟩
        have B4 := hide (below_more B3.out hb B3.out.size)
        have S4 := hide (HW.out.on _ _ S3.out hb)
        have O4 := hide (row_on O3.out hb)
        have HX4 := hide (HX3.out.on hb)
        have X5 := HX4.out.at_
        clear hb B3 S3 O3 HX3 X4 q3
        rcases Bool.eq_false_or_eq_true (f x) with hfx | hfx
        · rw [hfx]
          have hF2 := HF2.out
          rw [hfx, if_pos rfl] at hF2
          have HF3 := hide hF2
          clear hF2 HF2
          have O5 := hide (O4.out.alloc (.cells (EC x) 61))
          have M5 : Hid (Ers (w4.alloc (.cells (EC x) 61)) (some ⟨w4.heap.size, 0, none⟩) 1 1 [x]) := hide ⟨rfl, fun e => (by cases e), fun a e j u hj => by
            obtain rfl := Option.some.inj e
            rw [Addr.add_lit, Nat.zero_add, World.cell?_alloc_at _ _ _ _ rfl]
            have hj' : (ecl x ++ [])[j]? = some u := hj
            rw [List.append_nil] at hj'
            show (ecl x).toArray[j]? = some u
            rw [List.getElem?_toArray]
            exact hj'⟩
          have hs5 : Hid (w.heap.size ≤ (w4.alloc (.cells (EC x) 61)).heap.size) := hide (by have := B4.out.size; simp; omega)
          have tk5 : True := trivial
          have tk6 : True := trivial
          have tk7 : True := trivial
          go_wp2_with (first | (have _t := tk5; refine wpl_ent (.tmp 7) rfl X5 ?_ ?_ ?_; rfl; rfl; clear tk5) | (have _t := tk7; refine wpl_bs rfl (.tmp 26) x rfl rfl ?_; clear tk7) | (have _t := tk6; at_builtin; refine wpl_eapp rfl rfl (.tmp 25) (.tmp 27) rfl w.heap.size _ _ _ rfl O5.out _ 1 1 _ rfl M5.out (by have := hql.out; omega) hs5.out ?_; clear tk6))
          intro v6 w6 O6 G6
          have B6 := hide ((below_more B4.out (below_alloc w4 (.cells (EC x) 61)) B4.out.size).grown G6 hs5.out (fun r hr => (O5.out.lt r hr).1))
          have S6 := hide (HW.out.grow _ _ _ _ _ _ (HW.out.on _ _ S4.out (below_alloc w4 (.cells (EC x) 61))) O5.out G6 HS.out hs5.out)
          have O7 : Hid (w6.ownsRow w.heap.size 61 10 v6 ((ps.take (k + 1)).filter (fun x => !fre x && f x)).length (es ((ps.take (k + 1)).filter (fun x => !fre x && f x)))) := hide (by rw [HF3.out, List.length_append]; exact O6)
          clear O6 G6 O5 M5 B4 S4 O4 HF3
          go_wp2
          go_roundw
          case rel => exact ⟨k + 1, by omega, by go_num, O7.out, S6.out, B6.out⟩
          case measure => simp [intOf]; omega
        · rw [hfx]
          have hF2 := HF2.out
          rw [hfx] at hF2
          simp only [Bool.false_eq_true, if_false, List.append_nil] at hF2
          have HF3 := hide hF2
          clear hF2 HF2
          go_wp2
          go_roundw
          case rel => exact ⟨k + 1, by omega, by go_num, by rw [HF3.out]; exact O4.out, S4.out, B4.out⟩
          case measure => simp [intOf]; omega
    · have hk2 : ¬ (k : Int) < 2 * (T.n : Int) := by omega
      have hall : ps.take k = ps := List.take_of_length_le (by omega)
      rw [hall] at O hlv
      have HO := hide O
      have HB1 := hide B1
      clear S1 B1 hall O
      subst hlv
      have hlq : ((ps.filter (fun x => !fre x && f x)).length : Int) ≤ 2048 := by
        have := List.length_filter_le (fun x => !fre x && f x) ps
        omega
      cases ao0 with
      | none =>
        have hl0 : (ps.filter (fun x => !fre x && f x)).length = 0 ∧ cc0 = 0 := by
          rcases HO.out.2 with ⟨h1, h2⟩ | ⟨b, cap, cur, h1, _⟩
          · injection h1 with _ _ h3
            exact ⟨h2, h3⟩
          · injection h1 with h3
            cases h3
        obtain ⟨hl1, rfl⟩ := hl0
        have hnil : ps.filter (fun x => !fre x && f x) = [] := List.eq_nil_of_length_eq_zero hl1
        have hfn : T.l.filter f = [] := (those_eq HH.out.rp HH.out.wf f (l := []) (by rw [hnil]) List.Pairwise.nil).symm
        have HFN := hide hfn
        rw [hl1]
        clear hl1 hnil hlq hfn
        go_wp2_with (first | (go_at_call 86; refine (AnyF.slices_SortFunc_none Tryz.sortE none 0 (.func (.func 87) #[] #[]) _).mono ?_; rintro e w' ⟨rfl, rfl⟩))
        go_ret
        rw [HFN.out]
        exact ⟨none, 0, rfl, ⟨rfl, fun _ => rfl, fun a e => (by cases e), Nat.le_refl _, Nat.zero_le _⟩, HB1.out⟩
      | some a0 =>
        obtain ⟨b, rfl⟩ : ∃ b, a0 = ⟨b, 0, none⟩ := by
          rcases HO.out.2 with ⟨h1, h2⟩ | ⟨b, cap, cur, h1, _⟩
          · cases h1
          · injection h1 with h3
            exact ⟨b, Option.some.inj h3⟩
        obtain ⟨p1, p2, p3, p4, p5⟩ := box_of_row HO.out (es_length _)
        have HP1 := hide p1
        have HP2 := hide (And.intro p4 p5)
        clear p1 p4 p5
        go_wp2_with fail
        refine (sort48 b cc0 (ps.filter (fun x => !fre x && f x)) _ (by omega) HP1.out (mok_those HH.out.rp HH.out.wf f)).mono ?_
        rintro e w2 ⟨rfl, l', hp, fhs, hb2, G2⟩
        have el := those_eq HH.out.rp HH.out.wf f hp fhs
        have hl2 := hp.length_eq
        rw [el] at hb2 hl2
        have F : Hid (∃ ao c, (.slice (some ⟨b, 0, none⟩) (ps.filter (fun x => !fre x && f x)).length cc0 : Value) = .slice ao (T.l.filter f).length c ∧ Ets w2 w.heap.size ao (T.l.filter f).length c (T.l.filter f)) := hide ⟨_, cc0, by rw [hl2], ⟨rfl, fun e => (by cases e), fun a e => ⟨b, (Option.some.inj e).symm, p2, hb2⟩, by rw [hl2]; exact HP2.out.1, HP2.out.2⟩⟩
        have HB2 := hide (below_grown HB1.out G2 p2 HB1.out.size)
        clear hp fhs hb2 G2 el hl2
        go_wp2
        go_ret
        obtain ⟨ao, c, e1, e2⟩ := F.out
        exact ⟨ao, c, congrArg Ending.returned e1, e2, HB2.out⟩
set_option maxRecDepth 100000 in
set_option maxHeartbeats 4000000 in
theorem those29b (h : Nat) (ps : List En) (T : FT) (fn : Nat) {S : World → Prop} (y : Value) (f : En → Bool) (w : World) (H : PF w h ps T) (hw : Wh S fn #[y] f) (hS : S w) (he : ∀ (args : Array Value) (w : World), (callFunc fn args).run Tryz.prog w = .ok (.enter fn args) w) :
    Calls Tryz.prog 61 #[.pointer (some ⟨h + 1, 0, none⟩), .func (.func fn) #[] #[y]] w fun e w' => ∃ ao c, e = .returned (.slice ao (T.l.filter f).length c) ∧ Ets w' w.heap.size ao (T.l.filter f).length c (T.l.filter f) ∧ Below w.heap.size w w' := by
  have n1 := H.wf.n1
  have n2 := H.wf.n2
  have c0 := H.bx.cell 0 _ rfl
  have hlen := H.rp.len
  have HH := hide H
  have HS := hide hS
  have HW := hide hw
  have hlt := H.lt
  clear H hS hw
  go_enter Tryz.func61, Tryz.ntmps61
  go_wp2
  clear c0
  go_loopw [5, 7, 13] (fun lv _ i wr => ∃ k : Nat, k ≤ 2 * T.n ∧ i = .int .i64 k ∧ wr.ownsRow w.heap.size 61 10 lv ((ps.take k).filter (fun x => !fre x && f x)).length (es ((ps.take k).filter (fun x => !fre x && f x))) ∧ S wr ∧ Below w.heap.size w wr) (fun _ _ i _ => 2 * T.n - (intOf i).toNat)
  case atStart => exact ⟨0, Nat.zero_le _, rfl, World.ownsRow_nil _ _ _ _, HS.out, Below.refl _ _⟩
  case round =>
    obtain ⟨k, hk, rfl, O, S1, B1⟩ := hrel
    obtain ⟨ao0, cc0, hlv⟩ := own_form O
    by_cases hkl : k < 2 * T.n
    · have P1 := HH.out.on B1
      obtain ⟨x, hx, A1⟩ := P1.get hkl
      have hk2 : (k : Int) < 2 * (T.n : Int) := by omega
      have e1 : IntKind.i64.wrap ((k : Int) + 1) = (k : Int) + 1 := IntWalk.i64_in _ (by omega)
      have HO := hide O
      have HS1 := hide S1
      have HB1 := hide B1
      have htk : ps.take (k + 1) = ps.take k ++ [x] := by
        obtain ⟨h1, h2⟩ := List.getElem?_eq_some_iff.1 hx
        rw [List.take_add_one, hx]; rfl
      have hF : Hid ((ps.take (k + 1)).filter (fun x => !fre x && f x) = (ps.take k).filter (fun x => !fre x && f x) ++ (if !fre x && f x then [x] else [])) := hide (by
        rw [htk, List.filter_append]
        congr 1
        rw [List.filter_cons]
        split <;> simp_all)
      have hql : Hid (((ps.take k).filter (fun x => !fre x && f x)).length ≤ 2048) := hide (Nat.le_trans (List.length_filter_le _ _) (by rw [List.length_take]; omega))
      clear O S1 B1 P1 htk hx
      subst hlv
      have q2 := fun w => free27 x w
      have q3 := fun w hS => HW.out.run x w hS
      have tk1 : True := trivial
      have tk2 : True := trivial
      have tk3 : True := trivial
      have tk4 : True := trivial
      go_wp2_with (first | (have _t := tk1; refine wpl_ent (.tmp 15) rfl A1 ?_ ?_ ?_; rfl; rfl; clear tk1) | (have _t := tk2; refine wpl_putE x zE (.tmp 7) (.tmp 16) rfl (box_e _ zE) ?_ rfl rfl ?_; rfl; clear tk2))
      intro w2 X2 G2
      have B2 := hide (up2 HB1.out G2)
      have S2 := hide (HW.out.on _ _ HS1.out (up2 (Below.refl _ _) G2))
      have O2 := hide (row_on HO.out (up2 (Below.refl _ _) G2))
      have X3 := X2.at_
      have HX2 := hide X2
      clear G2 X2 HB1 HS1 HO A1
      go_wp2_with (first | (have _t := tk3; refine wpl_ent (.tmp 7) rfl X3 ?_ ?_ ?_; rfl; rfl; clear tk3))
      refine (q2 _).mono ?_
      rintro e w3 ⟨rfl, hb⟩
      have B3 := hide (below_more B2.out hb B2.out.size)
      have S3 := hide (HW.out.on _ _ S2.out hb)
      have O3 := hide (row_on O2.out hb)
      have HX3 := hide (HX2.out.on hb)
      have X4 := HX3.out.at_
      clear hb B2 S2 O2 HX2 X3 q2
      rcases Bool.eq_false_or_eq_true (fre x) with hfr | hfr
      · rw [hfr]
        have hF2 := hF.out
        rw [hfr] at hF2
        simp only [Bool.not_true, Bool.false_and, Bool.false_eq_true, if_false, List.append_nil] at hF2
        have HF2 := hide hF2
        clear hF2 hF
        go_wp2
        go_roundw
        case rel => exact ⟨k + 1, by omega, by go_num, by rw [HF2.out]; exact O3.out, S3.out, B3.out⟩
        case measure => simp [intOf]; omega
      · rw [hfr]
        have hF2 := hF.out
        rw [hfr] at hF2
        simp only [Bool.not_false, Bool.true_and] at hF2
        have HF2 := hide hF2
        clear hF2 hF
        go_wp2_with (first | (have _t := tk4; refine wpl_ent (.tmp 7) rfl X4 ?_ ?_ ?_; rfl; rfl; clear tk4))
        refine (q3 _ S3.out).mono ?_
        rintro e w4 ⟨rfl, hb⟩
        have B4 := hide (below_more B3.out hb B3.out.size)
        have S4 := hide (HW.out.on _ _ S3.out hb)
        have O4 := hide (row_on O3.out hb)
        have HX4 := hide (HX3.out.on hb)
        have X5 := HX4.out.at_
        clear hb B3 S3 O3 HX3 X4 q3
        rcases Bool.eq_false_or_eq_true (f x) with hfx | hfx
        · rw [hfx]
          have hF2 := HF2.out
          rw [hfx, if_pos rfl] at hF2
          have HF3 := hide hF2
          clear hF2 HF2
          have O5 := hide (O4.out.alloc (.cells (EC x) 61))
          have M5 : Hid (Ers (w4.alloc (.cells (EC x) 61)) (some ⟨w4.heap.size, 0, none⟩) 1 1 [x]) := hide ⟨rfl, fun e => (by cases e), fun a e j u hj => by
            obtain rfl := Option.some.inj e
            rw [Addr.add_lit, Nat.zero_add, World.cell?_alloc_at _ _ _ _ rfl]
            have hj' : (ecl x ++ [])[j]? = some u := hj
            rw [List.append_nil] at hj'
            show (ecl x).toArray[j]? = some u
            rw [List.getElem?_toArray]
            exact hj'⟩
          have hs5 : Hid (w.heap.size ≤ (w4.alloc (.cells (EC x) 61)).heap.size) := hide (by have := B4.out.size; simp; omega)
          have tk5 : True := trivial
          have tk6 : True := trivial
          have tk7 : True := trivial
          go_wp2_with (first | (have _t := tk5; refine wpl_ent (.tmp 7) rfl X5 ?_ ?_ ?_; rfl; rfl; clear tk5) | (have _t := tk7; refine wpl_bs rfl (.tmp 26) x rfl rfl ?_; clear tk7) | (have _t := tk6; at_builtin; refine wpl_eapp rfl rfl (.tmp 25) (.tmp 27) rfl w.heap.size _ _ _ rfl O5.out _ 1 1 _ rfl M5.out (by have := hql.out; omega) hs5.out ?_; clear tk6))
          intro v6 w6 O6 G6
          have B6 := hide ((below_more B4.out (below_alloc w4 (.cells (EC x) 61)) B4.out.size).grown G6 hs5.out (fun r hr => (O5.out.lt r hr).1))
          have S6 := hide (HW.out.grow _ _ _ _ _ _ (HW.out.on _ _ S4.out (below_alloc w4 (.cells (EC x) 61))) O5.out G6 HS.out hs5.out)
          have O7 : Hid (w6.ownsRow w.heap.size 61 10 v6 ((ps.take (k + 1)).filter (fun x => !fre x && f x)).length (es ((ps.take (k + 1)).filter (fun x => !fre x && f x)))) := hide (by rw [HF3.out, List.length_append]; exact O6)
          clear O6 G6 O5 M5 B4 S4 O4 HF3
          go_wp2
          go_roundw
          case rel => exact ⟨k + 1, by omega, by go_num, O7.out, S6.out, B6.out⟩
          case measure => simp [intOf]; omega
        · rw [hfx]
          have hF2 := HF2.out
          rw [hfx] at hF2
          simp only [Bool.false_eq_true, if_false, List.append_nil] at hF2
          have HF3 := hide hF2
          clear hF2 HF2
          go_wp2
          go_roundw
          case rel => exact ⟨k + 1, by omega, by go_num, by rw [HF3.out]; exact O4.out, S4.out, B4.out⟩
          case measure => simp [intOf]; omega
    · have hk2 : ¬ (k : Int) < 2 * (T.n : Int) := by omega
      have hall : ps.take k = ps := List.take_of_length_le (by omega)
      rw [hall] at O hlv
      have HO := hide O
      have HB1 := hide B1
      clear S1 B1 hall O
      subst hlv
      have hlq : ((ps.filter (fun x => !fre x && f x)).length : Int) ≤ 2048 := by
        have := List.length_filter_le (fun x => !fre x && f x) ps
        omega
      cases ao0 with
      | none =>
        have hl0 : (ps.filter (fun x => !fre x && f x)).length = 0 ∧ cc0 = 0 := by
          rcases HO.out.2 with ⟨h1, h2⟩ | ⟨b, cap, cur, h1, _⟩
          · injection h1 with _ _ h3
            exact ⟨h2, h3⟩
          · injection h1 with h3
            cases h3
        obtain ⟨hl1, rfl⟩ := hl0
        have hnil : ps.filter (fun x => !fre x && f x) = [] := List.eq_nil_of_length_eq_zero hl1
        have hfn : T.l.filter f = [] := (those_eq HH.out.rp HH.out.wf f (l := []) (by rw [hnil]) List.Pairwise.nil).symm
        have HFN := hide hfn
        rw [hl1]
        clear hl1 hnil hlq hfn
        go_wp2_with (first | (go_at_call 86; refine (AnyF.slices_SortFunc_none Tryz.sortE none 0 (.func (.func 87) #[] #[]) _).mono ?_; rintro e w' ⟨rfl, rfl⟩))
        go_ret
        rw [HFN.out]
        exact ⟨none, 0, rfl, ⟨rfl, fun _ => rfl, fun a e => (by cases e), Nat.le_refl _, Nat.zero_le _⟩, HB1.out⟩
      | some a0 =>
        obtain ⟨b, rfl⟩ : ∃ b, a0 = ⟨b, 0, none⟩ := by
          rcases HO.out.2 with ⟨h1, h2⟩ | ⟨b, cap, cur, h1, _⟩
          · cases h1
          · injection h1 with h3
            exact ⟨b, Option.some.inj h3⟩
        obtain ⟨p1, p2, p3, p4, p5⟩ := box_of_row HO.out (es_length _)
        have HP1 := hide p1
        have HP2 := hide (And.intro p4 p5)
        clear p1 p4 p5
        go_wp2_with fail
        refine (sort48 b cc0 (ps.filter (fun x => !fre x && f x)) _ (by omega) HP1.out (mok_those HH.out.rp HH.out.wf f)).mono ?_
        rintro e w2 ⟨rfl, l', hp, fhs, hb2, G2⟩
        have el := those_eq HH.out.rp HH.out.wf f hp fhs
        have hl2 := hp.length_eq
        rw [el] at hb2 hl2
        have F : Hid (∃ ao c, (.slice (some ⟨b, 0, none⟩) (ps.filter (fun x => !fre x && f x)).length cc0 : Value) = .slice ao (T.l.filter f).length c ∧ Ets w2 w.heap.size ao (T.l.filter f).length c (T.l.filter f)) := hide ⟨_, cc0, by rw [hl2], ⟨rfl, fun e => (by cases e), fun a e => ⟨b, (Option.some.inj e).symm, p2, hb2⟩, by rw [hl2]; exact HP2.out.1, HP2.out.2⟩⟩
        have HB2 := hide (below_grown HB1.out G2 p2 HB1.out.size)
        clear hp fhs hb2 G2 el hl2
        go_wp2
        go_ret
        obtain ⟨ao, c, e1, e2⟩ := F.out
        exact ⟨ao, c, congrArg Ending.returned e1, e2, HB2.out⟩
end Go.Proofs.YtgpdjfaklcmoiaaGreat
