/- Contract of Decode, as the document has it. -/
import Derived.Test.YtaehhhknpbbmkaaAh
import Derived.Test.YtaehhhknpbbmkaaAb
namespace Go.Proofs.Ytaehhhknpbbmkaa
open Go.RowKit

theorem Byt.cut {w : World} {b o N C : Nat} {ns : List Int} (h : Byt w (some ⟨b, o, none⟩) N C ns) (i m : Nat) (hi : i + m ≤ N) : Byt w (some ⟨b, o + i, none⟩) m (C - i) ((ns.drop i).take m) := by
  have hl := h.len
  have hle := h.le
  refine ⟨by rw [List.length_take, List.length_drop]; omega, fun e => (by cases e), fun j hj => ⟨b, o + i, rfl, ?_⟩, by omega, by have := h.mx; omega, rng_take (rng_drop h.rng i) m⟩
  have hc := h.one (j := i + j) (by omega)
  rw [Nat.add_assoc, hc, take_getD _ _ _ hj, drop_getD]
theorem inf_cut (ns : List Int) (k : Nat) : inf ((ns.drop k).take 18) = inf (ns.drop k) := by
  simp [inf, pr, List.getD_eq_getElem?_getD, List.drop_take]
theorem told31' (b o q k c N C : Nat) (ns : List Int) (w : World) (h : Byt w (some ⟨b, o, none⟩) N C ns) (hq : q = o + k) (hk : k + 18 ≤ N) (hc : c = C - k) :
    Calls Try.prog 31 #[.slice (some ⟨b, q, none⟩) 18 c] w fun e w' => e = .returned (.agg (IC (inf (ns.drop k)))) ∧ Below w.heap.size w w' := by
  subst hq hc
  rw [← inf_cut]
  exact told31 b (o + k) (C - k) _ w (h.cut k 18 hk)
theorem res_lacp_tmp {fn : Func} {p u : Tmp} (h : fn.results = #[.cell p 27, .tmp u]) {tmps : Array Value} {w : World} {k : Nat} {l : Lac} (hp : tmps.getD p undef = .pointer (some ⟨k, 0, none⟩)) (hA : Box w k (lcl l)) :
    (results fn tmps).run Try.prog w = .ok (.tuple #[.agg (LC l), tmps.getD u undef]) w := by
  have hl := run_loadVar_mid (P := Try.prog) w k 0 27 _ _ hA.at_ Try.underlying27 rfl Try.size27
  rw [results_cell_tmp h, hp]
  simp [asAddr, Result.andThen, hl, LC]
theorem ok_not110 {l : List Int} (h : l.length ≠ 110) : ok l = false := by
  cases k : ok l
  · rfl
  · exact absurd (ok_length k) h
section
attribute [local go_sem] ZL
set_option maxRecDepth 100000 in
set_option maxHeartbeats 1000000 in
theorem dec15_len (ao : Option Addr) (n c : Nat) (w : World) (hn : n ≠ 110) :
    Calls Try.prog 15 #[.slice ao n c] w fun e w' => e = .returned (.tuple #[.agg (LC zeroL), .int .i64 2]) ∧ Below w.heap.size w w' := by
  have A0 : Box (w.alloc (.cells (LC zeroL) 27)) w.heap.size (lcl zeroL) := Box.new w (lcl zeroL) 27
  have W0 := below_alloc w (.cells (LC zeroL) 27)
  have hn' : ((n : Int) != 110) = true := by rw [bne_iff_ne]; omega
  have tk1 : True := trivial
  clear hn
  go_enter Try.func15, Try.ntmps15
  go_wp2_with (have _t := tk1; refine wpl_putL zeroL zeroL (.tmp 2) (.tmp 10) rfl A0 ?_ ?_ ?_ ?_; rfl; rfl; rfl; clear tk1; intro w2 A1 g2)
  refine bodyPost_ret (res_lacp_tmp rfl rfl A1) rfl ⟨rfl, below_grown W0 g2 (Nat.le_refl _) (by simp)⟩
set_option maxRecDepth 100000 in
set_option maxHeartbeats 8000000 in
theorem dec15_yes (b o c : Nat) (ns : List Int) (w : World) (h : Byt w (some ⟨b, o, none⟩) 110 c ns) (hk : ok ns = true) :
    Calls Try.prog 15 #[.slice (some ⟨b, o, none⟩) 110 c] w fun e w' => e = .returned (.tuple #[.agg (LC (lac ns)), .int .i64 0]) ∧ Below w.heap.size w w' := by
  have hle : (110 : Int) ≤ c := by have := h.le; omega
  have hcn : 110 ≤ c := h.le
  have hle22 : (22 : Int) ≤ c := by omega
  have hle42 : (42 : Int) ≤ c := by omega
  have hbl : b < w.heap.size := h.lt b o rfl (by omega)
  have hd4 : ¬ c = 4 := by omega
  have hd24 : ¬ c = 24 := by omega
  have hd44 : ¬ c = 44 := by omega
  have A0 : Box (w.alloc (.cells (LC zeroL) 27)).drew w.heap.size (lcl zeroL) := (Box.new w (lcl zeroL) 27).drew
  have Y0 := (h.alloc (.cells (LC zeroL) 27)).drew
  have W0 := (below_alloc w (.cells (LC zeroL) 27)).drew
  have T1 : ∀ (W : World), Byt W (some ⟨b, o, none⟩) 110 c ns → Calls Try.prog 31 #[.slice (some ⟨b, o + 4, none⟩) 18 (c - 4)] W fun e w' => e = .returned (.agg (IC (inf (ns.drop 4)))) ∧ Below W.heap.size W w' := fun W h => told31' b o (o + 4) 4 (c - 4) 110 c ns W h rfl (by omega) rfl
  have T2 : ∀ (W : World), Byt W (some ⟨b, o, none⟩) 110 c ns → Calls Try.prog 31 #[.slice (some ⟨b, o + 24, none⟩) 18 (c - 24)] W fun e w' => e = .returned (.agg (IC (inf (ns.drop 24)))) ∧ Below W.heap.size W w' := fun W h => told31' b o (o + 24) 24 (c - 24) 110 c ns W h rfl (by omega) rfl
  have T3 : ∀ (W : World), Byt W (some ⟨b, o, none⟩) 110 c ns → Calls Try.prog 32 #[.slice (some ⟨b, o + 44, none⟩) 66 (c - 44)] W fun e w' => e = .returned (.int .i64 (pr (ns.drop 44))) ∧ ∃ m, w' = W.drewN m := fun W h => num32 b o (o + 44) 44 66 (c - 44) 110 c ns W h rfl (by omega) (by omega) (by omega)
  have HB : Hid (LacB ⟨inf (ns.drop 4), inf (ns.drop 24), pr (ns.drop 44)⟩) := hide (lac_B h.rng)
  have HT : Hid (lrt ⟨inf (ns.drop 4), inf (ns.drop 24), pr (ns.drop 44)⟩ = true) := hide (lac_lrt h.rng)
  have HQ : Hid (((bs (enc ⟨inf (ns.drop 4), inf (ns.drop 24), pr (ns.drop 44)⟩)).toList == (bs ns).toList) = true) := hide (by
    have e := bs_beq (enc_rng (lac_B h.rng) (lac_lrt h.rng)) h.rng
    rw [← ok_iff h.rng, hk] at e
    exact e)
  have HL : Hid (lac ns = ⟨inf (ns.drop 4), inf (ns.drop 24), pr (ns.drop 44)⟩) := hide rfl
  rw [HL.out]
  clear HL
  generalize inf (ns.drop 4) = X1 at *
  generalize inf (ns.drop 24) = X2 at *
  generalize pr (ns.drop 44) = d at *
  replace T1 := hide T1; replace T2 := hide T2; replace T3 := hide T3
  clear h hk
  go_enter Try.func15, Try.ntmps15
  go_wp2_with fail
  refine wp_region_held_drew (S := fun w' => Byt w' (some ⟨b, o, none⟩) 110 c ns) (by kernel_rfl) Y0 (fun hHeld => ?_)
  obtain ⟨u0, hu0⟩ : ∃ u0, u0 = (w.alloc (.cells (LC zeroL) 27)).drew := ⟨_, rfl⟩
  rw [← hu0] at A0 Y0 W0 hHeld ⊢
  clear hu0
  refine wpAnyH_take (i := 0) (v := .slice (some ⟨b, o, none⟩) 110 c) rfl (by kernel_rfl) (by kernel_rfl) (by kernel_rfl) (fun _ _ _ h => h) (Or.inl ⟨by rfl, ?_⟩) hHeld ?_
  · intro W hW; clear hW; go_simp
  change wpAnyH _ _ _ _ _ _ _ ⟨#[.slice (some ⟨b, o, none⟩) 110 c, undef, .pointer (some ⟨w.heap.size, 0, none⟩), .int .i64 0, undef, undef, undef, .slice (some ⟨b, o, none⟩) 110 c, .int .i64 110, .bool false, undef, .slice (some ⟨b, o, none⟩) 110 c, undef, undef, undef, undef, undef, undef, undef, undef, undef, undef, undef, undef, undef, undef, undef, undef, undef, undef, undef, undef, undef, undef, undef, undef, undef], []⟩ _
  refine wpAnyH_take (i := 1) (v := .slice (some ⟨b, o + 4, none⟩) 18 (c - 4)) rfl (by kernel_rfl) (by kernel_rfl) (by kernel_rfl) (fun _ _ _ h => h) (Or.inl ⟨by rfl, ?_⟩) hHeld ?_
  · intro W hW; clear hW; go_simp
  change wpAnyH _ _ _ _ _ _ _ ⟨#[.slice (some ⟨b, o, none⟩) 110 c, undef, .pointer (some ⟨w.heap.size, 0, none⟩), .int .i64 0, undef, undef, undef, .slice (some ⟨b, o, none⟩) 110 c, .int .i64 110, .bool false, undef, .slice (some ⟨b, o, none⟩) 110 c, .slice (some ⟨b, o + 4, none⟩) 18 (c - 4), undef, undef, undef, undef, undef, undef, undef, undef, undef, undef, undef, undef, undef, undef, undef, undef, undef, undef, undef, undef, undef, undef, undef, undef], []⟩ _
  refine wpAnyH_take (i := 3) (v := .slice (some ⟨b, o, none⟩) 110 c) rfl (by kernel_rfl) (by kernel_rfl) (by kernel_rfl) (fun _ _ _ h => h) (Or.inl ⟨by rfl, ?_⟩) hHeld ?_
  · intro W hW; clear hW; go_simp
  change wpAnyH _ _ _ _ _ _ _ ⟨#[.slice (some ⟨b, o, none⟩) 110 c, undef, .pointer (some ⟨w.heap.size, 0, none⟩), .int .i64 0, undef, undef, undef, .slice (some ⟨b, o, none⟩) 110 c, .int .i64 110, .bool false, undef, .slice (some ⟨b, o, none⟩) 110 c, .slice (some ⟨b, o + 4, none⟩) 18 (c - 4), undef, .slice (some ⟨b, o, none⟩) 110 c, undef, undef, undef, undef, undef, undef, undef, undef, undef, undef, undef, undef, undef, undef, undef, undef, undef, undef, undef, undef, undef, undef], []⟩ _
  refine wpAnyH_take (i := 4) (v := .slice (some ⟨b, o + 24, none⟩) 18 (c - 24)) rfl (by kernel_rfl) (by kernel_rfl) (by kernel_rfl) (fun _ _ _ h => h) (Or.inl ⟨by rfl, ?_⟩) hHeld ?_
  · intro W hW; clear hW; go_simp
  change wpAnyH _ _ _ _ _ _ _ ⟨#[.slice (some ⟨b, o, none⟩) 110 c, undef, .pointer (some ⟨w.heap.size, 0, none⟩), .int .i64 0, undef, undef, undef, .slice (some ⟨b, o, none⟩) 110 c, .int .i64 110, .bool false, undef, .slice (some ⟨b, o, none⟩) 110 c, .slice (some ⟨b, o + 4, none⟩) 18 (c - 4), undef, .slice (some ⟨b, o, none⟩) 110 c, .slice (some ⟨b, o + 24, none⟩) 18 (c - 24), undef, undef, undef, undef, undef, undef, undef, undef, undef, undef, undef, undef, undef, undef, undef, undef, undef, undef, undef, undef, undef], []⟩ _
  refine wpAnyH_take (i := 6) (v := .slice (some ⟨b, o, none⟩) 110 c) rfl (by kernel_rfl) (by kernel_rfl) (by kernel_rfl) (fun _ _ _ h => h) (Or.inl ⟨by rfl, ?_⟩) hHeld ?_
  · intro W hW; clear hW; go_simp
  change wpAnyH _ _ _ _ _ _ _ ⟨#[.slice (some ⟨b, o, none⟩) 110 c, undef, .pointer (some ⟨w.heap.size, 0, none⟩), .int .i64 0, undef, undef, undef, .slice (some ⟨b, o, none⟩) 110 c, .int .i64 110, .bool false, undef, .slice (some ⟨b, o, none⟩) 110 c, .slice (some ⟨b, o + 4, none⟩) 18 (c - 4), undef, .slice (some ⟨b, o, none⟩) 110 c, .slice (some ⟨b, o + 24, none⟩) 18 (c - 24), undef, .slice (some ⟨b, o, none⟩) 110 c, undef, undef, undef, undef, undef, undef, undef, undef, undef, undef, undef, undef, undef, undef, undef, undef, undef, undef, undef], []⟩ _
  refine wpAnyH_take (i := 7) (v := .slice (some ⟨b, o + 44, none⟩) 66 (c - 44)) rfl (by kernel_rfl) (by kernel_rfl) (by kernel_rfl) (fun _ _ _ h => h) (Or.inl ⟨by rfl, ?_⟩) hHeld ?_
  · intro W hW; clear hW; go_simp
  change wpAnyH _ _ _ _ _ _ _ ⟨#[.slice (some ⟨b, o, none⟩) 110 c, undef, .pointer (some ⟨w.heap.size, 0, none⟩), .int .i64 0, undef, undef, undef, .slice (some ⟨b, o, none⟩) 110 c, .int .i64 110, .bool false, undef, .slice (some ⟨b, o, none⟩) 110 c, .slice (some ⟨b, o + 4, none⟩) 18 (c - 4), undef, .slice (some ⟨b, o, none⟩) 110 c, .slice (some ⟨b, o + 24, none⟩) 18 (c - 24), undef, .slice (some ⟨b, o, none⟩) 110 c, .slice (some ⟨b, o + 44, none⟩) 66 (c - 44), undef, undef, undef, undef, undef, undef, undef, undef, undef, undef, undef, undef, undef, undef, undef, undef, undef, undef], []⟩ _
  refine wpAnyH_ready (rs := [2, 10]) (by kernel_rfl) (by simp) ?_
  refine AllReadyH.cons rfl (fun K hK => ?_) (AllReadyH.cons rfl (fun K hK => ?_) AllReadyH.nil)
  rotate_left
  · skip
    go_simp
    have C0 : Box (World.alloc u0 (.cells (LC zeroL) 27)) (World.heap u0).size (lcl zeroL) := Box.new _ (lcl zeroL) 27
    have hkk : w.heap.size < (World.heap u0).size := A0.lt
    have hby : b < (World.heap u0).size := Nat.lt_trans hbl hkk
    replace Y0 := Y0.alloc (.cells (LC zeroL) 27); replace A0 := A0.alloc (.cells (LC zeroL) 27); replace W0 := belowOn W0 (below_alloc _ (.cells (LC zeroL) 27))
    refine hK.out _ _ Y0 (fun hHeld => ?_)
    clear hK K hHeld
    obtain ⟨u1, hu⟩ : ∃ u1, u1 = World.alloc u0 (.cells (LC zeroL) 27) := ⟨_, rfl⟩
    obtain ⟨kk, hke⟩ : ∃ kk, kk = (World.heap u0).size := ⟨_, rfl⟩
    rw [← hu] at Y0 A0 W0 C0
    rw [← hke] at C0 hkk hby
    have hHeld := Y0
    change wpAnyH _ _ _ _ _ _ _ ⟨#[.slice (some ⟨b, o, none⟩) 110 c, undef, .pointer (some ⟨w.heap.size, 0, none⟩), .int .i64 0, .pointer (some ⟨(World.heap u0).size, 0, none⟩), undef, undef, .slice (some ⟨b, o, none⟩) 110 c, .int .i64 110, .bool false, undef, .slice (some ⟨b, o, none⟩) 110 c, .slice (some ⟨b, o + 4, none⟩) 18 (c - 4), undef, .slice (some ⟨b, o, none⟩) 110 c, .slice (some ⟨b, o + 24, none⟩) 18 (c - 24), undef, .slice (some ⟨b, o, none⟩) 110 c, .slice (some ⟨b, o + 44, none⟩) 66 (c - 44), undef, undef, undef, undef, undef, undef, undef, undef, undef, undef, undef, undef, undef, undef, undef, undef, undef, undef], []⟩ (World.alloc u0 (.cells (LC zeroL) 27))
    rw [← hu, ← hke]
    clear hu hke
    refine wpAnyH_ready (rs := [2]) (by kernel_rfl) (by simp) ?_
    refine AllReadyH.cons rfl (fun K hK => ?_) AllReadyH.nil
    go_simp
    refine (T1.out _ Y0).mono ?_
    rintro e u2 ⟨rfl, hm⟩
    replace Y0 := Y0.on hm; replace A0 := A0.on hm; replace W0 := belowOn W0 hm; replace C0 := C0.on hm
    clear hm hHeld
    refine hK.out _ _ Y0 (fun hHeld => ?_)
    clear hK K
    change wpAnyH _ _ _ _ _ _ _ ⟨#[.slice (some ⟨b, o, none⟩) 110 c, undef, .pointer (some ⟨w.heap.size, 0, none⟩), .int .i64 0, .pointer (some ⟨kk, 0, none⟩), undef, undef, .slice (some ⟨b, o, none⟩) 110 c, .int .i64 110, .bool false, undef, .slice (some ⟨b, o, none⟩) 110 c, .slice (some ⟨b, o + 4, none⟩) 18 (c - 4), .agg (IC X1), .slice (some ⟨b, o, none⟩) 110 c, .slice (some ⟨b, o + 24, none⟩) 18 (c - 24), undef, .slice (some ⟨b, o, none⟩) 110 c, .slice (some ⟨b, o + 44, none⟩) 66 (c - 44), undef, undef, undef, undef, undef, undef, undef, undef, undef, undef, undef, undef, undef, undef, undef, undef, undef, undef], []⟩ _
    refine wpAnyH_ready (rs := [5]) (by kernel_rfl) (by simp) ?_
    refine AllReadyH.cons rfl (fun K hK => ?_) AllReadyH.nil
    go_simp
    refine (T2.out _ Y0).mono ?_
    rintro e u3 ⟨rfl, hm⟩
    replace Y0 := Y0.on hm; replace A0 := A0.on hm; replace W0 := belowOn W0 hm; replace C0 := C0.on hm
    clear hm hHeld
    refine hK.out _ _ Y0 (fun hHeld => ?_)
    clear hK K
    change wpAnyH _ _ _ _ _ _ _ ⟨#[.slice (some ⟨b, o, none⟩) 110 c, undef, .pointer (some ⟨w.heap.size, 0, none⟩), .int .i64 0, .pointer (some ⟨kk, 0, none⟩), undef, undef, .slice (some ⟨b, o, none⟩) 110 c, .int .i64 110, .bool false, undef, .slice (some ⟨b, o, none⟩) 110 c, .slice (some ⟨b, o + 4, none⟩) 18 (c - 4), .agg (IC X1), .slice (some ⟨b, o, none⟩) 110 c, .slice (some ⟨b, o + 24, none⟩) 18 (c - 24), .agg (IC X2), .slice (some ⟨b, o, none⟩) 110 c, .slice (some ⟨b, o + 44, none⟩) 66 (c - 44), undef, undef, undef, undef, undef, undef, undef, undef, undef, undef, undef, undef, undef, undef, undef, undef, undef, undef], []⟩ _
    refine wpAnyH_ready (rs := [8]) (by kernel_rfl) (by simp) ?_
    refine AllReadyH.cons rfl (fun K hK => ?_) AllReadyH.nil
    go_simp
    refine (T3.out _ Y0).mono ?_
    rintro e u4 ⟨rfl, m, hm⟩
    replace Y0 := Y0.drewN m; replace A0 := A0.drewN m; replace W0 := below_drewN W0 m; replace C0 := C0.drewN m
    rw [← hm] at Y0 A0 W0 C0
    clear hm hHeld
    refine hK.out _ _ Y0 (fun hHeld => ?_)
    clear hK K
    change wpAnyH _ _ _ _ _ _ _ ⟨#[.slice (some ⟨b, o, none⟩) 110 c, undef, .pointer (some ⟨w.heap.size, 0, none⟩), .int .i64 0, .pointer (some ⟨kk, 0, none⟩), undef, undef, .slice (some ⟨b, o, none⟩) 110 c, .int .i64 110, .bool false, undef, .slice (some ⟨b, o, none⟩) 110 c, .slice (some ⟨b, o + 4, none⟩) 18 (c - 4), .agg (IC X1), .slice (some ⟨b, o, none⟩) 110 c, .slice (some ⟨b, o + 24, none⟩) 18 (c - 24), .agg (IC X2), .slice (some ⟨b, o, none⟩) 110 c, .slice (some ⟨b, o + 44, none⟩) 66 (c - 44), .int .i64 d, undef, undef, undef, undef, undef, undef, undef, undef, undef, undef, undef, undef, undef, undef, undef, undef, undef], []⟩ _
    refine wpAnyH_take (i := 9) (v := .agg (LC ⟨X1, X2, d⟩)) rfl (by kernel_rfl) (by kernel_rfl) (by kernel_rfl) (fun _ _ _ h => h) (Or.inl ⟨by rfl, ?_⟩) hHeld ?_
    · intro W hW; clear hW; kernel_rfl
    change wpAnyH _ _ _ _ _ _ _ ⟨#[.slice (some ⟨b, o, none⟩) 110 c, undef, .pointer (some ⟨w.heap.size, 0, none⟩), .int .i64 0, .pointer (some ⟨kk, 0, none⟩), undef, undef, .slice (some ⟨b, o, none⟩) 110 c, .int .i64 110, .bool false, undef, .slice (some ⟨b, o, none⟩) 110 c, .slice (some ⟨b, o + 4, none⟩) 18 (c - 4), .agg (IC X1), .slice (some ⟨b, o, none⟩) 110 c, .slice (some ⟨b, o + 24, none⟩) 18 (c - 24), .agg (IC X2), .slice (some ⟨b, o, none⟩) 110 c, .slice (some ⟨b, o + 44, none⟩) 66 (c - 44), .int .i64 d, .agg (LC ⟨X1, X2, d⟩), undef, undef, undef, undef, undef, undef, undef, undef, undef, undef, undef, undef, undef, undef, undef, undef], []⟩ _
    refine wpAnyH_ready (rs := [11]) (by kernel_rfl) (by simp) ?_
    refine AllReadyH.cons rfl (fun K hK => ?_) AllReadyH.nil
    rw [if_pos (by rfl)]
    refine wp_store_mid 27 (.tmp 4) (.tmp 20) rfl kk 0 (LC ⟨X1, X2, d⟩) rfl rfl C0.th Try.size27 (one_lcl _) ?_
    have g2 := setCells_grown kk (lcl ⟨X1, X2, d⟩) 0 u4
    have C1 : Box (World.setCells u4 kk 0 (lcl ⟨X1, X2, d⟩)) kk (lcl ⟨X1, X2, d⟩) := by
      have hb := Box.put (w := u4) (k := kk) (o := 0) (A := []) (B := lcl zeroL) (C := []) (B' := lcl ⟨X1, X2, d⟩) (by rw [List.append_nil]; exact C0) rfl rfl
      rw [List.append_nil] at hb
      exact hb
    replace W0 := below_grown W0 g2 (by omega) (Nat.le_of_lt A0.lt)
    replace A0 := A0.kept (by omega) g2
    replace Y0 := Y0.kept (k := kk) (fun b' o' e _ => by injection Option.some.inj e with e1 e2; omega) g2
    refine hK.out _ _ Y0 (fun hHeld => ?_)
    clear hK K hHeld g2 C0 T1 T2 T3
    obtain ⟨v5, hv5⟩ : ∃ v5, v5 = World.setCells u4 kk 0 (lcl ⟨X1, X2, d⟩) := ⟨_, rfl⟩
    rw [← hv5] at A0 Y0 W0 C1
    have e5 : World.setCells u4 kk 0 (LC ⟨X1, X2, d⟩).toList = v5 := by rw [hv5]; rfl
    rw [e5]
    clear e5 hv5
    change wpAnyH _ _ _ _ _ _ _ ⟨#[.slice (some ⟨b, o, none⟩) 110 c, undef, .pointer (some ⟨w.heap.size, 0, none⟩), .int .i64 0, .pointer (some ⟨kk, 0, none⟩), undef, undef, .slice (some ⟨b, o, none⟩) 110 c, .int .i64 110, .bool false, undef, .slice (some ⟨b, o, none⟩) 110 c, .slice (some ⟨b, o + 4, none⟩) 18 (c - 4), .agg (IC X1), .slice (some ⟨b, o, none⟩) 110 c, .slice (some ⟨b, o + 24, none⟩) 18 (c - 24), .agg (IC X2), .slice (some ⟨b, o, none⟩) 110 c, .slice (some ⟨b, o + 44, none⟩) 66 (c - 44), .int .i64 d, .agg (LC ⟨X1, X2, d⟩), undef, undef, undef, undef, undef, undef, undef, undef, undef, undef, undef, undef, undef, undef, undef, undef], []⟩ _
    refine wpAnyH_done (by kernel_rfl) ?_ _
    have tk1 : True := trivial
    go_wp2_with (have _t := tk1; refine wpl_lacp (.tmp 4) rfl C1 ?_ ?_ ?_; rfl; rfl; clear tk1)
    refine (encode11_yes ⟨X1, X2, d⟩ _ HB.out HT.out).mono ?_
    rintro e v6 ⟨a6, c6, rfl, Y6, hb6⟩
    replace A0 := A0.on hb6; replace C1 := C1.on hb6; replace Y0 := Y0.on hb6; replace W0 := belowOn W0 hb6
    have hc1 := bytStr Y6
    have hc2 := bytStr Y0
    have hq := HQ.out
    generalize enc ⟨X1, X2, d⟩ = el at *
    have tk1 : True := trivial
    have tk2 : True := trivial
    have Sw : w.heap.size ≤ v6.heap.size := Nat.le_of_lt A0.lt
    clear hb6 Y6 HQ HB HT
    go_wp2_with (first | (have _t := tk1; refine wpl_lacp (.tmp 4) rfl C1 ?_ ?_ ?_; rfl; rfl; clear tk1) | (have _t := tk2; refine wpl_putL ⟨X1, X2, d⟩ zeroL (.tmp 2) (.tmp 36) rfl A0 ?_ ?_ ?_ ?_; rfl; rfl; rfl; clear tk2; intro v7 A1 g2))
    refine bodyPost_ret (res_lacp_tmp rfl rfl A1) rfl ⟨rfl, below_grown W0 g2 (Nat.le_refl _) Sw⟩
  go_simp
  refine (T1.out _ Y0).mono ?_
  rintro e u5 ⟨rfl, hm⟩
  replace Y0 := Y0.on hm; replace A0 := A0.on hm; replace W0 := belowOn W0 hm
  clear hm hHeld
  refine hK.out _ _ Y0 (fun hHeld => ?_)
  clear hK K
  change wpAnyH _ _ _ _ _ _ _ ⟨#[.slice (some ⟨b, o, none⟩) 110 c, undef, .pointer (some ⟨w.heap.size, 0, none⟩), .int .i64 0, undef, undef, undef, .slice (some ⟨b, o, none⟩) 110 c, .int .i64 110, .bool false, undef, .slice (some ⟨b, o, none⟩) 110 c, .slice (some ⟨b, o + 4, none⟩) 18 (c - 4), .agg (IC X1), .slice (some ⟨b, o, none⟩) 110 c, .slice (some ⟨b, o + 24, none⟩) 18 (c - 24), undef, .slice (some ⟨b, o, none⟩) 110 c, .slice (some ⟨b, o + 44, none⟩) 66 (c - 44), undef, undef, undef, undef, undef, undef, undef, undef, undef, undef, undef, undef, undef, undef, undef, undef, undef, undef], []⟩ _
  refine wpAnyH_ready (rs := [5, 10]) (by kernel_rfl) (by simp) ?_
  refine AllReadyH.cons rfl (fun K hK => ?_) (AllReadyH.cons rfl (fun K hK => ?_) AllReadyH.nil)
  rotate_left
  · skip
    go_simp
    have C0 : Box (World.alloc u5 (.cells (LC zeroL) 27)) (World.heap u5).size (lcl zeroL) := Box.new _ (lcl zeroL) 27
    have hkk : w.heap.size < (World.heap u5).size := A0.lt
    have hby : b < (World.heap u5).size := Nat.lt_trans hbl hkk
    replace Y0 := Y0.alloc (.cells (LC zeroL) 27); replace A0 := A0.alloc (.cells (LC zeroL) 27); replace W0 := belowOn W0 (below_alloc _ (.cells (LC zeroL) 27))
    refine hK.out _ _ Y0 (fun hHeld => ?_)
    clear hK K hHeld
    obtain ⟨u6, hu⟩ : ∃ u6, u6 = World.alloc u5 (.cells (LC zeroL) 27) := ⟨_, rfl⟩
    obtain ⟨kk, hke⟩ : ∃ kk, kk = (World.heap u5).size := ⟨_, rfl⟩
    rw [← hu] at Y0 A0 W0 C0
    rw [← hke] at C0 hkk hby
    have hHeld := Y0
    change wpAnyH _ _ _ _ _ _ _ ⟨#[.slice (some ⟨b, o, none⟩) 110 c, undef, .pointer (some ⟨w.heap.size, 0, none⟩), .int .i64 0, .pointer (some ⟨(World.heap u5).size, 0, none⟩), undef, undef, .slice (some ⟨b, o, none⟩) 110 c, .int .i64 110, .bool false, undef, .slice (some ⟨b, o, none⟩) 110 c, .slice (some ⟨b, o + 4, none⟩) 18 (c - 4), .agg (IC X1), .slice (some ⟨b, o, none⟩) 110 c, .slice (some ⟨b, o + 24, none⟩) 18 (c - 24), undef, .slice (some ⟨b, o, none⟩) 110 c, .slice (some ⟨b, o + 44, none⟩) 66 (c - 44), undef, undef, undef, undef, undef, undef, undef, undef, undef, undef, undef, undef, undef, undef, undef, undef, undef, undef], []⟩ (World.alloc u5 (.cells (LC zeroL) 27))
    rw [← hu, ← hke]
    clear hu hke
    refine wpAnyH_ready (rs := [5]) (by kernel_rfl) (by simp) ?_
    refine AllReadyH.cons rfl (fun K hK => ?_) AllReadyH.nil
    go_simp
    refine (T2.out _ Y0).mono ?_
    rintro e u7 ⟨rfl, hm⟩
    replace Y0 := Y0.on hm; replace A0 := A0.on hm; replace W0 := belowOn W0 hm; replace C0 := C0.on hm
    clear hm hHeld
    refine hK.out _ _ Y0 (fun hHeld => ?_)
    clear hK K
    change wpAnyH _ _ _ _ _ _ _ ⟨#[.slice (some ⟨b, o, none⟩) 110 c, undef, .pointer (some ⟨w.heap.size, 0, none⟩), .int .i64 0, .pointer (some ⟨kk, 0, none⟩), undef, undef, .slice (some ⟨b, o, none⟩) 110 c, .int .i64 110, .bool false, undef, .slice (some ⟨b, o, none⟩) 110 c, .slice (some ⟨b, o + 4, none⟩) 18 (c - 4), .agg (IC X1), .slice (some ⟨b, o, none⟩) 110 c, .slice (some ⟨b, o + 24, none⟩) 18 (c - 24), .agg (IC X2), .slice (some ⟨b, o, none⟩) 110 c, .slice (some ⟨b, o + 44, none⟩) 66 (c - 44), undef, undef, undef, undef, undef, undef, undef, undef, undef, undef, undef, undef, undef, undef, undef, undef, undef, undef], []⟩ _
    refine wpAnyH_ready (rs := [8]) (by kernel_rfl) (by simp) ?_
    refine AllReadyH.cons rfl (fun K hK => ?_) AllReadyH.nil
    go_simp
    refine (T3.out _ Y0).mono ?_
    rintro e u8 ⟨rfl, m, hm⟩
    replace Y0 := Y0.drewN m; replace A0 := A0.drewN m; replace W0 := below_drewN W0 m; replace C0 := C0.drewN m
    rw [← hm] at Y0 A0 W0 C0
    clear hm hHeld
    refine hK.out _ _ Y0 (fun hHeld => ?_)
    clear hK K
    change wpAnyH _ _ _ _ _ _ _ ⟨#[.slice (some ⟨b, o, none⟩) 110 c, undef, .pointer (some ⟨w.heap.size, 0, none⟩), .int .i64 0, .pointer (some ⟨kk, 0, none⟩), undef, undef, .slice (some ⟨b, o, none⟩) 110 c, .int .i64 110, .bool false, undef, .slice (some ⟨b, o, none⟩) 110 c, .slice (some ⟨b, o + 4, none⟩) 18 (c - 4), .agg (IC X1), .slice (some ⟨b, o, none⟩) 110 c, .slice (some ⟨b, o + 24, none⟩) 18 (c - 24), .agg (IC X2), .slice (some ⟨b, o, none⟩) 110 c, .slice (some ⟨b, o + 44, none⟩) 66 (c - 44), .int .i64 d, undef, undef, undef, undef, undef, undef, undef, undef, undef, undef, undef, undef, undef, undef, undef, undef, undef], []⟩ _
    refine wpAnyH_take (i := 9) (v := .agg (LC ⟨X1, X2, d⟩)) rfl (by kernel_rfl) (by kernel_rfl) (by kernel_rfl) (fun _ _ _ h => h) (Or.inl ⟨by rfl, ?_⟩) hHeld ?_
    · intro W hW; clear hW; kernel_rfl
    change wpAnyH _ _ _ _ _ _ _ ⟨#[.slice (some ⟨b, o, none⟩) 110 c, undef, .pointer (some ⟨w.heap.size, 0, none⟩), .int .i64 0, .pointer (some ⟨kk, 0, none⟩), undef, undef, .slice (some ⟨b, o, none⟩) 110 c, .int .i64 110, .bool false, undef, .slice (some ⟨b, o, none⟩) 110 c, .slice (some ⟨b, o + 4, none⟩) 18 (c - 4), .agg (IC X1), .slice (some ⟨b, o, none⟩) 110 c, .slice (some ⟨b, o + 24, none⟩) 18 (c - 24), .agg (IC X2), .slice (some ⟨b, o, none⟩) 110 c, .slice (some ⟨b, o + 44, none⟩) 66 (c - 44), .int .i64 d, .agg (LC ⟨X1, X2, d⟩), undef, undef, undef, undef, undef, undef, undef, undef, undef, undef, undef, undef, undef, undef, undef, undef], []⟩ _
    refine wpAnyH_ready (rs := [11]) (by kernel_rfl) (by simp) ?_
    refine AllReadyH.cons rfl (fun K hK => ?_) AllReadyH.nil
    rw [if_pos (by rfl)]
    refine wp_store_mid 27 (.tmp 4) (.tmp 20) rfl kk 0 (LC ⟨X1, X2, d⟩) rfl rfl C0.th Try.size27 (one_lcl _) ?_
    have g2 := setCells_grown kk (lcl ⟨X1, X2, d⟩) 0 u8
    have C1 : Box (World.setCells u8 kk 0 (lcl ⟨X1, X2, d⟩)) kk (lcl ⟨X1, X2, d⟩) := by
      have hb := Box.put (w := u8) (k := kk) (o := 0) (A := []) (B := lcl zeroL) (C := []) (B' := lcl ⟨X1, X2, d⟩) (by rw [List.append_nil]; exact C0) rfl rfl
      rw [List.append_nil] at hb
      exact hb
    replace W0 := below_grown W0 g2 (by omega) (Nat.le_of_lt A0.lt)
    replace A0 := A0.kept (by omega) g2
    replace Y0 := Y0.kept (k := kk) (fun b' o' e _ => by injection Option.some.inj e with e1 e2; omega) g2
    refine hK.out _ _ Y0 (fun hHeld => ?_)
    clear hK K hHeld g2 C0 T1 T2 T3
    obtain ⟨v5, hv5⟩ : ∃ v5, v5 = World.setCells u8 kk 0 (lcl ⟨X1, X2, d⟩) := ⟨_, rfl⟩
    rw [← hv5] at A0 Y0 W0 C1
    have e5 : World.setCells u8 kk 0 (LC ⟨X1, X2, d⟩).toList = v5 := by rw [hv5]; rfl
    rw [e5]
    clear e5 hv5
    change wpAnyH _ _ _ _ _ _ _ ⟨#[.slice (some ⟨b, o, none⟩) 110 c, undef, .pointer (some ⟨w.heap.size, 0, none⟩), .int .i64 0, .pointer (some ⟨kk, 0, none⟩), undef, undef, .slice (some ⟨b, o, none⟩) 110 c, .int .i64 110, .bool false, undef, .slice (some ⟨b, o, none⟩) 110 c, .slice (some ⟨b, o + 4, none⟩) 18 (c - 4), .agg (IC X1), .slice (some ⟨b, o, none⟩) 110 c, .slice (some ⟨b, o + 24, none⟩) 18 (c - 24), .agg (IC X2), .slice (some ⟨b, o, none⟩) 110 c, .slice (some ⟨b, o + 44, none⟩) 66 (c - 44), .int .i64 d, .agg (LC ⟨X1, X2, d⟩), undef, undef, undef, undef, undef, undef, undef, undef, undef, undef, undef, undef, undef, undef, undef, undef], []⟩ _
    refine wpAnyH_done (by kernel_rfl) ?_ _
    have tk1 : True := trivial
    go_wp2_with (have _t := tk1; refine wpl_lacp (.tmp 4) rfl C1 ?_ ?_ ?_; rfl; rfl; clear tk1)
    refine (encode11_yes ⟨X1, X2, d⟩ _ HB.out HT.out).mono ?_
    rintro e v6 ⟨a6, c6, rfl, Y6, hb6⟩
    replace A0 := A0.on hb6; replace C1 := C1.on hb6; replace Y0 := Y0.on hb6; replace W0 := belowOn W0 hb6
    have hc1 := bytStr Y6
    have hc2 := bytStr Y0
    have hq := HQ.out
    generalize enc ⟨X1, X2, d⟩ = el at *
    have tk1 : True := trivial
    have tk2 : True := trivial
    have Sw : w.heap.size ≤ v6.heap.size := Nat.le_of_lt A0.lt
    clear hb6 Y6 HQ HB HT
    go_wp2_with (first | (have _t := tk1; refine wpl_lacp (.tmp 4) rfl C1 ?_ ?_ ?_; rfl; rfl; clear tk1) | (have _t := tk2; refine wpl_putL ⟨X1, X2, d⟩ zeroL (.tmp 2) (.tmp 36) rfl A0 ?_ ?_ ?_ ?_; rfl; rfl; rfl; clear tk2; intro v7 A1 g2))
    refine bodyPost_ret (res_lacp_tmp rfl rfl A1) rfl ⟨rfl, below_grown W0 g2 (Nat.le_refl _) Sw⟩
  go_simp
  refine (T2.out _ Y0).mono ?_
  rintro e u9 ⟨rfl, hm⟩
  replace Y0 := Y0.on hm; replace A0 := A0.on hm; replace W0 := belowOn W0 hm
  clear hm hHeld
  refine hK.out _ _ Y0 (fun hHeld => ?_)
  clear hK K
  change wpAnyH _ _ _ _ _ _ _ ⟨#[.slice (some ⟨b, o, none⟩) 110 c, undef, .pointer (some ⟨w.heap.size, 0, none⟩), .int .i64 0, undef, undef, undef, .slice (some ⟨b, o, none⟩) 110 c, .int .i64 110, .bool false, undef, .slice (some ⟨b, o, none⟩) 110 c, .slice (some ⟨b, o + 4, none⟩) 18 (c - 4), .agg (IC X1), .slice (some ⟨b, o, none⟩) 110 c, .slice (some ⟨b, o + 24, none⟩) 18 (c - 24), .agg (IC X2), .slice (some ⟨b, o, none⟩) 110 c, .slice (some ⟨b, o + 44, none⟩) 66 (c - 44), undef, undef, undef, undef, undef, undef, undef, undef, undef, undef, undef, undef, undef, undef, undef, undef, undef, undef], []⟩ _
  refine wpAnyH_ready (rs := [8, 10]) (by kernel_rfl) (by simp) ?_
  refine AllReadyH.cons rfl (fun K hK => ?_) (AllReadyH.cons rfl (fun K hK => ?_) AllReadyH.nil)
  rotate_left
  · skip
    go_simp
    have C0 : Box (World.alloc u9 (.cells (LC zeroL) 27)) (World.heap u9).size (lcl zeroL) := Box.new _ (lcl zeroL) 27
    have hkk : w.heap.size < (World.heap u9).size := A0.lt
    have hby : b < (World.heap u9).size := Nat.lt_trans hbl hkk
    replace Y0 := Y0.alloc (.cells (LC zeroL) 27); replace A0 := A0.alloc (.cells (LC zeroL) 27); replace W0 := belowOn W0 (below_alloc _ (.cells (LC zeroL) 27))
    refine hK.out _ _ Y0 (fun hHeld => ?_)
    clear hK K hHeld
    obtain ⟨u10, hu⟩ : ∃ u10, u10 = World.alloc u9 (.cells (LC zeroL) 27) := ⟨_, rfl⟩
    obtain ⟨kk, hke⟩ : ∃ kk, kk = (World.heap u9).size := ⟨_, rfl⟩
    rw [← hu] at Y0 A0 W0 C0
    rw [← hke] at C0 hkk hby
    have hHeld := Y0
    change wpAnyH _ _ _ _ _ _ _ ⟨#[.slice (some ⟨b, o, none⟩) 110 c, undef, .pointer (some ⟨w.heap.size, 0, none⟩), .int .i64 0, .pointer (some ⟨(World.heap u9).size, 0, none⟩), undef, undef, .slice (some ⟨b, o, none⟩) 110 c, .int .i64 110, .bool false, undef, .slice (some ⟨b, o, none⟩) 110 c, .slice (some ⟨b, o + 4, none⟩) 18 (c - 4), .agg (IC X1), .slice (some ⟨b, o, none⟩) 110 c, .slice (some ⟨b, o + 24, none⟩) 18 (c - 24), .agg (IC X2), .slice (some ⟨b, o, none⟩) 110 c, .slice (some ⟨b, o + 44, none⟩) 66 (c - 44), undef, undef, undef, undef, undef, undef, undef, undef, undef, undef, undef, undef, undef, undef, undef, undef, undef, undef], []⟩ (World.alloc u9 (.cells (LC zeroL) 27))
    rw [← hu, ← hke]
    clear hu hke
    refine wpAnyH_ready (rs := [8]) (by kernel_rfl) (by simp) ?_
    refine AllReadyH.cons rfl (fun K hK => ?_) AllReadyH.nil
    go_simp
    refine (T3.out _ Y0).mono ?_
    rintro e u11 ⟨rfl, m, hm⟩
    replace Y0 := Y0.drewN m; replace A0 := A0.drewN m; replace W0 := below_drewN W0 m; replace C0 := C0.drewN m
    rw [← hm] at Y0 A0 W0 C0
    clear hm hHeld
    refine hK.out _ _ Y0 (fun hHeld => ?_)
    clear hK K
    change wpAnyH _ _ _ _ _ _ _ ⟨#[.slice (some ⟨b, o, none⟩) 110 c, undef, .pointer (some ⟨w.heap.size, 0, none⟩), .int .i64 0, .pointer (some ⟨kk, 0, none⟩), undef, undef, .slice (some ⟨b, o, none⟩) 110 c, .int .i64 110, .bool false, undef, .slice (some ⟨b, o, none⟩) 110 c, .slice (some ⟨b, o + 4, none⟩) 18 (c - 4), .agg (IC X1), .slice (some ⟨b, o, none⟩) 110 c, .slice (some ⟨b, o + 24, none⟩) 18 (c - 24), .agg (IC X2), .slice (some ⟨b, o, none⟩) 110 c, .slice (some ⟨b, o + 44, none⟩) 66 (c - 44), .int .i64 d, undef, undef, undef, undef, undef, undef, undef, undef, undef, undef, undef, undef, undef, undef, undef, undef, undef], []⟩ _
    refine wpAnyH_take (i := 9) (v := .agg (LC ⟨X1, X2, d⟩)) rfl (by kernel_rfl) (by kernel_rfl) (by kernel_rfl) (fun _ _ _ h => h) (Or.inl ⟨by rfl, ?_⟩) hHeld ?_
    · intro W hW; clear hW; kernel_rfl
    change wpAnyH _ _ _ _ _ _ _ ⟨#[.slice (some ⟨b, o, none⟩) 110 c, undef, .pointer (some ⟨w.heap.size, 0, none⟩), .int .i64 0, .pointer (some ⟨kk, 0, none⟩), undef, undef, .slice (some ⟨b, o, none⟩) 110 c, .int .i64 110, .bool false, undef, .slice (some ⟨b, o, none⟩) 110 c, .slice (some ⟨b, o + 4, none⟩) 18 (c - 4), .agg (IC X1), .slice (some ⟨b, o, none⟩) 110 c, .slice (some ⟨b, o + 24, none⟩) 18 (c - 24), .agg (IC X2), .slice (some ⟨b, o, none⟩) 110 c, .slice (some ⟨b, o + 44, none⟩) 66 (c - 44), .int .i64 d, .agg (LC ⟨X1, X2, d⟩), undef, undef, undef, undef, undef, undef, undef, undef, undef, undef, undef, undef, undef, undef, undef, undef], []⟩ _
    refine wpAnyH_ready (rs := [11]) (by kernel_rfl) (by simp) ?_
    refine AllReadyH.cons rfl (fun K hK => ?_) AllReadyH.nil
    rw [if_pos (by rfl)]
    refine wp_store_mid 27 (.tmp 4) (.tmp 20) rfl kk 0 (LC ⟨X1, X2, d⟩) rfl rfl C0.th Try.size27 (one_lcl _) ?_
    have g2 := setCells_grown kk (lcl ⟨X1, X2, d⟩) 0 u11
    have C1 : Box (World.setCells u11 kk 0 (lcl ⟨X1, X2, d⟩)) kk (lcl ⟨X1, X2, d⟩) := by
      have hb := Box.put (w := u11) (k := kk) (o := 0) (A := []) (B := lcl zeroL) (C := []) (B' := lcl ⟨X1, X2, d⟩) (by rw [List.append_nil]; exact C0) rfl rfl
      rw [List.append_nil] at hb
      exact hb
    replace W0 := below_grown W0 g2 (by omega) (Nat.le_of_lt A0.lt)
    replace A0 := A0.kept (by omega) g2
    replace Y0 := Y0.kept (k := kk) (fun b' o' e _ => by injection Option.some.inj e with e1 e2; omega) g2
    refine hK.out _ _ Y0 (fun hHeld => ?_)
    clear hK K hHeld g2 C0 T1 T2 T3
    obtain ⟨v5, hv5⟩ : ∃ v5, v5 = World.setCells u11 kk 0 (lcl ⟨X1, X2, d⟩) := ⟨_, rfl⟩
    rw [← hv5] at A0 Y0 W0 C1
    have e5 : World.setCells u11 kk 0 (LC ⟨X1, X2, d⟩).toList = v5 := by rw [hv5]; rfl
    rw [e5]
    clear e5 hv5
    change wpAnyH _ _ _ _ _ _ _ ⟨#[.slice (some ⟨b, o, none⟩) 110 c, undef, .pointer (some ⟨w.heap.size, 0, none⟩), .int .i64 0, .pointer (some ⟨kk, 0, none⟩), undef, undef, .slice (some ⟨b, o, none⟩) 110 c, .int .i64 110, .bool false, undef, .slice (some ⟨b, o, none⟩) 110 c, .slice (some ⟨b, o + 4, none⟩) 18 (c - 4), .agg (IC X1), .slice (some ⟨b, o, none⟩) 110 c, .slice (some ⟨b, o + 24, none⟩) 18 (c - 24), .agg (IC X2), .slice (some ⟨b, o, none⟩) 110 c, .slice (some ⟨b, o + 44, none⟩) 66 (c - 44), .int .i64 d, .agg (LC ⟨X1, X2, d⟩), undef, undef, undef, undef, undef, undef, undef, undef, undef, undef, undef, undef, undef, undef, undef, undef], []⟩ _
    refine wpAnyH_done (by kernel_rfl) ?_ _
    have tk1 : True := trivial
    go_wp2_with (have _t := tk1; refine wpl_lacp (.tmp 4) rfl C1 ?_ ?_ ?_; rfl; rfl; clear tk1)
    refine (encode11_yes ⟨X1, X2, d⟩ _ HB.out HT.out).mono ?_
    rintro e v6 ⟨a6, c6, rfl, Y6, hb6⟩
    replace A0 := A0.on hb6; replace C1 := C1.on hb6; replace Y0 := Y0.on hb6; replace W0 := belowOn W0 hb6
    have hc1 := bytStr Y6
    have hc2 := bytStr Y0
    have hq := HQ.out
    generalize enc ⟨X1, X2, d⟩ = el at *
    have tk1 : True := trivial
    have tk2 : True := trivial
    have Sw : w.heap.size ≤ v6.heap.size := Nat.le_of_lt A0.lt
    clear hb6 Y6 HQ HB HT
    go_wp2_with (first | (have _t := tk1; refine wpl_lacp (.tmp 4) rfl C1 ?_ ?_ ?_; rfl; rfl; clear tk1) | (have _t := tk2; refine wpl_putL ⟨X1, X2, d⟩ zeroL (.tmp 2) (.tmp 36) rfl A0 ?_ ?_ ?_ ?_; rfl; rfl; rfl; clear tk2; intro v7 A1 g2))
    refine bodyPost_ret (res_lacp_tmp rfl rfl A1) rfl ⟨rfl, below_grown W0 g2 (Nat.le_refl _) Sw⟩
  go_simp
  refine (T3.out _ Y0).mono ?_
  rintro e u12 ⟨rfl, m, hm⟩
  replace Y0 := Y0.drewN m; replace A0 := A0.drewN m; replace W0 := below_drewN W0 m
  rw [← hm] at Y0 A0 W0
  clear hm hHeld
  refine hK.out _ _ Y0 (fun hHeld => ?_)
  clear hK K
  change wpAnyH _ _ _ _ _ _ _ ⟨#[.slice (some ⟨b, o, none⟩) 110 c, undef, .pointer (some ⟨w.heap.size, 0, none⟩), .int .i64 0, undef, undef, undef, .slice (some ⟨b, o, none⟩) 110 c, .int .i64 110, .bool false, undef, .slice (some ⟨b, o, none⟩) 110 c, .slice (some ⟨b, o + 4, none⟩) 18 (c - 4), .agg (IC X1), .slice (some ⟨b, o, none⟩) 110 c, .slice (some ⟨b, o + 24, none⟩) 18 (c - 24), .agg (IC X2), .slice (some ⟨b, o, none⟩) 110 c, .slice (some ⟨b, o + 44, none⟩) 66 (c - 44), .int .i64 d, undef, undef, undef, undef, undef, undef, undef, undef, undef, undef, undef, undef, undef, undef, undef, undef, undef], []⟩ _
  refine wpAnyH_take (i := 9) (v := .agg (LC ⟨X1, X2, d⟩)) rfl (by kernel_rfl) (by kernel_rfl) (by kernel_rfl) (fun _ _ _ h => h) (Or.inl ⟨by rfl, ?_⟩) hHeld ?_
  · intro W hW; clear hW; kernel_rfl
  change wpAnyH _ _ _ _ _ _ _ ⟨#[.slice (some ⟨b, o, none⟩) 110 c, undef, .pointer (some ⟨w.heap.size, 0, none⟩), .int .i64 0, undef, undef, undef, .slice (some ⟨b, o, none⟩) 110 c, .int .i64 110, .bool false, undef, .slice (some ⟨b, o, none⟩) 110 c, .slice (some ⟨b, o + 4, none⟩) 18 (c - 4), .agg (IC X1), .slice (some ⟨b, o, none⟩) 110 c, .slice (some ⟨b, o + 24, none⟩) 18 (c - 24), .agg (IC X2), .slice (some ⟨b, o, none⟩) 110 c, .slice (some ⟨b, o + 44, none⟩) 66 (c - 44), .int .i64 d, .agg (LC ⟨X1, X2, d⟩), undef, undef, undef, undef, undef, undef, undef, undef, undef, undef, undef, undef, undef, undef, undef, undef], []⟩ _
  refine wpAnyH_ready (rs := [10]) (by kernel_rfl) (by simp) ?_
  refine AllReadyH.cons rfl (fun K hK => ?_) AllReadyH.nil
  go_simp
  have C0 : Box (World.alloc u12 (.cells (LC zeroL) 27)) (World.heap u12).size (lcl zeroL) := Box.new _ (lcl zeroL) 27
  have hkk : w.heap.size < (World.heap u12).size := A0.lt
  have hby : b < (World.heap u12).size := Nat.lt_trans hbl hkk
  replace Y0 := Y0.alloc (.cells (LC zeroL) 27); replace A0 := A0.alloc (.cells (LC zeroL) 27); replace W0 := belowOn W0 (below_alloc _ (.cells (LC zeroL) 27))
  refine hK.out _ _ Y0 (fun hHeld => ?_)
  clear hK K hHeld
  obtain ⟨u13, hu⟩ : ∃ u13, u13 = World.alloc u12 (.cells (LC zeroL) 27) := ⟨_, rfl⟩
  obtain ⟨kk, hke⟩ : ∃ kk, kk = (World.heap u12).size := ⟨_, rfl⟩
  rw [← hu] at Y0 A0 W0 C0
  rw [← hke] at C0 hkk hby
  have hHeld := Y0
  change wpAnyH _ _ _ _ _ _ _ ⟨#[.slice (some ⟨b, o, none⟩) 110 c, undef, .pointer (some ⟨w.heap.size, 0, none⟩), .int .i64 0, .pointer (some ⟨(World.heap u12).size, 0, none⟩), undef, undef, .slice (some ⟨b, o, none⟩) 110 c, .int .i64 110, .bool false, undef, .slice (some ⟨b, o, none⟩) 110 c, .slice (some ⟨b, o + 4, none⟩) 18 (c - 4), .agg (IC X1), .slice (some ⟨b, o, none⟩) 110 c, .slice (some ⟨b, o + 24, none⟩) 18 (c - 24), .agg (IC X2), .slice (some ⟨b, o, none⟩) 110 c, .slice (some ⟨b, o + 44, none⟩) 66 (c - 44), .int .i64 d, .agg (LC ⟨X1, X2, d⟩), undef, undef, undef, undef, undef, undef, undef, undef, undef, undef, undef, undef, undef, undef, undef, undef], []⟩ (World.alloc u12 (.cells (LC zeroL) 27))
  rw [← hu, ← hke]
  clear hu hke
  refine wpAnyH_ready (rs := [11]) (by kernel_rfl) (by simp) ?_
  refine AllReadyH.cons rfl (fun K hK => ?_) AllReadyH.nil
  rw [if_pos (by rfl)]
  refine wp_store_mid 27 (.tmp 4) (.tmp 20) rfl kk 0 (LC ⟨X1, X2, d⟩) rfl rfl C0.th Try.size27 (one_lcl _) ?_
  have g2 := setCells_grown kk (lcl ⟨X1, X2, d⟩) 0 u13
  have C1 : Box (World.setCells u13 kk 0 (lcl ⟨X1, X2, d⟩)) kk (lcl ⟨X1, X2, d⟩) := by
    have hb := Box.put (w := u13) (k := kk) (o := 0) (A := []) (B := lcl zeroL) (C := []) (B' := lcl ⟨X1, X2, d⟩) (by rw [List.append_nil]; exact C0) rfl rfl
    rw [List.append_nil] at hb
    exact hb
  replace W0 := below_grown W0 g2 (by omega) (Nat.le_of_lt A0.lt)
  replace A0 := A0.kept (by omega) g2
  replace Y0 := Y0.kept (k := kk) (fun b' o' e _ => by injection Option.some.inj e with e1 e2; omega) g2
  refine hK.out _ _ Y0 (fun hHeld => ?_)
  clear hK K hHeld g2 C0 T1 T2 T3
  obtain ⟨v5, hv5⟩ : ∃ v5, v5 = World.setCells u13 kk 0 (lcl ⟨X1, X2, d⟩) := ⟨_, rfl⟩
  rw [← hv5] at A0 Y0 W0 C1
  have e5 : World.setCells u13 kk 0 (LC ⟨X1, X2, d⟩).toList = v5 := by rw [hv5]; rfl
  rw [e5]
  clear e5 hv5
  change wpAnyH _ _ _ _ _ _ _ ⟨#[.slice (some ⟨b, o, none⟩) 110 c, undef, .pointer (some ⟨w.heap.size, 0, none⟩), .int .i64 0, .pointer (some ⟨kk, 0, none⟩), undef, undef, .slice (some ⟨b, o, none⟩) 110 c, .int .i64 110, .bool false, undef, .slice (some ⟨b, o, none⟩) 110 c, .slice (some ⟨b, o + 4, none⟩) 18 (c - 4), .agg (IC X1), .slice (some ⟨b, o, none⟩) 110 c, .slice (some ⟨b, o + 24, none⟩) 18 (c - 24), .agg (IC X2), .slice (some ⟨b, o, none⟩) 110 c, .slice (some ⟨b, o + 44, none⟩) 66 (c - 44), .int .i64 d, .agg (LC ⟨X1, X2, d⟩), undef, undef, undef, undef, undef, undef, undef, undef, undef, undef, undef, undef, undef, undef, undef, undef], []⟩ _
  refine wpAnyH_done (by kernel_rfl) ?_ _
  have tk1 : True := trivial
  go_wp2_with (have _t := tk1; refine wpl_lacp (.tmp 4) rfl C1 ?_ ?_ ?_; rfl; rfl; clear tk1)
  refine (encode11_yes ⟨X1, X2, d⟩ _ HB.out HT.out).mono ?_
  rintro e v6 ⟨a6, c6, rfl, Y6, hb6⟩
  replace A0 := A0.on hb6; replace C1 := C1.on hb6; replace Y0 := Y0.on hb6; replace W0 := belowOn W0 hb6
  have hc1 := bytStr Y6
  have hc2 := bytStr Y0
  have hq := HQ.out
  generalize enc ⟨X1, X2, d⟩ = el at *
  have tk1 : True := trivial
  have tk2 : True := trivial
  have Sw : w.heap.size ≤ v6.heap.size := Nat.le_of_lt A0.lt
  clear hb6 Y6 HQ HB HT
  go_wp2_with (first | (have _t := tk1; refine wpl_lacp (.tmp 4) rfl C1 ?_ ?_ ?_; rfl; rfl; clear tk1) | (have _t := tk2; refine wpl_putL ⟨X1, X2, d⟩ zeroL (.tmp 2) (.tmp 36) rfl A0 ?_ ?_ ?_ ?_; rfl; rfl; rfl; clear tk2; intro v7 A1 g2))
  refine bodyPost_ret (res_lacp_tmp rfl rfl A1) rfl ⟨rfl, below_grown W0 g2 (Nat.le_refl _) Sw⟩
set_option maxRecDepth 100000 in
set_option maxHeartbeats 8000000 in
theorem dec15_no (b o c : Nat) (ns : List Int) (w : World) (h : Byt w (some ⟨b, o, none⟩) 110 c ns) (hk : ok ns = false) :
    Calls Try.prog 15 #[.slice (some ⟨b, o, none⟩) 110 c] w fun e w' => e = .returned (.tuple #[.agg (LC (zeroL)), .int .i64 2]) ∧ Below w.heap.size w w' := by
  have hle : (110 : Int) ≤ c := by have := h.le; omega
  have hcn : 110 ≤ c := h.le
  have hle22 : (22 : Int) ≤ c := by omega
  have hle42 : (42 : Int) ≤ c := by omega
  have hbl : b < w.heap.size := h.lt b o rfl (by omega)
  have hd4 : ¬ c = 4 := by omega
  have hd24 : ¬ c = 24 := by omega
  have hd44 : ¬ c = 44 := by omega
  have A0 : Box (w.alloc (.cells (LC zeroL) 27)).drew w.heap.size (lcl zeroL) := (Box.new w (lcl zeroL) 27).drew
  have Y0 := (h.alloc (.cells (LC zeroL) 27)).drew
  have W0 := (below_alloc w (.cells (LC zeroL) 27)).drew
  have T1 : ∀ (W : World), Byt W (some ⟨b, o, none⟩) 110 c ns → Calls Try.prog 31 #[.slice (some ⟨b, o + 4, none⟩) 18 (c - 4)] W fun e w' => e = .returned (.agg (IC (inf (ns.drop 4)))) ∧ Below W.heap.size W w' := fun W h => told31' b o (o + 4) 4 (c - 4) 110 c ns W h rfl (by omega) rfl
  have T2 : ∀ (W : World), Byt W (some ⟨b, o, none⟩) 110 c ns → Calls Try.prog 31 #[.slice (some ⟨b, o + 24, none⟩) 18 (c - 24)] W fun e w' => e = .returned (.agg (IC (inf (ns.drop 24)))) ∧ Below W.heap.size W w' := fun W h => told31' b o (o + 24) 24 (c - 24) 110 c ns W h rfl (by omega) rfl
  have T3 : ∀ (W : World), Byt W (some ⟨b, o, none⟩) 110 c ns → Calls Try.prog 32 #[.slice (some ⟨b, o + 44, none⟩) 66 (c - 44)] W fun e w' => e = .returned (.int .i64 (pr (ns.drop 44))) ∧ ∃ m, w' = W.drewN m := fun W h => num32 b o (o + 44) 44 66 (c - 44) 110 c ns W h rfl (by omega) (by omega) (by omega)
  have HB : Hid (LacB ⟨inf (ns.drop 4), inf (ns.drop 24), pr (ns.drop 44)⟩) := hide (lac_B h.rng)
  have HT : Hid (lrt ⟨inf (ns.drop 4), inf (ns.drop 24), pr (ns.drop 44)⟩ = true) := hide (lac_lrt h.rng)
  have HQ : Hid (((bs (enc ⟨inf (ns.drop 4), inf (ns.drop 24), pr (ns.drop 44)⟩)).toList == (bs ns).toList) = false) := hide (by
    have e := bs_beq (enc_rng (lac_B h.rng) (lac_lrt h.rng)) h.rng
    rw [← ok_iff h.rng, hk] at e
    exact e)
  generalize inf (ns.drop 4) = X1 at *
  generalize inf (ns.drop 24) = X2 at *
  generalize pr (ns.drop 44) = d at *
  replace T1 := hide T1; replace T2 := hide T2; replace T3 := hide T3
  clear h hk
  go_enter Try.func15, Try.ntmps15
  go_wp2_with fail
  refine wp_region_held_drew (S := fun w' => Byt w' (some ⟨b, o, none⟩) 110 c ns) (by kernel_rfl) Y0 (fun hHeld => ?_)
  obtain ⟨u0, hu0⟩ : ∃ u0, u0 = (w.alloc (.cells (LC zeroL) 27)).drew := ⟨_, rfl⟩
  rw [← hu0] at A0 Y0 W0 hHeld ⊢
  clear hu0
  refine wpAnyH_take (i := 0) (v := .slice (some ⟨b, o, none⟩) 110 c) rfl (by kernel_rfl) (by kernel_rfl) (by kernel_rfl) (fun _ _ _ h => h) (Or.inl ⟨by rfl, ?_⟩) hHeld ?_
  · intro W hW; clear hW; go_simp
  change wpAnyH _ _ _ _ _ _ _ ⟨#[.slice (some ⟨b, o, none⟩) 110 c, undef, .pointer (some ⟨w.heap.size, 0, none⟩), .int .i64 0, undef, undef, undef, .slice (some ⟨b, o, none⟩) 110 c, .int .i64 110, .bool false, undef, .slice (some ⟨b, o, none⟩) 110 c, undef, undef, undef, undef, undef, undef, undef, undef, undef, undef, undef, undef, undef, undef, undef, undef, undef, undef, undef, undef, undef, undef, undef, undef, undef], []⟩ _
  refine wpAnyH_take (i := 1) (v := .slice (some ⟨b, o + 4, none⟩) 18 (c - 4)) rfl (by kernel_rfl) (by kernel_rfl) (by kernel_rfl) (fun _ _ _ h => h) (Or.inl ⟨by rfl, ?_⟩) hHeld ?_
  · intro W hW; clear hW; go_simp
  change wpAnyH _ _ _ _ _ _ _ ⟨#[.slice (some ⟨b, o, none⟩) 110 c, undef, .pointer (some ⟨w.heap.size, 0, none⟩), .int .i64 0, undef, undef, undef, .slice (some ⟨b, o, none⟩) 110 c, .int .i64 110, .bool false, undef, .slice (some ⟨b, o, none⟩) 110 c, .slice (some ⟨b, o + 4, none⟩) 18 (c - 4), undef, undef, undef, undef, undef, undef, undef, undef, undef, undef, undef, undef, undef, undef, undef, undef, undef, undef, undef, undef, undef, undef, undef, undef], []⟩ _
  refine wpAnyH_take (i := 3) (v := .slice (some ⟨b, o, none⟩) 110 c) rfl (by kernel_rfl) (by kernel_rfl) (by kernel_rfl) (fun _ _ _ h => h) (Or.inl ⟨by rfl, ?_⟩) hHeld ?_
  · intro W hW; clear hW; go_simp
  change wpAnyH _ _ _ _ _ _ _ ⟨#[.slice (some ⟨b, o, none⟩) 110 c, undef, .pointer (some ⟨w.heap.size, 0, none⟩), .int .i64 0, undef, undef, undef, .slice (some ⟨b, o, none⟩) 110 c, .int .i64 110, .bool false, undef, .slice (some ⟨b, o, none⟩) 110 c, .slice (some ⟨b, o + 4, none⟩) 18 (c - 4), undef, .slice (some ⟨b, o, none⟩) 110 c, undef, undef, undef, undef, undef, undef, undef, undef, undef, undef, undef, undef, undef, undef, undef, undef, undef, undef, undef, undef, undef, undef], []⟩ _
  refine wpAnyH_take (i := 4) (v := .slice (some ⟨b, o + 24, none⟩) 18 (c - 24)) rfl (by kernel_rfl) (by kernel_rfl) (by kernel_rfl) (fun _ _ _ h => h) (Or.inl ⟨by rfl, ?_⟩) hHeld ?_
  · intro W hW; clear hW; go_simp
  change wpAnyH _ _ _ _ _ _ _ ⟨#[.slice (some ⟨b, o, none⟩) 110 c, undef, .pointer (some ⟨w.heap.size, 0, none⟩), .int .i64 0, undef, undef, undef, .slice (some ⟨b, o, none⟩) 110 c, .int .i64 110, .bool false, undef, .slice (some ⟨b, o, none⟩) 110 c, .slice (some ⟨b, o + 4, none⟩) 18 (c - 4), undef, .slice (some ⟨b, o, none⟩) 110 c, .slice (some ⟨b, o + 24, none⟩) 18 (c - 24), undef, undef, undef, undef, undef, undef, undef, undef, undef, undef, undef, undef, undef, undef, undef, undef, undef, undef, undef, undef, undef], []⟩ _
  refine wpAnyH_take (i := 6) (v := .slice (some ⟨b, o, none⟩) 110 c) rfl (by kernel_rfl) (by kernel_rfl) (by kernel_rfl) (fun _ _ _ h => h) (Or.inl ⟨by rfl, ?_⟩) hHeld ?_
  · intro W hW; clear hW; go_simp
  change wpAnyH _ _ _ _ _ _ _ ⟨#[.slice (some ⟨b, o, none⟩) 110 c, undef, .pointer (some ⟨w.heap.size, 0, none⟩), .int .i64 0, undef, undef, undef, .slice (some ⟨b, o, none⟩) 110 c, .int .i64 110, .bool false, undef, .slice (some ⟨b, o, none⟩) 110 c, .slice (some ⟨b, o + 4, none⟩) 18 (c - 4), undef, .slice (some ⟨b, o, none⟩) 110 c, .slice (some ⟨b, o + 24, none⟩) 18 (c - 24), undef, .slice (some ⟨b, o, none⟩) 110 c, undef, undef, undef, undef, undef, undef, undef, undef, undef, undef, undef, undef, undef, undef, undef, undef, undef, undef, undef], []⟩ _
  refine wpAnyH_take (i := 7) (v := .slice (some ⟨b, o + 44, none⟩) 66 (c - 44)) rfl (by kernel_rfl) (by kernel_rfl) (by kernel_rfl) (fun _ _ _ h => h) (Or.inl ⟨by rfl, ?_⟩) hHeld ?_
  · intro W hW; clear hW; go_simp
  change wpAnyH _ _ _ _ _ _ _ ⟨#[.slice (some ⟨b, o, none⟩) 110 c, undef, .pointer (some ⟨w.heap.size, 0, none⟩), .int .i64 0, undef, undef, undef, .slice (some ⟨b, o, none⟩) 110 c, .int .i64 110, .bool false, undef, .slice (some ⟨b, o, none⟩) 110 c, .slice (some ⟨b, o + 4, none⟩) 18 (c - 4), undef, .slice (some ⟨b, o, none⟩) 110 c, .slice (some ⟨b, o + 24, none⟩) 18 (c - 24), undef, .slice (some ⟨b, o, none⟩) 110 c, .slice (some ⟨b, o + 44, none⟩) 66 (c - 44), undef, undef, undef, undef, undef, undef, undef, undef, undef, undef, undef, undef, undef, undef, undef, undef, undef, undef], []⟩ _
  refine wpAnyH_ready (rs := [2, 10]) (by kernel_rfl) (by simp) ?_
  refine AllReadyH.cons rfl (fun K hK => ?_) (AllReadyH.cons rfl (fun K hK => ?_) AllReadyH.nil)
  rotate_left
  · skip
    go_simp
    have C0 : Box (World.alloc u0 (.cells (LC zeroL) 27)) (World.heap u0).size (lcl zeroL) := Box.new _ (lcl zeroL) 27
    have hkk : w.heap.size < (World.heap u0).size := A0.lt
    have hby : b < (World.heap u0).size := Nat.lt_trans hbl hkk
    replace Y0 := Y0.alloc (.cells (LC zeroL) 27); replace A0 := A0.alloc (.cells (LC zeroL) 27); replace W0 := belowOn W0 (below_alloc _ (.cells (LC zeroL) 27))
    refine hK.out _ _ Y0 (fun hHeld => ?_)
    clear hK K hHeld
    obtain ⟨u1, hu⟩ : ∃ u1, u1 = World.alloc u0 (.cells (LC zeroL) 27) := ⟨_, rfl⟩
    obtain ⟨kk, hke⟩ : ∃ kk, kk = (World.heap u0).size := ⟨_, rfl⟩
    rw [← hu] at Y0 A0 W0 C0
    rw [← hke] at C0 hkk hby
    have hHeld := Y0
    change wpAnyH _ _ _ _ _ _ _ ⟨#[.slice (some ⟨b, o, none⟩) 110 c, undef, .pointer (some ⟨w.heap.size, 0, none⟩), .int .i64 0, .pointer (some ⟨(World.heap u0).size, 0, none⟩), undef, undef, .slice (some ⟨b, o, none⟩) 110 c, .int .i64 110, .bool false, undef, .slice (some ⟨b, o, none⟩) 110 c, .slice (some ⟨b, o + 4, none⟩) 18 (c - 4), undef, .slice (some ⟨b, o, none⟩) 110 c, .slice (some ⟨b, o + 24, none⟩) 18 (c - 24), undef, .slice (some ⟨b, o, none⟩) 110 c, .slice (some ⟨b, o + 44, none⟩) 66 (c - 44), undef, undef, undef, undef, undef, undef, undef, undef, undef, undef, undef, undef, undef, undef, undef, undef, undef, undef], []⟩ (World.alloc u0 (.cells (LC zeroL) 27))
    rw [← hu, ← hke]
    clear hu hke
    refine wpAnyH_ready (rs := [2]) (by kernel_rfl) (by simp) ?_
    refine AllReadyH.cons rfl (fun K hK => ?_) AllReadyH.nil
    go_simp
    refine (T1.out _ Y0).mono ?_
    rintro e u2 ⟨rfl, hm⟩
    replace Y0 := Y0.on hm; replace A0 := A0.on hm; replace W0 := belowOn W0 hm; replace C0 := C0.on hm
    clear hm hHeld
    refine hK.out _ _ Y0 (fun hHeld => ?_)
    clear hK K
    change wpAnyH _ _ _ _ _ _ _ ⟨#[.slice (some ⟨b, o, none⟩) 110 c, undef, .pointer (some ⟨w.heap.size, 0, none⟩), .int .i64 0, .pointer (some ⟨kk, 0, none⟩), undef, undef, .slice (some ⟨b, o, none⟩) 110 c, .int .i64 110, .bool false, undef, .slice (some ⟨b, o, none⟩) 110 c, .slice (some ⟨b, o + 4, none⟩) 18 (c - 4), .agg (IC X1), .slice (some ⟨b, o, none⟩) 110 c, .slice (some ⟨b, o + 24, none⟩) 18 (c - 24), undef, .slice (some ⟨b, o, none⟩) 110 c, .slice (some ⟨b, o + 44, none⟩) 66 (c - 44), undef, undef, undef, undef, undef, undef, undef, undef, undef, undef, undef, undef, undef, undef, undef, undef, undef, undef], []⟩ _
    refine wpAnyH_ready (rs := [5]) (by kernel_rfl) (by simp) ?_
    refine AllReadyH.cons rfl (fun K hK => ?_) AllReadyH.nil
    go_simp
    refine (T2.out _ Y0).mono ?_
    rintro e u3 ⟨rfl, hm⟩
    replace Y0 := Y0.on hm; replace A0 := A0.on hm; replace W0 := belowOn W0 hm; replace C0 := C0.on hm
    clear hm hHeld
    refine hK.out _ _ Y0 (fun hHeld => ?_)
    clear hK K
    change wpAnyH _ _ _ _ _ _ _ ⟨#[.slice (some ⟨b, o, none⟩) 110 c, undef, .pointer (some ⟨w.heap.size, 0, none⟩), .int .i64 0, .pointer (some ⟨kk, 0, none⟩), undef, undef, .slice (some ⟨b, o, none⟩) 110 c, .int .i64 110, .bool false, undef, .slice (some ⟨b, o, none⟩) 110 c, .slice (some ⟨b, o + 4, none⟩) 18 (c - 4), .agg (IC X1), .slice (some ⟨b, o, none⟩) 110 c, .slice (some ⟨b, o + 24, none⟩) 18 (c - 24), .agg (IC X2), .slice (some ⟨b, o, none⟩) 110 c, .slice (some ⟨b, o + 44, none⟩) 66 (c - 44), undef, undef, undef, undef, undef, undef, undef, undef, undef, undef, undef, undef, undef, undef, undef, undef, undef, undef], []⟩ _
    refine wpAnyH_ready (rs := [8]) (by kernel_rfl) (by simp) ?_
    refine AllReadyH.cons rfl (fun K hK => ?_) AllReadyH.nil
    go_simp
    refine (T3.out _ Y0).mono ?_
    rintro e u4 ⟨rfl, m, hm⟩
    replace Y0 := Y0.drewN m; replace A0 := A0.drewN m; replace W0 := below_drewN W0 m; replace C0 := C0.drewN m
    rw [← hm] at Y0 A0 W0 C0
    clear hm hHeld
    refine hK.out _ _ Y0 (fun hHeld => ?_)
    clear hK K
    change wpAnyH _ _ _ _ _ _ _ ⟨#[.slice (some ⟨b, o, none⟩) 110 c, undef, .pointer (some ⟨w.heap.size, 0, none⟩), .int .i64 0, .pointer (some ⟨kk, 0, none⟩), undef, undef, .slice (some ⟨b, o, none⟩) 110 c, .int .i64 110, .bool false, undef, .slice (some ⟨b, o, none⟩) 110 c, .slice (some ⟨b, o + 4, none⟩) 18 (c - 4), .agg (IC X1), .slice (some ⟨b, o, none⟩) 110 c, .slice (some ⟨b, o + 24, none⟩) 18 (c - 24), .agg (IC X2), .slice (some ⟨b, o, none⟩) 110 c, .slice (some ⟨b, o + 44, none⟩) 66 (c - 44), .int .i64 d, undef, undef, undef, undef, undef, undef, undef, undef, undef, undef, undef, undef, undef, undef, undef, undef, undef], []⟩ _
    refine wpAnyH_take (i := 9) (v := .agg (LC ⟨X1, X2, d⟩)) rfl (by kernel_rfl) (by kernel_rfl) (by kernel_rfl) (fun _ _ _ h => h) (Or.inl ⟨by rfl, ?_⟩) hHeld ?_
    · intro W hW; clear hW; kernel_rfl
    change wpAnyH _ _ _ _ _ _ _ ⟨#[.slice (some ⟨b, o, none⟩) 110 c, undef, .pointer (some ⟨w.heap.size, 0, none⟩), .int .i64 0, .pointer (some ⟨kk, 0, none⟩), undef, undef, .slice (some ⟨b, o, none⟩) 110 c, .int .i64 110, .bool false, undef, .slice (some ⟨b, o, none⟩) 110 c, .slice (some ⟨b, o + 4, none⟩) 18 (c - 4), .agg (IC X1), .slice (some ⟨b, o, none⟩) 110 c, .slice (some ⟨b, o + 24, none⟩) 18 (c - 24), .agg (IC X2), .slice (some ⟨b, o, none⟩) 110 c, .slice (some ⟨b, o + 44, none⟩) 66 (c - 44), .int .i64 d, .agg (LC ⟨X1, X2, d⟩), undef, undef, undef, undef, undef, undef, undef, undef, undef, undef, undef, undef, undef, undef, undef, undef], []⟩ _
    refine wpAnyH_ready (rs := [11]) (by kernel_rfl) (by simp) ?_
    refine AllReadyH.cons rfl (fun K hK => ?_) AllReadyH.nil
    rw [if_pos (by rfl)]
    refine wp_store_mid 27 (.tmp 4) (.tmp 20) rfl kk 0 (LC ⟨X1, X2, d⟩) rfl rfl C0.th Try.size27 (one_lcl _) ?_
    have g2 := setCells_grown kk (lcl ⟨X1, X2, d⟩) 0 u4
    have C1 : Box (World.setCells u4 kk 0 (lcl ⟨X1, X2, d⟩)) kk (lcl ⟨X1, X2, d⟩) := by
      have hb := Box.put (w := u4) (k := kk) (o := 0) (A := []) (B := lcl zeroL) (C := []) (B' := lcl ⟨X1, X2, d⟩) (by rw [List.append_nil]; exact C0) rfl rfl
      rw [List.append_nil] at hb
      exact hb
    replace W0 := below_grown W0 g2 (by omega) (Nat.le_of_lt A0.lt)
    replace A0 := A0.kept (by omega) g2
    replace Y0 := Y0.kept (k := kk) (fun b' o' e _ => by injection Option.some.inj e with e1 e2; omega) g2
    refine hK.out _ _ Y0 (fun hHeld => ?_)
    clear hK K hHeld g2 C0 T1 T2 T3
    obtain ⟨v5, hv5⟩ : ∃ v5, v5 = World.setCells u4 kk 0 (lcl ⟨X1, X2, d⟩) := ⟨_, rfl⟩
    rw [← hv5] at A0 Y0 W0 C1
    have e5 : World.setCells u4 kk 0 (LC ⟨X1, X2, d⟩).toList = v5 := by rw [hv5]; rfl
    rw [e5]
    clear e5 hv5
    change wpAnyH _ _ _ _ _ _ _ ⟨#[.slice (some ⟨b, o, none⟩) 110 c, undef, .pointer (some ⟨w.heap.size, 0, none⟩), .int .i64 0, .pointer (some ⟨kk, 0, none⟩), undef, undef, .slice (some ⟨b, o, none⟩) 110 c, .int .i64 110, .bool false, undef, .slice (some ⟨b, o, none⟩) 110 c, .slice (some ⟨b, o + 4, none⟩) 18 (c - 4), .agg (IC X1), .slice (some ⟨b, o, none⟩) 110 c, .slice (some ⟨b, o + 24, none⟩) 18 (c - 24), .agg (IC X2), .slice (some ⟨b, o, none⟩) 110 c, .slice (some ⟨b, o + 44, none⟩) 66 (c - 44), .int .i64 d, .agg (LC ⟨X1, X2, d⟩), undef, undef, undef, undef, undef, undef, undef, undef, undef, undef, undef, undef, undef, undef, undef, undef], []⟩ _
    refine wpAnyH_done (by kernel_rfl) ?_ _
    have tk1 : True := trivial
    go_wp2_with (have _t := tk1; refine wpl_lacp (.tmp 4) rfl C1 ?_ ?_ ?_; rfl; rfl; clear tk1)
    refine (encode11_yes ⟨X1, X2, d⟩ _ HB.out HT.out).mono ?_
    rintro e v6 ⟨a6, c6, rfl, Y6, hb6⟩
    replace A0 := A0.on hb6; replace C1 := C1.on hb6; replace Y0 := Y0.on hb6; replace W0 := belowOn W0 hb6
    have hc1 := bytStr Y6
    have hc2 := bytStr Y0
    have hq := HQ.out
    generalize enc ⟨X1, X2, d⟩ = el at *
    have tk1 : True := trivial
    have tk2 : True := trivial
    have Sw : w.heap.size ≤ v6.heap.size := Nat.le_of_lt A0.lt
    clear hb6 Y6 HQ HB HT
    go_wp2_with (have _t := tk2; refine wpl_putL zeroL zeroL (.tmp 2) (.tmp 35) rfl A0 ?_ ?_ ?_ ?_; rfl; rfl; rfl; clear tk2; intro v7 A1 g2)
    refine bodyPost_ret (res_lacp_tmp rfl rfl A1) rfl ⟨rfl, below_grown W0 g2 (Nat.le_refl _) Sw⟩
  go_simp
  refine (T1.out _ Y0).mono ?_
  rintro e u5 ⟨rfl, hm⟩
  replace Y0 := Y0.on hm; replace A0 := A0.on hm; replace W0 := belowOn W0 hm
  clear hm hHeld
  refine hK.out _ _ Y0 (fun hHeld => ?_)
  clear hK K
  change wpAnyH _ _ _ _ _ _ _ ⟨#[.slice (some ⟨b, o, none⟩) 110 c, undef, .pointer (some ⟨w.heap.size, 0, none⟩), .int .i64 0, undef, undef, undef, .slice (some ⟨b, o, none⟩) 110 c, .int .i64 110, .bool false, undef, .slice (some ⟨b, o, none⟩) 110 c, .slice (some ⟨b, o + 4, none⟩) 18 (c - 4), .agg (IC X1), .slice (some ⟨b, o, none⟩) 110 c, .slice (some ⟨b, o + 24, none⟩) 18 (c - 24), undef, .slice (some ⟨b, o, none⟩) 110 c, .slice (some ⟨b, o + 44, none⟩) 66 (c - 44), undef, undef, undef, undef, undef, undef, undef, undef, undef, undef, undef, undef, undef, undef, undef, undef, undef, undef], []⟩ _
  refine wpAnyH_ready (rs := [5, 10]) (by kernel_rfl) (by simp) ?_
  refine AllReadyH.cons rfl (fun K hK => ?_) (AllReadyH.cons rfl (fun K hK => ?_) AllReadyH.nil)
  rotate_left
  · skip
    go_simp
    have C0 : Box (World.alloc u5 (.cells (LC zeroL) 27)) (World.heap u5).size (lcl zeroL) := Box.new _ (lcl zeroL) 27
    have hkk : w.heap.size < (World.heap u5).size := A0.lt
    have hby : b < (World.heap u5).size := Nat.lt_trans hbl hkk
    replace Y0 := Y0.alloc (.cells (LC zeroL) 27); replace A0 := A0.alloc (.cells (LC zeroL) 27); replace W0 := belowOn W0 (below_alloc _ (.cells (LC zeroL) 27))
    refine hK.out _ _ Y0 (fun hHeld => ?_)
    clear hK K hHeld
    obtain ⟨u6, hu⟩ : ∃ u6, u6 = World.alloc u5 (.cells (LC zeroL) 27) := ⟨_, rfl⟩
    obtain ⟨kk, hke⟩ : ∃ kk, kk = (World.heap u5).size := ⟨_, rfl⟩
    rw [← hu] at Y0 A0 W0 C0
    rw [← hke] at C0 hkk hby
    have hHeld := Y0
    change wpAnyH _ _ _ _ _ _ _ ⟨#[.slice (some ⟨b, o, none⟩) 110 c, undef, .pointer (some ⟨w.heap.size, 0, none⟩), .int .i64 0, .pointer (some ⟨(World.heap u5).size, 0, none⟩), undef, undef, .slice (some ⟨b, o, none⟩) 110 c, .int .i64 110, .bool false, undef, .slice (some ⟨b, o, none⟩) 110 c, .slice (some ⟨b, o + 4, none⟩) 18 (c - 4), .agg (IC X1), .slice (some ⟨b, o, none⟩) 110 c, .slice (some ⟨b, o + 24, none⟩) 18 (c - 24), undef, .slice (some ⟨b, o, none⟩) 110 c, .slice (some ⟨b, o + 44, none⟩) 66 (c - 44), undef, undef, undef, undef, undef, undef, undef, undef, undef, undef, undef, undef, undef, undef, undef, undef, undef, undef], []⟩ (World.alloc u5 (.cells (LC zeroL) 27))
    rw [← hu, ← hke]
    clear hu hke
    refine wpAnyH_ready (rs := [5]) (by kernel_rfl) (by simp) ?_
    refine AllReadyH.cons rfl (fun K hK => ?_) AllReadyH.nil
    go_simp
    refine (T2.out _ Y0).mono ?_
    rintro e u7 ⟨rfl, hm⟩
    replace Y0 := Y0.on hm; replace A0 := A0.on hm; replace W0 := belowOn W0 hm; replace C0 := C0.on hm
    clear hm hHeld
    refine hK.out _ _ Y0 (fun hHeld => ?_)
    clear hK K
    change wpAnyH _ _ _ _ _ _ _ ⟨#[.slice (some ⟨b, o, none⟩) 110 c, undef, .pointer (some ⟨w.heap.size, 0, none⟩), .int .i64 0, .pointer (some ⟨kk, 0, none⟩), undef, undef, .slice (some ⟨b, o, none⟩) 110 c, .int .i64 110, .bool false, undef, .slice (some ⟨b, o, none⟩) 110 c, .slice (some ⟨b, o + 4, none⟩) 18 (c - 4), .agg (IC X1), .slice (some ⟨b, o, none⟩) 110 c, .slice (some ⟨b, o + 24, none⟩) 18 (c - 24), .agg (IC X2), .slice (some ⟨b, o, none⟩) 110 c, .slice (some ⟨b, o + 44, none⟩) 66 (c - 44), undef, undef, undef, undef, undef, undef, undef, undef, undef, undef, undef, undef, undef, undef, undef, undef, undef, undef], []⟩ _
    refine wpAnyH_ready (rs := [8]) (by kernel_rfl) (by simp) ?_
    refine AllReadyH.cons rfl (fun K hK => ?_) AllReadyH.nil
    go_simp
    refine (T3.out _ Y0).mono ?_
    rintro e u8 ⟨rfl, m, hm⟩
    replace Y0 := Y0.drewN m; replace A0 := A0.drewN m; replace W0 := below_drewN W0 m; replace C0 := C0.drewN m
    rw [← hm] at Y0 A0 W0 C0
    clear hm hHeld
    refine hK.out _ _ Y0 (fun hHeld => ?_)
    clear hK K
    change wpAnyH _ _ _ _ _ _ _ ⟨#[.slice (some ⟨b, o, none⟩) 110 c, undef, .pointer (some ⟨w.heap.size, 0, none⟩), .int .i64 0, .pointer (some ⟨kk, 0, none⟩), undef, undef, .slice (some ⟨b, o, none⟩) 110 c, .int .i64 110, .bool false, undef, .slice (some ⟨b, o, none⟩) 110 c, .slice (some ⟨b, o + 4, none⟩) 18 (c - 4), .agg (IC X1), .slice (some ⟨b, o, none⟩) 110 c, .slice (some ⟨b, o + 24, none⟩) 18 (c - 24), .agg (IC X2), .slice (some ⟨b, o, none⟩) 110 c, .slice (some ⟨b, o + 44, none⟩) 66 (c - 44), .int .i64 d, undef, undef, undef, undef, undef, undef, undef, undef, undef, undef, undef, undef, undef, undef, undef, undef, undef], []⟩ _
    refine wpAnyH_take (i := 9) (v := .agg (LC ⟨X1, X2, d⟩)) rfl (by kernel_rfl) (by kernel_rfl) (by kernel_rfl) (fun _ _ _ h => h) (Or.inl ⟨by rfl, ?_⟩) hHeld ?_
    · intro W hW; clear hW; kernel_rfl
    change wpAnyH _ _ _ _ _ _ _ ⟨#[.slice (some ⟨b, o, none⟩) 110 c, undef, .pointer (some ⟨w.heap.size, 0, none⟩), .int .i64 0, .pointer (some ⟨kk, 0, none⟩), undef, undef, .slice (some ⟨b, o, none⟩) 110 c, .int .i64 110, .bool false, undef, .slice (some ⟨b, o, none⟩) 110 c, .slice (some ⟨b, o + 4, none⟩) 18 (c - 4), .agg (IC X1), .slice (some ⟨b, o, none⟩) 110 c, .slice (some ⟨b, o + 24, none⟩) 18 (c - 24), .agg (IC X2), .slice (some ⟨b, o, none⟩) 110 c, .slice (some ⟨b, o + 44, none⟩) 66 (c - 44), .int .i64 d, .agg (LC ⟨X1, X2, d⟩), undef, undef, undef, undef, undef, undef, undef, undef, undef, undef, undef, undef, undef, undef, undef, undef], []⟩ _
    refine wpAnyH_ready (rs := [11]) (by kernel_rfl) (by simp) ?_
    refine AllReadyH.cons rfl (fun K hK => ?_) AllReadyH.nil
    rw [if_pos (by rfl)]
    refine wp_store_mid 27 (.tmp 4) (.tmp 20) rfl kk 0 (LC ⟨X1, X2, d⟩) rfl rfl C0.th Try.size27 (one_lcl _) ?_
    have g2 := setCells_grown kk (lcl ⟨X1, X2, d⟩) 0 u8
    have C1 : Box (World.setCells u8 kk 0 (lcl ⟨X1, X2, d⟩)) kk (lcl ⟨X1, X2, d⟩) := by
      have hb := Box.put (w := u8) (k := kk) (o := 0) (A := []) (B := lcl zeroL) (C := []) (B' := lcl ⟨X1, X2, d⟩) (by rw [List.append_nil]; exact C0) rfl rfl
      rw [List.append_nil] at hb
      exact hb
    replace W0 := below_grown W0 g2 (by omega) (Nat.le_of_lt A0.lt)
    replace A0 := A0.kept (by omega) g2
    replace Y0 := Y0.kept (k := kk) (fun b' o' e _ => by injection Option.some.inj e with e1 e2; omega) g2
    refine hK.out _ _ Y0 (fun hHeld => ?_)
    clear hK K hHeld g2 C0 T1 T2 T3
    obtain ⟨v5, hv5⟩ : ∃ v5, v5 = World.setCells u8 kk 0 (lcl ⟨X1, X2, d⟩) := ⟨_, rfl⟩
    rw [← hv5] at A0 Y0 W0 C1
    have e5 : World.setCells u8 kk 0 (LC ⟨X1, X2, d⟩).toList = v5 := by rw [hv5]; rfl
    rw [e5]
    clear e5 hv5
    change wpAnyH _ _ _ _ _ _ _ ⟨#[.slice (some ⟨b, o, none⟩) 110 c, undef, .pointer (some ⟨w.heap.size, 0, none⟩), .int .i64 0, .pointer (some ⟨kk, 0, none⟩), undef, undef, .slice (some ⟨b, o, none⟩) 110 c, .int .i64 110, .bool false, undef, .slice (some ⟨b, o, none⟩) 110 c, .slice (some ⟨b, o + 4, none⟩) 18 (c - 4), .agg (IC X1), .slice (some ⟨b, o, none⟩) 110 c, .slice (some ⟨b, o + 24, none⟩) 18 (c - 24), .agg (IC X2), .slice (some ⟨b, o, none⟩) 110 c, .slice (some ⟨b, o + 44, none⟩) 66 (c - 44), .int .i64 d, .agg (LC ⟨X1, X2, d⟩), undef, undef, undef, undef, undef, undef, undef, undef, undef, undef, undef, undef, undef, undef, undef, undef], []⟩ _
    refine wpAnyH_done (by kernel_rfl) ?_ _
    have tk1 : True := trivial
    go_wp2_with (have _t := tk1; refine wpl_lacp (.tmp 4) rfl C1 ?_ ?_ ?_; rfl; rfl; clear tk1)
    refine (encode11_yes ⟨X1, X2, d⟩ _ HB.out HT.out).mono ?_
    rintro e v6 ⟨a6, c6, rfl, Y6, hb6⟩
    replace A0 := A0.on hb6; replace C1 := C1.on hb6; replace Y0 := Y0.on hb6; replace W0 := belowOn W0 hb6
    have hc1 := bytStr Y6
    have hc2 := bytStr Y0
    have hq := HQ.out
    generalize enc ⟨X1, X2, d⟩ = el at *
    have tk1 : True := trivial
    have tk2 : True := trivial
    have Sw : w.heap.size ≤ v6.heap.size := Nat.le_of_lt A0.lt
    clear hb6 Y6 HQ HB HT
    go_wp2_with (have _t := tk2; refine wpl_putL zeroL zeroL (.tmp 2) (.tmp 35) rfl A0 ?_ ?_ ?_ ?_; rfl; rfl; rfl; clear tk2; intro v7 A1 g2)
    refine bodyPost_ret (res_lacp_tmp rfl rfl A1) rfl ⟨rfl, below_grown W0 g2 (Nat.le_refl _) Sw⟩
  go_simp
  refine (T2.out _ Y0).mono ?_
  rintro e u9 ⟨rfl, hm⟩
  replace Y0 := Y0.on hm; replace A0 := A0.on hm; replace W0 := belowOn W0 hm
  clear hm hHeld
  refine hK.out _ _ Y0 (fun hHeld => ?_)
  clear hK K
  change wpAnyH _ _ _ _ _ _ _ ⟨#[.slice (some ⟨b, o, none⟩) 110 c, undef, .pointer (some ⟨w.heap.size, 0, none⟩), .int .i64 0, undef, undef, undef, .slice (some ⟨b, o, none⟩) 110 c, .int .i64 110, .bool false, undef, .slice (some ⟨b, o, none⟩) 110 c, .slice (some ⟨b, o + 4, none⟩) 18 (c - 4), .agg (IC X1), .slice (some ⟨b, o, none⟩) 110 c, .slice (some ⟨b, o + 24, none⟩) 18 (c - 24), .agg (IC X2), .slice (some ⟨b, o, none⟩) 110 c, .slice (some ⟨b, o + 44, none⟩) 66 (c - 44), undef, undef, undef, undef, undef, undef, undef, undef, undef, undef, undef, undef, undef, undef, undef, undef, undef, undef], []⟩ _
  refine wpAnyH_ready (rs := [8, 10]) (by kernel_rfl) (by simp) ?_
  refine AllReadyH.cons rfl (fun K hK => ?_) (AllReadyH.cons rfl (fun K hK => ?_) AllReadyH.nil)
  rotate_left
  · skip
    go_simp
    have C0 : Box (World.alloc u9 (.cells (LC zeroL) 27)) (World.heap u9).size (lcl zeroL) := Box.new _ (lcl zeroL) 27
    have hkk : w.heap.size < (World.heap u9).size := A0.lt
    have hby : b < (World.heap u9).size := Nat.lt_trans hbl hkk
    replace Y0 := Y0.alloc (.cells (LC zeroL) 27); replace A0 := A0.alloc (.cells (LC zeroL) 27); replace W0 := belowOn W0 (below_alloc _ (.cells (LC zeroL) 27))
    refine hK.out _ _ Y0 (fun hHeld => ?_)
    clear hK K hHeld
    obtain ⟨u10, hu⟩ : ∃ u10, u10 = World.alloc u9 (.cells (LC zeroL) 27) := ⟨_, rfl⟩
    obtain ⟨kk, hke⟩ : ∃ kk, kk = (World.heap u9).size := ⟨_, rfl⟩
    rw [← hu] at Y0 A0 W0 C0
    rw [← hke] at C0 hkk hby
    have hHeld := Y0
    change wpAnyH _ _ _ _ _ _ _ ⟨#[.slice (some ⟨b, o, none⟩) 110 c, undef, .pointer (some ⟨w.heap.size, 0, none⟩), .int .i64 0, .pointer (some ⟨(World.heap u9).size, 0, none⟩), undef, undef, .slice (some ⟨b, o, none⟩) 110 c, .int .i64 110, .bool false, undef, .slice (some ⟨b, o, none⟩) 110 c, .slice (some ⟨b, o + 4, none⟩) 18 (c - 4), .agg (IC X1), .slice (some ⟨b, o, none⟩) 110 c, .slice (some ⟨b, o + 24, none⟩) 18 (c - 24), .agg (IC X2), .slice (some ⟨b, o, none⟩) 110 c, .slice (some ⟨b, o + 44, none⟩) 66 (c - 44), undef, undef, undef, undef, undef, undef, undef, undef, undef, undef, undef, undef, undef, undef, undef, undef, undef, undef], []⟩ (World.alloc u9 (.cells (LC zeroL) 27))
    rw [← hu, ← hke]
    clear hu hke
    refine wpAnyH_ready (rs := [8]) (by kernel_rfl) (by simp) ?_
    refine AllReadyH.cons rfl (fun K hK => ?_) AllReadyH.nil
    go_simp
    refine (T3.out _ Y0).mono ?_
    rintro e u11 ⟨rfl, m, hm⟩
    replace Y0 := Y0.drewN m; replace A0 := A0.drewN m; replace W0 := below_drewN W0 m; replace C0 := C0.drewN m
    rw [← hm] at Y0 A0 W0 C0
    clear hm hHeld
    refine hK.out _ _ Y0 (fun hHeld => ?_)
    clear hK K
    change wpAnyH _ _ _ _ _ _ _ ⟨#[.slice (some ⟨b, o, none⟩) 110 c, undef, .pointer (some ⟨w.heap.size, 0, none⟩), .int .i64 0, .pointer (some ⟨kk, 0, none⟩), undef, undef, .slice (some ⟨b, o, none⟩) 110 c, .int .i64 110, .bool false, undef, .slice (some ⟨b, o, none⟩) 110 c, .slice (some ⟨b, o + 4, none⟩) 18 (c - 4), .agg (IC X1), .slice (some ⟨b, o, none⟩) 110 c, .slice (some ⟨b, o + 24, none⟩) 18 (c - 24), .agg (IC X2), .slice (some ⟨b, o, none⟩) 110 c, .slice (some ⟨b, o + 44, none⟩) 66 (c - 44), .int .i64 d, undef, undef, undef, undef, undef, undef, undef, undef, undef, undef, undef, undef, undef, undef, undef, undef, undef], []⟩ _
    refine wpAnyH_take (i := 9) (v := .agg (LC ⟨X1, X2, d⟩)) rfl (by kernel_rfl) (by kernel_rfl) (by kernel_rfl) (fun _ _ _ h => h) (Or.inl ⟨by rfl, ?_⟩) hHeld ?_
    · intro W hW; clear hW; kernel_rfl
    change wpAnyH _ _ _ _ _ _ _ ⟨#[.slice (some ⟨b, o, none⟩) 110 c, undef, .pointer (some ⟨w.heap.size, 0, none⟩), .int .i64 0, .pointer (some ⟨kk, 0, none⟩), undef, undef, .slice (some ⟨b, o, none⟩) 110 c, .int .i64 110, .bool false, undef, .slice (some ⟨b, o, none⟩) 110 c, .slice (some ⟨b, o + 4, none⟩) 18 (c - 4), .agg (IC X1), .slice (some ⟨b, o, none⟩) 110 c, .slice (some ⟨b, o + 24, none⟩) 18 (c - 24), .agg (IC X2), .slice (some ⟨b, o, none⟩) 110 c, .slice (some ⟨b, o + 44, none⟩) 66 (c - 44), .int .i64 d, .agg (LC ⟨X1, X2, d⟩), undef, undef, undef, undef, undef, undef, undef, undef, undef, undef, undef, undef, undef, undef, undef, undef], []⟩ _
    refine wpAnyH_ready (rs := [11]) (by kernel_rfl) (by simp) ?_
    refine AllReadyH.cons rfl (fun K hK => ?_) AllReadyH.nil
    rw [if_pos (by rfl)]
    refine wp_store_mid 27 (.tmp 4) (.tmp 20) rfl kk 0 (LC ⟨X1, X2, d⟩) rfl rfl C0.th Try.size27 (one_lcl _) ?_
    have g2 := setCells_grown kk (lcl ⟨X1, X2, d⟩) 0 u11
    have C1 : Box (World.setCells u11 kk 0 (lcl ⟨X1, X2, d⟩)) kk (lcl ⟨X1, X2, d⟩) := by
      have hb := Box.put (w := u11) (k := kk) (o := 0) (A := []) (B := lcl zeroL) (C := []) (B' := lcl ⟨X1, X2, d⟩) (by rw [List.append_nil]; exact C0) rfl rfl
      rw [List.append_nil] at hb
      exact hb
    replace W0 := below_grown W0 g2 (by omega) (Nat.le_of_lt A0.lt)
    replace A0 := A0.kept (by omega) g2
    replace Y0 := Y0.kept (k := kk) (fun b' o' e _ => by injection Option.some.inj e with e1 e2; omega) g2
    refine hK.out _ _ Y0 (fun hHeld => ?_)
    clear hK K hHeld g2 C0 T1 T2 T3
    obtain ⟨v5, hv5⟩ : ∃ v5, v5 = World.setCells u11 kk 0 (lcl ⟨X1, X2, d⟩) := ⟨_, rfl⟩
    rw [← hv5] at A0 Y0 W0 C1
    have e5 : World.setCells u11 kk 0 (LC ⟨X1, X2, d⟩).toList = v5 := by rw [hv5]; rfl
    rw [e5]
    clear e5 hv5
    change wpAnyH _ _ _ _ _ _ _ ⟨#[.slice (some ⟨b, o, none⟩) 110 c, undef, .pointer (some ⟨w.heap.size, 0, none⟩), .int .i64 0, .pointer (some ⟨kk, 0, none⟩), undef, undef, .slice (some ⟨b, o, none⟩) 110 c, .int .i64 110, .bool false, undef, .slice (some ⟨b, o, none⟩) 110 c, .slice (some ⟨b, o + 4, none⟩) 18 (c - 4), .agg (IC X1), .slice (some ⟨b, o, none⟩) 110 c, .slice (some ⟨b, o + 24, none⟩) 18 (c - 24), .agg (IC X2), .slice (some ⟨b, o, none⟩) 110 c, .slice (some ⟨b, o + 44, none⟩) 66 (c - 44), .int .i64 d, .agg (LC ⟨X1, X2, d⟩), undef, undef, undef, undef, undef, undef, undef, undef, undef, undef, undef, undef, undef, undef, undef, undef], []⟩ _
    refine wpAnyH_done (by kernel_rfl) ?_ _
    have tk1 : True := trivial
    go_wp2_with (have _t := tk1; refine wpl_lacp (.tmp 4) rfl C1 ?_ ?_ ?_; rfl; rfl; clear tk1)
    refine (encode11_yes ⟨X1, X2, d⟩ _ HB.out HT.out).mono ?_
    rintro e v6 ⟨a6, c6, rfl, Y6, hb6⟩
    replace A0 := A0.on hb6; replace C1 := C1.on hb6; replace Y0 := Y0.on hb6; replace W0 := belowOn W0 hb6
    have hc1 := bytStr Y6
    have hc2 := bytStr Y0
    have hq := HQ.out
    generalize enc ⟨X1, X2, d⟩ = el at *
    have tk1 : True := trivial
    have tk2 : True := trivial
    have Sw : w.heap.size ≤ v6.heap.size := Nat.le_of_lt A0.lt
    clear hb6 Y6 HQ HB HT
    go_wp2_with (have _t := tk2; refine wpl_putL zeroL zeroL (.tmp 2) (.tmp 35) rfl A0 ?_ ?_ ?_ ?_; rfl; rfl; rfl; clear tk2; intro v7 A1 g2)
    refine bodyPost_ret (res_lacp_tmp rfl rfl A1) rfl ⟨rfl, below_grown W0 g2 (Nat.le_refl _) Sw⟩
  go_simp
  refine (T3.out _ Y0).mono ?_
  rintro e u12 ⟨rfl, m, hm⟩
  replace Y0 := Y0.drewN m; replace A0 := A0.drewN m; replace W0 := below_drewN W0 m
  rw [← hm] at Y0 A0 W0
  clear hm hHeld
  refine hK.out _ _ Y0 (fun hHeld => ?_)
  clear hK K
  change wpAnyH _ _ _ _ _ _ _ ⟨#[.slice (some ⟨b, o, none⟩) 110 c, undef, .pointer (some ⟨w.heap.size, 0, none⟩), .int .i64 0, undef, undef, undef, .slice (some ⟨b, o, none⟩) 110 c, .int .i64 110, .bool false, undef, .slice (some ⟨b, o, none⟩) 110 c, .slice (some ⟨b, o + 4, none⟩) 18 (c - 4), .agg (IC X1), .slice (some ⟨b, o, none⟩) 110 c, .slice (some ⟨b, o + 24, none⟩) 18 (c - 24), .agg (IC X2), .slice (some ⟨b, o, none⟩) 110 c, .slice (some ⟨b, o + 44, none⟩) 66 (c - 44), .int .i64 d, undef, undef, undef, undef, undef, undef, undef, undef, undef, undef, undef, undef, undef, undef, undef, undef, undef], []⟩ _
  refine wpAnyH_take (i := 9) (v := .agg (LC ⟨X1, X2, d⟩)) rfl (by kernel_rfl) (by kernel_rfl) (by kernel_rfl) (fun _ _ _ h => h) (Or.inl ⟨by rfl, ?_⟩) hHeld ?_
  · intro W hW; clear hW; kernel_rfl
  change wpAnyH _ _ _ _ _ _ _ ⟨#[.slice (some ⟨b, o, none⟩) 110 c, undef, .pointer (some ⟨w.heap.size, 0, none⟩), .int .i64 0, undef, undef, undef, .slice (some ⟨b, o, none⟩) 110 c, .int .i64 110, .bool false, undef, .slice (some ⟨b, o, none⟩) 110 c, .slice (some ⟨b, o + 4, none⟩) 18 (c - 4), .agg (IC X1), .slice (some ⟨b, o, none⟩) 110 c, .slice (some ⟨b, o + 24, none⟩) 18 (c - 24), .agg (IC X2), .slice (some ⟨b, o, none⟩) 110 c, .slice (some ⟨b, o + 44, none⟩) 66 (c - 44), .int .i64 d, .agg (LC ⟨X1, X2, d⟩), undef, undef, undef, undef, undef, undef, undef, undef, undef, undef, undef, undef, undef, undef, undef, undef], []⟩ _
  refine wpAnyH_ready (rs := [10]) (by kernel_rfl) (by simp) ?_
  refine AllReadyH.cons rfl (fun K hK => ?_) AllReadyH.nil
  go_simp
  have C0 : Box (World.alloc u12 (.cells (LC zeroL) 27)) (World.heap u12).size (lcl zeroL) := Box.new _ (lcl zeroL) 27
  have hkk : w.heap.size < (World.heap u12).size := A0.lt
  have hby : b < (World.heap u12).size := Nat.lt_trans hbl hkk
  replace Y0 := Y0.alloc (.cells (LC zeroL) 27); replace A0 := A0.alloc (.cells (LC zeroL) 27); replace W0 := belowOn W0 (below_alloc _ (.cells (LC zeroL) 27))
  refine hK.out _ _ Y0 (fun hHeld => ?_)
  clear hK K hHeld
  obtain ⟨u13, hu⟩ : ∃ u13, u13 = World.alloc u12 (.cells (LC zeroL) 27) := ⟨_, rfl⟩
  obtain ⟨kk, hke⟩ : ∃ kk, kk = (World.heap u12).size := ⟨_, rfl⟩
  rw [← hu] at Y0 A0 W0 C0
  rw [← hke] at C0 hkk hby
  have hHeld := Y0
  change wpAnyH _ _ _ _ _ _ _ ⟨#[.slice (some ⟨b, o, none⟩) 110 c, undef, .pointer (some ⟨w.heap.size, 0, none⟩), .int .i64 0, .pointer (some ⟨(World.heap u12).size, 0, none⟩), undef, undef, .slice (some ⟨b, o, none⟩) 110 c, .int .i64 110, .bool false, undef, .slice (some ⟨b, o, none⟩) 110 c, .slice (some ⟨b, o + 4, none⟩) 18 (c - 4), .agg (IC X1), .slice (some ⟨b, o, none⟩) 110 c, .slice (some ⟨b, o + 24, none⟩) 18 (c - 24), .agg (IC X2), .slice (some ⟨b, o, none⟩) 110 c, .slice (some ⟨b, o + 44, none⟩) 66 (c - 44), .int .i64 d, .agg (LC ⟨X1, X2, d⟩), undef, undef, undef, undef, undef, undef, undef, undef, undef, undef, undef, undef, undef, undef, undef, undef], []⟩ (World.alloc u12 (.cells (LC zeroL) 27))
  rw [← hu, ← hke]
  clear hu hke
  refine wpAnyH_ready (rs := [11]) (by kernel_rfl) (by simp) ?_
  refine AllReadyH.cons rfl (fun K hK => ?_) AllReadyH.nil
  rw [if_pos (by rfl)]
  refine wp_store_mid 27 (.tmp 4) (.tmp 20) rfl kk 0 (LC ⟨X1, X2, d⟩) rfl rfl C0.th Try.size27 (one_lcl _) ?_
  have g2 := setCells_grown kk (lcl ⟨X1, X2, d⟩) 0 u13
  have C1 : Box (World.setCells u13 kk 0 (lcl ⟨X1, X2, d⟩)) kk (lcl ⟨X1, X2, d⟩) := by
    have hb := Box.put (w := u13) (k := kk) (o := 0) (A := []) (B := lcl zeroL) (C := []) (B' := lcl ⟨X1, X2, d⟩) (by rw [List.append_nil]; exact C0) rfl rfl
    rw [List.append_nil] at hb
    exact hb
  replace W0 := below_grown W0 g2 (by omega) (Nat.le_of_lt A0.lt)
  replace A0 := A0.kept (by omega) g2
  replace Y0 := Y0.kept (k := kk) (fun b' o' e _ => by injection Option.some.inj e with e1 e2; omega) g2
  refine hK.out _ _ Y0 (fun hHeld => ?_)
  clear hK K hHeld g2 C0 T1 T2 T3
  obtain ⟨v5, hv5⟩ : ∃ v5, v5 = World.setCells u13 kk 0 (lcl ⟨X1, X2, d⟩) := ⟨_, rfl⟩
  rw [← hv5] at A0 Y0 W0 C1
  have e5 : World.setCells u13 kk 0 (LC ⟨X1, X2, d⟩).toList = v5 := by rw [hv5]; rfl
  rw [e5]
  clear e5 hv5
  change wpAnyH _ _ _ _ _ _ _ ⟨#[.slice (some ⟨b, o, none⟩) 110 c, undef, .pointer (some ⟨w.heap.size, 0, none⟩), .int .i64 0, .pointer (some ⟨kk, 0, none⟩), undef, undef, .slice (some ⟨b, o, none⟩) 110 c, .int .i64 110, .bool false, undef, .slice (some ⟨b, o, none⟩) 110 c, .slice (some ⟨b, o + 4, none⟩) 18 (c - 4), .agg (IC X1), .slice (some ⟨b, o, none⟩) 110 c, .slice (some ⟨b, o + 24, none⟩) 18 (c - 24), .agg (IC X2), .slice (some ⟨b, o, none⟩) 110 c, .slice (some ⟨b, o + 44, none⟩) 66 (c - 44), .int .i64 d, .agg (LC ⟨X1, X2, d⟩), undef, undef, undef, undef, undef, undef, undef, undef, undef, undef, undef, undef, undef, undef, undef, undef], []⟩ _
  refine wpAnyH_done (by kernel_rfl) ?_ _
  have tk1 : True := trivial
  go_wp2_with (have _t := tk1; refine wpl_lacp (.tmp 4) rfl C1 ?_ ?_ ?_; rfl; rfl; clear tk1)
  refine (encode11_yes ⟨X1, X2, d⟩ _ HB.out HT.out).mono ?_
  rintro e v6 ⟨a6, c6, rfl, Y6, hb6⟩
  replace A0 := A0.on hb6; replace C1 := C1.on hb6; replace Y0 := Y0.on hb6; replace W0 := belowOn W0 hb6
  have hc1 := bytStr Y6
  have hc2 := bytStr Y0
  have hq := HQ.out
  generalize enc ⟨X1, X2, d⟩ = el at *
  have tk1 : True := trivial
  have tk2 : True := trivial
  have Sw : w.heap.size ≤ v6.heap.size := Nat.le_of_lt A0.lt
  clear hb6 Y6 HQ HB HT
  go_wp2_with (have _t := tk2; refine wpl_putL zeroL zeroL (.tmp 2) (.tmp 35) rfl A0 ?_ ?_ ?_ ?_; rfl; rfl; rfl; clear tk2; intro v7 A1 g2)
  refine bodyPost_ret (res_lacp_tmp rfl rfl A1) rfl ⟨rfl, below_grown W0 g2 (Nat.le_refl _) Sw⟩
end
theorem decode15 (ao : Option Addr) (n c : Nat) (ns : List Int) (w : World) (hb : Byt w ao n c ns) :
    Calls Try.prog 15 #[.slice ao n c] w fun e w' => e = .returned (.tuple #[.agg (LC (dl ns)), .int .i64 (dc ns)]) ∧ Below w.heap.size w w' := by
  by_cases hn : n = 110
  · subst hn
    obtain ⟨b, o, rfl, -, -⟩ := hb.at (by omega)
    cases hk : ok ns
    · rw [dl_no hk, dc_no hk]
      exact dec15_no b o c ns w hb hk
    · rw [dl_yes hk, dc_yes hk]
      exact dec15_yes b o c ns w hb hk
  · have hk := ok_not110 (l := ns) (by rw [hb.len]; exact hn)
    rw [dl_no hk, dc_no hk]
    exact dec15_len ao n c w hn
end Go.Proofs.Ytaehhhknpbbmkaa
