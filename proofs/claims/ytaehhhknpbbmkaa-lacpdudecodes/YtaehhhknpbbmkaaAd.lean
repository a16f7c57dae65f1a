/- Contracts of the reader: must, zeros, mac. -/
import Derived.Test.YtaehhhknpbbmkaaAc
namespace Go.Proofs.Ytaehhhknpbbmkaa
open Go.RowKit Go.PlainAid

theorem mok_no {want ns : List Int} {m k : Nat} (hm : want.length = m) (h : ¬ (ns.take m).getD k 0 = want.getD k 0) : mok want ns = false := by
  refine decide_eq_false (fun e => h ?_)
  rw [hm] at e
  rw [e]
theorem mok_short {want ns : List Int} {m : Nat} (hm : want.length = m) (h : ns.length < m) : mok want ns = false := by
  refine decide_eq_false (fun e => ?_)
  have := congrArg List.length e
  rw [List.length_take] at this
  omega
theorem mok_yes {want ns : List Int} {m : Nat} (hm : want.length = m) (hn : m ≤ ns.length) (h : ∀ j, j < m → (ns.take m).getD j 0 = want.getD j 0) : mok want ns = true := by
  refine decide_eq_true ?_
  rw [hm]
  apply List.ext_getElem
  · rw [List.length_take]; omega
  · intro j h1 h2
    have := h j (by omega)
    rw [List.getD_eq_getElem?_getD, List.getElem?_eq_getElem h1, List.getD_eq_getElem?_getD, List.getElem?_eq_getElem h2] at this
    exact this
set_option maxRecDepth 100000 in
set_option maxHeartbeats 2000000 in
theorem must35 (r B q m : Nat) (want ns : List Int) (w : World) (h : RdE w r B ns) (hw : Byt w (some ⟨q, 0, none⟩) m m want) (hq : q ≠ r) (h0 : 0 < m) (hm : m ≤ 1000) :
    Calls Try.prog 35 #[.pointer (some ⟨r, 0, none⟩), .slice (some ⟨q, 0, none⟩) m m] w fun e w' => (mok want ns = true ∧ e = .returned (.tuple #[]) ∧ RdE w' r B (ns.drop m) ∨ mok want ns = false ∧ e = .panicked pan) ∧ w.grownBy w' (some r) := by
  have hlen := hw.len
  by_cases hn : m ≤ ns.length
  · have H := hide h
    have HW := hide hw
    have HL := hide hlen
    have HN := hide hn
    clear h hw hlen hn
    go_enter Try.func35, Try.ntmps35
    go_wp2_with fail
    refine (take42 r B ns m m _ H.out h0 HN.out rfl).mono ?_
    rintro e w1 ⟨b, o, c, rfl, hY, -, hR, hG⟩
    have hW1 := HW.out.kept (fun b o e _ => by injection Option.some.inj e with e1 e2; omega) hG
    have hle : (m : Int) ≤ c := by have := hY.le; omega
    have CY : Hid (∀ j, j < m → w1.cell? ⟨b, o + j, none⟩ = some (.int .u8 ((ns.take m).getD j 0))) := hide (by
      obtain ⟨b', o', e, hc, -⟩ := hY.at h0
      injection Option.some.inj e with e1 e2
      subst e1 e2
      exact hc)
    have CW : Hid (∀ j, j < m → w1.cell? ⟨q, j, none⟩ = some (.int .u8 (want.getD j 0))) := hide (by
      obtain ⟨b', o', e, hc, -⟩ := hW1.at h0
      injection Option.some.inj e with e1 e2
      subst e1 e2
      intro j hj
      have := hc j hj
      rwa [Nat.zero_add] at this)
    have HR := hide hR
    have HG := hide hG
    clear hY hR hG hW1 H HW
    go_wp2
    go_loop [11] (fun i => ∃ k : Nat, k ≤ m ∧ i = .int .i64 k ∧ ∀ j, j < k → (ns.take m).getD j 0 = want.getD j 0) (fun i => m - (intOf i).toNat)
    case atStart => exact ⟨0, Nat.zero_le _, rfl, fun j hj => by omega⟩
    case round =>
      obtain ⟨k, hk, rfl, hall⟩ := hrel
      have HA := hide hall
      clear hall
      by_cases hlt : k < m
      · have cy := CY.out k hlt
        have cw := CW.out k hlt
        have HNO : Hid (¬ (ns.take m).getD k 0 = want.getD k 0 → mok want ns = false) := hide (fun h => mok_no HL.out h)
        have HYES : Hid ((ns.take m).getD k 0 = want.getD k 0 → ∀ j, j < k + 1 → (ns.take m).getD j 0 = want.getD j 0) := hide (fun e j hj => by
          by_cases e2 : j = k
          · subst e2; exact e
          · exact HA.out j (by omega))
        generalize (ns.take m).getD k 0 = x at cy HNO HYES
        generalize want.getD k 0 = y at cw HNO HYES
        by_cases hxy : x = y
        · have HY := hide (HYES.out hxy)
          have hx : (x != y) = false := by simp [hxy]
          clear HYES HNO hxy
          go_wp2
          go_round
          case rel => exact ⟨k + 1, by omega, by go_num, HY.out⟩
          case measure => simp [intOf]; omega
        · have hf := hide (HNO.out hxy)
          have hx : (x != y) = true := by simp [hxy]
          clear HYES HNO hxy
          go_wp2
          exact ⟨rfl, Or.inr ⟨hf.out, rfl⟩, HG.out⟩
      · have hy := hide (mok_yes HL.out HN.out (fun j hj => HA.out j (by omega)))
        go_wp2
        go_end0
        exact ⟨Or.inl ⟨hy.out, rfl, HR.out⟩, HG.out⟩
  · have hf := hide (mok_short (ns := ns) hlen (by omega))
    have HN := hide hn
    have H := hide h
    clear h hw hlen hn
    go_enter Try.func35, Try.ntmps35
    go_wp2_with fail
    refine (take42_no r B ns m _ H.out (by have := HN.out; omega)).mono ?_
    rintro e w1 ⟨rfl, rfl⟩
    go_wp2
    exact ⟨rfl, Or.inr ⟨hf.out, rfl⟩, World.grownBy.refl _ _⟩
set_option maxRecDepth 100000 in
set_option maxHeartbeats 2000000 in
theorem zeros38 (r B : Nat) (M : Int) (m : Nat) (ns : List Int) (w : World) (h : RdE w r B ns) (hM : M = m) (h0 : 0 < m) (hm : m ≤ 1000) :
    Calls Try.prog 38 #[.pointer (some ⟨r, 0, none⟩), .int .i64 M] w fun e w' => (mok (zs m) ns = true ∧ e = .returned (.tuple #[]) ∧ RdE w' r B (ns.drop m) ∨ mok (zs m) ns = false ∧ e = .panicked pan) ∧ w.grownBy w' (some r) := by
  obtain ⟨i0, hi, hz0, hz1, hz2⟩ := info_parts Try.info5
  have H := hide h
  have HM := hide hM
  have hr : r < w.heap.size := Nat.lt_of_lt_of_le h.rb h.sz
  clear h hM
  go_enter Try.func38, Try.ntmps38
  go_wp2_with (at_make; refine wpList_make_full _ rfl (.tmp 5) (.tmp 5) 29 rfl w.heap.size 5 i0 (.int .u8 0) 1 Try.underlying29 hi hz0 hz1 .i64 .i64 M M m rfl rfl HM.out HM.out (by rw [hz2]; omega) (by unfold maxLen; omega) (Nat.le_refl _) ?_)
  intro w1 hown hgrow
  have hB : Below w.heap.size w w1 := (Below.refl _ _).grown hgrow (Nat.le_refl _) (fun k hk => by cases hk)
  have hRow : w1.ownsRow w.heap.size 5 1 (.slice (some ⟨w.heap.size, 0, none⟩) m m) m ((zs m).map (Value.int .u8)) := by
    have e : (madeCells #[Value.int .u8 0] m).toList = (zs m).map (Value.int .u8) := by
      rw [zs_map]
      exact toList_madeCells_one (.int .u8 0) m
    rw [← e]
    exact hown
  obtain ⟨ao, c, e, hY⟩ := own_byt hRow (zs_rng m)
  injection e with e1 e2 e3
  subst e1 e3
  have R1 := H.out.on hB
  clear hown hRow hi hz0 hz1 hz2
  go_wp2_with fail
  refine (must35 r B w.heap.size m (zs m) ns _ R1 hY (by omega) h0 hm).mono ?_
  have G0 : w.grownBy w1 (some r) := grown_below (World.grownBy.refl w (some r)) hB
  rintro e w2 ⟨⟨h1, rfl, h2⟩ | ⟨h1, rfl⟩, hG⟩
  · have H1 := hide h1
    clear h1 hY R1 hB hgrow
    go_wp2
    go_end0
    exact ⟨Or.inl ⟨H1.out, rfl, h2⟩, grown_trans G0 hG⟩
  · have H1 := hide h1
    clear h1 hY R1 hB hgrow
    go_wp2
    exact ⟨rfl, Or.inr ⟨H1.out, rfl⟩, grown_trans G0 hG⟩
theorem copy6 {w1 : World} {M b o c : Nat} {x0 x1 x2 x3 x4 x5 : Int} (hM : w1.heap[M]? = some (.cells #[.int .u8 0, .int .u8 0, .int .u8 0, .int .u8 0, .int .u8 0, .int .u8 0] 23 (0, 0)))
    (d0 : w1.cell? ⟨b, o, none⟩ = some (.int .u8 x0)) (d1 : w1.cell? ⟨b, o + 1, none⟩ = some (.int .u8 x1)) (d2 : w1.cell? ⟨b, o + 2, none⟩ = some (.int .u8 x2)) (d3 : w1.cell? ⟨b, o + 3, none⟩ = some (.int .u8 x3)) (d4 : w1.cell? ⟨b, o + 4, none⟩ = some (.int .u8 x4)) (d5 : w1.cell? ⟨b, o + 5, none⟩ = some (.int .u8 x5)) : ∃ w2, (Builtin.copy_ #[29, 29] 3 #[.slice (some ⟨M, 0, none⟩) 6 6, .slice (some ⟨b, o, none⟩) 6 c]).run Try.prog w1 = .ok (.int .i64 6) w2 ∧ w2.heap[M]? = some (.cells #[.int .u8 x0, .int .u8 x1, .int .u8 x2, .int .u8 x3, .int .u8 x4, .int .u8 x5] 23 (0, 0)) ∧ w1.grownBy w2 (some M) := by
  have hs : (Try.prog.info? 5).map (·.size) = some 1 := by kernel_rfl
  have h := run_copy_row (P := Try.prog) w1 29 29 3 5 M 0 6 6 ⟨b, o, none⟩ 6 c #[.int .u8 0, .int .u8 0, .int .u8 0, .int .u8 0, .int .u8 0, .int .u8 0] 23 [.int .u8 x0, .int .u8 x1, .int .u8 x2, .int .u8 x3, .int .u8 x4, .int .u8 x5] Try.underlying29 hs hM rfl (fun j v hv => by
      rw [Addr.add_lit]
      match j, hv with
      | 0, hv => simp at hv; subst hv; exact d0
      | 1, hv => simp at hv; subst hv; exact d1
      | 2, hv => simp at hv; subst hv; exact d2
      | 3, hv => simp at hv; subst hv; exact d3
      | 4, hv => simp at hv; subst hv; exact d4
      | 5, hv => simp at hv; subst hv; exact d5) (by simp) (by intro v hv; simp at hv; rcases hv with rfl | rfl | rfl | rfl | rfl | rfl <;> rfl)
  refine ⟨_, h, ?_, ?_⟩
  · exact setRow_heap w1 M _ _ 23 _ hM
  · exact ⟨rfl, rfl, rfl, by simp [World.setRow], fun k hk hne => setRow_other w1 M k _ (fun e => hne (by rw [e]))⟩
theorem res_mac {fn : Func} {p : Tmp} (h : fn.results = #[.cell p 23]) {tmps : Array Value} {w : World} {k : Nat} {a0 a1 a2 a3 a4 a5 : Value} (hp : tmps.getD p undef = .pointer (some ⟨k, 0, none⟩)) (hA : w.rangeAt k 0 [a0, a1, a2, a3, a4, a5]) :
    (results fn tmps).run Try.prog w = .ok (.agg #[a0, a1, a2, a3, a4, a5]) w := by
  have hl := run_loadVar_mid (P := Try.prog) w k 0 23 _ _ hA Try.underlying23 rfl Try.size23
  have hp' : tmps[p]?.getD undef = .pointer (some ⟨k, 0, none⟩) := by simpa using hp
  simp only [results, h]
  simp [hp', asAddr, hl]
theorem grown6 (w : World) (k : Nat) (v0 v1 v2 v3 v4 v5 : Value) : w.grownBy ((((((w.setCell ⟨k, 0, none⟩ v0).setCell ⟨k, 1, none⟩ v1).setCell ⟨k, 2, none⟩ v2).setCell ⟨k, 3, none⟩ v3).setCell ⟨k, 4, none⟩ v4).setCell ⟨k, 5, none⟩ v5) (some k) := setCells_grown k [v0, v1, v2, v3, v4, v5] 0 w
/-- The address of the first six bytes. -/
def mac6 (ns : List Int) : Array Value := #[.int .u8 (ns.getD 0 0), .int .u8 (ns.getD 1 0), .int .u8 (ns.getD 2 0), .int .u8 (ns.getD 3 0), .int .u8 (ns.getD 4 0), .int .u8 (ns.getD 5 0)]
set_option maxRecDepth 100000 in
set_option maxHeartbeats 2000000 in
theorem mac43_yes (r B : Nat) (ns : List Int) (w : World) (h : RdE w r B ns) (hn : 6 ≤ ns.length) :
    Calls Try.prog 43 #[.pointer (some ⟨r, 0, none⟩)] w fun e w' => e = .returned (.agg (mac6 ns)) ∧ RdE w' r B (ns.drop 6) ∧ w.grownBy w' (some r) := by
  have hsz := h.sz
  have hrb := h.rb
  have HR : Hid (RdE ((w.alloc (.cells #[.int .u8 0, .int .u8 0, .int .u8 0, .int .u8 0, .int .u8 0, .int .u8 0] 23)).alloc (.cells #[.int .u8 0, .int .u8 0, .int .u8 0, .int .u8 0, .int .u8 0, .int .u8 0] 23)).drew r B ns) := hide ((h.on (by go_grown)).drew)
  have HM : Hid (((((w.alloc (.cells #[.int .u8 0, .int .u8 0, .int .u8 0, .int .u8 0, .int .u8 0, .int .u8 0] 23)).alloc (.cells #[.int .u8 0, .int .u8 0, .int .u8 0, .int .u8 0, .int .u8 0, .int .u8 0] 23)).drew).heap[w.heap.size + 1]? = some (.cells #[.int .u8 0, .int .u8 0, .int .u8 0, .int .u8 0, .int .u8 0, .int .u8 0] 23 (0, 0)))) := by
    have e := heap_alloc_new (w.alloc (.cells #[.int .u8 0, .int .u8 0, .int .u8 0, .int .u8 0, .int .u8 0, .int .u8 0] 23)) (.cells #[.int .u8 0, .int .u8 0, .int .u8 0, .int .u8 0, .int .u8 0, .int .u8 0] 23)
    rw [World.size_alloc] at e
    exact e
  have G0 : w.grownBy ((w.alloc (.cells #[.int .u8 0, .int .u8 0, .int .u8 0, .int .u8 0, .int .u8 0, .int .u8 0] 23)).alloc (.cells #[.int .u8 0, .int .u8 0, .int .u8 0, .int .u8 0, .int .u8 0, .int .u8 0] 23)).drew (some r) := grown_drew (grown_alloc (grown_alloc (World.grownBy.refl w (some r)) _) _)
  have hm1 : some (w.heap.size + 1) ≠ some r := fun e => by have := Option.some.inj e; omega
  have hm0 : some w.heap.size ≠ some r := fun e => by have := Option.some.inj e; omega
  have T0 := hide (take_getD ns 6 0 (by omega)); have T1 := hide (take_getD ns 6 1 (by omega)); have T2 := hide (take_getD ns 6 2 (by omega)); have T3 := hide (take_getD ns 6 3 (by omega)); have T4 := hide (take_getD ns 6 4 (by omega)); have T5 := hide (take_getD ns 6 5 (by omega))
  unfold mac6
  generalize ns.getD 0 0 = x0 at *
  generalize ns.getD 1 0 = x1 at *
  generalize ns.getD 2 0 = x2 at *
  generalize ns.getD 3 0 = x3 at *
  generalize ns.getD 4 0 = x4 at *
  generalize ns.getD 5 0 = x5 at *
  clear h
  go_enter Try.func43, Try.ntmps43
  go_wp2_with fail
  go_region_with (first | (go_at_call 42; refine (take42 r B ns 6 6 _ HR.out (by omega) hn rfl).mono ?_; rintro e w1 ⟨b, o, c, rfl, hY, -, R1, G1⟩; have hle : (6 : Int) ≤ c := (by have := hY.le; omega); obtain ⟨b', o', e, hc, -⟩ := hY.at (by omega); injection Option.some.inj e with e1 e2; subst e1 e2; have d0 : w1.cell? ⟨b, o, none⟩ = some (.int .u8 x0) := (by rw [← T0.out]; exact hc 0 (by omega)); have d1 : w1.cell? ⟨b, o + 1, none⟩ = some (.int .u8 x1) := (by rw [← T1.out]; exact hc 1 (by omega)); have d2 : w1.cell? ⟨b, o + 2, none⟩ = some (.int .u8 x2) := (by rw [← T2.out]; exact hc 2 (by omega)); have d3 : w1.cell? ⟨b, o + 3, none⟩ = some (.int .u8 x3) := (by rw [← T3.out]; exact hc 3 (by omega)); have d4 : w1.cell? ⟨b, o + 4, none⟩ = some (.int .u8 x4) := (by rw [← T4.out]; exact hc 4 (by omega)); have d5 : w1.cell? ⟨b, o + 5, none⟩ = some (.int .u8 x5) := (by rw [← T5.out]; exact hc 5 (by omega)); obtain ⟨w2, hcp, hg2, G2⟩ := copy6 (w1 := w1) (M := w.heap.size + 1) (b := b) (o := o) (c := c) ((G1.block (w.heap.size + 1) (by simp) hm1).trans HM.out) d0 d1 d2 d3 d4 d5; clear hc hY e d0 d1 d2 d3 d4 d5))
  have m0 : w2.cell? ⟨w.heap.size + 1, 0, none⟩ = some (.int .u8 x0) := cell_of_row w2 _ 0 _ _ _ hg2
  have m1 : w2.cell? ⟨w.heap.size + 1, 1, none⟩ = some (.int .u8 x1) := cell_of_row w2 _ 1 _ _ _ hg2
  have m2 : w2.cell? ⟨w.heap.size + 1, 2, none⟩ = some (.int .u8 x2) := cell_of_row w2 _ 2 _ _ _ hg2
  have m3 : w2.cell? ⟨w.heap.size + 1, 3, none⟩ = some (.int .u8 x3) := cell_of_row w2 _ 3 _ _ _ hg2
  have m4 : w2.cell? ⟨w.heap.size + 1, 4, none⟩ = some (.int .u8 x4) := cell_of_row w2 _ 4 _ _ _ hg2
  have m5 : w2.cell? ⟨w.heap.size + 1, 5, none⟩ = some (.int .u8 x5) := cell_of_row w2 _ 5 _ _ _ hg2
  have l0 : w2.cell? ⟨w.heap.size, 0, none⟩ = some (.int .u8 0) := G2.cell (G1.cell (a := ⟨w.heap.size, 0, none⟩) (v := .int .u8 0) (by simp) hm0) (by simp)
  have l1 : w2.cell? ⟨w.heap.size, 1, none⟩ = some (.int .u8 0) := G2.cell (G1.cell (a := ⟨w.heap.size, 1, none⟩) (v := .int .u8 0) (by simp) hm0) (by simp)
  have l2 : w2.cell? ⟨w.heap.size, 2, none⟩ = some (.int .u8 0) := G2.cell (G1.cell (a := ⟨w.heap.size, 2, none⟩) (v := .int .u8 0) (by simp) hm0) (by simp)
  have l3 : w2.cell? ⟨w.heap.size, 3, none⟩ = some (.int .u8 0) := G2.cell (G1.cell (a := ⟨w.heap.size, 3, none⟩) (v := .int .u8 0) (by simp) hm0) (by simp)
  have l4 : w2.cell? ⟨w.heap.size, 4, none⟩ = some (.int .u8 0) := G2.cell (G1.cell (a := ⟨w.heap.size, 4, none⟩) (v := .int .u8 0) (by simp) hm0) (by simp)
  have l5 : w2.cell? ⟨w.heap.size, 5, none⟩ = some (.int .u8 0) := G2.cell (G1.cell (a := ⟨w.heap.size, 5, none⟩) (v := .int .u8 0) (by simp) hm0) (by simp)
  have fl : ∀ j, w2.frozen? ⟨w.heap.size, j, none⟩ = false := fun j => (World.frozen?_of_block (a := ⟨w.heap.size, j, none⟩) (G2.block w.heap.size (Nat.lt_of_lt_of_le (by simp; omega) G1.size) (by simp))).trans ((World.frozen?_of_block (a := ⟨w.heap.size, j, none⟩) (G1.block w.heap.size (by simp; omega) hm0)).trans (by simp))
  have R2 := hide (R1.kept (k := w.heap.size + 1) (by omega) G2)
  have G02 := grown_new (grown_trans G0 G1) G2 (by omega)
  have T2 : w2.there w.heap.size 0 6 := fun j hj => by
    rw [Nat.zero_add]
    refine ⟨?_, fl j⟩
    rcases (show j = 0 ∨ j = 1 ∨ j = 2 ∨ j = 3 ∨ j = 4 ∨ j = 5 by omega) with rfl | rfl | rfl | rfl | rfl | rfl
    · rw [l0]; rfl
    · rw [l1]; rfl
    · rw [l2]; rfl
    · rw [l3]; rfl
    · rw [l4]; rfl
    · rw [l5]; rfl
  have RG := hide (World.rangeAt_setCells_same w2 w.heap.size 0 [.int .u8 x0, .int .u8 x1, .int .u8 x2, .int .u8 x3, .int .u8 x4, .int .u8 x5] T2)
  clear R1 G0 G1 G2 hcp hg2 HM HR T2
  go_wp2
  refine bodyPost_ret (res_mac rfl rfl RG.out) rfl ⟨rfl, R2.out.kept (k := w.heap.size) hsz (grown6 _ _ _ _ _ _ _ _), grown_new G02 (grown6 _ _ _ _ _ _ _ _) (Nat.le_refl _)⟩
set_option maxRecDepth 100000 in
set_option maxHeartbeats 1000000 in
theorem mac43_no (r B : Nat) (ns : List Int) (w : World) (h : RdE w r B ns) (hn : ns.length < 6) :
    Calls Try.prog 43 #[.pointer (some ⟨r, 0, none⟩)] w fun e w' => e = .panicked pan ∧ w.grownBy w' (some r) := by
  have HR : Hid (RdE ((w.alloc (.cells #[.int .u8 0, .int .u8 0, .int .u8 0, .int .u8 0, .int .u8 0, .int .u8 0] 23)).alloc (.cells #[.int .u8 0, .int .u8 0, .int .u8 0, .int .u8 0, .int .u8 0, .int .u8 0] 23)).drew r B ns) := hide ((h.on (by go_grown)).drew)
  have G0 : w.grownBy ((w.alloc (.cells #[.int .u8 0, .int .u8 0, .int .u8 0, .int .u8 0, .int .u8 0, .int .u8 0] 23)).alloc (.cells #[.int .u8 0, .int .u8 0, .int .u8 0, .int .u8 0, .int .u8 0, .int .u8 0] 23)).drew (some r) := grown_drew (grown_alloc (grown_alloc (World.grownBy.refl w (some r)) _) _)
  clear h
  go_enter Try.func43, Try.ntmps43
  go_wp2_with fail
  refine wp_region_any (by kernel_rfl) ?_
  change wpAny _ _ _ _ _ _ _ (World.drew _)
  refine wpAny_take (i := 0) (v := .slice (some ⟨w.heap.size + 1, 0, none⟩) 6 6) rfl (by kernel_rfl) (by kernel_rfl) (by kernel_rfl) (fun _ _ _ h => h) (Or.inl ⟨by rfl, ?_⟩) ?_
  · intro w; go_simp
  refine wpAny_take (i := 1) (v := .pointer (some ⟨r, 0, none⟩)) rfl (by kernel_rfl) (by kernel_rfl) (by kernel_rfl) (fun _ _ _ h => h) (Or.inl ⟨by rfl, ?_⟩) ?_
  · intro w; go_simp
  refine wpAny_ready (rs := [2]) (by kernel_rfl) (by simp) ?_
  refine AllReady.cons rfl (fun K hK => ?_) AllReady.nil
  go_simp
  refine (take42_no r B ns 6 _ HR.out (by omega)).mono ?_
  rintro e w1 ⟨rfl, rfl⟩
  exact ⟨rfl, rfl, G0⟩
theorem mac43 (r B : Nat) (ns : List Int) (w : World) (h : RdE w r B ns) :
    Calls Try.prog 43 #[.pointer (some ⟨r, 0, none⟩)] w fun e w' => (6 ≤ ns.length ∧ e = .returned (.agg (mac6 ns)) ∧ RdE w' r B (ns.drop 6) ∨ ns.length < 6 ∧ e = .panicked pan) ∧ w.grownBy w' (some r) := by
  by_cases hn : 6 ≤ ns.length
  · exact (mac43_yes r B ns w h hn).mono fun e w' ⟨h1, h2, h3⟩ => ⟨Or.inl ⟨hn, h1, h2⟩, h3⟩
  · exact (mac43_no r B ns w h (by omega)).mono fun e w' ⟨h1, h3⟩ => ⟨Or.inr ⟨by omega, h1⟩, h3⟩
end Go.Proofs.Ytaehhhknpbbmkaa
