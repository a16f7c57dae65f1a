/- Contract of Get of the document's queue. -/
import Derived.Test.YtmdbclhdbglppaaRc
import Derived.Deep.DeepCutAuto
namespace Go.Proofs.Ytmdbclhdbglppaa
open Go.RowKit Go.PlainAid

def bv : Option Nat → Int
  | none => -1
  | some j => j
theorem cx_at {L : List Wt} {j : Nat} {x : Wt} (h : L[j]? = some x) : cx L j = x.c := by unfold cx; rw [h]; rfl
/-- The class at a place, in memory. -/
theorem RQ.cls {w : World} {g : Nat} {F : Nat → Prop} {n : Nat} {b o : Nat} {m c : Nat} {V : List Wv} {L : List Wt} {ls : List Nat} (h : RQ w g F n (some ⟨b, o, none⟩) m c V L ls) {j : Nat} (hj : j < m) : w.cell? ⟨b, o + j * 2, none⟩ = some (.int .i64 (cx L j)) := by
  have hlen := h.sl.len
  have hml := h.mt.len
  obtain ⟨x, hx⟩ : ∃ x, L[j]? = some x := ⟨_, List.getElem?_eq_getElem (by omega)⟩
  obtain ⟨v, hv, hvc, _⟩ := h.mt.at hx
  obtain ⟨b', o', e, _, _, d0, _⟩ := h.sl.cell hv
  injection Option.some.inj e with e1 e2
  subst e1 e2
  rw [cx_at hx, ← hvc]
  exact d0
theorem Wrs.take {w : World} {b o n c : Nat} {V : List Wv} (h : Wrs w (some ⟨b, o, none⟩) n c V) {k : Nat} (hk : k ≤ n) (c' : Nat) : Wrs w (some ⟨b, o, none⟩) k c' (V.take k) :=
  ⟨by rw [List.length_take, h.len]; omega, fun e => (by cases e), fun a e j u hj => by
    rw [wvs_take V k (by rw [h.len]; exact hk)] at hj
    have hl : j < k * 2 := by
      have := (List.getElem?_eq_some_iff.1 hj).1
      rw [List.length_take] at this; omega
    rw [List.getElem?_take_of_lt hl] at hj
    exact h.src a e j u hj⟩
theorem Wrs.drop {w : World} {b o n c : Nat} {V : List Wv} (h : Wrs w (some ⟨b, o, none⟩) n c V) {k : Nat} (hk : k ≤ n) {ao : Option Addr} (ha : k < n → ao = some ⟨b, o + k * 2, none⟩) (hs : ao ≠ none) (c' : Nat) : Wrs w ao (n - k) c' (V.drop k) :=
  ⟨by rw [List.length_drop, h.len], fun e => absurd e hs, fun a e j u hj => by
    rw [wvs_drop V k (by rw [h.len]; exact hk), List.getElem?_drop] at hj
    have hl := (List.getElem?_eq_some_iff.1 hj).1
    rw [wvs_length, h.len] at hl
    have e2 := ha (by omega)
    rw [e] at e2
    obtain rfl := Option.some.inj e2
    have := h.src _ rfl _ u hj
    rw [Addr.add_lit] at this ⊢
    rw [Nat.add_assoc]
    exact this⟩
theorem at_ifW {p : Prop} [Decidable p] {b o o' k : Nat} {a : Addr} (e : (if p then some (⟨b, o, none⟩ : Addr) else some ⟨b, o', none⟩) = some a) (h : b ≠ k) : ∃ b' o'', a = ⟨b', o'', none⟩ ∧ some b' ≠ some k := by
  split at e
  · exact ⟨b, o, (Option.some.inj e).symm, fun e => h (Option.some.inj e)⟩
  · exact ⟨b, o', (Option.some.inj e).symm, fun e => h (Option.some.inj e)⟩
theorem own_formW {w : World} {base : Nat} {e : TypeId} {size : Nat} {v : Value} {n : Nat} {xs : List Value} (h : w.ownsRow base e size v n xs) : ∃ ao c, v = .slice ao n c := by
  rcases h.2 with ⟨h1, h2⟩ | ⟨b, cap, cur, h1, _⟩
  · exact ⟨none, 0, by rw [h1, h2]⟩
  · exact ⟨_, _, h1⟩
theorem getTail {u w2 : World} {g : Nat} {F : Nat → Prop} {n : Nat} {ao : Option Addr} {m c : Nat} {V : List Wv} {L : List Wt} {ls : List Nat} (j : Nat) (H : RQ u g F n ao m c V L ls) (B : Below u.heap.size u w2) {v3 : Value} {m3 : Nat}
    (R : w2.ownsRow u.heap.size 56 2 v3 m3 (wvs (V.take j ++ V.drop (j + 1)))) (hl : (V.take j ++ V.drop (j + 1)).length = m3) {x : Nat} (hx : x < u.heap.size) (hxg : x ≠ g) {a d : Value} (x0 : u.cell? ⟨x, 0, none⟩ = some a) (x1 : u.cell? ⟨x, 1, none⟩ = some d) {ab : Option Addr} {nb cb : Nat} {l : List Int} (Y : By u F ab nb cb l) :
    (∃ F' ao' m' c' V', RQ (w2.setCell ⟨g, 1, none⟩ v3) g F' n ao' m' c' V' (L.eraseIdx j) ls ∧ ∀ i, F' i → F i ∨ u.heap.size ≤ i) ∧ Mid g (g + 1) u (w2.setCell ⟨g, 1, none⟩ v3) ∧ (w2.setCell ⟨g, 1, none⟩ v3).cell? ⟨x, 0, none⟩ = some a ∧ (w2.setCell ⟨g, 1, none⟩ v3).cell? ⟨x, 1, none⟩ = some d ∧ By (w2.setCell ⟨g, 1, none⟩ v3) F ab nb cb l := by
  have hM : Mt w2 (fun i => F i ∨ (u.heap.size ≤ i ∧ i < w2.heap.size)) (V.take j ++ V.drop (j + 1)) (L.eraseIdx j) := by
    rw [← List.eraseIdx_eq_take_drop_succ]
    exact ((H.mt.keep (kp_below B)).mono (fun i hi => Or.inl hi)).out j
  have hF := H.fresh B R hl hM
  have M := hF.2
  have e : (w2.setCell ⟨g, 1, none⟩ v3).heap[x]? = u.heap[x]? := M.block x hx (by omega)
  exact ⟨hF.1, M, by rw [World.cell?_of_block (a := ⟨x, 0, none⟩) e]; exact x0, by rw [World.cell?_of_block (a := ⟨x, 1, none⟩) e]; exact x1, Y.keep (kp_mid M (fun i hi => Or.inr (by have := (H.ng i hi).1; omega)))⟩
section
variable (g : Nat) (F : Nat → Prop) (n : Nat) (m c : Nat) (V : List Wv) (L : List Wt) (ls : List Nat) (w : World)
set_option maxRecDepth 100000 in
set_option maxHeartbeats 2000000 in
theorem getR_none (ao : Option Addr) (H : RQ w g F n ao m c V [] ls) :
    Calls Try.prog 20 #[.pointer (some ⟨g, 0, none⟩)] w fun e w' => e = .returned (.tuple #[.int .i64 0, .slice none 0 0, .bool false]) ∧ w' = w := by
  have c1 := H.bx.cell 1 _ rfl
  obtain rfl : m = 0 := by have h1 := H.sl.len; have h2 := H.mt.len; simp at h2; rw [h2] at h1; simpa using h1.symm
  clear H
  go_enter Try.func20, Try.ntmps20
  go_wp2
  go_loopw [5, 6] (fun b i wr => b = .int .i64 (-1) ∧ i = .int .i64 0 ∧ wr = w) (fun _ _ _ => 0)
  case atStart => exact ⟨rfl, rfl, rfl⟩
  case round =>
    obtain ⟨rfl, rfl, rfl⟩ := hrel
    go_wp2
    go_ret3
    exact ⟨rfl, rfl⟩
set_option maxRecDepth 100000 in
set_option maxHeartbeats 8000000 in
theorem getR_some (b o : Nat) (x : Wt) (j : Nat) (H : RQ w g F n (some ⟨b, o, none⟩) m c V L ls) (hL : L.length ≤ 50000) (hj : bi L L.length = some j) (hx : L[j]? = some x) :
    Calls Try.prog 20 #[.pointer (some ⟨g, 0, none⟩)] w fun e w' => (∃ ab nb cb, e = .returned (.tuple #[.int .i64 x.c, .slice ab nb cb, .bool true]) ∧ By w' F ab nb cb x.b) ∧ (∃ F' ao' m' c' V', RQ w' g F' n ao' m' c' V' (L.eraseIdx j) ls ∧ ∀ i, F' i → F i ∨ w.heap.size ≤ i) ∧ Mid g (g + 1) w w' := by
  have hm : m = L.length := by have := H.sl.len; have := H.mt.len; omega
  have hmc : m ≤ c := H.sl.le
  have hcx := H.sl.mx
  unfold maxLen at hcx
  have HM := hide hm
  have HL := hide hL
  have HJ := hide hj
  have HXX := hide hx
  have HR := hide H
  have c1 := H.bx.cell 1 _ rfl
  have HB0 : Hid (Below w.heap.size w w) := hide (Below.refl _ _)
  clear H hm hL hj hx
  go_enter Try.func20, Try.ntmps20
  go_wp2
  clear c1
  go_loopw [5, 6] (fun v5 i wr => ∃ q : Nat, q ≤ m ∧ i = .int .i64 q ∧ v5 = .int .i64 (bv (bi L q)) ∧ RQ wr g F n (some ⟨b, o, none⟩) m c V L ls ∧ Below w.heap.size w wr) (fun _ i _ => m - (intOf i).toNat)
  case atStart => exact ⟨0, Nat.zero_le _, rfl, rfl, HR.out, HB0.out⟩
  case round =>
    obtain ⟨q, hq, rfl, rfl, hR, hB⟩ := hrel
    clear HR HB0
    have HR := hide hR
    have HB := hide hB
    have c1 := hR.bx.cell 1 _ rfl
    clear hR hB
    by_cases hc : q < m
    · have cq := HR.out.cls hc
      obtain ⟨a, ha⟩ : ∃ a, a = cx L q := ⟨_, rfl⟩
      rw [← ha] at cq
      have hq2 : (q : Int) < (m : Int) := by omega
      have e1 : IntKind.i64.wrap ((q : Int) + 1) = (q : Int) + 1 := IntWalk.i64_in _ (by have := HM.out; have := HL.out; omega)
      have HA := hide ha
      clear ha
      cases hbi : bi L q with
      | none =>
        have HN := hide (bi_next_none hbi)
        rw [show bv none = -1 from rfl]
        clear hbi
        go_wp2_with fail
        go_quiet (fail)
        go_wp2
        go_roundw
        case rel => exact ⟨q + 1, by omega, by go_num, by rw [HN.out]; rfl, HR.out.drewN nq, belowN HB.out nq⟩
        case measure => simp [intOf]; omega
      | some p =>
        have HN := hide (bi_next hbi)
        have hpq := (bi_some hbi).lt
        have cp := HR.out.cls (show p < m by omega)
        obtain ⟨z, hz⟩ : ∃ z, z = cx L p := ⟨_, rfl⟩
        rw [← hz] at cp
        have HZ := hide hz
        rw [show bv (some p) = (p : Int) from rfl]
        have d0 : decide ((p : Int) < 0) = false := by simp
        have hp2 : (p : Int) < (m : Int) := by omega
        clear hbi hz
        rcases Bool.eq_false_or_eq_true (decide (z < a)) with dz | dz
        · have HD : Hid (cx L p < cx L q) := hide (by rw [← HZ.out, ← HA.out]; simpa using dz)
          go_wp2_with fail
          go_quiet (fail)
          go_wp2
          go_roundw
          case rel => exact ⟨q + 1, by omega, by go_num, by rw [HN.out, if_pos HD.out]; rfl, HR.out.drewN nq, belowN HB.out nq⟩
          case measure => simp [intOf]; omega
        · have HD : Hid (¬ cx L p < cx L q) := hide (by rw [← HZ.out, ← HA.out]; simpa using dz)
          go_wp2_with fail
          go_quiet (fail)
          go_wp2
          go_roundw
          case rel => exact ⟨q + 1, by omega, by go_num, by rw [HN.out, if_neg (Int.not_lt.2 HD.out)]; rfl, HR.out.drewN nq, belowN HB.out nq⟩
          case measure => simp [intOf]; omega
    · obtain rfl : q = m := by omega
      have hbj : bi L q = some j := by rw [HM.out]; exact HJ.out
      have hjm : j < q := (bi_some hbj).lt
      rw [hbj, show bv (some j) = (j : Int) from rfl]
      obtain ⟨v, hv, hvc, hvb⟩ := HR.out.mt.at HXX.out
      obtain ⟨b9, o9, e9, -, -, d0, d1⟩ := HR.out.sl.cell hv
      obtain ⟨rfl, rfl⟩ : b9 = b ∧ o9 = o := by simpa using e9.symm
      rw [hvc] at d0
      have HVB := hide hvb
      have HV := hide hv
      have hq2 : ¬ (q : Int) < (q : Int) := by omega
      have hj2 : (j : Int) < (q : Int) := by omega
      have hj3 : ¬ (j : Int) < 0 := by omega
      clear hvb hv hvc e9 hbj
      go_wp2_with fail
      have HB1 := HB.out.trans ((below_alloc wr (.cells #[.int .i64 x.c, .slice v.a v.n v.p] 56)).mono HB.out.size)
      have HR1 := HR.out.on (below_alloc wr (.cells #[.int .i64 x.c, .slice v.a v.n v.p] 56))
      have x0 : (wr.alloc (.cells #[.int .i64 x.c, .slice v.a v.n v.p] 56)).cell? ⟨wr.heap.size, 0, none⟩ = some (.int .i64 x.c) := World.cell?_alloc_at _ _ _ _ rfl
      have x1 : (wr.alloc (.cells #[.int .i64 x.c, .slice v.a v.n v.p] 56)).cell? ⟨wr.heap.size, 1, none⟩ = some (.slice v.a v.n v.p) := World.cell?_alloc_at _ _ _ _ rfl
      have HVU : By (wr.alloc (.cells #[.int .i64 x.c, .slice v.a v.n v.p] 56)) F v.a v.n v.p x.b := HVB.out.keep (kp_below (below_alloc _ _))
      have hsz : (wr.alloc (.cells #[.int .i64 x.c, .slice v.a v.n v.p] 56)).heap.size = wr.heap.size + 1 := by simp
      have hgk : g < wr.heap.size := HR.out.bx.lt
      have hFk : ∀ i, F i → i < wr.heap.size := fun i hi => (HR.out.ng i hi).2
      obtain ⟨kx, hkx⟩ : ∃ kx, kx = wr.heap.size := ⟨_, rfl⟩
      rw [← hkx] at x0 x1 hsz hgk hFk ⊢
      generalize wr.alloc (.cells #[.int .i64 x.c, .slice v.a v.n v.p] 56) = u at *
      obtain ⟨N, hN⟩ : ∃ N, N = u.heap.size := ⟨_, rfl⟩
      have HN := hide hN
      have HKX : Hid (kx < N ∧ g < kx ∧ g < N ∧ kx ≠ g) := hide ⟨by omega, hgk, by omega, by omega⟩
      have HBu := hide HB1
      have HRu := hide HR1
      have HX0 := hide x0
      have HX1 := hide x1
      have HVu := hide HVU
      have HVL : Hid (V.length = q) := hide HR1.sl.len
      have hbN : Hid (b9 < N) := hide (by obtain ⟨b8, o8, e8, _, l8, _⟩ := HR1.sl.bx _ rfl; injection e8 with e81 e82; omega)
      have b0 : Below N u (u.alloc (.cells #[] 56)).drew := ((Below.refl _ u).alloc (by omega) _).drew
      have W9 := (HR1.sl.keep (kp_below (b0.mono (by omega)))).wrs
      have HW9 : Hid (Wrs (u.alloc (.cells #[] 56)).drew (some ⟨b9, o9, none⟩) q c V) := hide W9
      clear d0 d1 HB1 HR1 x0 x1 HVU hsz hgk hFk hkx HVB c1
      have O1 : Hid (((u.alloc (.cells #[] 56)).drew).ownsRow N 56 2 (.slice (some ⟨u.heap.size, 0, none⟩) 0 0) 0 (wvs [])) := hide (World.ownsRow_lit u #[] 0 (by omega) (by unfold maxLen; omega) rfl)
      have M1 : Hid (Wrs (u.alloc (.cells #[] 56)).drew (some ⟨b9, o9, none⟩) j c (V.take j)) := hide (HW9.out.take (by omega) c)
      have M2 : Hid (Wrs (u.alloc (.cells #[] 56)).drew (if c = j + 1 then some ⟨b9, o9, none⟩ else some ⟨b9, o9 + (j + 1) * 2, none⟩) (q - (j + 1)) (c - (j + 1)) (V.drop (j + 1))) := hide (HW9.out.drop (by omega) (fun h => by rw [if_neg (by omega)]) (by split <;> simp) _)
      have hlt1 : Hid (N ≤ ((u.alloc (.cells #[] 56)).drew).heap.size) := hide (by simp; omega)
      have c1a : (u.alloc (.cells #[] 56)).cell? ⟨g, 1, none⟩ = some (.slice (some ⟨b9, o9, none⟩) q c) := (HRu.out.on (below_alloc u _)).bx.cell 1 _ rfl
      have c1u : u.cell? ⟨g, 1, none⟩ = some (.slice (some ⟨b9, o9, none⟩) q c) := HRu.out.bx.cell 1 _ rfl
      have k0 : (0 : Int) ≤ (j : Int) := by omega
      have k1 : (j : Int) ≤ c := by omega
      have k2 : (0 : Int) ≤ (j : Int) + 1 := by omega
      have k3 : (j : Int) + 1 ≤ q := by omega
      have k4 : (q : Int) ≤ c := by omega
      have k5 : IntKind.i64.wrap ((j : Int) + 1) = (j : Int) + 1 := IntWalk.i64_in _ (by have := HM.out; have := HL.out; omega)
      have B0 := hide b0
      have hq5 : Hid (q ≤ 50000) := hide (by have := HM.out; have := HL.out; omega)
      clear b0 W9 hN
      go_upto_region 10 with fail
      go_cut [48] (fun _ wx => (∃ F' ao' m' c' V', RQ wx g F' n ao' m' c' V' (L.eraseIdx j) ls ∧ ∀ i, F' i → F i ∨ u.heap.size ≤ i) ∧ Mid g (g + 1) u wx ∧ wx.cell? ⟨kx, 0, none⟩ = some (.int .i64 x.c) ∧ wx.cell? ⟨kx, 1, none⟩ = some (.slice v.a v.n v.p) ∧ By wx F v.a v.n v.p x.b)
      case first =>
        have tk1 : True := trivial
        have tk2 : True := trivial
        have C1 : Hid ((u.alloc (.cells #[] 56)).drew.cell? ⟨g, 1, none⟩ = some (.slice (some ⟨b9, o9, none⟩) q c)) := hide c1a
        have HNE : Hid (some g ≠ some u.heap.size) := hide (fun e => by have := Option.some.inj e; have := HKX.out; have := HN.out; omega)
        have HBE : Hid (b9 ≠ u.heap.size) := hide (by have := hbN.out; have := HN.out; omega)
        have HG2 : Hid (1 < (qcl n (.slice (some ⟨b9, o9, none⟩) q c) ls).length) := hide (by simp [qcl])
        have HEL : Hid (0 + j + (q - (j + 1)) = (V.take j ++ V.drop (j + 1)).length) := hide (by have := HVL.out; simp; omega)
        have hNu : Hid (u.heap.size ≤ N ∧ N ≤ u.heap.size) := hide (by have := HN.out; omega)
        go_region_law (first | (have _t := tk1; refine step_wapp rfl rfl (.tmp 49) (.tmp 55) rfl N _ 0 [] rfl O1.out _ _ _ _ rfl M1.out (by have := hq5.out; omega) hlt1.out ?_; intro v1 w1 R1 G1; have c1b := G1.cell C1.out HNE.out; have B1 := hide (B0.out.grown G1 hlt1.out (fun k hk => (O1.out.lt k hk).1)); have M3 := hide (M2.out.grown G1 (fun a e => at_ifW e HBE.out)); have hlt2 : Hid (N ≤ w1.heap.size) := (hide (Nat.le_trans hlt1.out G1.size)); clear tk1 G1) | (have _t := tk2; refine step_wapp rfl rfl (.tmp 56) (.tmp 63) rfl N _ _ _ rfl R1 _ _ _ _ rfl M3.out (by have := hq5.out; omega) hlt2.out ?_; intro v2 w2 R2 G2; obtain ⟨ao2, c2, rfl⟩ := own_formW R2; have B2 := B1.out.grown G2 hlt2.out (fun k hk => (R1.lt k hk).1); have c1c := (HRu.out.bx.on (B2.mono hNu.out.1)).cell 1 _ rfl; have c1f := (HRu.out.bx.on (B2.mono hNu.out.1)).free 1 HG2.out; have R3 := hide R2; have B3 := hide B2; clear tk2 R2 G2 B2))
        all_goals
          have hNu2 : N = u.heap.size := HN.out
          have R4 := R3.out
          simp only [Nat.zero_add, List.nil_append] at R4
          have T0 := getTail j HRu.out (B3.out.mono hNu.out.1) (by rw [← hNu2]; exact R4) (by have := HVL.out; simp; omega) (x := kx) (by have := HKX.out; omega) HKX.out.2.2.2 HX0.out HX1.out HVu.out
          have T := hide T0
          clear T0 R3 R4 B3 c1c c1f c1b hNu2
        all_goals (go_wp2 <;> (go_meet; exact T.out))
      case rest =>
      have T := hide hcut
      have y0 := hcut.2.2.1
      have y1 := hcut.2.2.2.1
      clear hcut O1 M1 M2 c1a c1u k0 k1 k2 k3 k4 k5
      go_wp2_with fail
      go_quiet (fail)
      go_wp2
      go_ret3
      refine ⟨⟨_, _, _, rfl, T.out.2.2.2.2.keep ⟨Nat.le_refl _, fun _ _ _ => rfl⟩⟩, ?_, ?_⟩
      · obtain ⟨F', ao', m', c', V', h1, h2⟩ := T.out.1
        exact ⟨F', ao', m', c', V', h1.drewN _, fun i hi => (h2 i hi).imp id (fun h => by have := HBu.out.size; omega)⟩
      · have h := ((Mid.refl g (g + 1) w).on HBu.out).trans T.out.2.1
        exact ⟨h.os, h.tape, h.output, h.size, h.block⟩
end
end Go.Proofs.Ytmdbclhdbglppaa
