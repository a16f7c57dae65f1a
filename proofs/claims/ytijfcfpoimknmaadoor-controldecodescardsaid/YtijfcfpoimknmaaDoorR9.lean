/- Contract of Decode, as the document has it. -/
import Derived.Test.YtijfcfpoimknmaaDoorR5
import Derived.Test.YtijfcfpoimknmaaDoorR7
import Derived.Test.YtijfcfpoimknmaaDoorR8
import Derived.Test.YtijfcfpoimknmaaDoorD5
import Derived.Laws.IdiomCopy
namespace Go.Proofs.YtijfcfpoimknmaaDoor
open Go.RowKit

theorem PZ3 (x y z : Int) : (((PC zeroP (.slice none 0 0)).setIfInBounds 0 (.int .i64 x)).setIfInBounds 1 (.int .i64 y)).setIfInBounds 2 (.int .i64 z) = PC ⟨x, y, z, zeroN⟩ (.slice none 0 0) := rfl
/-- Where the document's Decode stands: the note so far, and what is left of the bytes. -/
structure DS (w : World) (P : Nat) (e0 e1 e2 : Int) (k : Nat) (x : Nt × List Int) (v : Value) (wx : World) : Prop where
  sl : ∃ g o cc, v = .slice (some ⟨g, o, none⟩) x.2.length cc ∧ Byt wx (some ⟨g, o, none⟩) x.2.length cc x.2 ∧ g ≠ P
  bx : Box wx P (pcl ⟨e0, e1, e2, x.1⟩ (.slice none 0 0))
  rs : Box wx w.heap.size (pcl zeroP (.slice none 0 0))
  bl : Below w.heap.size w wx
  lt : w.heap.size < P
  le : k ≤ x.2.length
theorem DS.step {w : World} {P : Nat} {e0 e1 e2 : Int} {k' : Nat} {l : List Int} {g o cc L : Nat} {wx w' : World} (hl : l.length = L) (Y : Byt wx (some ⟨g, o, none⟩) L cc l) (hg : g ≠ P) (rs : Box wx w.heap.size (pcl zeroP (.slice none 0 0))) (bl : Below w.heap.size w wx) (lt : w.heap.size < P) (n' : Nt) (gr : wx.grownBy w' (some P)) (bx : Box w' P (pcl ⟨e0, e1, e2, n'⟩ (.slice none 0 0))) (j : Nat) (hj : j < L) (hk : k' + j ≤ L) :
    DS w P e0 e1 e2 k' (n', l.drop j) (.slice (some ⟨g, o + j, none⟩) (L - j) (cc - j)) w' := by
  have hle := Y.le
  have hd : (l.drop j).length = L - j := by rw [List.length_drop, hl]
  refine ⟨⟨g, o + j, cc - j, by show _ = Value.slice _ (l.drop j).length _; rw [hd], ?_, hg⟩, bx, rs.kept (by omega) gr, below_grown bl gr (by omega) bl.size, lt, by show k' ≤ (l.drop j).length; rw [hd]; omega⟩
  show Byt w' _ (l.drop j).length _ (l.drop j)
  rw [hd]
  exact (byt_drop Y (j := j) (by omega) (ao := some ⟨g, o + j, none⟩) (fun _ => rfl) (fun e => by omega)).kept (fun b' o' e hp => by injection Option.some.inj e with q1 q2; subst q1; exact hg) gr
def pm1 (n : Nt) (k : Nat) (y : Int) : Nt := match k with
  | 0 => { n with m0 := y } | 1 => { n with m1 := y } | 2 => { n with m2 := y } | 3 => { n with m3 := y } | 4 => { n with m4 := y } | _ => { n with m5 := y }
def pm (n : Nt) (l : List Int) : Nt := { n with m0 := l.getD 0 n.m0, m1 := l.getD 1 n.m1, m2 := l.getD 2 n.m2, m3 := l.getD 3 n.m3, m4 := l.getD 4 n.m4, m5 := l.getD 5 n.m5 }
theorem six_of {l : List Int} (h : 6 ≤ l.length) : ∃ a b c d e f r, l = a :: b :: c :: d :: e :: f :: r := by
  match l, h with
  | a :: b :: c :: d :: e :: f :: r, _ => exact ⟨a, b, c, d, e, f, r, rfl⟩
theorem pm_step (n : Nt) (l : List Int) (h : 6 ≤ l.length) (k : Nat) (hk : k < 6) : pm1 (pm n (l.take k)) k ((l.drop k).getD 0 0) = pm n (l.take (k + 1)) := by
  obtain ⟨a, b, c, d, e, f, r, rfl⟩ := six_of h
  rcases (show k = 0 ∨ k = 1 ∨ k = 2 ∨ k = 3 ∨ k = 4 ∨ k = 5 by omega) with rfl | rfl | rfl | rfl | rfl | rfl <;> rfl
theorem pm_six (n : Nt) (l : List Int) (h : 6 ≤ l.length) : pm n (l.take 6) = setm n (l.take 6) := by
  obtain ⟨a, b, c, d, e, f, r, rfl⟩ := six_of h
  rfl
theorem box_mac {w : World} {P : Nat} {e0 e1 e2 : Int} {n : Nt} {s : Value} (h : Box w P (pcl ⟨e0, e1, e2, n⟩ s)) (k : Nat) (hk : k < 6) (y : Int) : Box (w.setCell ⟨P, 5 + k, none⟩ (.int .u8 y)) P (pcl ⟨e0, e1, e2, pm1 n k y⟩ s) := by
  rcases (show k = 0 ∨ k = 1 ∨ k = 2 ∨ k = 3 ∨ k = 4 ∨ k = 5 by omega) with rfl | rfl | rfl | rfl | rfl | rfl
  · exact Box.set (A := (pcl ⟨e0, e1, e2, n⟩ s).take 5) (C := (pcl ⟨e0, e1, e2, n⟩ s).drop 6) h rfl
  · exact Box.set (A := (pcl ⟨e0, e1, e2, n⟩ s).take 6) (C := (pcl ⟨e0, e1, e2, n⟩ s).drop 7) h rfl
  · exact Box.set (A := (pcl ⟨e0, e1, e2, n⟩ s).take 7) (C := (pcl ⟨e0, e1, e2, n⟩ s).drop 8) h rfl
  · exact Box.set (A := (pcl ⟨e0, e1, e2, n⟩ s).take 8) (C := (pcl ⟨e0, e1, e2, n⟩ s).drop 9) h rfl
  · exact Box.set (A := (pcl ⟨e0, e1, e2, n⟩ s).take 9) (C := (pcl ⟨e0, e1, e2, n⟩ s).drop 10) h rfl
  · exact Box.set (A := (pcl ⟨e0, e1, e2, n⟩ s).take 10) (C := (pcl ⟨e0, e1, e2, n⟩ s).drop 11) h rfl
theorem mac_cell {n : Nt} {e0 e1 e2 : Int} {s : Value} (k : Nat) (hk : k < 6) : ∃ z, (pcl ⟨e0, e1, e2, n⟩ s)[5 + k]? = some (.int .u8 z) := by
  rcases (show k = 0 ∨ k = 1 ∨ k = 2 ∨ k = 3 ∨ k = 4 ∨ k = 5 by omega) with rfl | rfl | rfl | rfl | rfl | rfl <;> exact ⟨_, rfl⟩
theorem PCne (p : Pk) (s : Value) : (PC p s = #[]) = False := by simp [PC, pcl]
theorem ev_cf_b (F : Int) (j : Nat) (hj : j = 1 ∨ j = 2 ∨ j = 4 ∨ j = 8) (s : Nt × List Int) : (ev F cf j s).1.b = s.1.b := by
  unfold ev
  split
  · rcases hj with rfl | rfl | rfl | rfl
    · rfl
    · show (setm _ _).b = _
      unfold setm
      split <;> rfl
    · rfl
    · rfl
  · rfl
theorem ev_cf_B (F : Int) (j : Nat) (hj : J5 j) (s : Nt × List Int) (h : NtB s.1) (hl : Rng s.2) : NtB (ev F cf j s).1 ∧ Rng (ev F cf j s).2 := by
  unfold ev
  split
  · rcases hj with rfl | rfl | rfl | rfl | rfl
    · exact ⟨⟨h.m, h.b⟩, rng_drop hl 2⟩
    · exact ⟨setm_B h (rng_take hl 6), rng_drop hl 6⟩
    · exact ⟨⟨h.m, h.b⟩, rng_drop hl 2⟩
    · exact ⟨⟨h.m, h.b⟩, rng_drop hl 1⟩
    · exact ⟨⟨h.m, rng_take (rng_drop hl 2) _⟩, hl⟩
  · exact ⟨h, hl⟩
theorem cd_B {b : List Int} (hr : Rng b) : NtB (cd b).n := by
  have hp : Rng (pad b) := rng_append (rng_drop hr 13) (fun q hq => by have := List.eq_of_mem_replicate hq; omega)
  have b1 := ev_cf_B (fo (b.getD 12 0)) 1 (by simp [J5]) (kn (b.getD 12 0), pad b) ⟨zero_ml, rng_nil⟩ hp
  have b2 := ev_cf_B (fo (b.getD 12 0)) 2 (by simp [J5]) _ b1.1 b1.2
  have b4 := ev_cf_B (fo (b.getD 12 0)) 4 (by simp [J5]) _ b2.1 b2.2
  have b8 := ev_cf_B (fo (b.getD 12 0)) 8 (by simp [J5]) _ b4.1 b4.2
  exact (ev_cf_B (fo (b.getD 12 0)) 16 (by simp [J5]) _ b8.1 b8.2).1
theorem put_run {w : World} {k : Nat} {q : Pk} {t : Value} (B : Box w k (pcl q t)) (p : Pk) (a : Option Addr) (m c : Nat) :
    (storeCells ⟨k, 0, none⟩ (PC p (.slice a m c)).toList).run Tryd.prog w = .ok () (w.setCells k 0 (pcl p (.slice a m c))) ∧ Box (w.setCells k 0 (pcl p (.slice a m c))) k (pcl p (.slice a m c)) ∧ w.grownBy (w.setCells k 0 (pcl p (.slice a m c))) (some k) := by
  have hl : (pcl p (.slice a m c)).length = (pcl q t).length := by rw [pcl_length, pcl_length]
  refine ⟨?_, ?_, setCells_grown _ _ _ _⟩
  · have := run_storeCells_cells (P := Tryd.prog) k 0 (pcl p (.slice a m c)) 0 w (fun j hj => by have := (B.th j (by omega)).1; simpa using this) (fun j hj => by have := (B.th j (by omega)).2; simpa using this) (fun v hv => by
      rcases List.mem_cons.1 hv with rfl | hv
      · rfl
      rcases List.mem_cons.1 hv with rfl | hv
      · rfl
      rcases List.mem_cons.1 hv with rfl | hv
      · rfl
      exact one_ncl' _ _ rfl v hv)
    simpa [PC] using this
  · have hb := Box.put (w := w) (k := k) (o := 0) (A := []) (B := pcl q t) (C := []) (B' := pcl p (.slice a m c)) (by simpa using B) hl rfl
    rw [List.append_nil, List.nil_append] at hb
    exact hb
theorem put_run2 {w : World} {k : Nat} {q : Pk} {t : Value} (B : Box w k (pcl q t)) (p : Pk) (a : Option Addr) (m c : Nat) :
    ∃ w3, (storeCells ⟨k, 0, none⟩ (PC p (.slice a m c)).toList).run Tryd.prog w = .ok () w3 ∧ Box w3 k (pcl p (.slice a m c)) ∧ w.grownBy w3 (some k) := ⟨_, put_run B p a m c⟩
section
attribute [local go_sem] ZP PZ3 PC_size PCne
set_option maxRecDepth 100000 in
set_option maxHeartbeats 2000000 in
theorem decode16_len (ao : Option Addr) (n c : Nat) (w : World) (hn : n < 13) :
    Calls Tryd.prog 16 #[.slice ao n c] w fun e w' => e = .returned (.tuple #[.agg (PC zeroP (.slice none 0 0)), .int .i64 2]) ∧ Below w.heap.size w w' := by
  have A0 : Box (w.alloc (.cells (PC zeroP (.slice none 0 0)) 28)) w.heap.size (pcl zeroP (.slice none 0 0)) := Box.new w (pcl zeroP (.slice none 0 0)) 28
  have W0 := below_alloc w (.cells (PC zeroP (.slice none 0 0)) 28)
  have hn' : (n : Int) < 13 := by omega
  have tk1 : True := trivial
  clear hn
  go_enter Tryd.func16, Tryd.ntmps16
  go_wp2_with (have _t := tk1; refine wpl_putP zeroP (.slice none 0 0) zeroP (.slice none 0 0) rfl (.tmp 2) (.tmp 14) rfl A0 ?_ ?_ ?_ ?_; rfl; rfl; rfl; clear tk1; intro w2 A1 g2)
  refine bodyPost_ret (res_pkt_tmp rfl rfl A1) rfl ⟨rfl, below_grown W0 g2 (Nat.le_refl _) (by simp)⟩
set_option maxRecDepth 100000 in
set_option maxHeartbeats 8000000 in
theorem decode16_in (ao : Option Addr) (n c : Nat) (b : List Int) (w : World) (hY : Byt w ao n c b) (hn : 13 ≤ n) (hn3 : n ≤ 3000) :
    Calls Tryd.prog 16 #[.slice ao n c] w fun e w' => ∃ sa sm sc, e = .returned (.tuple #[.agg (PC (dp b) (.slice sa sm sc)), .int .i64 (dc b)]) ∧ Byt w' sa sm sc (dp b).n.b ∧ Below w.heap.size w w' := by
  have L0 := below_alloc w (.cells (PC zeroP (.slice none 0 0)) 28)
  have D0 : Box (w.alloc (.cells (PC zeroP (.slice none 0 0)) 28)) w.heap.size (pcl zeroP (.slice none 0 0)) := Box.new w (pcl zeroP (.slice none 0 0)) 28
  obtain ⟨bb, o, rfl, -, -⟩ := hY.at (by omega)
  have hle := hY.le
  have hi1 : (n : Int) ≤ c := by omega
  have hi2 : (13 : Int) ≤ n := by omega
  have h4 : (4 : Int) ≤ c := by omega
  have h8 : (8 : Int) ≤ c := by omega
  have h12 : (12 : Int) ≤ c := by omega
  have n4 : 4 ≤ c := by omega
  have n8 : 8 ≤ c := by omega
  have n12 : 12 ≤ c := by omega
  have e4 : ¬ c = 4 := by omega
  have e8 : ¬ c = 8 := by omega
  have k4 : IntKind.i64.wrap 4 = 4 := by decide
  have k8 : IntKind.i64.wrap 8 = 8 := by decide
  have k12 : IntKind.i64.wrap 12 = 12 := by decide
  have hd : decide ((n : Int) < 13) = false := by simp; omega
  have Y0 := hY.on L0
  have hblt := hY.lt bb o rfl (by omega)
  have Y1 := hide (fun W (h : Below w.heap.size w W) => byt_take (hY.on h) (j := 4) (by omega))
  have Y2 := hide (fun W (h : Below w.heap.size w W) => byt_mid (hY.on h) 4 4 (by omega) (by omega))
  have Y3 := hide (fun W (h : Below w.heap.size w W) => byt_mid (hY.on h) 8 4 (by omega) (by omega))
  have HY := hide hY
  have W1 : Below w.heap.size w (((w.alloc (.cells (PC zeroP (.slice none 0 0)) 28)).alloc (.cells (PC zeroP (.slice none 0 0)) 28)).drew) := by go_grown
  have D1 : Box (((w.alloc (.cells (PC zeroP (.slice none 0 0)) 28)).alloc (.cells (PC zeroP (.slice none 0 0)) 28)).drew) w.heap.size (pcl zeroP (.slice none 0 0)) := (D0.alloc _).drew
  have P1 : Box (((w.alloc (.cells (PC zeroP (.slice none 0 0)) 28)).alloc (.cells (PC zeroP (.slice none 0 0)) 28)).drew) (w.heap.size + 1) (pcl zeroP (.slice none 0 0)) := by
    have := Box.new (w.alloc (.cells (PC zeroP (.slice none 0 0)) 28)) (pcl zeroP (.slice none 0 0)) 28
    rw [World.size_alloc] at this
    exact this.drew
  obtain ⟨W, hW⟩ : ∃ W, W = ((w.alloc (.cells (PC zeroP (.slice none 0 0)) 28)).alloc (.cells (PC zeroP (.slice none 0 0)) 28)).drew := ⟨_, rfl⟩
  rw [← hW] at W1 D1 P1
  have hst : ∀ q : Pk, (storeCells ⟨w.heap.size + 1, 0, none⟩ (PC q (.slice none 0 0)).toList).run Tryd.prog (((w.alloc (.cells (PC zeroP (.slice none 0 0)) 28)).alloc (.cells (PC zeroP (.slice none 0 0)) 28)).drew) = .ok () (W.setCells (w.heap.size + 1) 0 (pcl q (.slice none 0 0))) := fun q => by
    rw [← hW]
    have := run_storeCells_cells (P := Tryd.prog) (w.heap.size + 1) 0 (pcl q (.slice none 0 0)) 0 W (fun j hj => by have := (P1.th j hj).1; simpa using this) (fun j hj => by have := (P1.th j hj).2; simpa using this) (fun v hv => by
      rcases List.mem_cons.1 hv with rfl | hv
      · rfl
      rcases List.mem_cons.1 hv with rfl | hv
      · rfl
      rcases List.mem_cons.1 hv with rfl | hv
      · rfl
      exact one_ncl' _ _ rfl v hv)
    simpa [PC] using this
  have BQ : ∀ q : Pk, Box (W.setCells (w.heap.size + 1) 0 (pcl q (.slice none 0 0))) (w.heap.size + 1) (pcl q (.slice none 0 0)) := fun q => by
    have hb := Box.put (w := W) (k := w.heap.size + 1) (o := 0) (A := []) (B := pcl zeroP (.slice none 0 0)) (C := []) (B' := pcl q (.slice none 0 0)) (by simpa using P1) rfl rfl
    rw [List.append_nil, List.nil_append] at hb
    exact hb
  have HBQ := hide BQ
  have HD := hide (And.intro W1 D1)
  clear hY Y0 hW BQ W1 D1 P1
  go_enter Tryd.func16, Tryd.ntmps16
  go_upto_region 3 with fail
  go_cut [4] from 11 (fun s wx => ∃ P, s = .pointer (some ⟨P, 0, none⟩) ∧ w.heap.size < P ∧ Box wx P (pcl ⟨nb (b.take 4), nb ((b.drop 4).take 4), nb ((b.drop 8).take 4), zeroN⟩ (.slice none 0 0)) ∧ Box wx w.heap.size (pcl zeroP (.slice none 0 0)) ∧ Below w.heap.size w wx)
  case first =>
    have tkA : True := trivial
    have tkB : True := trivial
    have tkC : True := trivial
    go_region_law (first | (have _t := tkA; go_simp; go_at_call 41; refine (of41 (some ⟨bb, o, none⟩) 4 c _ _ (Y1.out _ (by go_grown)) (by omega) (by omega)).mono ?_; rintro e w3 ⟨rfl, rfl⟩; clear tkA) | (have _t := tkB; go_simp; go_at_call 41; refine (of41 (some ⟨bb, o + 4, none⟩) 4 (c - 4) _ _ (Y2.out _ (by go_grown)) (by omega) (by omega)).mono ?_; rintro e w3 ⟨rfl, rfl⟩; clear tkB) | (have _t := tkC; go_simp; go_at_call 41; refine (of41 (some ⟨bb, o + 8, none⟩) 4 (c - 8) _ _ (Y3.out _ (by go_grown)) (by omega) (by omega)).mono ?_; rintro e w3 ⟨rfl, rfl⟩; clear tkC))
    all_goals
      go_wp2_with fail
      go_meet
      case rel => exact ⟨_, rfl, by omega, HBQ.out _, HD.out.2.kept (by omega) (setCells_grown _ _ _ _), below_grown HD.out.1 (setCells_grown _ _ _ _) (by omega) HD.out.1.size⟩
  case rest =>
  obtain ⟨P, rfl, hP, A, D, L⟩ := hcut
  clear HBQ HD hst Y1 Y2 Y3 k4 k8 k12 e4 e8 h4 h8 h12 n4 n8 n12 L0 D0
  generalize hE0 : nb (b.take 4) = e0 at *
  generalize hE1 : nb ((b.drop 4).take 4) = e1 at *
  generalize hE2 : nb ((b.drop 8).take 4) = e2 at *
  have Yc := HY.out.on L
  obtain ⟨b', o', e', hc, -⟩ := Yc.at (by omega)
  injection Option.some.inj e' with q1 q2
  subst q1 q2
  have c12 : wc.cell? ⟨bb, o + 12, none⟩ = some (.int .u8 (b.getD 12 0)) := hc 12 (by omega)
  have hyr := rng_getD HY.out.rng 12
  generalize hK : b.getD 12 0 = y at *
  have kw : IntKind.i64.wrap y = y := IntWalk.i64_in _ (by omega)
  have c3 := A.cell 3 _ rfl
  have f3 := A.free 3 (by rw [pcl_length]; omega)
  have g3 := setCell_grown wc P 3 (.int .i64 y)
  have A3 : Box (wc.setCell ⟨P, 3, none⟩ (.int .i64 y)) P (pcl ⟨e0, e1, e2, kn y⟩ (.slice none 0 0)) := Box.set (A := [.int .i64 e0, .int .i64 e1, .int .i64 e2]) (C := .int .i64 0 :: (mcl zeroN ++ [.int .i64 0, .int .i64 0, .slice none 0 0])) A rfl
  have D3 := D.kept (by omega) g3
  have L3 := below_grown L g3 (by omega) L.size
  have hPlt : P < (wc.setCell ⟨P, 3, none⟩ (.int .i64 y)).heap.size := A3.lt
  clear hc e' A D L Yc g3
  go_upto_region 6 with fail
  generalize wc.setCell ⟨P, 3, none⟩ (.int .i64 y) = X at *
  clear c12 c3 f3
  have YX := HY.out.on L3
  have i13 : (13 : Int) ≤ c := by omega
  go_cut [6] from 11 (fun v wx => DS w P e0 e1 e2 20 (kn y, pad b) v wx)
  case first =>
    have HO : Hid (Row (X.alloc (.cells #[] 5)) X.heap.size (.slice (some ⟨X.heap.size, 0, none⟩) 0 0) 0 []) := hide (World.ownsRow_made X #[] 0 (Nat.le_refl _) (Nat.zero_le _) rfl)
    have fin : ∀ v5 w5, Row w5 X.heap.size v5 (n - 13 + 20) (b.drop 13 ++ zs 20) → Below X.heap.size X w5 → DS w P e0 e1 e2 20 (kn y, pad b) v5 w5 := fun v5 w5 R5 B5 => by
      have hr : Rng (b.drop 13 ++ zs 20) := rng_append (rng_drop HY.out.rng 13) (fun q hq => by have := List.eq_of_mem_replicate hq; omega)
      obtain ⟨ao, cc, hv, Yb, hnew⟩ := own_byt2 R5 hr
      obtain ⟨g, o2, rfl, -, -⟩ := Yb.at (by omega)
      have hl : (pad b).length = n - 13 + 20 := Yb.len
      exact ⟨⟨g, o2, cc, by rw [hv]; show _ = Value.slice _ (pad b).length _; rw [hl], by show Byt w5 _ (pad b).length _ (pad b); rw [hl]; exact Yb, by have := hnew g o2 rfl; omega⟩, A3.on B5, D3.on B5, belowOn L3 B5, hP, by show 20 ≤ (pad b).length; rw [hl]; omega⟩
    have HF := hide fin
    by_cases hc13 : c = 13
    · have YD := hide ((byt_drop YX (j := 13) hn (ao := some ⟨bb, o, none⟩) (fun e => absurd hc13 e) (fun _ => rfl)).alloc (.cells #[] 5))
      subst hc13
      obtain rfl : n = 13 := by omega
      clear fin A3 D3 YX HY hE0 hE1 hE2 hK
      have tkA : True := trivial
      have tkB : True := trivial
      go_wp2_with (first | (at_builtin; have _t := tkA; refine wpl_app rfl (.tmp 32) (.tmp 34) rfl X.heap.size (.slice (some ⟨X.heap.size, 0, none⟩) 0 0) 0 [] rfl HO.out _ _ _ _ rfl YD.out (by omega) (by simp) ?_; intro v4 w4 R4 B4; clear tkA; have HR := hide R4; have B5 := hide ((below_alloc X (.cells #[] 5)).trans B4); clear R4 B4) | (at_builtin; have _t := tkB; refine wpl_app0 rfl (.tmp 35) (.const (.int .i64 20)) rfl X.heap.size v4 _ _ rfl HR.out 20 20 rfl rfl (by omega) (by omega) (by omega) B5.out.size ?_; intro v5 w5 R5 B6; clear tkB))
      go_meet
      case rel => exact HF.out v5 w5 (by simpa using R5) (B5.out.trans B6)
    · have YD := hide ((byt_drop YX (j := 13) hn (ao := some ⟨bb, o + 13, none⟩) (fun _ => rfl) (fun e => absurd e hc13)).alloc (.cells #[] 5))
      clear fin A3 D3 YX HY hE0 hE1 hE2 hK
      have tkA : True := trivial
      have tkB : True := trivial
      go_wp2_with (first | (at_builtin; have _t := tkA; refine wpl_app rfl (.tmp 32) (.tmp 34) rfl X.heap.size (.slice (some ⟨X.heap.size, 0, none⟩) 0 0) 0 [] rfl HO.out _ _ _ _ rfl YD.out (by omega) (by simp) ?_; intro v4 w4 R4 B4; clear tkA; have HR := hide R4; have B5 := hide ((below_alloc X (.cells #[] 5)).trans B4); clear R4 B4) | (at_builtin; have _t := tkB; refine wpl_app0 rfl (.tmp 35) (.const (.int .i64 20)) rfl X.heap.size v4 _ _ rfl HR.out 20 20 rfl rfl (by omega) (by omega) (by omega) B5.out.size ?_; intro v5 w5 R5 B6; clear tkB))
      go_meet
      case rel => exact HF.out v5 w5 (by simpa using R5) (B5.out.trans B6)
  case rest =>
  clear L3 A3 D3 YX
  have k30 : ∀ W, Calls Tryd.prog 30 #[.int .i64 y] W fun e w' => e = .returned (.bool (hv y)) ∧ w' = W := fun W => has30 _ W
  have k31 : ∀ W, Calls Tryd.prog 31 #[.int .i64 y] W fun e w' => e = .returned (.bool (hm y)) ∧ w' = W := fun W => has31 _ W
  have k32 : ∀ W, Calls Tryd.prog 32 #[.int .i64 y] W fun e w' => e = .returned (.bool (hp y)) ∧ w' = W := fun W => has32 _ W
  have k33 : ∀ W, Calls Tryd.prog 33 #[.int .i64 y] W fun e w' => e = .returned (.bool (hst y)) ∧ w' = W := fun W => has33 _ W
  have k34 : ∀ W, Calls Tryd.prog 34 #[.int .i64 y] W fun e w' => e = .returned (.bool (hb y)) ∧ w' = W := fun W => has34 _ W
  have E1 : Hid (∀ x, ev (fo y) cf 1 x = if hv y = true then cf 1 x else x) := hide (fun x => by rw [ev, hs_v])
  have E2 : Hid (∀ x, ev (fo y) cf 2 x = if hm y = true then cf 2 x else x) := hide (fun x => by rw [ev, hs_m])
  have E4 : Hid (∀ x, ev (fo y) cf 4 x = if hp y = true then cf 4 x else x) := hide (fun x => by rw [ev, hs_p])
  have E8 : Hid (∀ x, ev (fo y) cf 8 x = if hst y = true then cf 8 x else x) := hide (fun x => by rw [ev, hs_s])
  have E16 : Hid (∀ x, ev (fo y) cf 16 x = if hb y = true then cf 16 x else x) := hide (fun x => by rw [ev, hs_b])
  generalize hv y = V at *
  generalize hm y = M at *
  generalize hp y = P' at *
  generalize hst y = S at *
  generalize hb y = B at *
  go_upto_if 38 with (first | (go_at_call 30; refine (k30 _).mono ?_; rintro e w' ⟨rfl, rfl⟩))
  go_cut [6] from 11 (fun v wx => DS w P e0 e1 e2 18 (ev (fo y) cf 1 (kn y, pad b)) v wx)
  case first =>
    clear k30 k31 k32 k33 k34 E2 E4 E8 E16
    cases V
    · replace E1 : Hid (ev (fo y) cf 1 (kn y, pad b) = (kn y, pad b)) := hide (by simpa using E1.out (kn y, pad b))
      have HC := hide hcut
      clear hcut
      go_wp2
      go_meet
      case rel => rw [E1.out]; exact ⟨HC.out.sl, HC.out.bx, HC.out.rs, HC.out.bl, HC.out.lt, by have := HC.out.le; omega⟩
    · replace E1 : Hid (ev (fo y) cf 1 (kn y, pad b) = ({ kn y with v := nb ((pad b).take 2) }, (pad b).drop 2)) := hide (by have := E1.out (kn y, pad b); simp only [if_true] at this; exact this)
      obtain ⟨⟨g, o2, cc, rfl, Yl, hg⟩, bx, rs, bl, hlt, le⟩ := hcut
      have le' : 20 ≤ (pad b).length := le
      have Yl' : Byt w' (some ⟨g, o2, none⟩) (pad b).length cc (pad b) := Yl
      rw [show ((kn y, pad b).2 : List Int) = pad b from rfl]
      have hcl := Yl'.le
      generalize hLL : (pad b).length = LL at *
      have i2 : (2 : Int) ≤ cc := by omega
      have i2n : (2 : Int) ≤ LL := by omega
      have i2c : (LL : Int) ≤ cc := by omega
      have n2 : ¬ cc = 2 := by omega
      have Yt := hide (byt_take Yl' (j := 2) (by omega))
      go_wp2_with fail
      refine (of41 _ 2 _ _ _ Yt.out (by omega) (by omega)).mono ?_
      rintro e w1 ⟨rfl, rfl⟩
      have c4 := bx.cell 4 _ rfl
      have f4 := bx.free 4 (by rw [pcl_length]; omega)
      have g4 := setCell_grown w1 P 4 (.int .i64 (nb ((pad b).take 2)))
      have B4 : Box (w1.setCell ⟨P, 4, none⟩ (.int .i64 (nb ((pad b).take 2)))) P (pcl ⟨e0, e1, e2, { kn y with v := nb ((pad b).take 2) }⟩ (.slice none 0 0)) := Box.set (A := [.int .i64 e0, .int .i64 e1, .int .i64 e2, .int .i64 y]) (C := mcl zeroN ++ [.int .i64 0, .int .i64 0, .slice none 0 0]) bx rfl
      have FN := hide (DS.step (k' := 18) hLL Yl' hg rs bl hlt _ g4 B4 2 (by omega) (by omega))
      clear Yt Yl Yl' bx rs bl g4 B4 le le'
      go_wp2
      go_meet
      case rel => rw [E1.out]; exact FN.out
  case rest =>
  clear E1 k30
  have HCC : Hid (∀ x, x = ev (fo y) cf 1 (kn y, pad b) → DS w P e0 e1 e2 18 x u6 wc) := hide (fun x e => e ▸ hcut)
  generalize hx1 : ev (fo y) cf 1 (kn y, pad b) = x1 at *
  obtain ⟨n1, l1⟩ := x1
  replace hx1 := hide hx1
  clear HCC
  go_upto_block 0 with fail
  go_cut [6] from 11 (fun v wx => DS w P e0 e1 e2 12 (ev (fo y) cf 2 (n1, l1)) v wx)
  case first =>
    clear k32 k33 k34 E4 E8 E16
    cases M
    · replace E2 : Hid (ev (fo y) cf 2 (n1, l1) = (n1, l1)) := hide (by simpa using E2.out (n1, l1))
      have HC := hide hcut
      clear hcut
      go_wp2_with fail
      go_loopw [6, 7] (fun v i wr => v = u6 ∧ i = .int .i64 0 ∧ wr = wc) (fun _ i _ => 6 - (intOf i).toNat)
      case atStart => exact ⟨rfl, rfl, rfl⟩
      case round =>
        obtain ⟨rfl, rfl, rfl⟩ := hrel
        go_wp2_with (first | (go_at_call 31; refine (k31 _).mono ?_; rintro e w' ⟨rfl, rfl⟩))
        go_meet
        case rel => rw [E2.out]; exact ⟨HC.out.sl, HC.out.bx, HC.out.rs, HC.out.bl, HC.out.lt, by have := HC.out.le; omega⟩
    · replace E2 : Hid (ev (fo y) cf 2 (n1, l1) = (setm n1 (l1.take 6), l1.drop 6)) := hide (by have := E2.out (n1, l1); simp only [if_true] at this; exact this)
      have hl1 : 18 ≤ l1.length := hcut.le
      have HC := hide hcut
      clear hcut
      go_wp2_with fail
      go_loopw [6, 7] (fun v i wr => ∃ k : Nat, k ≤ 6 ∧ i = .int .i64 k ∧ DS w P e0 e1 e2 (18 - k) (pm n1 (l1.take k), l1.drop k) v wr) (fun _ i _ => 6 - (intOf i).toNat)
      case atStart => exact ⟨0, by omega, rfl, HC.out⟩
      case round =>
      clear HC
      obtain ⟨k, hk, rfl, hD⟩ := hrel
      by_cases hlt6 : k < 6
      · have HS := hide (pm_step n1 l1 (by omega) k hlt6)
        have HT : Hid (l1.drop (k + 1) = (l1.drop k).drop 1) := hide (by rw [List.drop_drop])
        obtain ⟨⟨g, o2, cc, rfl, Yl, hg⟩, bx, rs, bl, hlt, le⟩ := hD
        replace le : 18 - k ≤ (l1.drop k).length := le
        replace Yl : Byt wr (some ⟨g, o2, none⟩) (l1.drop k).length cc (l1.drop k) := Yl
        rw [show ((pm n1 (l1.take k), l1.drop k).2 : List Int) = l1.drop k from rfl]
        generalize l1.drop k = l at *
        generalize pm n1 (l1.take k) = n2 at *
        have hcl := Yl.le
        generalize hLL : l.length = LL at *
        obtain ⟨b', o', e', hc, -⟩ := Yl.at (by omega)
        injection Option.some.inj e' with q1 q2
        subst q1 q2
        have c0 : wr.cell? ⟨g, o2, none⟩ = some (.int .u8 (l.getD 0 0)) := hc 0 (by omega)
        obtain ⟨z, hz⟩ := mac_cell (n := n2) (e0 := e0) (e1 := e1) (e2 := e2) (s := .slice none 0 0) k hlt6
        have ck := bx.cell (5 + k) _ hz
        have fk := bx.free (5 + k) (by rw [pcl_length]; omega)
        have gk := setCell_grown wr P (5 + k) (.int .u8 (l.getD 0 0))
        have Bk := box_mac bx k hlt6 (l.getD 0 0)
        have FN := hide (DS.step (k' := 18 - (k + 1)) hLL Yl hg rs bl hlt _ gk Bk 1 (by omega) (by omega))
        have i1 : (1 : Int) ≤ cc := by omega
        have i1n : (1 : Int) ≤ LL := by omega
        have i0n : (0 : Int) < LL := by omega
        have i1c : (LL : Int) ≤ cc := by omega
        have n1' : ¬ cc = 1 := by omega
        have l6 : (k : Int) < 6 := by omega
        clear hc e' Yl bx rs bl gk Bk le
        go_wp2_with (first | (go_at_call 31; refine (k31 _).mono ?_; rintro e w' ⟨rfl, rfl⟩))
        go_roundw
        case rel => exact ⟨k + 1, by omega, by go_num, by rw [← HS.out, HT.out]; exact FN.out⟩
        case measure => simp [intOf]; omega
      obtain rfl : k = 6 := by omega
      · have HRR := hide hD
        clear hD
        go_wp2
        go_meet
        case rel => rw [E2.out, ← pm_six n1 l1 (by omega)]; exact HRR.out
  case rest =>
  clear E2 k31
  generalize hx2 : ev (fo y) cf 2 (n1, l1) = x2 at *
  obtain ⟨n2, l2⟩ := x2
  replace hx2 := hide hx2
  go_upto_if 64 with (first | (go_at_call 32; refine (k32 _).mono ?_; rintro e w' ⟨rfl, rfl⟩))
  go_cut [6] from 11 (fun v wx => DS w P e0 e1 e2 10 (ev (fo y) cf 4 (n2, l2)) v wx)
  case first =>
    clear k32 k33 k34 E8 E16
    cases P'
    · replace E4 : Hid (ev (fo y) cf 4 (n2, l2) = (n2, l2)) := hide (by simpa using E4.out (n2, l2))
      have HC := hide hcut
      clear hcut
      go_wp2
      go_meet
      case rel => rw [E4.out]; exact ⟨HC.out.sl, HC.out.bx, HC.out.rs, HC.out.bl, HC.out.lt, by have := HC.out.le; omega⟩
    · replace E4 : Hid (ev (fo y) cf 4 (n2, l2) = ({ n2 with p := nb (l2.take 2) }, l2.drop 2)) := hide (by have := E4.out (n2, l2); simp only [if_true] at this; exact this)
      obtain ⟨⟨g, o2, cc, rfl, Yl, hg⟩, bx, rs, bl, hlt, le⟩ := hcut
      have le' : 12 ≤ l2.length := le
      have Yl' : Byt w' (some ⟨g, o2, none⟩) l2.length cc l2 := Yl
      rw [show ((n2, l2).2 : List Int) = l2 from rfl]
      have hcl := Yl'.le
      generalize hLL : l2.length = LL at *
      have i2 : (2 : Int) ≤ cc := by omega
      have i2n : (2 : Int) ≤ LL := by omega
      have i2c : (LL : Int) ≤ cc := by omega
      have nn2 : ¬ cc = 2 := by omega
      have Yt := hide (byt_take Yl' (j := 2) (by omega))
      go_wp2_with fail
      refine (of41 _ 2 _ _ _ Yt.out (by omega) (by omega)).mono ?_
      rintro e w1 ⟨rfl, rfl⟩
      have c4 := bx.cell 11 _ rfl
      have f4 := bx.free 11 (by rw [pcl_length]; omega)
      have g4 := setCell_grown w1 P 11 (.int .i64 (nb (l2.take 2)))
      have B4 : Box (w1.setCell ⟨P, 11, none⟩ (.int .i64 (nb (l2.take 2)))) P (pcl ⟨e0, e1, e2, { n2 with p := nb (l2.take 2) }⟩ (.slice none 0 0)) := Box.set (A := (pcl ⟨e0, e1, e2, n2⟩ (.slice none 0 0)).take 11) (C := [.int .i64 n2.s, .slice none 0 0]) bx rfl
      have FN := hide (DS.step (k' := 10) hLL Yl' hg rs bl hlt _ g4 B4 2 (by omega) (by omega))
      clear Yt Yl Yl' bx rs bl g4 B4 le le'
      go_wp2
      go_meet
      case rel => rw [E4.out]; exact FN.out
  case rest =>
  clear E4 k32
  generalize hx4 : ev (fo y) cf 4 (n2, l2) = x4 at *
  obtain ⟨n4, l4⟩ := x4
  replace hx4 := hide hx4
  go_upto_if 73 with (first | (go_at_call 33; refine (k33 _).mono ?_; rintro e w' ⟨rfl, rfl⟩))
  go_cut [6] from 11 (fun v wx => DS w P e0 e1 e2 9 (ev (fo y) cf 8 (n4, l4)) v wx)
  case first =>
    clear k33 k34 E16
    cases S
    · replace E8 : Hid (ev (fo y) cf 8 (n4, l4) = (n4, l4)) := hide (by simpa using E8.out (n4, l4))
      have HC := hide hcut
      clear hcut
      go_wp2
      go_meet
      case rel => rw [E8.out]; exact ⟨HC.out.sl, HC.out.bx, HC.out.rs, HC.out.bl, HC.out.lt, by have := HC.out.le; omega⟩
    · replace E8 : Hid (ev (fo y) cf 8 (n4, l4) = ({ n4 with s := l4.getD 0 0 }, l4.drop 1)) := hide (by have := E8.out (n4, l4); simp only [if_true] at this; exact this)
      obtain ⟨⟨g, o2, cc, rfl, Yl, hg⟩, bx, rs, bl, hlt, le⟩ := hcut
      have le' : 10 ≤ l4.length := le
      have Yl' : Byt w' (some ⟨g, o2, none⟩) l4.length cc l4 := Yl
      rw [show ((n4, l4).2 : List Int) = l4 from rfl]
      have hcl := Yl'.le
      generalize hLL : l4.length = LL at *
      obtain ⟨b', o', e', hc, -⟩ := Yl'.at (by omega)
      injection Option.some.inj e' with q1 q2
      subst q1 q2
      have c0 : w'.cell? ⟨g, o2, none⟩ = some (.int .u8 (l4.getD 0 0)) := hc 0 (by omega)
      have hr0 := rng_getD Yl'.rng 0
      generalize l4.getD 0 0 = z at *
      have zw : IntKind.i64.wrap z = z := IntWalk.i64_in _ (by omega)
      have i1 : (1 : Int) ≤ cc := by omega
      have i1n : (1 : Int) ≤ LL := by omega
      have i0n : (0 : Int) < LL := by omega
      have i1c : (LL : Int) ≤ cc := by omega
      have nn1 : ¬ cc = 1 := by omega
      have c4 := bx.cell 12 _ rfl
      have f4 := bx.free 12 (by rw [pcl_length]; omega)
      have g4 := setCell_grown w' P 12 (.int .i64 z)
      have B4 : Box (w'.setCell ⟨P, 12, none⟩ (.int .i64 z)) P (pcl ⟨e0, e1, e2, { n4 with s := z }⟩ (.slice none 0 0)) := Box.set (A := (pcl ⟨e0, e1, e2, n4⟩ (.slice none 0 0)).take 12) (C := [.slice none 0 0]) bx rfl
      have FN := hide (DS.step (k' := 9) hLL Yl' hg rs bl hlt _ g4 B4 1 (by omega) (by omega))
      clear hc e' Yl Yl' bx rs bl g4 B4 le le'
      go_wp2
      go_meet
      case rel => rw [E8.out]; exact FN.out
  case rest =>
  clear E8 k33
  generalize hx8 : ev (fo y) cf 8 (n4, l4) = x8 at *
  obtain ⟨n8, l8⟩ := x8
  replace hx8 := hide hx8
  go_upto_if 83 with (first | (go_at_call 34; refine (k34 _).mono ?_; rintro e w' ⟨rfl, rfl⟩))
  have n8b : n8.b = [] := by
    have q1 := ev_cf_b (fo y) 1 (by simp) (kn y, pad b)
    have q2 := ev_cf_b (fo y) 2 (by simp) (n1, l1)
    have q4 := ev_cf_b (fo y) 4 (by simp) (n2, l2)
    have q8 := ev_cf_b (fo y) 8 (by simp) (n4, l4)
    rw [hx1.out] at q1
    rw [hx2.out] at q2
    rw [hx4.out] at q4
    rw [hx8.out] at q8
    exact ((q8.trans q4).trans q2).trans q1
  have N8 := hide n8b
  clear n8b
  go_cut [8] from 11 (fun _ wx => ∃ sa sm sc, Box wx P (pcl ⟨e0, e1, e2, (ev (fo y) cf 16 (n8, l8)).1⟩ (.slice sa sm sc)) ∧ Byt wx sa sm sc (ev (fo y) cf 16 (n8, l8)).1.b ∧ (∀ b' o', sa = some ⟨b', o', none⟩ → 0 < sm → b' ≠ w.heap.size) ∧ Box wx w.heap.size (pcl zeroP (.slice none 0 0)) ∧ Below w.heap.size w wx ∧ w.heap.size < P)
  case first =>
    clear k34 hx1 hx2 hx4 hx8 hE0 hE1 hE2 hK
    cases B
    · replace E16 : Hid (ev (fo y) cf 16 (n8, l8) = (n8, l8)) := hide (by simpa using E16.out (n8, l8))
      have HC := hide hcut
      clear hcut
      go_wp2
      go_meet
      case rel => rw [E16.out]; exact ⟨none, 0, 0, HC.out.bx, by show Byt _ _ _ _ n8.b; rw [N8.out]; exact Byt.nothing _, fun b' o' e => (by cases e), HC.out.rs, HC.out.bl, HC.out.lt⟩
    · replace E16 : Hid (ev (fo y) cf 16 (n8, l8) = ({ n8 with b := (l8.drop 2).take (nb (l8.take 2)).toNat }, l8)) := hide (by have := E16.out (n8, l8); simp only [if_true] at this; exact this)
      obtain ⟨⟨g, o2, cc, rfl, Yl, hg⟩, bx, rs, bl, hlt, le⟩ := hcut
      have le' : 9 ≤ l8.length := le
      have Yl' : Byt w' (some ⟨g, o2, none⟩) l8.length cc l8 := Yl
      rw [show ((n8, l8).2 : List Int) = l8 from rfl]
      have hcl := Yl'.le
      generalize hLL : l8.length = LL at *
      have i2 : (2 : Int) ≤ cc := by omega
      have i2n : (2 : Int) ≤ LL := by omega
      have i2c : (LL : Int) ≤ cc := by omega
      have nn2 : ¬ cc = 2 := by omega
      have Yt := hide (byt_take Yl' (j := 2) (by omega))
      go_wp2_with fail
      refine (of41 _ 2 _ _ _ Yt.out (by omega) (by omega)).mono ?_
      rintro e w1 ⟨rfl, rfl⟩
      have hql : (l8.take 2).length = 2 := by rw [List.length_take, hLL]; omega
      have hq0 := nb_fit 2 (l8.take 2) hql (rng_take Yl'.rng 2)
      have hq : 0 ≤ nb (l8.take 2) ∧ nb (l8.take 2) < 65536 := hq0
      have hdl : (l8.drop 2).length = LL - 2 := by rw [List.length_drop, hLL]
      have h9 : maxLen = 9223372036854775807 := by decide
      have hmx0 := Yl'.mx
      have hmx : (cc : Int) ≤ 9223372036854775807 := by omega
      clear h9 hmx0
      clear hq0 hql Yt Yl
      generalize nb (l8.take 2) = q at *
      have FIN : ∀ m : Nat, m ≤ LL - 2 → m < 65536 → (l8.drop 2).take q.toNat = (l8.drop 2).take m → ∀ v4 w4, Row w4 w1.heap.size v4 m ((l8.drop 2).take m) → Below w1.heap.size w1 w4 → ∃ a4 c4, v4 = .slice a4 m c4 ∧ w4.cell? ⟨P, 13, none⟩ = some (.slice none 0 0) ∧ w4.frozen? ⟨P, 13, none⟩ = false ∧ (∃ sa sm sc, Box (w4.setCell ⟨P, 13, none⟩ (.slice a4 m c4)) P (pcl ⟨e0, e1, e2, (ev (fo y) cf 16 (n8, l8)).1⟩ (.slice sa sm sc)) ∧ Byt (w4.setCell ⟨P, 13, none⟩ (.slice a4 m c4)) sa sm sc (ev (fo y) cf 16 (n8, l8)).1.b ∧ (∀ b' o', sa = some ⟨b', o', none⟩ → 0 < sm → b' ≠ w.heap.size) ∧ Box (w4.setCell ⟨P, 13, none⟩ (.slice a4 m c4)) w.heap.size (pcl zeroP (.slice none 0 0)) ∧ Below w.heap.size w (w4.setCell ⟨P, 13, none⟩ (.slice a4 m c4)) ∧ w.heap.size < P) := by
        intro m h1 h2 h3 v4 w4 R4 B4
        obtain ⟨a4, c4, hv, Y4, N4⟩ := own_byt2 R4 (rng_take (rng_drop Yl'.rng 2) m)
        have bx4 := bx.on B4
        have g4 := setCell_grown w4 P 13 (.slice a4 m c4)
        have hPl := bx.lt
        refine ⟨a4, c4, hv, bx4.cell 13 _ rfl, bx4.free 13 (by rw [pcl_length]; omega), a4, m, c4, ?_, ?_, ?_, (rs.on B4).kept (by omega) g4, below_grown (belowOn bl B4) g4 (by omega) (belowOn bl B4).size, hlt⟩
        · rw [E16.out]
          exact Box.set (A := (pcl ⟨e0, e1, e2, n8⟩ (.slice none 0 0)).take 13) (C := []) bx4 rfl
        · rw [E16.out]
          show Byt _ _ _ _ ((l8.drop 2).take q.toNat)
          rw [h3]
          exact Y4.kept (fun b' o' e hp => by have := N4 b' o' e; omega) g4
        · intro b' o' e hp
          have := N4 b' o' e
          omega
      have HO : Hid (Row (w1.alloc (.cells #[] 5)) w1.heap.size (.slice (some ⟨w1.heap.size, 0, none⟩) 0 0) 0 []) := hide (World.ownsRow_made w1 #[] 0 (Nat.le_refl _) (Nat.zero_le _) rfl)
      have YM : Hid (∀ m, m ≤ LL - 2 → Byt (w1.alloc (.cells #[] 5)) (some ⟨g, o2 + 2, none⟩) m (cc - 2) ((l8.drop 2).take m)) := hide (fun m h => (byt_mid Yl' 2 m (by omega) (by omega)).alloc _)
      have HF := hide FIN
      clear FIN Yl' bx rs bl le
      by_cases hcase : q ≤ (LL : Int) - 2
      · obtain ⟨m, rfl⟩ : ∃ m : Nat, q = m := ⟨q.toNat, by omega⟩
        have hm1 : m ≤ LL - 2 := by omega
        have HG := hide (HF.out m hm1 (by omega) (by rw [Int.toNat_natCast]))
        have HM := hide (YM.out m hm1)
        have tn : (2 + (m : Int)).toNat - 2 = m := by omega
        clear HF YM
        have tkA : True := trivial
        go_wp2_with (first | (at_builtin; have _t := tkA; refine wpl_app rfl (.tmp 91) (.tmp 95) rfl w1.heap.size (.slice (some ⟨w1.heap.size, 0, none⟩) 0 0) 0 [] rfl HO.out (some ⟨g, o2 + 2, none⟩) m (cc - 2) _ rfl HM.out (by omega) (by simp) ?_; intro v4 w4 R4 B4; clear tkA; obtain ⟨a4, c4, rfl, c13, f13, FF⟩ := HG.out v4 w4 (by have q := R4; rw [Nat.zero_add, List.nil_append] at q; exact q) ((below_alloc w1 (.cells #[] 5)).trans B4); clear R4 B4; have HFF := hide FF; clear FF))
        go_meet
        case rel => exact HFF.out
      · obtain ⟨m, rfl⟩ : ∃ m : Nat, LL = m + 2 := ⟨LL - 2, by omega⟩
        have hm1 : m ≤ m + 2 - 2 := by omega
        have HG := hide (HF.out m hm1 (by omega) (by rw [List.take_of_length_le (by rw [hdl]; omega), List.take_of_length_le (by rw [hdl]; omega)]))
        have HM := hide (YM.out m hm1)
        have tn : (2 + (m : Int)).toNat - 2 = m := by omega
        have tn2 : (((m + 2 : Nat) : Int)) = (m : Int) + 2 := by omega
        have hcase2 : (m : Int) < q := by omega
        clear HF YM
        have tkA : True := trivial
        go_wp2_with (first | (at_builtin; have _t := tkA; refine wpl_app rfl (.tmp 91) (.tmp 95) rfl w1.heap.size (.slice (some ⟨w1.heap.size, 0, none⟩) 0 0) 0 [] rfl HO.out (some ⟨g, o2 + 2, none⟩) m (cc - 2) _ rfl HM.out (by omega) (by simp) ?_; intro v4 w4 R4 B4; clear tkA; obtain ⟨a4, c4, rfl, c13, f13, FF⟩ := HG.out v4 w4 (by have q := R4; rw [Nat.zero_add, List.nil_append] at q; exact q) ((below_alloc w1 (.cells #[] 5)).trans B4); clear R4 B4; have HFF := hide FF; clear FF))
        go_meet
        case rel => exact HFF.out
  case rest =>
  obtain ⟨sa, sm, sc, A, Y, NE, D, L, -⟩ := hcut
  have HB := hide (cd_B HY.out.rng)
  have hcd : cd b = ⟨e0, e1, e2, (ev (fo y) cf 16 (n8, l8)).1⟩ := by
    have hN : (cn (b.getD 12 0) (pad b)).1 = (ev (fo y) cf 16 (n8, l8)).1 := by
      rw [hK, cn, evs, hx1.out, hx2.out, hx4.out, hx8.out]
    rw [cd, hE0, hE1, hE2, hN]
  rw [← hcd] at A
  replace Y : Byt wc sa sm sc (cd b).n.b := by rw [hcd]; exact Y
  have HN := hide NE
  clear NE hcd hx1 hx2 hx4 hx8 hE0 hE1 hE2 hK N8 E16
  obtain ⟨hck, hcd⟩ := ck_dk HY.out.rng
  have HCK : Hid (ck b = (rtp (cd b) && decide (enc (cd b) = b))) := hide (by rw [ck, HY.out.len]; simp [hn])
  have HE1 : Hid (ck b = true → dp b = cd b ∧ dc b = 0) := hide (fun h => ⟨(hcd h).symm, by rw [dc, ← hck, h]; rfl⟩)
  have HE0 : Hid (ck b = false → dp b = zeroP ∧ dc b = 2) := hide (fun h => by rw [dp, dc, ← hck, h]; exact ⟨rfl, rfl⟩)
  clear hck hcd
  generalize cd b = C at *
  rename Exit → Act → World → Prop => QQ
  have HQQ : Hid (∀ a wz, bodyPost Tryd.prog Tryd.f16 (fun e w' => ∃ sa sm sc, e = .returned (.tuple #[.agg (PC (dp b) (.slice sa sm sc)), .int .i64 (dc b)]) ∧ Byt w' sa sm sc (dp b).n.b ∧ Below w.heap.size w w') .ret a wz → QQ .ret a wz) := hide (fun _ _ h => h)
  clear_value QQ
  have tk1 : True := trivial
  have hlP := A.lt
  cases hr : rtp (C)
  · have EC := hide (encode12_no (C) sa sm sc Y.len wc hr)
    have HQ := hide (HE0.out (by rw [HCK.out, hr]; rfl))
    clear HE1 HE0 HCK
    go_wp2_with (have _t := tk1; refine wpl_pkt (.tmp 4) rfl A ?_ ?_ ?_; rfl; rfl; clear tk1)
    refine EC.out.mono ?_
    rintro e w2 ⟨rfl, hb⟩
    replace D := D.on hb; replace L := belowOn L hb
    have hs2 := hb.size
    clear hb A Y EC
    obtain ⟨w3, hst, Z3, g3⟩ := put_run2 D zeroP none 0 0
    have HZ := hide (And.intro Z3 g3)
    clear Z3 g3 D
    go_wp2_with fail
    obtain ⟨Z3, g3⟩ := HZ.out
    refine HQQ.out _ _ (bodyPost_ret (res_pkt_tmp rfl rfl Z3) rfl ⟨none, 0, 0, ?_, ?_, below_grown L g3 (Nat.le_refl _) L.size⟩)
    · rw [HQ.out.1, HQ.out.2]; rfl
    · rw [HQ.out.1]; exact Byt.nothing _
  · have EC := hide (encode12_yes (C) sa sm sc wc HB.out Y hr)
    rw [hr, Bool.true_and] at HCK
    go_wp2_with (have _t := tk1; refine wpl_pkt (.tmp 4) rfl A ?_ ?_ ?_; rfl; rfl; clear tk1)
    refine EC.out.mono ?_
    rintro e w2 ⟨a2, n2', d2, rfl, Z2, hb⟩
    replace D := D.on hb; replace L := belowOn L hb; replace A := A.on hb; replace Y := Y.on hb
    have hs2 := hb.size
    have Yb := HY.out.on L
    have s1 := bytStr Z2
    have s2 := bytStr Yb
    have sb := bs_beq Z2.rng Yb.rng
    cases hdd : decide (enc (C) = b)
    · have HQ := hide (HE0.out (by rw [HCK.out, hdd]))
      rw [hdd] at sb
      have sb2 : ((bs (enc (C))).toList != (bs b).toList) = true := by rw [bne, sb]; rfl
      clear hb A Y EC HE1 HE0 HCK Z2 Yb hdd
      generalize enc (C) = EE at *
      obtain ⟨w3, hst, Z3, g3⟩ := put_run2 D zeroP none 0 0
      have HZ := hide (And.intro Z3 g3)
      clear Z3 g3 D
      go_wp2_with fail
      obtain ⟨Z3, g3⟩ := HZ.out
      refine HQQ.out _ _ (bodyPost_ret (res_pkt_tmp rfl rfl Z3) rfl ⟨none, 0, 0, ?_, ?_, below_grown L g3 (Nat.le_refl _) L.size⟩)
      · rw [HQ.out.1, HQ.out.2]; rfl
      · rw [HQ.out.1]; exact Byt.nothing _
    · have HQ := hide (HE1.out (by rw [HCK.out, hdd]))
      rw [hdd] at sb
      have sb2 : ((bs (enc (C))).toList != (bs b).toList) = false := by rw [bne, sb]; rfl
      have HYY := hide Y
      clear hb Y EC HE1 HE0 HCK Z2 Yb hdd
      generalize enc (C) = EE at *
      have tk2 : True := trivial
      have tk3 : True := trivial
      go_wp2_with (first | (have _t := tk3; refine wpl_pkt (.tmp 4) rfl A ?_ ?_ ?_; rfl; rfl; clear tk3) | (have _t := tk2; refine wpl_putP (C) (.slice sa sm sc) zeroP (.slice none 0 0) rfl (.tmp 2) (.tmp 114) rfl D ?_ ?_ ?_ ?_; rfl; rfl; rfl; clear tk2; intro w3 Z3 g3))
      refine HQQ.out _ _ (bodyPost_ret (res_pkt_tmp rfl rfl Z3) rfl ⟨sa, sm, sc, ?_, ?_, below_grown L g3 (Nat.le_refl _) L.size⟩)
      · rw [HQ.out.1, HQ.out.2]; rfl
      · rw [HQ.out.1]; exact HYY.out.kept HN.out g3
end
end Go.Proofs.YtijfcfpoimknmaaDoor
