/- TopTalks: for every frame, bytes and list of links the law answers true, and all three read behind the call as they read before. No condition. -/
import Derived.Test.YtmpojeehjhpkbaaQo
import Derived.Test.YtmpojeehjhpkbaaSt
import Derived.Test.YtmpojeehjhpkbaaE8
import Derived.Test.YtmpojeehjhpkbaaEq
import Derived.Deep.LoopGhost
namespace Go.Proofs.Ytmpojeehjhpkbaa
open Go.ChangeShapes Go.WideShapes Go.ChangeAt Go.RowKit Go.PlainAid

theorem decodeE (ao : Option Addr) (n c : Nat) (ns : List Int) (w : World) (hb : Byt w ao n c ns) (D : Fd) (E : Int) (hD : dec ns = (D, E)) :
    Calls Try.prog 18 #[.slice ao n c] w fun e w' => ∃ ao' n' c', e = .returned (.tuple #[.agg #[.int .u8 D.d0, .int .u8 D.d1, .int .u8 D.d2, .int .u8 D.d3, .int .u8 D.d4, .int .u8 D.d5, .int .u8 D.s0, .int .u8 D.s1, .int .u8 D.s2, .int .u8 D.s3, .int .u8 D.s4, .int .u8 D.s5, .bool D.tg, .int .i64 D.vl, .int .i64 D.pr, .int .i64 D.ty, (.slice ao' n' c')], .int .i64 E]) ∧ Byt w' ao' n' c' D.bs ∧ Below w.heap.size w w' := by
  have h := decode14 ao n c ns w hb
  rw [hD] at h
  exact h
theorem chs_one (h : Nat) (x : Int) : chs h [x] = x := rfl
theorem AtF.body {w : World} {k : Nat} {f : Fd} {b : Value} (h : AtF w k f b) (l : List Int) : AtF w k { f with bs := l } b :=
  ⟨h.lt, h.c0, h.c1, h.c2, h.c3, h.c4, h.c5, h.c6, h.c7, h.c8, h.c9, h.c10, h.c11, h.c12, h.c13, h.c14, h.c15, h.c16⟩
theorem Its.tail {w : World} {b o n c : Nat} {l : List Int} (h : Its w 0 (some ⟨b, o, none⟩) n c l) (h0 : 0 < n) : Its w 0 (some ⟨b, o + 1, none⟩) (n - 1) (c - 1) (l.drop 1) :=
  ⟨by rw [List.length_drop, h.len], fun e => (by cases e), fun j hj => ⟨b, o + 1, rfl, Nat.zero_le _, by
    obtain ⟨b', o', e, _, hc⟩ := h.cell (j + 1) (by omega)
    injection Option.some.inj e with e1 e2
    subst e1 e2
    rw [Nat.add_assoc, Nat.add_comm 1 j, hc]
    simp [List.getD_eq_getElem?_getD]⟩, by have := h.le; omega, by have := h.mx; omega⟩
set_option maxRecDepth 100000 in
set_option maxHeartbeats 8000000 in
theorem topOut (f : Fd) (a : Option Addr) (m c : Nat) (ab : Option Addr) (nb cb : Nat) (ns : List Int) (ao : Option Addr) (n cl : Nat) (l : List Int) (w : World) (hf : FdB f) (hb : Byt w a m c f.bs) (hs : Byt w ab nb cb ns) (hl : Its w 0 ao n cl l) (hn : n < 2 ∨ 30 < n ∨ 1500 < nb ∨ 1500 < m) :
    Calls Try.prog 9 #[.agg #[.int .u8 f.d0, .int .u8 f.d1, .int .u8 f.d2, .int .u8 f.d3, .int .u8 f.d4, .int .u8 f.d5, .int .u8 f.s0, .int .u8 f.s1, .int .u8 f.s2, .int .u8 f.s3, .int .u8 f.s4, .int .u8 f.s5, .bool f.tg, .int .i64 f.vl, .int .i64 f.pr, .int .i64 f.ty, .slice a m c], .slice ab nb cb, .slice ao n cl] w fun e w' => e = .returned (.bool true) ∧ Below w.heap.size w w' := by
  have HI := hide hl
  have HF := hide hf
  have HY := hide hb
  have HZ := hide hs
  have b0 := below_alloc w (.cells #[.int .u8 f.d0, .int .u8 f.d1, .int .u8 f.d2, .int .u8 f.d3, .int .u8 f.d4, .int .u8 f.d5, .int .u8 f.s0, .int .u8 f.s1, .int .u8 f.s2, .int .u8 f.s3, .int .u8 f.s4, .int .u8 f.s5, .bool f.tg, .int .i64 f.vl, .int .i64 f.pr, .int .i64 f.ty, .slice a m c] 26)
  have HB0 := hide b0
  have HA0 := hide (AtF.new w f (.slice a m c))
  have H7 := fun w : World => hide (its_lit (w := w) (cs := #[.int .i64 7]) (ns := [7]) (n := 1) rfl rfl (by omega))
  have cases : (n : Int) < 2 ∨ (¬ (n : Int) < 2 ∧ (30 : Int) < n) ∨ (¬ (n : Int) < 2 ∧ ¬ (30 : Int) < n ∧ (1500 : Int) < nb) ∨ (¬ (n : Int) < 2 ∧ ¬ (30 : Int) < n ∧ ¬ (1500 : Int) < nb ∧ (1500 : Int) < m) := by omega
  clear hn hf hb hs hl b0
  go_enter Try.func9, Try.ntmps9
  go_wp2_with fail
  have hs0 := World.size_alloc w (.cells #[.int .u8 f.d0, .int .u8 f.d1, .int .u8 f.d2, .int .u8 f.d3, .int .u8 f.d4, .int .u8 f.d5, .int .u8 f.s0, .int .u8 f.s1, .int .u8 f.s2, .int .u8 f.s3, .int .u8 f.s4, .int .u8 f.s5, .bool f.tg, .int .i64 f.vl, .int .i64 f.pr, .int .i64 f.ty, .slice a m c] 26)
  generalize w.alloc (.cells #[.int .u8 f.d0, .int .u8 f.d1, .int .u8 f.d2, .int .u8 f.d3, .int .u8 f.d4, .int .u8 f.d5, .int .u8 f.s0, .int .u8 f.s1, .int .u8 f.s2, .int .u8 f.s3, .int .u8 f.s4, .int .u8 f.s5, .bool f.tg, .int .i64 f.vl, .int .i64 f.pr, .int .i64 f.ty, .slice a m c] 26) = w0 at *
  have b1 := below_alloc w0 (.cells #[.int .i64 7] 3)
  have h7 := H7 w0
  generalize hW1 : w0.alloc (.cells #[.int .i64 7] 3) = w1 at *
  rw [hs0] at h7
  replace HB0 := hide (belowOn HB0.out b1)
  replace HA0 := hide (HA0.out.on b1)
  refine (hashQ zero (.slice none 0 0) _ (by intro n hn; simp [adL, zero] at hn; omega)).mono ?_
  rintro e w2 ⟨rfl, B2⟩
  replace HB0 := hide (belowOn HB0.out B2)
  replace HA0 := hide (HA0.out.on B2)
  have h72 := hide (h7.out.on B2)
  have HH := hide (hsh_lt zero)
  generalize hsh zero = z at *
  clear B2 b1 h7 hW1 hs0 H7
  go_wp2_with fail
  refine (chooseQ _ 1 1 [7] z _ h72.out HH.out (by omega)).mono ?_
  rintro e w3 ⟨rfl, B3⟩
  replace HB0 := hide (belowOn HB0.out B3)
  replace HA0 := hide (HA0.out.on B3)
  rw [chs_one]
  clear B3 h72 HH
  have c16 := HA0.out.c16
  rcases cases with h1 | ⟨h1, h2⟩ | ⟨h1, h2, h3⟩ | ⟨h1, h2, h3, h4⟩
  all_goals
    go_wp2
    go_ret
    exact ⟨rfl, HB0.out⟩
set_option maxRecDepth 100000 in
set_option maxHeartbeats 8000000 in
theorem topIn (f : Fd) (a : Option Addr) (m c : Nat) (ab : Option Addr) (nb cb : Nat) (ns : List Int) (ao : Option Addr) (n cl : Nat) (l : List Int) (w : World) (hf : FdB f) (hb : Byt w a m c f.bs) (hs : Byt w ab nb cb ns) (hl : Its w 0 ao n cl l) (hn : 2 ≤ n ∧ n ≤ 30 ∧ nb ≤ 1500 ∧ m ≤ 1500) :
    Calls Try.prog 9 #[.agg #[.int .u8 f.d0, .int .u8 f.d1, .int .u8 f.d2, .int .u8 f.d3, .int .u8 f.d4, .int .u8 f.d5, .int .u8 f.s0, .int .u8 f.s1, .int .u8 f.s2, .int .u8 f.s3, .int .u8 f.s4, .int .u8 f.s5, .bool f.tg, .int .i64 f.vl, .int .i64 f.pr, .int .i64 f.ty, .slice a m c], .slice ab nb cb, .slice ao n cl] w fun e w' => e = .returned (.bool true) ∧ Below w.heap.size w w' := by
  have HI := hide hl
  have HF := hide hf
  have HY := hide hb
  have HZ := hide hs
  have b0 := below_alloc w (.cells #[.int .u8 f.d0, .int .u8 f.d1, .int .u8 f.d2, .int .u8 f.d3, .int .u8 f.d4, .int .u8 f.d5, .int .u8 f.s0, .int .u8 f.s1, .int .u8 f.s2, .int .u8 f.s3, .int .u8 f.s4, .int .u8 f.s5, .bool f.tg, .int .i64 f.vl, .int .i64 f.pr, .int .i64 f.ty, .slice a m c] 26)
  have HB0 := hide b0
  have HA0 := hide (AtF.new w f (.slice a m c))
  have H7 := fun w : World => hide (its_lit (w := w) (cs := #[.int .i64 7]) (ns := [7]) (n := 1) rfl rfl (by omega))
  have HN := hide hn
  have g1 : ¬ (n : Int) < 2 := by omega
  have g2 : ¬ (30 : Int) < (n : Int) := by omega
  have g3 : ¬ (1500 : Int) < (nb : Int) := by omega
  have g4 : ¬ (1500 : Int) < (m : Int) := by omega
  clear hn hf hb hs hl b0
  go_enter Try.func9, Try.ntmps9
  go_wp2_with fail
  have hs0 := World.size_alloc w (.cells #[.int .u8 f.d0, .int .u8 f.d1, .int .u8 f.d2, .int .u8 f.d3, .int .u8 f.d4, .int .u8 f.d5, .int .u8 f.s0, .int .u8 f.s1, .int .u8 f.s2, .int .u8 f.s3, .int .u8 f.s4, .int .u8 f.s5, .bool f.tg, .int .i64 f.vl, .int .i64 f.pr, .int .i64 f.ty, .slice a m c] 26)
  generalize w.alloc (.cells #[.int .u8 f.d0, .int .u8 f.d1, .int .u8 f.d2, .int .u8 f.d3, .int .u8 f.d4, .int .u8 f.d5, .int .u8 f.s0, .int .u8 f.s1, .int .u8 f.s2, .int .u8 f.s3, .int .u8 f.s4, .int .u8 f.s5, .bool f.tg, .int .i64 f.vl, .int .i64 f.pr, .int .i64 f.ty, .slice a m c] 26) = w0 at *
  have b1 := below_alloc w0 (.cells #[.int .i64 7] 3)
  have h7 := H7 w0
  generalize hW1 : w0.alloc (.cells #[.int .i64 7] 3) = w1 at *
  rw [hs0] at h7
  replace HB0 := hide (belowOn HB0.out b1)
  replace HA0 := hide (HA0.out.on b1)
  refine (hashQ zero (.slice none 0 0) _ (by intro n hn; simp [adL, zero] at hn; omega)).mono ?_
  rintro e w2 ⟨rfl, B2⟩
  replace HB0 := hide (belowOn HB0.out B2)
  replace HA0 := hide (HA0.out.on B2)
  have h72 := hide (h7.out.on B2)
  have HH := hide (hsh_lt zero)
  generalize hsh zero = z at *
  clear B2 b1 h7 hW1 hs0 H7
  go_wp2_with fail
  refine (chooseQ _ 1 1 [7] z _ h72.out HH.out (by omega)).mono ?_
  rintro e w3 ⟨rfl, B3⟩
  replace HB0 := hide (belowOn HB0.out B3)
  replace HA0 := hide (HA0.out.on B3)
  rw [chs_one]
  clear B3 h72 HH
  have c16 := HA0.out.c16
  replace HI := hide (HI.out.on HB0.out)
  obtain ⟨bl, ol, rfl, hcell, -⟩ := HI.out.at (by have := HN.out; omega)
  obtain ⟨dn, hdn⟩ : ∃ dn, l[0]? = some dn := ⟨_, List.getElem?_eq_getElem (by rw [HI.out.len]; have := HN.out; omega)⟩
  have q0 := hcell 0 (by have := HN.out; omega)
  rw [List.getD_eq_getElem?_getD, hdn, Nat.add_zero] at q0
  have q0' : w3.cell? ⟨bl, ol, none⟩ = some (.int .i64 dn) := q0
  have i1 : (0 : Int) < (n : Int) := by have := HN.out; omega
  have i2 : (1 : Int) ≤ (n : Int) := by have := HN.out; omega
  have hle := HI.out.le
  have hmx := HI.out.mx
  unfold maxLen at hmx
  have i3 : (n : Int) ≤ (cl : Int) := by omega
  have i4 : ¬ cl = 1 := by have := HN.out; omega
  clear q0 hcell
  have T1 : (w3.alloc (.cells #[.int .u8 0, .int .u8 0, .int .u8 0, .int .u8 0, .int .u8 0, .int .u8 0, .int .u8 0, .int .u8 0, .int .u8 0, .int .u8 0, .int .u8 0, .int .u8 0, .bool false, .int .i64 0, .int .i64 0, .int .i64 0, .slice none 0 0] 26)).there w3.heap.size 0 17 := there_new w3 #[.int .u8 0, .int .u8 0, .int .u8 0, .int .u8 0, .int .u8 0, .int .u8 0, .int .u8 0, .int .u8 0, .int .u8 0, .int .u8 0, .int .u8 0, .int .u8 0, .bool false, .int .i64 0, .int .i64 0, .int .i64 0, .slice none 0 0] 26
  have tk1 : True := trivial
  have tk2 : True := trivial
  have tk3 : True := trivial
  have HK3 : Hid (w.heap.size < w3.heap.size) := hide HA0.out.lt
  go_wp2_with (first | (have _t := tk1; refine wpl_frame (.tmp 3) rfl HA0.out ?_ ?_ ?_; rfl; rfl; clear tk1) | (have _t := tk2; refine wpl_put f a m c (.tmp 11) (.tmp 65) rfl T1 ?_ ?_ ?_ ?_; rfl; rfl; rfl; clear tk2; intro w4 A4 T4 G4; have p16 := A4.c16; have g16 : w4.frozen? ⟨w3.heap.size, 16, none⟩ = false := (T4 16 (by omega)).2; have G5 := setCell_grown w4 w3.heap.size 16 (.slice ab nb cb); have B4 := put_below G4; have B5 : Below w3.heap.size w3 (w4.setCell ⟨w3.heap.size, 16, none⟩ (.slice ab nb cb)) := below_grown B4 G5 (Nat.le_refl _) B4.size; have A5 := hide (HA0.out.on B5); have C5 := hide ((A4.set16 (.slice ab nb cb)).body ns); clear T1 A4 T4 G4 G5 B4) | (have _t := tk3; refine wpl_frame (.tmp 3) rfl A5.out ?_ ?_ ?_; rfl; rfl; clear tk3))
  clear c16 q0' p16 g16 HA0 i1 i2 i3 i4 g1 g2 g3 g4
  generalize (w4.setCell ⟨w3.heap.size, 16, none⟩ (.slice ab nb cb)) = w6 at *
  replace HB0 := hide (belowOn HB0.out B5)
  replace HI := hide (HI.out.on B5)
  replace HY := hide (HY.out.on HB0.out)
  replace HZ := hide (HZ.out.on HB0.out)
  clear B5
  obtain ⟨K, hK⟩ : ∃ K, K = w3.heap.size := ⟨_, rfl⟩
  rw [← hK] at C5 ⊢
  obtain ⟨g, HC, HGB, hgs, HGH⟩ : ∃ g, AtF w6 K g (.slice ab nb cb) ∧ FdB g ∧ g.bs = ns ∧ hsh g = hsh f := ⟨{ f with bs := ns }, C5.out, ⟨HF.out.a, HZ.out.rng⟩, rfl, hsh_same rfl rfl⟩
  replace HC := hide HC
  replace HGB := hide HGB
  replace HGH := hide HGH
  rw [← hgs] at HZ
  have HU := hide (HI.out.tail (by have := HN.out; omega))
  have HDN : Hid (0 < n - 1 ∧ n - 1 ≤ 29) := hide (by have := HN.out; omega)
  clear hgs C5 hK HK3 HI HN hle hmx hdn
  generalize n - 1 = N at *
  generalize cl - 1 = CL at *
  generalize l.drop 1 = u at *
  generalize ol + 1 = ou at *
  refine (encode10 f a m c _ HF.out HY.out).mono ?_
  rintro e w7 ⟨a1, n1, c1, rfl, Y1, B7⟩
  replace HB0 := hide (belowOn HB0.out B7)
  replace HU := hide (HU.out.on B7)
  replace HZ := hide (HZ.out.on B7)
  replace HC := hide (HC.out.on B7)
  replace Y1 := hide Y1
  have tk1 : True := trivial
  clear B7 A5 HY
  go_wp2_with (first | (have _t := tk1; refine wpl_frame (.tmp 11) rfl HC.out ?_ ?_ ?_; rfl; rfl; clear tk1))
  refine (encode10 g ab nb cb _ HGB.out HZ.out).mono ?_
  rintro e w8 ⟨a2, n2, c2, rfl, Y2, B8⟩
  replace HB0 := hide (belowOn HB0.out B8)
  replace HU := hide (HU.out.on B8)
  replace Y1 := hide (Y1.out.on B8)
  replace Y2 := hide Y2
  clear B8 HZ HC
  rcases Bool.eq_false_or_eq_true (rt f) with hf1 | hf1
  rotate_left
  · rw [ec_no hf1]
    clear hf1
    go_wp2
    go_ret
    exact ⟨rfl, HB0.out⟩
  rcases Bool.eq_false_or_eq_true (rt g) with hg1 | hg1
  rotate_left
  · rw [ec_no hg1, ec_yes hf1]
    clear hf1 hg1
    go_wp2
    go_ret
    exact ⟨rfl, HB0.out⟩
  rw [ec_yes hg1, ec_yes hf1]
  rw [eb_yes hf1] at Y1
  rw [eb_yes hg1] at Y2
  have HF1 := hide hf1
  have HG1 := hide hg1
  clear hf1 hg1
  go_wp2_with fail
  refine (decodeE a1 n1 c1 (enc f) _ Y1.out f 0 (dec_back HF1.out)).mono ?_
  rintro e w9 ⟨a3, n3, c3, rfl, -, B9⟩
  replace HB0 := hide (belowOn HB0.out B9)
  replace HU := hide (HU.out.on B9)
  replace Y2 := hide (Y2.out.on B9)
  clear B9 Y1 HF1
  have T1 : (w9.alloc (.cells #[.int .u8 0, .int .u8 0, .int .u8 0, .int .u8 0, .int .u8 0, .int .u8 0, .int .u8 0, .int .u8 0, .int .u8 0, .int .u8 0, .int .u8 0, .int .u8 0, .bool false, .int .i64 0, .int .i64 0, .int .i64 0, .slice none 0 0] 26)).there w9.heap.size 0 17 := there_new w9 #[.int .u8 0, .int .u8 0, .int .u8 0, .int .u8 0, .int .u8 0, .int .u8 0, .int .u8 0, .int .u8 0, .int .u8 0, .int .u8 0, .int .u8 0, .int .u8 0, .bool false, .int .i64 0, .int .i64 0, .int .i64 0, .slice none 0 0] 26
  have tk2 : True := trivial
  go_wp2_with (first | (have _t := tk2; refine wpl_put f a3 n3 c3 (.tmp 16) (.tmp 87) rfl T1 ?_ ?_ ?_ ?_; rfl; rfl; rfl; clear tk2; intro w10 A10 T10 G10; have B10 := put_below G10; have HA := hide A10; clear T1 A10 T10 G10))
  replace HB0 := hide (belowOn HB0.out B10)
  replace HU := hide (HU.out.on B10)
  replace Y2 := hide (Y2.out.on B10)
  clear B10
  generalize w9.heap.size = kA at *
  refine (decodeE a2 n2 c2 (enc g) _ Y2.out g 0 (dec_back HG1.out)).mono ?_
  rintro e w11 ⟨a4, n4, c4, rfl, -, B11⟩
  replace HB0 := hide (belowOn HB0.out B11)
  replace HU := hide (HU.out.on B11)
  replace HA := hide (HA.out.on B11)
  clear B11 Y2 HG1
  have T1 : (w11.alloc (.cells #[.int .u8 0, .int .u8 0, .int .u8 0, .int .u8 0, .int .u8 0, .int .u8 0, .int .u8 0, .int .u8 0, .int .u8 0, .int .u8 0, .int .u8 0, .int .u8 0, .bool false, .int .i64 0, .int .i64 0, .int .i64 0, .slice none 0 0] 26)).there w11.heap.size 0 17 := there_new w11 #[.int .u8 0, .int .u8 0, .int .u8 0, .int .u8 0, .int .u8 0, .int .u8 0, .int .u8 0, .int .u8 0, .int .u8 0, .int .u8 0, .int .u8 0, .int .u8 0, .bool false, .int .i64 0, .int .i64 0, .int .i64 0, .slice none 0 0] 26
  have tk2 : True := trivial
  have tk3 : True := trivial
  go_wp2_with (first | (have _t := tk2; refine wpl_put g a4 n4 c4 (.tmp 18) (.tmp 92) rfl T1 ?_ ?_ ?_ ?_; rfl; rfl; rfl; clear tk2; intro w12 A12 T12 G12; have B12 := put_below G12; have HC := hide A12; replace HA := hide (HA.out.on B12); clear T1 A12 T12 G12) | (have _t := tk3; refine wpl_frame (.tmp 16) rfl HA.out ?_ ?_ ?_; rfl; rfl; clear tk3))
  replace HB0 := hide (belowOn HB0.out B12)
  replace HU := hide (HU.out.on B12)
  clear B12
  generalize w11.heap.size = kC at *
  refine (hashQ f (.slice a3 n3 c3) _ HF.out.a).mono ?_
  rintro e w13 ⟨rfl, B13⟩
  replace HB0 := hide (belowOn HB0.out B13)
  replace HU := hide (HU.out.on B13)
  replace HA := hide (HA.out.on B13)
  replace HC := hide (HC.out.on B13)
  have HHL := hide (hsh_lt f)
  obtain ⟨x, hx⟩ : ∃ x, x = hsh f := ⟨_, rfl⟩
  rw [← hx] at HHL HGH
  rw [← hx]
  have HX := hide hx
  clear B13 hx
  go_wp2_with fail
  refine (chooseQ _ N CL u x _ HU.out HHL.out HDN.out.1).mono ?_
  rintro e w14 ⟨rfl, B14⟩
  replace HB0 := hide (belowOn HB0.out B14)
  replace HU := hide (HU.out.on B14)
  replace HA := hide (HA.out.on B14)
  replace HC := hide (HC.out.on B14)
  obtain ⟨y, hy⟩ : ∃ y, y = chs x u := ⟨_, rfl⟩
  rw [← hy]
  have HYY := hide hy
  have tk1 : True := trivial
  clear B14 hy
  go_wp2_with (first | (have _t := tk1; refine wpl_frame (.tmp 18) rfl HC.out ?_ ?_ ?_; rfl; rfl; clear tk1))
  refine (hashQ g (.slice a4 n4 c4) _ HGB.out.a).mono ?_
  rintro e w15 ⟨rfl, B15⟩
  replace HB0 := hide (belowOn HB0.out B15)
  replace HU := hide (HU.out.on B15)
  replace HA := hide (HA.out.on B15)
  rw [HGH.out]
  clear B15 HC HGH HGB
  go_wp2_with fail
  refine (chooseQ _ N CL u x _ HU.out HHL.out HDN.out.1).mono ?_
  rintro e w16 ⟨rfl, B16⟩
  replace HB0 := hide (belowOn HB0.out B16)
  replace HU := hide (HU.out.on B16)
  replace HA := hide (HA.out.on B16)
  rw [← HYY.out]
  clear B16
  have HLL := hide HU.out.len
  have HNE : Hid (u ≠ []) := hide (fun e => by have := HLL.out; rw [e] at this; have := HDN.out; simp at *; omega)
  obtain ⟨G, hG⟩ : ∃ G, G = w16.heap.size := ⟨_, rfl⟩
  have HGG := hide hG
  have HWG : Hid (w.heap.size ≤ G) := hide (by rw [hG]; exact HB0.out.size)
  have HAG : Hid (kA < G) := hide (by rw [hG]; exact HA.out.lt)
  have HBL : Hid (bl < G) := hide (by rw [hG]; exact HU.out.blk bl ou rfl HDN.out.1)
  clear hG
  go_wp2
  go_loopg [24, 25] N (fun r v i wr => ∃ q : Nat, q ≤ N ∧ r = N - q ∧ i = .int .i64 q ∧ IRow wr G v (oth dn (u.take q)).length (oth dn (u.take q)) ∧ Below w.heap.size w wr ∧ Its wr 0 (some ⟨bl, ou, none⟩) N CL u ∧ AtF wr kA f (.slice a3 n3 c3) ∧ G ≤ wr.heap.size)
  case atStart => exact ⟨0, Nat.zero_le _, rfl, rfl, IRow.nil _ _, HB0.out, HU.out, HA.out, by rw [HGG.out]; exact Nat.le_refl _⟩
  case round =>
    obtain ⟨q, hq, hr, rfl, hR, hB, hI, hA, hg⟩ := hrel
    clear HB0 HU HA
    have HR := hide hR
    have HB := hide hB
    have HI := hide hI
    have HA := hide hA
    have HGR := hide hg
    have HRK := hide hr
    clear hR hB hI hA hg hr
    by_cases hc : q < N
    · obtain ⟨y1, hy⟩ : ∃ y1, u[q]? = some y1 := ⟨_, List.getElem?_eq_getElem (by rw [HLL.out]; exact hc)⟩
      obtain ⟨b, oo, he, hcell, -⟩ := HI.out.at HDN.out.1
      injection Option.some.inj he with he1 he2
      subst he1 he2
      have cq := hcell q hc
      rw [List.getD_eq_getElem?_getD, hy] at cq
      have HT := hide (oth_take (o := dn) hy)
      have hq2 : (q : Int) < (N : Int) := by omega
      have n0 : (0 : Int) ≤ (q : Int) := by omega
      have e1 : IntKind.i64.wrap ((q : Int) + 1) = (q : Int) + 1 := IntWalk.i64_in _ (by have := HDN.out; omega)
      have cq2 : wr.cell? ⟨bl, ou + q, none⟩ = some (.int .i64 y1) := cq
      clear hy hcell cq
      rcases Bool.eq_false_or_eq_true (y1 != dn) with hb | hb
      · have HE : Hid (¬ y1 = dn) := hide (by simpa using hb)
        have R7 := HR.out.alloc (.cells #[.int .i64 y1] 3)
        have S7 := hide (isr_one wr y1)
        have hs7 : Hid (G ≤ (wr.alloc (.cells #[.int .i64 y1] 3)).heap.size) := hide (by have := HGR.out; simp; omega)
        have b7 := hide (below_alloc wr (.cells #[.int .i64 y1] 3))
        have tk3 : True := trivial
        go_wp2_with (first | (have _t := tk3; at_builtin; refine wpl_iapp rfl (.tmp 120) (.tmp 125) rfl G u24 _ (oth dn (u.take q)) rfl R7 _ 1 1 [y1] rfl S7.out (by have := oth_le dn u q; have := HDN.out; omega) hs7.out ?_; clear tk3))
        intro v8 w8 R8 B8
        have B78 : Below G wr w8 := (b7.out.mono HGR.out).trans B8
        have hx : IRow w8 G v8 (oth dn (u.take (q + 1))).length (oth dn (u.take (q + 1))) := by
          rw [HT.out, if_neg HE.out, List.length_append]; exact R8
        have HX1 := hide hx
        have HB8 := hide (HB.out.trans (B78.mono HWG.out))
        have HI8 := hide (HI.out.low (fun b' o' e _ => by injection Option.some.inj e with e1 e2; rw [← e1]; exact HBL.out) B78)
        have HA8 := hide (HA.out.below HAG.out B78)
        have HG8 : Hid (G ≤ w8.heap.size) := hide (Nat.le_trans HGR.out B78.size)
        clear R7 S7 hs7 b7 R8 B8 B78 hx HB HI HA cq2
        go_wp2
        go_roundg (N - (q + 1))
        case measure => rw [HRK.out]; omega
        case rel => exact ⟨q + 1, by omega, rfl, by go_num, HX1.out, HB8.out, HI8.out, HA8.out, HG8.out⟩
      · have HE : Hid (y1 = dn) := hide (by simpa using hb)
        go_wp2
        go_roundg (N - (q + 1))
        case measure => rw [HRK.out]; omega
        case rel => exact ⟨q + 1, by omega, rfl, by go_num, by rw [HT.out, if_pos HE.out]; exact HR.out, HB.out, HI.out, HA.out, HGR.out⟩
    · obtain rfl : q = N := by omega
      have hq2 : ¬ (q : Int) < (q : Int) := by omega
      rw [List.take_of_length_le (show u.length ≤ q by rw [HLL.out]; exact Nat.le_refl _)] at HR
      obtain ⟨a9, c9, rfl, I9⟩ := its_of_row HR.out
      have HI9 := hide I9
      have tk3 : True := trivial
      clear hc hq I9 HR HI
      go_wp2_with (first | (have _t := tk3; refine wpl_frame (.tmp 16) rfl HA.out ?_ ?_ ?_; rfl; rfl; clear tk3))
      refine (hashQ f (.slice a3 n3 c3) _ HF.out.a).mono ?_
      rintro e w17 ⟨rfl, B17⟩
      replace HB := hide (belowOn HB.out B17)
      replace HI9 := hide (HI9.out.on B17)
      rw [← HX.out]
      clear B17 HA
      by_cases hem : oth dn u = []
      · have h0 : (oth dn u).length = 0 := by rw [hem]; rfl
        rw [h0]
        have HOM : Hid (y = dn) := hide (by
          by_cases e : dn = y
          · exact e.symm
          · exact absurd hem (chs_less HNE.out (by rw [← HYY.out]; exact e)).1)
        clear h0 hem
        go_wp2_with fail
        refine (chooseQ_none a9 c9 x _).mono ?_
        rintro e w18 ⟨rfl, B18⟩
        replace HB := hide (belowOn HB.out B18)
        have ho := HOM.out
        clear B18
        subst ho
        go_wp2
        go_ret
        exact ⟨ret_bool (by first | rfl | simp), HB.out⟩
      · have h0 : 0 < (oth dn u).length := List.length_pos_iff.2 hem
        go_wp2_with fail
        refine (chooseQ a9 _ c9 (oth dn u) x _ HI9.out HHL.out h0).mono ?_
        rintro e w18 ⟨rfl, B18⟩
        replace HB := hide (belowOn HB.out B18)
        have HK : Hid (y = dn ∨ (¬ y = dn ∧ chs x (oth dn u) = y)) := hide (by
          by_cases e : y = dn
          · exact Or.inl e
          · refine Or.inr ⟨e, ?_⟩
            rw [HYY.out] at e ⊢
            exact (chs_less HNE.out (fun e2 => e e2.symm)).2)
        obtain ⟨v, hv⟩ : ∃ v, v = chs x (oth dn u) := ⟨_, rfl⟩
        rw [← hv] at HK
        rw [← hv]
        clear hv B18 hem h0 HI9
        rcases HK.out with rfl | ⟨hom, rfl⟩
        · go_wp2
          go_ret
          exact ⟨ret_bool (by first | rfl | simp), HB.out⟩
        · have f1 : (v == dn) = false := by simp [hom]
          go_wp2
          go_ret
          exact ⟨ret_bool (by first | rfl | simp), HB.out⟩
theorem topWalk (f : Fd) (a : Option Addr) (m c : Nat) (ab : Option Addr) (nb cb : Nat) (ns : List Int) (ao : Option Addr) (n cl : Nat) (l : List Int) (w : World) (hf : FdB f) (hb : Byt w a m c f.bs) (hs : Byt w ab nb cb ns) (hl : Its w 0 ao n cl l) :
    Calls Try.prog 9 #[.agg #[.int .u8 f.d0, .int .u8 f.d1, .int .u8 f.d2, .int .u8 f.d3, .int .u8 f.d4, .int .u8 f.d5, .int .u8 f.s0, .int .u8 f.s1, .int .u8 f.s2, .int .u8 f.s3, .int .u8 f.s4, .int .u8 f.s5, .bool f.tg, .int .i64 f.vl, .int .i64 f.pr, .int .i64 f.ty, .slice a m c], .slice ab nb cb, .slice ao n cl] w fun e w' => e = .returned (.bool true) ∧ Below w.heap.size w w' := by
  by_cases hn : n < 2 ∨ 30 < n ∨ 1500 < nb ∨ 1500 < m
  · exact topOut f a m c ab nb cb ns ao n cl l w hf hb hs hl hn
  · exact topIn f a m c ab nb cb ns ao n cl l w hf hb hs hl (by omega)
set_option maxRecDepth 100000 in
set_option maxHeartbeats 2000000 in
theorem topTalkslifted (os : Os) (started : os.Started) (H : Type) (enc : TypeId × Value → H) :
    ReturnsInHanded {} Try.checked os 9 .any (Rows.topTalksSpec.pre6 enc Try.prog Try.f9 Rows.topTalksRow.domain false) (Rows.topTalksSpec.post enc Try.prog Try.f9 false true false false) := by
  refine returnsInHanded_of_change (C := Try.checked) own started (by kernel_rfl) Try.func9
    (ChangeSpec.witness6 (enc := enc) (C := Try.checked) false ⟨#[], #[.agg #[.int .u8 0, .int .u8 0, .int .u8 0, .int .u8 0, .int .u8 0, .int .u8 0, .int .u8 0, .int .u8 0, .int .u8 0, .int .u8 0, .int .u8 0, .int .u8 0, .bool false, .int .i64 0, .int .i64 0, .int .i64 0, .slice none 0 0], .slice none 0 0, .slice none 0 0], []⟩ 8 (by kernel_rfl) (by kernel_rfl) (by kernel_rfl) (by kernel_rfl)) ?_
  intro W base args ds gs before hval0 hW _ _
  have hval : ∀ (j : Nat) t v, Try.f9.params[j]? = some t → args[j]? = some v → Value.okWide Try.prog W .any base t v := hval0
  have hW' := hW
  obtain ⟨p, q, hA0, hV, rfl, _, _⟩ := hW
  have hA : DataW.TrodAll enc Try.prog W 0 (fun _ => true) true Try.f9.params.toList args.toList ds p := hA0
  rw [Try.params9] at hA hval
  obtain ⟨v0, vs0, d0, ds0, p0, q0, hargs, rfl, rfl, h0, r0⟩ := trodAll_cons hA
  obtain ⟨v1, vs1, d1, ds1, p1, q1, rfl, rfl, rfl, h1, r1⟩ := trodAll_cons r0
  obtain ⟨v2, vs2, d2, ds2, p2, q2, rfl, rfl, rfl, h2, r2⟩ := trodAll_cons r1
  obtain ⟨rfl, rfl, rfl⟩ := trodAll_nil r2
  obtain rfl : args = #[v0, v1, v2] := by cases args; simp_all
  obtain ⟨rfl, rfl⟩ := trodVars_none hV
  have h0k := h0
  obtain ⟨f0, a0, m0, c0, rfl, hf0, hs0⟩ := open_frame (hval 0 26 v0 rfl rfl) h0
  have h1k := h1
  obtain ⟨ao1, n1, c1, ss1, rfl, hs1⟩ := open_bytes (hval 1 24 v1 rfl rfl) h1
  have h2k := h2
  obtain ⟨ao2, n2, c2, ss2, rfl, hs2⟩ := open_list (hval 2 32 v2 rfl rfl) h2
  clear hA0 hval0
  simp only [List.append_nil] at hW'
  have hlt : ∀ x ∈ p0 ++ p1 ++ p2, x.block < W.heap.size := fun x hx => by simpa using hW'.lt x (by simpa using hx)
  refine (topWalk f0 a0 m0 c0 ao1 n1 c1 ss1 ao2 n2 c2 ss2 W hf0 hs0 hs1 hs2).mono fun e W' ⟨he, hbl⟩ => ?_
  subst he
  exact ⟨_, rfl, _, _, _, [], _, [], hW', (trodAll_cons_mk (shut_bool Try.underlying4 _) trodAll_mk0), (trodAll_cons_mk (Below.trod Try.laidOut (by kernel_rfl) (of_decide_eq_true (by kernel_rfl)) h0k hbl (fun x hx => hlt x (by simp [hx]))) (trodAll_cons_mk (Below.trod Try.laidOut (by kernel_rfl) (of_decide_eq_true (by kernel_rfl)) h1k hbl (fun x hx => hlt x (by simp [hx]))) (trodAll_cons_mk (Below.trod Try.laidOut (by kernel_rfl) (of_decide_eq_true (by kernel_rfl)) h2k hbl (fun x hx => hlt x (by simp [hx]))) trodAll_mk0))), rfl, hbl.frame _, fun h => by cases h⟩

theorem topTalks_holds : Rows.TopTalksSaid :=
  OpenClaim.holds_of_wide 9 Try.f9 rfl rfl rfl rfl rfl rfl rfl ⟨rfl, rfl, rfl, rfl, rfl⟩ rfl rfl rfl rfl rfl (by kernel_rfl) Try.func9 (by kernel_rfl)
    (of_decide_eq_true (by kernel_rfl)) (by unfold Func.isWrapper; first | (rw [if_pos (by decide +kernel)]; kernel_rfl) | (rw [if_neg (by decide +kernel)]; exact ⟨rfl, rfl⟩))
    (fun os started H enc _ => topTalkslifted os started H enc)

#print axioms topTalks_holds
end Go.Proofs.Ytmpojeehjhpkbaa
