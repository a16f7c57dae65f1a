/- Contract of the document's without. -/
import Derived.Test.YtjlmheecefobaaaS2
namespace Go.Proofs.Ytjlmheecefobaaa
open Go.RowKit Go.PlainAid

theorem mc_def' (m : Mc) : MC m = #[.int .u8 m.a, .int .u8 m.b, .int .u8 m.c, .int .u8 m.d, .int .u8 m.e, .int .u8 m.f] := rfl
theorem range_cells {w : World} {k o : Nat} {x : En} (h : w.rangeAt k o (ecl x)) : w.cell? ⟨k, o, none⟩ = some (.int .i64 x.v) ∧ w.cell? ⟨k, o + 1, none⟩ = some (.int .u8 x.m.a) ∧ w.cell? ⟨k, o + 2, none⟩ = some (.int .u8 x.m.b) ∧ w.cell? ⟨k, o + 3, none⟩ = some (.int .u8 x.m.c) ∧ w.cell? ⟨k, o + 4, none⟩ = some (.int .u8 x.m.d) ∧ w.cell? ⟨k, o + 5, none⟩ = some (.int .u8 x.m.e) ∧ w.cell? ⟨k, o + 6, none⟩ = some (.int .u8 x.m.f) ∧ w.cell? ⟨k, o + 7, none⟩ = some (.int .i64 x.p) ∧ w.cell? ⟨k, o + 8, none⟩ = some (.int .i64 x.t) ∧ w.cell? ⟨k, o + 9, none⟩ = some (.bool x.s) :=
  ⟨h 0 _ rfl, h 1 _ rfl, h 2 _ rfl, h 3 _ rfl, h 4 _ rfl, h 5 _ rfl, h 6 _ rfl, h 7 _ rfl, h 8 _ rfl, h 9 _ rfl⟩
theorem rm_take {l : List En} {k : Nat} {y : En} (v : Int) (m : Mc) (h : l[k]? = some y) : rm (l.take (k + 1)) v m = rm (l.take k) v m ++ (if ky y v m then [] else [y]) := by
  rw [List.take_add_one, h]
  unfold rm
  rw [List.filter_append]
  congr 1
  cases e : ky y v m <;> simp [e]
theorem row_alt {w : World} {B : Nat} {lv : Value} {l : List En} (h : w.ownsRow B 36 10 lv l.length (es l)) : (lv = .slice none 0 0 ∧ l = []) ∨ ∃ b c, lv = .slice (some ⟨b, 0, none⟩) l.length c ∧ B ≤ b ∧ b < w.heap.size ∧ l.length ≤ c ∧ c ≤ maxLen ∧ Box w b (es l) := by
  rcases h.2 with ⟨h1, h2⟩ | ⟨b, cap, cur, h1, _⟩
  · exact Or.inl ⟨h1, List.eq_nil_of_length_eq_zero h2⟩
  · rw [h1] at h
    obtain ⟨p1, p2, p3, p4, p5⟩ := box_of_row h (es_length _)
    exact Or.inr ⟨b, cap, h1, p2, p3, p4, p5, p1⟩
theorem belowN {N : Nat} {w w1 : World} (h : Below N w w1) (n : Nat) : Below N w (w1.drewN n) := ⟨h.os, h.tape, h.output, h.size, h.block⟩
theorem rowN {w : World} {g : Nat} {lv : Value} {n : Nat} {xs : List Value} (h : w.ownsRow g 36 10 lv n xs) (q : Nat) : (w.drewN q).ownsRow g 36 10 lv n xs := h
theorem rangeN {w : World} {k o : Nat} {cs : List Value} (h : w.rangeAt k o cs) (q : Nat) : (w.drewN q).rangeAt k o cs := h
theorem row_mono36 {w : World} {g g' : Nat} {lv : Value} {n : Nat} {xs : List Value} (hg : g' ≤ g) (hr : w.ownsRow g 36 10 lv n xs) : w.ownsRow g' 36 10 lv n xs := by
  refine ⟨hr.1, ?_⟩
  rcases hr.2 with h | ⟨b, cap, cur, e, hb, r⟩
  · exact Or.inl h
  · exact Or.inr ⟨b, cap, cur, e, by omega, r⟩
set_option maxRecDepth 100000 in
set_option maxHeartbeats 8000000 in
theorem without36 (B : Nat) (lv : Value) (l : List En) (x : En) (w : World) (O : w.ownsRow B 36 10 lv l.length (es l)) (hL : l.length ≤ 50000) :
    Calls Try.prog 36 #[lv, .agg (EC x)] w fun e w' => ∃ lv', e = .returned lv' ∧ w'.ownsRow w.heap.size 36 10 lv' (rm l x.v x.m).length (es (rm l x.v x.m)) ∧ Below w.heap.size w w' := by
  have W0 : Hid (Below w.heap.size w (w.alloc (.cells (EC x) 36))) := hide (below_alloc w _)
  have X0 := hide (box_e w x)
  have hbs : Hid (w.heap.size + 1 ≤ (w.alloc (.cells (EC x) 36)).heap.size) := hide (by simp)
  rcases row_alt O with ⟨rfl, rfl⟩ | ⟨bl, c, rfl, hb1, hb2, hlc, hmx, hbox⟩
  · clear O
    go_enter Try.func36, Try.ntmps36
    go_wp2
    generalize w.alloc (.cells (EC x) 36) = W1 at *
    go_loopw [5, 6] (fun s i wr => s = .slice none 0 0 ∧ i = .int .i64 0 ∧ wr = W1) (fun _ i _ => 1 - (intOf i).toNat)
    case atStart => exact ⟨rfl, rfl, rfl⟩
    case round =>
      obtain ⟨rfl, rfl, rfl⟩ := hrel
      go_wp2
      go_ret
      exact ⟨_, rfl, World.ownsRow_nil _ _ _ _, W0.out⟩
  · have HBX := hide (hbox.on W0.out)
    have hbw : Hid (bl < w.heap.size) := hide hb2
    unfold maxLen at hmx
    clear O hbox hb1 hb2
    obtain ⟨q, hq⟩ : ∃ q, q = l.length := ⟨_, rfl⟩
    have HQ := hide hq
    rw [← hq] at hL hlc ⊢
    clear hq
    go_enter Try.func36, Try.ntmps36
    go_wp2
    generalize w.alloc (.cells (EC x) 36) = W1 at *
    obtain ⟨k0, hk0⟩ : ∃ k0, k0 = w.heap.size := ⟨_, rfl⟩
    have HK0 := hide hk0
    rw [← hk0] at W0 X0 hbs hbw ⊢
    clear hk0
    go_loopw [5, 6] (fun s i wr => ∃ k : Nat, k ≤ q ∧ i = .int .i64 k ∧ wr.ownsRow (k0 + 1) 36 10 s (rm (l.take k) x.v x.m).length (es (rm (l.take k) x.v x.m)) ∧ Below (k0 + 1) W1 wr) (fun _ i _ => q - (intOf i).toNat)
    case atStart => exact ⟨0, Nat.zero_le _, rfl, World.ownsRow_nil _ _ _ _, Below.refl _ _⟩
    case round =>
      obtain ⟨k, hk, rfl, O1, B1⟩ := hrel
      obtain ⟨ao0, cc0, hlv⟩ := own_form O1
      have HO := hide O1
      have HB := hide B1
      have hrl : (rm (l.take k) x.v x.m).length ≤ 50000 := Nat.le_trans (rm_le _ _ _) (by rw [List.length_take]; omega)
      clear O1 B1
      subst hlv
      obtain ⟨cl, hcl⟩ : ∃ cl, cl = (rm (l.take k) x.v x.m).length := ⟨_, rfl⟩
      have HCL := hide hcl
      rw [← hcl] at HO hrl ⊢
      clear hcl
      by_cases hkq : k < q
      · obtain ⟨y, hy⟩ : ∃ y, l[k]? = some y := ⟨_, List.getElem?_eq_getElem (by rw [← HQ.out]; exact hkq)⟩
        have A1 : Hid (wr.rangeAt bl (k * 10) (ecl y)) := hide ((HBX.out.below (by have := hbw.out; omega) HB.out).ent hy)
        have XX : Hid (Box wr k0 (ecl x)) := hide (X0.out.below (by omega) HB.out)
        obtain ⟨d0, d1, d2, d3, d4, d5, d6, -, -, -⟩ := range_cells A1.out
        obtain ⟨f0, f1, f2, f3, f4, f5, f6, -, -, -⟩ := range_cells XX.out.at_
        have HT := hide (rm_take x.v x.m hy)
        have HE := hide (show ky y x.v x.m = (y.v == x.v && eqM y.m x.m) from rfl)
        have q3 := eqMac y.m x.m
        rw [mc_def', mc_def'] at q3
        have hk2 : (k : Int) < (q : Int) := by omega
        have e1 : IntKind.i64.wrap ((k : Int) + 1) = (k : Int) + 1 := IntWalk.i64_in _ (by omega)
        have hsz : Hid (k0 + 1 ≤ wr.heap.size) := hide (Nat.le_trans hbs.out HB.out.size)
        have HDB := hide (fun n => belowN HB.out n)
        have HDO := hide (fun n => rowN HO.out n)
        clear hy
        have fin9 : Hid (∀ (W w6 : World) (v6 : Value), Below (k0 + 1) W1 W → Below (k0 + 1) W w6 → ky y x.v x.m = false → w6.ownsRow (k0 + 1) 36 10 v6 (cl + 1) (es (rm (l.take k) x.v x.m ++ [y])) → w6.ownsRow (k0 + 1) 36 10 v6 (rm (l.take (k + 1)) x.v x.m).length (es (rm (l.take (k + 1)) x.v x.m)) ∧ Below (k0 + 1) W1 w6) := hide (fun W w6 v6 h1 h2 h3 h4 => by
          rw [HT.out, h3, if_neg (by simp), List.length_append, ← HCL.out]
          exact ⟨h4, h1.trans h2⟩)
        rcases Bool.eq_false_or_eq_true (y.v == x.v) with h1 | h1
        · rcases Bool.eq_false_or_eq_true (eqM y.m x.m) with h2 | h2
          · have HKY : Hid (ky y x.v x.m = true) := hide (by rw [HE.out, h1, h2]; rfl)
            have hn1 : (y.v != x.v) = false := by simp [bne, h1]
            rw [h2] at q3
            clear h1 h2 fin9
            go_wp2_with fail
            go_quiet (fail)
            go_wp2
            go_roundw
            case rel => exact ⟨k + 1, by omega, by go_num, by rw [HT.out, HKY.out, if_pos rfl, List.append_nil, ← HCL.out]; exact HDO.out _, HDB.out _⟩
            case measure => simp [intOf]; omega
          · have HKY : Hid (ky y x.v x.m = false) := hide (by rw [HE.out, h1, h2]; rfl)
            have hn1 : (y.v != x.v) = false := by simp [bne, h1]
            rw [h2] at q3
            clear h1 h2
            go_wp2_with fail
            go_quiet (fail)
            have hA := rangeN A1.out nq
            have BQ := hide (HDB.out nq)
            have OQ := hide (HDO.out nq)
            have ZQ : Hid (k0 + 1 ≤ (wr.drewN nq).heap.size) := hide hsz.out
            generalize wr.drewN nq = wq at *
            clear d0 d1 d2 d3 d4 d5 d6 f0 f1 f2 f3 f4 f5 f6
            have O4 := hide (OQ.out.alloc (.cells (EC y) 36))
            have M4 := hide (ers_one wq y)
            have Z4 : Hid (k0 + 1 ≤ (wq.alloc (.cells (EC y) 36)).heap.size) := hide (by have := ZQ.out; simp; omega)
            have tk1 : True := trivial
            have tk3 : True := trivial
            have tk4 : True := trivial
            go_wp2_with (first | (have _t := tk1; refine wpl_ent (.tmp 34) rfl hA ?_ ?_ ?_; rfl; rfl; clear tk1) | (have _t := tk3; refine wpl_bs rfl (.tmp 35) y rfl rfl ?_; clear tk3) | (have _t := tk4; at_builtin; refine wpl_eapp rfl rfl (.tmp 31) (.tmp 36) rfl (k0 + 1) _ _ _ rfl O4.out _ 1 1 _ rfl M4.out (by omega) Z4.out ?_; clear tk4))
            intro v6 w6 O6 G6
            have C6 : Below (k0 + 1) wq w6 := ((Below.refl _ wq).alloc ZQ.out _).grown G6 Z4.out (fun r hr => (O4.out.lt r hr).1)
            have F := hide (fin9.out wq w6 v6 BQ.out C6 HKY.out O6)
            clear O6 G6 C6 O4 M4 Z4 hA
            go_wp2
            go_roundw
            case rel => exact ⟨k + 1, by omega, by go_num, F.out.1, F.out.2⟩
            case measure => simp [intOf]; omega
        · have HKY : Hid (ky y x.v x.m = false) := hide (by rw [HE.out, h1]; rfl)
          have hn1 : (y.v != x.v) = true := by simp [bne, h1]
          clear h1 q3
          go_wp2_with fail
          go_quiet (fail)
          have hA := rangeN A1.out nq
          have BQ := hide (HDB.out nq)
          have OQ := hide (HDO.out nq)
          have ZQ : Hid (k0 + 1 ≤ (wr.drewN nq).heap.size) := hide hsz.out
          generalize wr.drewN nq = wq at *
          clear d0 d1 d2 d3 d4 d5 d6 f0 f1 f2 f3 f4 f5 f6
          have O4 := hide (OQ.out.alloc (.cells (EC y) 36))
          have M4 := hide (ers_one wq y)
          have Z4 : Hid (k0 + 1 ≤ (wq.alloc (.cells (EC y) 36)).heap.size) := hide (by have := ZQ.out; simp; omega)
          have tk1 : True := trivial
          have tk3 : True := trivial
          have tk4 : True := trivial
          go_wp2_with (first | (have _t := tk1; refine wpl_ent (.tmp 34) rfl hA ?_ ?_ ?_; rfl; rfl; clear tk1) | (have _t := tk3; refine wpl_bs rfl (.tmp 35) y rfl rfl ?_; clear tk3) | (have _t := tk4; at_builtin; refine wpl_eapp rfl rfl (.tmp 31) (.tmp 36) rfl (k0 + 1) _ _ _ rfl O4.out _ 1 1 _ rfl M4.out (by omega) Z4.out ?_; clear tk4))
          intro v6 w6 O6 G6
          have C6 : Below (k0 + 1) wq w6 := ((Below.refl _ wq).alloc ZQ.out _).grown G6 Z4.out (fun r hr => (O4.out.lt r hr).1)
          have F := hide (fin9.out wq w6 v6 BQ.out C6 HKY.out O6)
          clear O6 G6 C6 O4 M4 Z4 hA
          go_wp2
          go_roundw
          case rel => exact ⟨k + 1, by omega, by go_num, F.out.1, F.out.2⟩
          case measure => simp [intOf]; omega
      · have hk2 : ¬ (k : Int) < (q : Int) := by omega
        have hall : l.take k = l := List.take_of_length_le (by rw [← HQ.out]; omega)
        rw [hall] at HO HCL
        clear hall
        go_wp2
        go_ret
        rw [← HK0.out]
        refine ⟨_, rfl, ?_, W0.out.trans (HB.out.mono (Nat.le_succ _))⟩
        rw [← HCL.out]
        exact row_mono36 (Nat.le_succ _) HO.out
end Go.Proofs.Ytjlmheecefobaaa
