/- Contracts of the document's Find and Look. -/
import Derived.Test.YtbpkdkniiggcpaaC1
namespace Go.Proofs.Ytbpkdkniiggcpaa
open Go.RowKit Go.PlainAid

theorem ix_drop (l : List En) (v : Int) (m : Mc) {k : Nat} {x : En} (hk : l[k]? = some x) (h : ix l v m = k + ix (l.drop k) v m) :
    (ky x v m = true → ix l v m = k ∧ k < l.length) ∧ (ky x v m = false → ix l v m = k + 1 + ix (l.drop (k + 1)) v m) := by
  obtain ⟨hl, e⟩ := List.getElem?_eq_some_iff.1 hk
  have hd : l.drop k = x :: l.drop (k + 1) := by rw [List.drop_eq_getElem_cons hl, e]
  rw [hd, show ix (x :: l.drop (k + 1)) v m = if ky x v m then 0 else ix (l.drop (k + 1)) v m + 1 from rfl] at h
  constructor
  · intro hx
    rw [hx, if_pos rfl] at h
    exact ⟨h, hl⟩
  · intro hx
    rw [hx, if_neg (by simp)] at h
    omega
theorem mc_def' (m : Mc) : MC m = #[.int .u8 m.a, .int .u8 m.b, .int .u8 m.c, .int .u8 m.d, .int .u8 m.e, .int .u8 m.f] := rfl
theorem range_cells {w : World} {k o : Nat} {x : En} (h : w.rangeAt k o (ecl x)) : w.cell? ⟨k, o, none⟩ = some (.int .i64 x.v) ∧ w.cell? ⟨k, o + 1, none⟩ = some (.int .u8 x.m.a) ∧ w.cell? ⟨k, o + 2, none⟩ = some (.int .u8 x.m.b) ∧ w.cell? ⟨k, o + 3, none⟩ = some (.int .u8 x.m.c) ∧ w.cell? ⟨k, o + 4, none⟩ = some (.int .u8 x.m.d) ∧ w.cell? ⟨k, o + 5, none⟩ = some (.int .u8 x.m.e) ∧ w.cell? ⟨k, o + 6, none⟩ = some (.int .u8 x.m.f) ∧ w.cell? ⟨k, o + 7, none⟩ = some (.int .i64 x.p) ∧ w.cell? ⟨k, o + 8, none⟩ = some (.int .i64 x.t) ∧ w.cell? ⟨k, o + 9, none⟩ = some (.bool x.s) :=
  ⟨h 0 _ rfl, h 1 _ rfl, h 2 _ rfl, h 3 _ rfl, h 4 _ rfl, h 5 _ rfl, h 6 _ rfl, h 7 _ rfl, h 8 _ rfl, h 9 _ rfl⟩
set_option maxRecDepth 100000 in
set_option maxHeartbeats 4000000 in
theorem find28 (g : Nat) (lv : Value) (T : Tb) (v : Int) (m : Mc) (w : World) (H : RT w g lv T) :
    Calls Try.prog 28 #[.pointer (some ⟨g, 0, none⟩), .int .i64 v, .agg (MC m)] w fun e w' => e = .returned (.int .i64 (fx T.l v m)) ∧ Below w.heap.size w w' := by
  have W0 : Hid (Below w.heap.size w (w.alloc (.cells (MC m) 24))) := hide (below_alloc w _)
  have H1 := H.on W0.out
  have c1 := H1.bx.cell 1 _ rfl
  rcases H1.at with ⟨rfl, hl⟩ | ⟨b, cap, rfl, hb, hbl, hn, hm, hc⟩
  · have e : fx T.l v m = -1 := by rw [hl]; rfl
    rw [e]
    clear H H1 hl e
    go_enter Try.func28, Try.ntmps28
    go_wp2
    generalize w.alloc (.cells (MC m) 24) = W1 at *
    go_loopw [7] (fun i wr => i = .int .i64 0 ∧ wr = W1) (fun i _ => 1 - (intOf i).toNat)
    case atStart => exact ⟨rfl, rfl⟩
    case round =>
      obtain ⟨rfl, rfl⟩ := hrel
      go_wp2
      go_ret
      exact ⟨rfl, W0.out⟩
  · have HM := hide (mc_cells (box_m w m))
    have HC := hide hc
    clear H H1 hc
    unfold maxLen at hm
    generalize hfe : fx T.l v m = fe
    have HF := hide hfe
    clear hfe
    go_enter Try.func28, Try.ntmps28
    go_wp2
    generalize w.alloc (.cells (MC m) 24) = W1 at *
    go_loopw [7] (fun i wr => ∃ k q : Nat, k ≤ T.l.length ∧ i = .int .i64 k ∧ ix T.l v m = k + ix (T.l.drop k) v m ∧ wr = W1.drewN q) (fun i _ => T.l.length - (intOf i).toNat)
    case atStart => exact ⟨0, 0, Nat.zero_le _, rfl, by simp, rfl⟩
    case round =>
      obtain ⟨k, q, hk, rfl, hi, rfl⟩ := hrel
      have hz : Hid (∀ n, Below w.heap.size w ((W1.drewN q).drewN n)) := hide (fun n => W0.out.trans ⟨rfl, rfl, rfl, Nat.le_refl _, fun _ _ => rfl⟩)
      by_cases hlt : k < T.l.length
      · obtain ⟨x, hxk⟩ : ∃ x, T.l[k]? = some x := ⟨_, List.getElem?_eq_getElem hlt⟩
        obtain ⟨d0, d1, d2, d3, d4, d5, d6, -, -, -⟩ := range_cells (HC.out.ent hxk)
        obtain ⟨m0, m1, m2, m3, m4, m5⟩ := HM.out
        obtain ⟨s1, s2⟩ := ix_drop T.l v m hxk hi
        have HE := hide (show ky x v m = (x.v == v && eqM x.m m) from rfl)
        have q3 := eqMac x.m m
        rw [mc_def', mc_def'] at q3
        have hlt2 : (k : Int) < T.l.length := by omega
        have e1 : IntKind.i64.wrap ((k : Int) + 1) = (k : Int) + 1 := IntWalk.i64_in _ (by omega)
        rcases Bool.eq_false_or_eq_true (x.v == v) with h1 | h1
        · rcases Bool.eq_false_or_eq_true (eqM x.m m) with h2 | h2
          · rw [HE.out, h1, h2] at s1
            have S := hide (s1 rfl)
            rw [h2] at q3
            clear s1 s2 hi hlt
            go_wp2_with fail
            go_quiet (fail)
            go_wp2
            go_ret
            refine ⟨ret_int ?_, hz.out _⟩
            rw [← HF.out, fx, if_pos ((hs_ix _ _ _).2 (by have := S.out; omega)), S.out.1]
          · rw [HE.out, h1, h2] at s2
            have S := hide (s2 rfl)
            rw [h2] at q3
            clear s1 s2 hi hlt
            go_wp2_with fail
            go_quiet (fail)
            go_wp2
            go_roundw
            case rel => exact ⟨k + 1, q + nq, by omega, by go_num, S.out, rfl⟩
            case measure => simp [intOf]; omega
        · rw [HE.out, h1, Bool.false_and] at s2
          have S := hide (s2 rfl)
          clear s1 s2 hi hlt q3
          go_wp2_with fail
          go_quiet (fail)
          go_wp2
          go_roundw
          case rel => exact ⟨k + 1, q + nq, by omega, by go_num, S.out, rfl⟩
          case measure => simp [intOf]; omega
      · have hlt2 : ¬ ((k : Int) < T.l.length) := by omega
        have S : Hid (hs T.l v m = false) := hide (by
          rw [Bool.eq_false_iff]
          intro hc
          have := (hs_ix T.l v m).1 hc
          have : (T.l.drop k) = [] := List.drop_eq_nil_of_le (by omega)
          rw [this] at hi
          simp [ix] at hi
          omega)
        clear hi
        go_wp2
        go_ret
        refine ⟨ret_int ?_, hz.out 0⟩
        rw [← HF.out, fx, S.out]; rfl
end Go.Proofs.Ytbpkdkniiggcpaa
