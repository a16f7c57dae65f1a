/- The reader: take, number, whole; Clone of bytes. -/
import Derived.Test.YtijfcfpoimknmaaDoorDec
import Derived.PlainAid
namespace Go.Proofs.YtijfcfpoimknmaaDoor
open Go.RowKit Go.PlainAid

/-- A reader in memory, and what it has yet; what it reads lies below it. -/
structure Rd (w : World) (R : Nat) (ao : Option Addr) (n c : Nat) (r : Rs) : Prop where
  bx : Box w R [.slice ao n c, .bool r.sh]
  byt : Byt w ao n c r.ns
  ne : ∀ b o, ao = some ⟨b, o, none⟩ → 0 < n → b < R
def RdE (R : Nat) (r : Rs) (w : World) : Prop := ∃ ao n c, Rd w R ao n c r
theorem RdE.below {w w1 : World} {R g : Nat} {r : Rs} (h : RdE R r w) (hg : R < g) (hb : Below g w w1) : RdE R r w1 := by
  obtain ⟨ao, n, c, h⟩ := h
  exact ⟨ao, n, c, h.bx.below hg hb, h.byt.below (fun b o e hp => by have := h.ne b o e hp; omega) hb, h.ne⟩
theorem RdE.lt {w : World} {R : Nat} {r : Rs} (h : RdE R r w) : R < w.heap.size := by
  obtain ⟨ao, n, c, h⟩ := h
  exact h.bx.lt
theorem RdE.on {w w1 : World} {R : Nat} {r : Rs} (h : RdE R r w) (hb : Below w.heap.size w w1) : RdE R r w1 := h.below h.lt hb
theorem RdE.kept {w w1 : World} {R k : Nat} {r : Rs} (h : RdE R r w) (hk : R < k) (hg : w.grownBy w1 (some k)) : RdE R r w1 := by
  obtain ⟨ao, n, c, h⟩ := h
  exact ⟨ao, n, c, h.bx.kept (by omega) hg, h.byt.kept (fun b o e hp => by have := h.ne b o e hp; omega) hg, h.ne⟩
theorem RdE.rng {w : World} {R : Nat} {r : Rs} (h : RdE R r w) : Rng r.ns := by
  obtain ⟨ao, n, c, h⟩ := h
  exact h.byt.rng
/-- What is told of bytes that were taken. -/
structure Tk (w w' : World) (R : Nat) (r : Rs) (j : Nat) (ao : Option Addr) (m c : Nat) : Prop where
  byt : Byt w' ao m c (tk r j)
  ne : ∀ b o, ao = some ⟨b, o, none⟩ → 0 < m → b < R
  rd : RdE R (tr r j) w'
  gr : w.grownBy w' (some R)
set_option maxRecDepth 100000 in
set_option maxHeartbeats 1000000 in
theorem take49_no (R j : Nat) (r : Rs) (ao : Option Addr) (n c : Nat) (w : World) (h : Rd w R ao n c r) (hj : r.ns.length < j) :
    Calls Tryd.prog 49 #[.pointer (some ⟨R, 0, none⟩), .int .i64 j] w fun e w' => ∃ ao m c, e = .returned (.slice ao m c) ∧ Tk w w' R r j ao m c := by
  have c0 := h.bx.cell 0 _ rfl
  have c1 := h.bx.cell 1 _ rfl
  have z1 := h.bx.free 1 (by simp)
  have H := hide h
  have hl := h.byt.len
  have hlt : (n : Int) < j := by omega
  have HJ := hide hj
  clear h hl hj
  go_enter Tryd.func49, Tryd.ntmps49
  go_wp2
  go_ret
  have g := setCell_grown w R 1 (.bool true)
  have e1 : tk r j = [] := by rw [tk, if_pos HJ.out]
  have e2 : tr r j = ⟨r.ns, true⟩ := by rw [tr, if_pos HJ.out]
  refine ⟨none, 0, 0, rfl, ⟨by rw [e1]; exact Byt.nothing _, fun b o e => (by cases e), ?_, g⟩⟩
  rw [e2]
  exact ⟨ao, n, c, Box.set (A := [.slice ao n c]) (C := []) H.out.bx rfl, H.out.byt.kept (fun b o e hp => by have := H.out.ne b o e hp; omega) g, H.out.ne⟩
theorem byt_take {w : World} {b o n c : Nat} {ns : List Int} (h : Byt w (some ⟨b, o, none⟩) n c ns) {j : Nat} (hj : j ≤ n) : Byt w (some ⟨b, o, none⟩) j c (ns.take j) :=
  ⟨by rw [List.length_take, h.len]; omega, fun e => (by cases e), fun i hi => by
    obtain ⟨b', o', e, hc⟩ := h.cell i (by omega)
    refine ⟨b', o', e, hc.trans ?_⟩
    simp [List.getD_eq_getElem?_getD, hi], Nat.le_trans hj h.le, h.mx, rng_take h.rng j⟩
theorem byt_drop {w : World} {b o n c : Nat} {ns : List Int} (h : Byt w (some ⟨b, o, none⟩) n c ns) {j : Nat} (hj : j ≤ n) {ao : Option Addr} (h1 : ¬ c = j → ao = some ⟨b, o + j, none⟩) (h2 : c = j → ao = some ⟨b, o, none⟩) : Byt w ao (n - j) (c - j) (ns.drop j) := by
  have hle := h.le
  refine ⟨by rw [List.length_drop, h.len], fun e => ?_, fun i hi => ?_, by omega, by have := h.mx; omega, rng_drop h.rng j⟩
  · by_cases hc : c = j
    · rw [h2 hc] at e; cases e
    · rw [h1 hc] at e; cases e
  · have hc : ¬ c = j := by omega
    refine ⟨b, o + j, h1 hc, ?_⟩
    obtain ⟨b', o', e, hcell⟩ := h.cell (j + i) (by omega)
    injection Option.some.inj e with e3 e4
    subst e3 e4
    rw [Nat.add_assoc, hcell]
    simp [List.getD_eq_getElem?_getD]
theorem Rd.took {w : World} {R b o n c : Nat} {r : Rs} (h : Rd w R (some ⟨b, o, none⟩) n c r) {j : Nat} (hj : j ≤ n) {ao : Option Addr} (h1 : ¬ c = j → ao = some ⟨b, o + j, none⟩) (h2 : c = j → ao = some ⟨b, o, none⟩) :
    Tk w (w.setCell ⟨R, 0, none⟩ (.slice ao (n - j) (c - j))) R r j (some ⟨b, o, none⟩) j c := by
  have g := setCell_grown w R 0 (.slice ao (n - j) (c - j))
  have hl := h.byt.len
  have hle := h.byt.le
  have e1 : tk r j = r.ns.take j := by rw [tk, if_neg (by omega)]
  have e2 : tr r j = ⟨r.ns.drop j, r.sh⟩ := by rw [tr, if_neg (by omega)]
  refine ⟨?_, fun b' o' e hp => h.ne b' o' e (by omega), ?_, g⟩
  · rw [e1]
    exact (byt_take h.byt hj).kept (fun b' o' e hp => by have := h.ne b' o' e (by omega); omega) g
  · rw [e2]
    refine ⟨ao, n - j, c - j, Box.set (A := []) (C := [.bool r.sh]) h.bx rfl, (byt_drop h.byt hj h1 h2).kept (fun b' o' e hp => ?_) g, fun b' o' e hp => ?_⟩
    · have hc : ¬ c = j := by omega
      rw [h1 hc] at e
      injection Option.some.inj e with e3 e4
      have := h.ne b o rfl (by omega)
      omega
    · have hc : ¬ c = j := by omega
      rw [h1 hc] at e
      injection Option.some.inj e with e3 e4
      have := h.ne b o rfl (by omega)
      omega
set_option maxRecDepth 100000 in
set_option maxHeartbeats 2000000 in
theorem take49_yes (R j b o n c : Nat) (r : Rs) (w : World) (h : Rd w R (some ⟨b, o, none⟩) n c r) (hj : j ≤ n) :
    Calls Tryd.prog 49 #[.pointer (some ⟨R, 0, none⟩), .int .i64 j] w fun e w' => ∃ ao m c, e = .returned (.slice ao m c) ∧ Tk w w' R r j ao m c := by
  have c0 := h.bx.cell 0 _ rfl
  have z0 := h.bx.free 0 (by simp)
  have H := hide h
  have hle := h.byt.le
  have hmx := h.byt.mx
  unfold maxLen at hmx
  have hj1 : (j : Int) ≤ n := by omega
  have hle1 : (n : Int) ≤ c := by omega
  have hjc : (j : Int) ≤ c := by omega
  clear h
  by_cases hcj : c = j
  · subst hcj
    go_enter Tryd.func49, Tryd.ntmps49
    go_wp2
    go_ret
    have hh := H.out.took hj (ao := some ⟨b, o, none⟩) (fun e => absurd rfl e) (fun _ => rfl)
    have e0 : n - c = 0 := by omega
    rw [Nat.sub_self, e0] at hh
    refine ⟨_, _, _, rfl, ?_⟩
    first | exact hh | (rw [Nat.sub_self, e0]; exact hh)
  · go_enter Tryd.func49, Tryd.ntmps49
    go_wp2
    go_ret
    exact ⟨_, _, _, rfl, H.out.took hj (fun _ => rfl) (fun e => absurd e hcj)⟩
theorem Rd.same {w : World} {R c : Nat} {ao : Option Addr} {r : Rs} (h : Rd w R ao 0 c r) : Tk w (w.setCell ⟨R, 0, none⟩ (.slice ao 0 c)) R r 0 ao 0 c := by
  have g := setCell_grown w R 0 (.slice ao 0 c)
  have hl := h.byt.len
  have hn : r.ns = [] := List.eq_nil_of_length_eq_zero hl
  have e1 : tk r 0 = [] := by simp [tk]
  have e2 : tr r 0 = r := by simp [tr]
  have Y := h.byt.kept (fun b o e hp => by omega) g
  refine ⟨?_, h.ne, ?_, g⟩
  · rw [e1]; rw [hn] at Y; exact Y
  · rw [e2]; exact ⟨ao, 0, c, Box.set (A := []) (C := [.bool r.sh]) h.bx rfl, Y, h.ne⟩
set_option maxRecDepth 100000 in
set_option maxHeartbeats 2000000 in
theorem take49_nil (R : Nat) (r : Rs) (w : World) (h : Rd w R none 0 0 r) :
    Calls Tryd.prog 49 #[.pointer (some ⟨R, 0, none⟩), .int .i64 (0 : Nat)] w fun e w' => ∃ ao m c, e = .returned (.slice ao m c) ∧ Tk w w' R r 0 ao m c := by
  have c0 := h.bx.cell 0 _ rfl
  have z0 := h.bx.free 0 (by simp)
  have H := hide h
  clear h
  go_enter Tryd.func49, Tryd.ntmps49
  go_wp2
  go_ret
  exact ⟨_, _, _, rfl, H.out.same⟩
set_option maxRecDepth 100000 in
set_option maxHeartbeats 2000000 in
theorem take49_emp (R : Nat) (ad : Addr) (c : Nat) (r : Rs) (w : World) (h : Rd w R (some ad) 0 c r) :
    Calls Tryd.prog 49 #[.pointer (some ⟨R, 0, none⟩), .int .i64 (0 : Nat)] w fun e w' => ∃ ao m c, e = .returned (.slice ao m c) ∧ Tk w w' R r 0 ao m c := by
  have c0 := h.bx.cell 0 _ rfl
  have z0 := h.bx.free 0 (by simp)
  have H := hide h
  clear h
  go_enter Tryd.func49, Tryd.ntmps49
  go_wp2
  go_ret
  exact ⟨_, _, _, rfl, H.out.same⟩
theorem take49 (R j : Nat) (r : Rs) (w : World) (h : RdE R r w) :
    Calls Tryd.prog 49 #[.pointer (some ⟨R, 0, none⟩), .int .i64 j] w fun e w' => ∃ ao m c, e = .returned (.slice ao m c) ∧ Tk w w' R r j ao m c := by
  obtain ⟨ao, n, c, h⟩ := h
  have hl := h.byt.len
  by_cases hj : r.ns.length < j
  · exact take49_no R j r ao n c w h hj
  · by_cases hn : 0 < n
    · obtain ⟨b, o, rfl, -, -⟩ := h.byt.at hn
      exact take49_yes R j b o n c r w h (by omega)
    · obtain rfl : n = 0 := by omega
      obtain rfl : j = 0 := by omega
      cases ao with
      | none =>
        obtain ⟨-, rfl⟩ := h.byt.nil rfl
        exact take49_nil R r w h
      | some ad => exact take49_emp R ad c r w h
theorem or_more (x y : Int) (h0 : 0 ≤ x) (h1 : x < 1099511627776) (g0 : 0 ≤ y) (g1 : y ≤ 255) : bits .or .i64 (x * 256) y = x * 256 + y := by
  obtain ⟨a, rfl⟩ := Int.eq_ofNat_of_zero_le h0
  obtain ⟨b, rfl⟩ := Int.eq_ofNat_of_zero_le g0
  have hx : a * 256 ||| b = a * 256 + b := by
    have := nat_join 8 ((a * 256 : Nat)) b (by omega) (by omega)
    simpa using this
  show IntKind.i64.wrap ((BitVec.ofInt 64 ((a : Int) * 256) ||| BitVec.ofInt 64 (b : Int)).toNat : Int) = _
  have e1 : BitVec.ofInt 64 ((a : Int) * 256) = BitVec.ofNat 64 (a * 256) := by rw [← BitVec.ofInt_natCast]; simp
  have e2 : BitVec.ofInt 64 (b : Int) = BitVec.ofNat 64 b := BitVec.ofInt_natCast 64 b
  rw [e1, e2, BitVec.toNat_or, BitVec.toNat_ofNat, BitVec.toNat_ofNat, Nat.mod_eq_of_lt (by omega), Nat.mod_eq_of_lt (by omega), hx]
  rw [IntWalk.i64_in _ (by omega)]
  omega
theorem take_snoc (ns : List Int) (m : Nat) (h : m < ns.length) : ns.take (m + 1) = ns.take m ++ [ns.getD m 0] := by
  rw [List.take_add_one, List.getD_eq_getElem?_getD, List.getElem?_eq_getElem h]
  rfl
theorem nb_le {l : List Int} (h : l.length ≤ 5) (hr : Rng l) : 0 ≤ nb l ∧ nb l < 1099511627776 := by
  have := nb_fit l.length l rfl hr
  refine ⟨this.1, ?_⟩
  have h2 := this.2
  rcases (show l.length = 0 ∨ l.length = 1 ∨ l.length = 2 ∨ l.length = 3 ∨ l.length = 4 ∨ l.length = 5 by omega) with e | e | e | e | e | e <;> rw [e] at h2 <;> omega
theorem tk_le (r : Rs) (j : Nat) : (tk r j).length ≤ j := by
  unfold tk
  split
  · simp
  · rw [List.length_take]; omega
set_option maxRecDepth 100000 in
set_option maxHeartbeats 4000000 in
theorem number45 (R j : Nat) (r : Rs) (w : World) (h : RdE R r w) (hj : j ≤ 4) :
    Calls Tryd.prog 45 #[.pointer (some ⟨R, 0, none⟩), .int .i64 j] w fun e w' => e = .returned (.int .i64 (nr r j)) ∧ RdE R (tr r j) w' ∧ w.grownBy w' (some R) := by
  have F := hide (take49 R j r w h)
  have hle := tk_le r j
  clear h
  go_enter Tryd.func45, Tryd.ntmps45
  go_wp2_with fail
  refine F.out.mono ?_
  rintro e w1 ⟨ao, m, c, rfl, T⟩
  have hl := T.byt.len
  have hr := hide T.byt.rng
  have HT := hide T
  have hm : m ≤ 4 := by omega
  clear F
  by_cases hp : 0 < m
  · obtain ⟨b, o, rfl, hc, -⟩ := T.byt.at hp
    have HC := hide hc
    have hcl := T.byt.le
    have hcl1 : (m : Int) ≤ c := by omega
    have hL := hide hl
    clear hc T hle hl
    go_wp2
    go_loop [5, 12] (fun x i => ∃ q : Nat, q ≤ m ∧ i = .int .i64 q ∧ x = .int .i64 (nb ((tk r j).take q))) (fun _ i => m - (intOf i).toNat)
    case atStart => exact ⟨0, by omega, rfl, rfl⟩
    case round =>
      obtain ⟨q, hq, rfl, rfl⟩ := hrel
      by_cases hlt : q < m
      · have hc := HC.out q hlt
        have hx := rng_getD hr.out q
        have hs := hide (take_snoc (tk r j) q (by have := hL.out; omega))
        have hn := nb_le (l := (tk r j).take q) (by rw [List.length_take]; omega) (rng_take hr.out q)
        have hs2 := hide (nb_snoc ((tk r j).take q) ((tk r j).getD q 0))
        generalize nb ((tk r j).take q) = x at *
        generalize (tk r j).getD q 0 = y at *
        have b1 : IntKind.i64.wrap y = y := IntWalk.i64_in _ (by omega)
        have b2 : IntKind.i64.wrap (x * 256) = x * 256 := IntWalk.i64_in _ (by omega)
        have b3 := or_more x y hn.1 hn.2 hx.1 hx.2
        have l1 : (q : Int) < m := by omega
        go_wp2
        go_round
        case rel => exact ⟨q + 1, by omega, by go_num, by rw [hs.out, hs2.out]⟩
        case measure => simp [intOf]; omega
      · obtain rfl : q = m := by omega
        go_wp2
        go_ret
        refine ⟨ret_int ?_, HT.out.rd, HT.out.gr⟩
        rw [nr, ← hL.out, List.take_length]
  · obtain rfl : m = 0 := by omega
    have E0 := hide (List.eq_nil_of_length_eq_zero hl)
    clear T hl hle hp
    go_wp2
    go_rounds 1
    go_ret
    exact ⟨ret_int (by rw [nr, E0.out]; rfl), HT.out.rd, HT.out.gr⟩
set_option maxRecDepth 100000 in
set_option maxHeartbeats 1000000 in
theorem whole40 (R : Nat) (r : Rs) (w : World) (h : RdE R r w) :
    Calls Tryd.prog 40 #[.pointer (some ⟨R, 0, none⟩)] w fun e w' => e = .returned (.bool (wh r)) ∧ w' = w := by
  obtain ⟨ao, n, c, h⟩ := h
  have c0 := h.bx.cell 0 _ rfl
  have c1 := h.bx.cell 1 _ rfl
  have HW : Hid (wh r = (!r.sh && ((n : Int) == 0))) := hide (by rw [wh, h.byt.len])
  clear h
  go_enter Tryd.func40, Tryd.ntmps40
  go_wp2
  all_goals
    go_ret
    exact ⟨ret_bool (by rw [HW.out]; simp [*]), rfl⟩
theorem own_byt2 {w : World} {base : Nat} {v : Value} {n : Nat} {ns : List Int} (h : Row w base v n ns) (hr : Rng ns) : ∃ ao c, v = .slice ao n c ∧ Byt w ao n c ns ∧ ∀ b o, ao = some ⟨b, o, none⟩ → base ≤ b := by
  obtain ⟨ao, c, hv, hb⟩ := h.byt hr
  refine ⟨ao, c, hv, hb, fun b o e => ?_⟩
  subst hv
  rcases h.2 with ⟨e1, -⟩ | ⟨g, cap, cur, e1, hg, -⟩
  · injection e1 with e2; rw [e2] at e; cases e
  · injection e1 with e2
    rw [e2] at e
    injection Option.some.inj e with e3
    omega
set_option maxRecDepth 100000 in
set_option maxHeartbeats 1000000 in
theorem clone50 (ao : Option Addr) (n c : Nat) (ns : List Int) (w : World) (h : Byt w ao n c ns) (hn : n ≤ 70000) :
    Calls Tryd.prog 50 #[.slice ao n c] w fun e w' => ∃ ao' c', e = .returned (.slice ao' n c') ∧ Byt w' ao' n c' ns ∧ (∀ b o, ao' = some ⟨b, o, none⟩ → w.heap.size ≤ b) ∧ Below w.heap.size w w' := by
  have q24 : ∀ (w : World) (a : Option Addr) (n c n' c' : Nat), (binOp .eql 24 (.slice a n c) (.slice none n' c')).run Tryd.prog w = .ok (.bool a.isNone) w := fun w a n c n' c' => Lib.run_eql_slice_nil w _ _ a n c n' c' Tryd.underlying24
  cases ao with
  | none =>
    obtain ⟨rfl, rfl⟩ := h.nil rfl
    go_enter Tryd.func50, Tryd.ntmps50
    go_wp2
    go_ret
    exact ⟨none, 0, rfl, h, fun b o e => (by cases e), Below.refl _ _⟩
  | some ad =>
    have hsrc := hide (h.alloc (.cells #[] 5))
    have HO : Hid (Row (w.alloc (.cells #[] 5)) w.heap.size (.slice (some ⟨w.heap.size, 0, none⟩) 0 0) 0 []) := hide (World.ownsRow_made w #[] 0 (Nat.le_refl _) (Nat.zero_le _) rfl)
    have HR := hide h.rng
    have HN := hide hn
    clear h hn
    go_enter Tryd.func50, Tryd.ntmps50
    go_wp2_with (at_builtin; refine wpl_app rfl (.tmp 5) (.tmp 6) rfl w.heap.size _ 0 [] rfl HO.out (some ad) n c ns rfl hsrc.out (by have := HN.out; omega) (by simp) ?_)
    intro v' w1 hR1 hB1
    have hB : Below w.heap.size w w1 := (below_alloc w _).trans hB1
    obtain ⟨ao', c', hv, hbyt, hnew⟩ := own_byt2 hR1 HR.out
    have HV := hide hv
    clear hsrc HO hv hB1 hR1
    go_wp2
    go_ret
    exact ⟨ao', c', by rw [HV.out]; simp, by simpa using hbyt, hnew, hB⟩
end Go.Proofs.YtijfcfpoimknmaaDoor
