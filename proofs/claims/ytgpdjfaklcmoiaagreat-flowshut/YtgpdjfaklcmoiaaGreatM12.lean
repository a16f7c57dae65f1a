/- Contract: Relay of the document's bridge. · Contracts: Reserved of the program and of the document; a way as cells. · A way as cells; stores of it; results. · Contract: way of the document's bridge. · Contract: way of the document's bridge, where the frame is right. · Contract: Take of the document's bridge. · A step of the bridge as cells; steps in a slice; few; sum. -/
import Derived.Test.YtgpdjfaklcmoiaaGreatM11
import Derived.Deep.DeepCutAuto
/- Contract: Relay of the document's bridge. -/
namespace Go.Proofs.YtgpdjfaklcmoiaaGreat
open Go.RowKit Go.PlainAid

theorem rly_no {B : Br} {v u t : Int} {f : Fd} {k : Nat} (h : may B v u t f (k + 1 : Nat) = false) : rly B v u t f (k + 1) = rly B v u t f k := by
  show rly B v u t f k ++ (if may B v u t f (k + 1 : Nat) then _ else []) = _
  rw [h, if_neg (by simp), List.append_nil]
theorem rly_yes {B : Br} {v u t : Int} {f : Fd} {k : Nat} (h : may B v u t f (k + 1 : Nat) = true) : rly B v u t f (k + 1) = rly B v u t f k ++ [⟨((k + 1 : Nat) : Int), ouF B.V v (k + 1 : Nat) f⟩] := by
  show rly B v u t f k ++ (if may B v u t f (k + 1 : Nat) then _ else []) = _
  rw [h, if_pos rfl]
theorem ouF_len (T : Tb) (v p : Int) (f : Fd) : (ouF T v p f).bs.length ≤ f.bs.length := by
  unfold ouF
  repeat' split
  all_goals first | exact Nat.le_refl _ | exact Nat.zero_le _
theorem byt_below {w w1 : World} {g : Nat} {ao : Option Addr} {n c : Nat} {ns : List Int} (h : Byt w ao n c ns) (hg : ∀ b o, ao = some ⟨b, o, none⟩ → 0 < n → b < g) (hb : Below g w w1) : Byt w1 ao n c ns :=
  ⟨h.len, h.nil, fun j hj => by
    obtain ⟨b, o, e, hc⟩ := h.cell j hj
    exact ⟨b, o, e, (hb.cell (p := ⟨b, o + j, none⟩) (hg b o e (by omega))).trans hc⟩, h.le, h.mx, h.rng⟩
/-- What Relay has so far. -/
structure Rl (a : Option Addr) (n : Nat) (w wr : World) (B : Br) (v u t : Int) (f : Fd) (k : Nat) (o : Value) (xs : List Ow) : Prop where
  row : wr.ownsRow w.heap.size 57 18 o xs.length (ocs xs)
  map : xs.map Ow.o = rly B v u t f k
  byt : ∀ x ∈ xs, Byt wr x.a x.n x.c x.o.f.bs
  bel : Below w.heap.size w wr
  own : ∀ x ∈ xs, ∀ b o, x.a = some ⟨b, o, none⟩ → 0 < x.n → x.a = a ∧ 0 < n
theorem Rl.on {a : Option Addr} {n : Nat} {w wr w2 : World} {B : Br} {v u t : Int} {f : Fd} {k : Nat} {o : Value} {xs : List Ow} (h : Rl a n w wr B v u t f k o xs) (b : Below wr.heap.size wr w2) : Rl a n w w2 B v u t f k o xs :=
  ⟨row_keep h.row (fun r hr => b.block r (h.row.lt r hr).2), h.map, fun x hx => (h.byt x hx).on b, h.bel.trans (b.mono h.bel.size), h.own⟩
section
attribute [local go_sem] ZF
set_option maxRecDepth 100000 in
set_option maxHeartbeats 8000000 in
theorem relayR (A : RAd) (B : Br) (v u t : Int) (f : Fd) (a : Option Addr) (n c : Nat) (w : World) (H : RB w A B) (hY : Byt w a n c f.bs) :
    Calls Tryz.prog 50 #[.pointer (some ⟨A.g, 0, none⟩), .int .i64 v, .int .i64 u, .int .i64 t, .agg (FC f (.slice a n c))] w fun e w' => ∃ ao xs cc, e = .returned (.slice ao xs.length cc) ∧ Ots w' ao xs.length cc xs ∧ xs.map Ow.o = rly B v u t f B.n ∧ Below w.heap.size w w' ∧ (∀ b o, ao = some ⟨b, o, none⟩ → w.heap.size ≤ b) ∧ (∀ x ∈ xs, ∀ b o, x.a = some ⟨b, o, none⟩ → 0 < x.n → x.a = a ∧ 0 < n) := by
  have B0 := below_alloc w (.cells (FC f (.slice a n c)) 38)
  have HX := hide (Box.new w (fcl f (.slice a n c)) 38)
  have HB0 := hide B0
  have HR := hide (H.on B0)
  have HY := hide (hY.on B0)
  have HGX : Hid (A.g ≠ w.heap.size) := hide (by have := H.bx.lt; omega)
  have hn := H.wf.n2
  have HN := hide hn
  clear H hY B0 hn
  go_enter Tryz.func50, Tryz.ntmps50
  go_wp2
  obtain ⟨w1, hw1⟩ : ∃ w1, w1 = w.alloc (.cells (FC f (.slice a n c)) 38) := ⟨_, rfl⟩
  have hw1' : w.alloc (.cells (fcl f (.slice a n c)).toArray 38) = w1 := hw1.symm
  rw [hw1'] at HX
  rw [← hw1] at HR HY HB0 ⊢
  clear hw1 hw1'
  obtain ⟨kx, hkx⟩ : ∃ kx, kx = w.heap.size := ⟨_, rfl⟩
  rw [← hkx] at HX HGX ⊢
  have HKX := hide hkx
  clear hkx
  go_loopg [11, 12] (B.n) (fun r o i wr => ∃ (k : Nat) (xs : List Ow), k ≤ B.n ∧ r = B.n - k ∧ i = .int .i64 ((k + 1 : Nat) : Int) ∧ Rl a n w1 wr B v u t f k o xs)
  case atStart => exact ⟨0, [], Nat.zero_le _, rfl, rfl, World.ownsRow_nil _ _ _ _, rfl, fun x hx => (by cases hx), Below.refl _ _, fun x hx => (by cases hx)⟩
  case round =>
    obtain ⟨k, xs, hk, hr, rfl, hL⟩ := hrel
    have HK := hide hk
    have HRK := hide hr
    have HL := hide hL
    have hR := HR.out.on hL.bel
    have c0 := hR.bx.cell 0 _ rfl
    have c3 := hR.bx.cell 3 _ rfl
    have HR2 := hide hR
    have HX2 := hide (HX.out.on hL.bel)
    have HY2 := hide (HY.out.on hL.bel)
    clear hk hr hL hR
    by_cases hc : k < B.n
    · obtain ⟨P, hP⟩ : ∃ P : Nat, P = k + 1 := ⟨_, rfl⟩
      have p1 : (P : Int) ≤ (B.n : Int) := by omega
      have p2 : (0 : Int) ≤ (P : Int) := by omega
      have p3 : (P : Int) < (B.n : Int) + 1 := by omega
      have p4 : IntKind.i64.wrap ((P : Int) + 1) = ((P + 1 : Nat) : Int) := by rw [IntWalk.i64_in _ (by have := HN.out; omega)]; omega
      have hlt : P < B.st.length := by have := HR.out.wf.sl; omega
      have d0 := HR2.out.ss.cell P _ (nsl_get hlt)
      have HPK := hide hP
      have HMY : Hid (may B v u t f (P : Nat) = (!((P : Int) == u) && ((t == 0 || (P : Int) == t) && (B.st.getD P 0 == 2 && ouE B.V v P f == 0)))) := hide (by unfold may; rw [Int.toNat_natCast])
      rw [← hP]
      generalize B.st.getD P 0 = s at *
      clear hP hlt
      rcases Bool.eq_false_or_eq_true ((P : Int) == u) with h1 | h1
      · have HM : Hid (may B v u t f (P : Nat) = false) := hide (by rw [HMY.out, h1]; rfl)
        go_wp2
        go_roundg (B.n - (k + 1))
        case measure => rw [HRK.out]; have := HK.out; omega
        case rel => exact ⟨k + 1, xs, by have := HPK.out; omega, rfl, by rw [HPK.out]; first | rfl | go_num, HL.out.row, by rw [rly_no (by rw [← HPK.out]; exact HM.out)]; exact HL.out.map, HL.out.byt, HL.out.bel, HL.out.own⟩
      rcases Bool.eq_false_or_eq_true (t == 0 || (P : Int) == t) with h2 | h2
      rotate_left
      · have HM : Hid (may B v u t f (P : Nat) = false) := hide (by rw [HMY.out, h2]; simp)
        rw [Bool.or_eq_false_iff] at h2
        have h3 : (t != 0) = true := by simp [bne, h2.1]
        have h4 : ((P : Int) != t) = true := by simp [bne, h2.2]
        clear h2
        go_wp2
        go_roundg (B.n - (k + 1))
        case measure => rw [HRK.out]; have := HK.out; omega
        case rel => exact ⟨k + 1, xs, by have := HPK.out; omega, rfl, by rw [HPK.out]; first | rfl | go_num, HL.out.row, by rw [rly_no (by rw [← HPK.out]; exact HM.out)]; exact HL.out.map, HL.out.byt, HL.out.bel, HL.out.own⟩
      rcases Bool.eq_false_or_eq_true (s == 2) with h3 | h3
      rotate_left
      · have HM : Hid (may B v u t f (P : Nat) = false) := hide (by rw [HMY.out, h3]; simp)
        have h4 : (s != 2) = true := by simp [bne, h3]
        rw [Bool.or_eq_true] at h2
        rcases h2 with h2 | h2
        · have h5 : (t != 0) = false := by simp [bne, h2]
          go_wp2
          go_roundg (B.n - (k + 1))
          case measure => rw [HRK.out]; have := HK.out; omega
          case rel => exact ⟨k + 1, xs, by have := HPK.out; omega, rfl, by rw [HPK.out]; first | rfl | go_num, HL.out.row, by rw [rly_no (by rw [← HPK.out]; exact HM.out)]; exact HL.out.map, HL.out.byt, HL.out.bel, HL.out.own⟩
        · have h5 : ((P : Int) != t) = false := by simp [bne, h2]
          have h6 : (t != 0) = true ∨ (t != 0) = false := (Bool.eq_false_or_eq_true _)
          rcases h6 with h6 | h6
          all_goals
            go_wp2
            go_roundg (B.n - (k + 1))
            case measure => rw [HRK.out]; have := HK.out; omega
            case rel => exact ⟨k + 1, xs, by have := HPK.out; omega, rfl, by rw [HPK.out]; first | rfl | go_num, HL.out.row, by rw [rly_no (by rw [← HPK.out]; exact HM.out)]; exact HL.out.map, HL.out.byt, HL.out.bel, HL.out.own⟩
      have HM : Hid (may B v u t f (P : Nat) = (ouE B.V v P f == 0)) := hide (by rw [HMY.out, h1, h2, h3]; rfl)
      have h4 : (s != 2) = false := by simp [bne, h3]
      have h5 : ((t != 0) = false) ∨ ((t != 0) = true ∧ ((P : Int) != t) = false) := by
        rcases Bool.eq_false_or_eq_true (t != 0) with h6 | h6
        · rw [Bool.or_eq_true] at h2
          refine Or.inr ⟨h6, ?_⟩
          rcases h2 with h2 | h2
          · simp [bne, h2] at h6
          · simp [bne, h2]
        · exact Or.inl h6
      clear h2 h3 HMY
      have HYL := HY2
      have hcut : True := trivial
      rcases h5 with h5 | ⟨h5, h6⟩
      all_goals
        go_wp2_with fail
        have SS : Hid (∀ z : World, Below wr.heap.size wr z → (z.cell? ⟨A.g, 1, none⟩ = some (.pointer (some ⟨A.gv + 1, 0, none⟩)) ∧ Box z kx (fcl f (.slice a n c))) ∧ RB z A B ∧ Byt z a n c f.bs) := hide (fun z b => ⟨⟨(HR2.out.on b).bx.cell 1 _ rfl, HX2.out.on b⟩, HR2.out.on b, HY2.out.on b⟩)
        have BW : Hid (Below wr.heap.size wr wr.drew) := hide ⟨rfl, rfl, rfl, Nat.le_refl _, fun _ _ => rfl⟩
        refine wp_region_held_drew (S := fun w' => w'.cell? ⟨A.g, 1, none⟩ = some (.pointer (some ⟨A.gv + 1, 0, none⟩)) ∧ Box w' kx (fcl f (.slice a n c))) (by kernel_rfl) (SS.out _ BW.out).1 (fun hHeld => ?_)
        clear c0 c3 d0 p1 HYL
        generalize wr.drew = u0 at *
        refine wpAnyH_take (i := 0) (v := .pointer (some ⟨A.g, 0, none⟩)) rfl (by kernel_rfl) (by kernel_rfl) (by kernel_rfl) (fun _ _ _ h => h) (Or.inl ⟨by rfl, ?_⟩) hHeld ?_
        · intro W hW; (try dsimp only at hW); go_simp
        change wpAnyH _ _ _ _ _ _ _ ⟨#[.pointer (some ⟨A.g, 0, none⟩),.int .i64 v,_,_,_,_,_,_,_,.pointer (some ⟨kx, 0, none⟩),_,_,.int .i64 (P : Int),_,_,_,_,_,_,_,_,_,_,_,_,_,_,_,_,_,_,_,_,_,_,_,_,_,_,_,_,_,_,_,_,_,.pointer (some ⟨A.g, 0, none⟩),_,_,_,_,_,_,_,_,_,_,_,_,_,_,_,_,_,_], []⟩ _
        refine wpAnyH_take (i := 1) (v := .pointer (some ⟨A.g, 0, none⟩)) rfl (by kernel_rfl) (by kernel_rfl) (by kernel_rfl) (fun _ _ _ h => h) (Or.inl ⟨by rfl, ?_⟩) hHeld ?_
        · intro W hW; (try dsimp only at hW); go_simp
        change wpAnyH _ _ _ _ _ _ _ ⟨#[.pointer (some ⟨A.g, 0, none⟩),.int .i64 v,_,_,_,_,_,_,_,.pointer (some ⟨kx, 0, none⟩),_,_,.int .i64 (P : Int),_,_,_,_,_,_,_,_,_,_,_,_,_,_,_,_,_,_,_,_,_,_,_,_,_,_,_,_,_,_,_,_,_,.pointer (some ⟨A.g, 0, none⟩),.pointer (some ⟨A.g, 0, none⟩),_,_,_,_,_,_,_,_,_,_,_,_,_,_,_,_,_], []⟩ _
        refine wpAnyH_take (i := 2) (v := .pointer (some ⟨A.g, 1, none⟩)) rfl (by kernel_rfl) (by kernel_rfl) (by kernel_rfl) (fun _ _ _ h => h) (Or.inl ⟨by rfl, ?_⟩) hHeld ?_
        · intro W hW; (try dsimp only at hW); go_simp
        change wpAnyH _ _ _ _ _ _ _ ⟨#[.pointer (some ⟨A.g, 0, none⟩),.int .i64 v,_,_,_,_,_,_,_,.pointer (some ⟨kx, 0, none⟩),_,_,.int .i64 (P : Int),_,_,_,_,_,_,_,_,_,_,_,_,_,_,_,_,_,_,_,_,_,_,_,_,_,_,_,_,_,_,_,_,_,.pointer (some ⟨A.g, 0, none⟩),.pointer (some ⟨A.g, 0, none⟩),.pointer (some ⟨A.g, 1, none⟩),_,_,_,_,_,_,_,_,_,_,_,_,_,_,_,_], []⟩ _
        refine wpAnyH_take (i := 3) (v := .pointer (some ⟨A.gv + 1, 0, none⟩)) rfl (by kernel_rfl) (by kernel_rfl) (by kernel_rfl) (fun _ _ _ h => h) (Or.inl ⟨by rfl, ?_⟩) hHeld ?_
        · intro W hW; (try dsimp only at hW); have hc := hW.1; clear hW; go_simp
        change wpAnyH _ _ _ _ _ _ _ ⟨#[.pointer (some ⟨A.g, 0, none⟩),.int .i64 v,_,_,_,_,_,_,_,.pointer (some ⟨kx, 0, none⟩),_,_,.int .i64 (P : Int),_,_,_,_,_,_,_,_,_,_,_,_,_,_,_,_,_,_,_,_,_,_,_,_,_,_,_,_,_,_,_,_,_,.pointer (some ⟨A.g, 0, none⟩),.pointer (some ⟨A.g, 0, none⟩),.pointer (some ⟨A.g, 1, none⟩),.pointer (some ⟨A.gv + 1, 0, none⟩),_,_,_,_,_,_,_,_,_,_,_,_,_,_,_], []⟩ _
        refine wpAnyH_take (i := 4) (v := .int .i64 v) rfl (by kernel_rfl) (by kernel_rfl) (by kernel_rfl) (fun _ _ _ h => h) (Or.inl ⟨by rfl, ?_⟩) hHeld ?_
        · intro W hW; (try dsimp only at hW); go_simp
        change wpAnyH _ _ _ _ _ _ _ ⟨#[.pointer (some ⟨A.g, 0, none⟩),.int .i64 v,_,_,_,_,_,_,_,.pointer (some ⟨kx, 0, none⟩),_,_,.int .i64 (P : Int),_,_,_,_,_,_,_,_,_,_,_,_,_,_,_,_,_,_,_,_,_,_,_,_,_,_,_,_,_,_,_,_,_,.pointer (some ⟨A.g, 0, none⟩),.pointer (some ⟨A.g, 0, none⟩),.pointer (some ⟨A.g, 1, none⟩),.pointer (some ⟨A.gv + 1, 0, none⟩),.int .i64 v,_,_,_,_,_,_,_,_,_,_,_,_,_,_], []⟩ _
        refine wpAnyH_take (i := 5) (v := .int .i64 (P : Int)) rfl (by kernel_rfl) (by kernel_rfl) (by kernel_rfl) (fun _ _ _ h => h) (Or.inl ⟨by rfl, ?_⟩) hHeld ?_
        · intro W hW; (try dsimp only at hW); go_simp
        change wpAnyH _ _ _ _ _ _ _ ⟨#[.pointer (some ⟨A.g, 0, none⟩),.int .i64 v,_,_,_,_,_,_,_,.pointer (some ⟨kx, 0, none⟩),_,_,.int .i64 (P : Int),_,_,_,_,_,_,_,_,_,_,_,_,_,_,_,_,_,_,_,_,_,_,_,_,_,_,_,_,_,_,_,_,_,.pointer (some ⟨A.g, 0, none⟩),.pointer (some ⟨A.g, 0, none⟩),.pointer (some ⟨A.g, 1, none⟩),.pointer (some ⟨A.gv + 1, 0, none⟩),.int .i64 v,.int .i64 (P : Int),_,_,_,_,_,_,_,_,_,_,_,_,_], []⟩ _
        refine wpAnyH_take (i := 6) (v := .agg (FC f (.slice a n c))) rfl (by kernel_rfl) (by kernel_rfl) (by kernel_rfl) (fun _ _ _ h => h) (yieldsIf_load_mid (by rfl) 38 (.tmp 9) rfl kx 0 rfl (fcl f (.slice a n c)) _ (fun W hW => hW.2.at_) Tryz.underlying38 rfl Tryz.size38) hHeld ?_
        change wpAnyH _ _ _ _ _ _ _ ⟨#[.pointer (some ⟨A.g, 0, none⟩),.int .i64 v,_,_,_,_,_,_,_,.pointer (some ⟨kx, 0, none⟩),_,_,.int .i64 (P : Int),_,_,_,_,_,_,_,_,_,_,_,_,_,_,_,_,_,_,_,_,_,_,_,_,_,_,_,_,_,_,_,_,_,.pointer (some ⟨A.g, 0, none⟩),.pointer (some ⟨A.g, 0, none⟩),.pointer (some ⟨A.g, 1, none⟩),.pointer (some ⟨A.gv + 1, 0, none⟩),.int .i64 v,.int .i64 (P : Int),.agg (FC f (.slice a n c)),_,_,_,_,_,_,_,_,_,_,_,_], []⟩ _
        refine wpAnyH_ready (rs := [7, 11]) (by kernel_rfl) (by simp) ?_
        refine AllReadyH.cons rfl (fun K hK => ?_) (AllReadyH.cons rfl (fun K hK => ?_) AllReadyH.nil)
        · skip
          go_simp
          refine (out20 A.gv A.lv B.V v P f a n c _ (SS.out _ BW.out).2.1.rv (SS.out _ BW.out).2.2).mono ?_
          rintro e u1 ⟨a1, m1, c1, rfl, Y1, b1, ha1⟩
          replace BW := hide (belowOn BW.out b1)
          refine hK.out _ _ (SS.out _ BW.out).1 (fun hHeld => ?_)
          have HY4 := hide Y1
          clear hK K b1 Y1
          change wpAnyH _ _ _ _ _ _ _ ⟨#[.pointer (some ⟨A.g, 0, none⟩),.int .i64 v,_,_,_,_,_,_,_,.pointer (some ⟨kx, 0, none⟩),_,_,.int .i64 (P : Int),_,_,_,_,_,_,_,_,_,_,_,_,_,_,_,_,_,_,_,_,_,_,_,_,_,_,_,_,_,_,_,_,_,.pointer (some ⟨A.g, 0, none⟩),.pointer (some ⟨A.g, 0, none⟩),.pointer (some ⟨A.g, 1, none⟩),.pointer (some ⟨A.gv + 1, 0, none⟩),.int .i64 v,.int .i64 (P : Int),.agg (FC f (.slice a n c)),.tuple #[.agg (FC (ouF B.V v P f) (.slice a1 m1 c1)), .int .i64 (ouE B.V v P f)],_,_,_,_,_,_,_,_,_,_,_], []⟩ _
          refine wpAnyH_take (i := 8) (v := .tuple #[.agg (FC (ouF B.V v P f) (.slice a1 m1 c1)), .int .i64 (ouE B.V v P f)]) rfl (by kernel_rfl) (by kernel_rfl) (by kernel_rfl) (fun _ _ _ h => h) (Or.inl ⟨by rfl, ?_⟩) hHeld ?_
          · intro W hW; (try dsimp only at hW); go_simp
          change wpAnyH _ _ _ _ _ _ _ ⟨#[.pointer (some ⟨A.g, 0, none⟩),.int .i64 v,_,_,_,_,_,_,_,.pointer (some ⟨kx, 0, none⟩),_,_,.int .i64 (P : Int),_,_,_,_,_,_,_,_,_,_,_,_,_,_,_,_,_,_,_,_,_,_,_,_,_,_,_,_,_,_,_,_,.tuple #[.agg (FC (ouF B.V v P f) (.slice a1 m1 c1)), .int .i64 (ouE B.V v P f)],.pointer (some ⟨A.g, 0, none⟩),.pointer (some ⟨A.g, 0, none⟩),.pointer (some ⟨A.g, 1, none⟩),.pointer (some ⟨A.gv + 1, 0, none⟩),.int .i64 v,.int .i64 (P : Int),.agg (FC f (.slice a n c)),.tuple #[.agg (FC (ouF B.V v P f) (.slice a1 m1 c1)), .int .i64 (ouE B.V v P f)],_,_,_,_,_,_,_,_,_,_,_], []⟩ _
          refine wpAnyH_take (i := 9) (v := .agg (FC (ouF B.V v P f) (.slice a1 m1 c1))) rfl (by kernel_rfl) (by kernel_rfl) (by kernel_rfl) (fun _ _ _ h => h) (Or.inl ⟨by rfl, ?_⟩) hHeld ?_
          · intro W hW; (try dsimp only at hW); go_simp
          change wpAnyH _ _ _ _ _ _ _ ⟨#[.pointer (some ⟨A.g, 0, none⟩),.int .i64 v,_,_,_,_,_,_,_,.pointer (some ⟨kx, 0, none⟩),_,_,.int .i64 (P : Int),_,_,_,_,_,_,_,_,_,_,_,_,_,_,_,_,_,_,_,_,_,_,_,_,_,_,_,_,_,_,_,_,.tuple #[.agg (FC (ouF B.V v P f) (.slice a1 m1 c1)), .int .i64 (ouE B.V v P f)],.pointer (some ⟨A.g, 0, none⟩),.pointer (some ⟨A.g, 0, none⟩),.pointer (some ⟨A.g, 1, none⟩),.pointer (some ⟨A.gv + 1, 0, none⟩),.int .i64 v,.int .i64 (P : Int),.agg (FC f (.slice a n c)),.tuple #[.agg (FC (ouF B.V v P f) (.slice a1 m1 c1)), .int .i64 (ouE B.V v P f)],.agg (FC (ouF B.V v P f) (.slice a1 m1 c1)),_,_,_,_,_,_,_,_,_,_], []⟩ _
          refine wpAnyH_take (i := 10) (v := .int .i64 (ouE B.V v P f)) rfl (by kernel_rfl) (by kernel_rfl) (by kernel_rfl) (fun _ _ _ h => h) (Or.inl ⟨by rfl, ?_⟩) hHeld ?_
          · intro W hW; (try dsimp only at hW); go_simp
          change wpAnyH _ _ _ _ _ _ _ ⟨#[.pointer (some ⟨A.g, 0, none⟩),.int .i64 v,_,_,_,_,_,_,_,.pointer (some ⟨kx, 0, none⟩),_,_,.int .i64 (P : Int),_,_,_,_,_,_,_,_,_,_,_,_,_,_,_,_,_,_,_,_,_,_,_,_,_,_,_,_,_,_,_,_,.tuple #[.agg (FC (ouF B.V v P f) (.slice a1 m1 c1)), .int .i64 (ouE B.V v P f)],.pointer (some ⟨A.g, 0, none⟩),.pointer (some ⟨A.g, 0, none⟩),.pointer (some ⟨A.g, 1, none⟩),.pointer (some ⟨A.gv + 1, 0, none⟩),.int .i64 v,.int .i64 (P : Int),.agg (FC f (.slice a n c)),.tuple #[.agg (FC (ouF B.V v P f) (.slice a1 m1 c1)), .int .i64 (ouE B.V v P f)],.agg (FC (ouF B.V v P f) (.slice a1 m1 c1)),.int .i64 (ouE B.V v P f),_,_,_,_,_,_,_,_,_], []⟩ _
          refine wpAnyH_ready (rs := [11]) (by kernel_rfl) (by simp) ?_
          refine AllReadyH.cons rfl (fun K hK => ?_) AllReadyH.nil
          go_simp
          have bz := Box.new u1 (fcl zeroF (.slice none 0 0)) 38
          have HYK : Hid (∀ b o, a1 = some ⟨b, o, none⟩ → 0 < m1 → b ≠ u1.heap.size) := hide (fun b o e hp => by have := HY4.out.lt b o e hp; omega)
          have HK13 : Hid (wr.heap.size ≤ u1.heap.size) := hide BW.out.size
          replace BW := hide (belowOn BW.out (below_alloc u1 (.cells (FC zeroF (.slice none 0 0)) 38)))
          replace HY4 := hide (HY4.out.on (below_alloc u1 (.cells (FC zeroF (.slice none 0 0)) 38)))
          have bz' : Box (u1.alloc (.cells (FC zeroF (.slice none 0 0)) 38)) u1.heap.size (fcl zeroF (.slice none 0 0)) := bz
          replace bz := bz'
          clear bz'
          generalize (u1.alloc (.cells (FC zeroF (.slice none 0 0)) 38)) = u2 at *
          generalize u1.heap.size = k13 at *
          refine hK.out _ _ (SS.out _ BW.out).1 (fun hHeld => ?_)
          clear hK K
          change wpAnyH _ _ _ _ _ _ _ ⟨#[.pointer (some ⟨A.g, 0, none⟩),.int .i64 v,_,_,_,_,_,_,_,.pointer (some ⟨kx, 0, none⟩),_,_,.int .i64 (P : Int),.pointer (some ⟨k13, 0, none⟩),_,_,_,_,_,_,_,_,_,_,_,_,_,_,_,_,_,_,_,_,_,_,_,_,_,_,_,_,_,_,_,.tuple #[.agg (FC (ouF B.V v P f) (.slice a1 m1 c1)), .int .i64 (ouE B.V v P f)],.pointer (some ⟨A.g, 0, none⟩),.pointer (some ⟨A.g, 0, none⟩),.pointer (some ⟨A.g, 1, none⟩),.pointer (some ⟨A.gv + 1, 0, none⟩),.int .i64 v,.int .i64 (P : Int),.agg (FC f (.slice a n c)),.tuple #[.agg (FC (ouF B.V v P f) (.slice a1 m1 c1)), .int .i64 (ouE B.V v P f)],.agg (FC (ouF B.V v P f) (.slice a1 m1 c1)),.int .i64 (ouE B.V v P f),_,_,_,_,_,_,_,_,_], []⟩ _
          refine wpAnyH_ready (rs := [12]) (by kernel_rfl) (by simp) ?_
          refine AllReadyH.cons rfl (fun K hK => ?_) AllReadyH.nil
          rw [if_pos (by rfl)]
          refine wp_store_mid 38 (.tmp 13) (.tmp 54) rfl k13 0 (FC (ouF B.V v P f) (.slice a1 m1 c1)) rfl rfl bz.th Tryz.size38 (one_fcl _ _ rfl) ?_
          have G3 := setCells_grown k13 (fcl (ouF B.V v P f) (.slice a1 m1 c1)) 0 u2
          have bf := bz.self (cs' := fcl (ouF B.V v P f) (.slice a1 m1 c1)) rfl
          have BW3 := below_grown BW.out G3 HK13.out BW.out.size
          have Y3 := HY4.out.kept (k := k13) HYK.out G3
          have e4 : World.setCells u2 k13 0 (FC (ouF B.V v P f) (.slice a1 m1 c1)).toList = World.setCells u2 k13 0 (fcl (ouF B.V v P f) (.slice a1 m1 c1)) := rfl
          rw [e4]
          generalize World.setCells u2 k13 0 (fcl (ouF B.V v P f) (.slice a1 m1 c1)) = u9 at *
          refine hK.out _ _ (SS.out _ BW3).1 (fun hHeld => ?_)
          have BW9 := hide BW3
          have HY9 := hide Y3
          have HF9 := hide bf
          clear hK K G3 bf BW3 Y3 e4 bz HY4 HYK BW
          change wpAnyH _ _ _ _ _ _ _ ⟨#[.pointer (some ⟨A.g, 0, none⟩),.int .i64 v,_,_,_,_,_,_,_,.pointer (some ⟨kx, 0, none⟩),_,_,.int .i64 (P : Int),.pointer (some ⟨k13, 0, none⟩),_,_,_,_,_,_,_,_,_,_,_,_,_,_,_,_,_,_,_,_,_,_,_,_,_,_,_,_,_,_,_,.tuple #[.agg (FC (ouF B.V v P f) (.slice a1 m1 c1)), .int .i64 (ouE B.V v P f)],.pointer (some ⟨A.g, 0, none⟩),.pointer (some ⟨A.g, 0, none⟩),.pointer (some ⟨A.g, 1, none⟩),.pointer (some ⟨A.gv + 1, 0, none⟩),.int .i64 v,.int .i64 (P : Int),.agg (FC f (.slice a n c)),.tuple #[.agg (FC (ouF B.V v P f) (.slice a1 m1 c1)), .int .i64 (ouE B.V v P f)],.agg (FC (ouF B.V v P f) (.slice a1 m1 c1)),.int .i64 (ouE B.V v P f),_,_,_,_,_,_,_,_,_], []⟩ _
          refine wpAnyH_take (i := 13) (v := .int .i64 (ouE B.V v P f)) rfl (by kernel_rfl) (by kernel_rfl) (by kernel_rfl) (fun _ _ _ h => h) (Or.inl ⟨by rfl, ?_⟩) hHeld ?_
          · intro W hW; (try dsimp only at hW); go_simp
          change wpAnyH _ _ _ _ _ _ _ ⟨#[.pointer (some ⟨A.g, 0, none⟩),.int .i64 v,_,_,_,_,_,_,_,.pointer (some ⟨kx, 0, none⟩),_,_,.int .i64 (P : Int),.pointer (some ⟨k13, 0, none⟩),.int .i64 (ouE B.V v P f),_,_,_,_,_,_,_,_,_,_,_,_,_,_,_,_,_,_,_,_,_,_,_,_,_,_,_,_,_,_,.tuple #[.agg (FC (ouF B.V v P f) (.slice a1 m1 c1)), .int .i64 (ouE B.V v P f)],.pointer (some ⟨A.g, 0, none⟩),.pointer (some ⟨A.g, 0, none⟩),.pointer (some ⟨A.g, 1, none⟩),.pointer (some ⟨A.gv + 1, 0, none⟩),.int .i64 v,.int .i64 (P : Int),.agg (FC f (.slice a n c)),.tuple #[.agg (FC (ouF B.V v P f) (.slice a1 m1 c1)), .int .i64 (ouE B.V v P f)],.agg (FC (ouF B.V v P f) (.slice a1 m1 c1)),.int .i64 (ouE B.V v P f),_,_,_,_,_,_,_,_,_], []⟩ _
          refine wpAnyH_done (by kernel_rfl) ?_ _
          clear SS
          clear hHeld
          have HL9 : Hid (Rl a n w1 u9 B v u t f k u11 xs) := hide (HL.out.on BW9.out)
          have HXL : Hid (xs.length ≤ k) := hide (by have h := congrArg List.length HL.out.map; rw [List.length_map] at h; have := rly_len B v u t f k; omega)
          have HSZ : Hid (w1.heap.size ≤ u9.heap.size) := hide HL9.out.bel.size
          clear BW9 HL
          obtain ⟨F, hF⟩ : ∃ F, F = ouF B.V v P f := ⟨_, rfl⟩
          obtain ⟨E, hE⟩ : ∃ E, E = ouE B.V v P f := ⟨_, rfl⟩
          rw [← hF] at HY9 HF9
          rw [← hE] at HM
          try rw [← hF]
          try rw [← hE]
          have HFF := hide hF
          clear hF hE
          rcases Bool.eq_false_or_eq_true (E == 0) with h7 | h7
          · have HM2 : Hid (may B v u t f (P : Nat) = true) := hide (by rw [HM.out, h7])
            have R1 := World.ownsRow.alloc HL9.out.row (.cells (OC ⟨⟨(P : Int), F⟩, a1, m1, c1⟩) 57)
            have O1 := ors_one u9 ⟨⟨(P : Int), F⟩, a1, m1, c1⟩
            have BA := below_alloc u9 (.cells (OC ⟨⟨(P : Int), F⟩, a1, m1, c1⟩) 57)
            have hs9 : w1.heap.size ≤ (u9.alloc (.cells (OC ⟨⟨(P : Int), F⟩, a1, m1, c1⟩) 57)).heap.size := Nat.le_trans HSZ.out BA.size
            have RR := hide R1
            have OO := hide O1
            have BB := hide BA
            have HS9 := hide hs9
            clear R1 O1 BA hs9
            have tk1 : True := trivial
            have tk2 : True := trivial
            have tk3 : True := trivial
            have tk4 : True := trivial
            go_wp2_with (first | (have _t := tk1; refine wpl_frame (.tmp 13) rfl HF9.out ?_ ?_ ?_; rfl; rfl; clear tk1) | (have _t := tk2; refine wpl_bO rfl (.tmp 59) (.tmp 60) (P : Int) F a1 m1 c1 rfl rfl rfl ?_; clear tk2) | (have _t := tk3; refine wpl_bsO rfl (.tmp 61) ⟨⟨(P : Int), F⟩, a1, m1, c1⟩ rfl rfl ?_; clear tk3) | (have _t := tk4; at_builtin; refine wpl_oapp rfl rfl (.tmp 58) (.tmp 62) rfl w1.heap.size _ _ xs rfl RR.out _ 1 1 _ rfl OO.out (by have := HXL.out; have := HK.out; have := HN.out; omega) HS9.out ?_; clear tk4))
            intro v2 z2 R2 G2
            have B2 : Below w1.heap.size u9 z2 := (BB.out.mono HSZ.out).grown G2 HS9.out (fun r hr => (RR.out.lt r hr).1)
            have OWN : ∀ b o, a1 = some ⟨b, o, none⟩ → 0 < m1 → a1 = a ∧ 0 < n := fun b o e hp => by
              rcases ha1 with h | h
              · rw [h] at e; cases e
              · have h2 := ouF_len B.V v P f
                have h3 := HY9.out.len
                have h4 := HY.out.len
                rw [HFF.out] at h3
                exact ⟨h, by omega⟩
            have LO : ∀ (a2 : Option Addr) (n2 : Nat), (∀ b o, a2 = some ⟨b, o, none⟩ → 0 < n2 → a2 = a ∧ 0 < n) → ∀ b o, a2 = some ⟨b, o, none⟩ → 0 < n2 → b < w1.heap.size := fun a2 n2 h b o e hp => by
              obtain ⟨h1, h2⟩ := h b o e hp
              exact HY.out.lt b o (by rw [← h1]; exact e) h2
            have Y2 : Byt z2 a1 m1 c1 F.bs := byt_below HY9.out (LO _ _ OWN) B2
            have hx : Rl a n w1 z2 B v u t f (k + 1) v2 (xs ++ [⟨⟨(P : Int), F⟩, a1, m1, c1⟩]) := by
              refine ⟨by rw [List.length_append]; exact R2, ?_, fun x hx => ?_, HL9.out.bel.trans B2, fun x hx => ?_⟩
              · rw [List.map_append, HL9.out.map, rly_yes (by rw [← HPK.out]; exact HM2.out), HFF.out, HPK.out]; rfl
              · rcases List.mem_append.1 hx with hx | hx
                · exact byt_below (HL9.out.byt x hx) (LO _ _ (HL9.out.own x hx)) B2
                · obtain rfl := List.mem_singleton.1 hx
                  exact Y2
              · rcases List.mem_append.1 hx with hx | hx
                · exact HL9.out.own x hx
                · obtain rfl := List.mem_singleton.1 hx
                  exact OWN
            have HX1 := hide hx
            clear R2 G2 B2 hx RR OO BB HS9 Y2 OWN LO
            go_wp2
            go_roundg (B.n - (k + 1))
            case measure => rw [HRK.out]; have := HK.out; omega
            case rel => exact ⟨k + 1, _, by have := HPK.out; omega, rfl, by rw [HPK.out]; first | rfl | go_num, HX1.out⟩
          · have HM2 : Hid (may B v u t f (P : Nat) = false) := hide (by rw [HM.out, h7])
            go_wp2
            go_roundg (B.n - (k + 1))
            case measure => rw [HRK.out]; have := HK.out; omega
            case rel => exact ⟨k + 1, xs, by have := HPK.out; omega, rfl, by rw [HPK.out]; first | rfl | go_num, HL9.out.row, by rw [rly_no (by rw [← HPK.out]; exact HM2.out)]; exact HL9.out.map, HL9.out.byt, HL9.out.bel, HL9.out.own⟩
        · skip
          go_simp
          have bz0 : Box (u0.alloc (.cells (FC zeroF (.slice none 0 0)) 38)) u0.heap.size (fcl zeroF (.slice none 0 0)) := Box.new u0 (fcl zeroF (.slice none 0 0)) 38
          have HK13 : Hid (wr.heap.size ≤ u0.heap.size) := hide BW.out.size
          have HKL : Hid (u0.heap.size < (u0.alloc (.cells (FC zeroF (.slice none 0 0)) 38)).heap.size) := hide (by simp)
          replace BW := hide (belowOn BW.out (below_alloc u0 (.cells (FC zeroF (.slice none 0 0)) 38)))
          generalize (u0.alloc (.cells (FC zeroF (.slice none 0 0)) 38)) = u1 at *
          generalize u0.heap.size = k13 at *
          refine hK.out _ _ (SS.out _ BW.out).1 (fun hHeld => ?_)
          clear hK K
          change wpAnyH _ _ _ _ _ _ _ ⟨#[.pointer (some ⟨A.g, 0, none⟩),.int .i64 v,_,_,_,_,_,_,_,.pointer (some ⟨kx, 0, none⟩),_,_,.int .i64 (P : Int),.pointer (some ⟨k13, 0, none⟩),_,_,_,_,_,_,_,_,_,_,_,_,_,_,_,_,_,_,_,_,_,_,_,_,_,_,_,_,_,_,_,_,.pointer (some ⟨A.g, 0, none⟩),.pointer (some ⟨A.g, 0, none⟩),.pointer (some ⟨A.g, 1, none⟩),.pointer (some ⟨A.gv + 1, 0, none⟩),.int .i64 v,.int .i64 (P : Int),.agg (FC f (.slice a n c)),_,_,_,_,_,_,_,_,_,_,_,_], []⟩ _
          refine wpAnyH_ready (rs := [7]) (by kernel_rfl) (by simp) ?_
          refine AllReadyH.cons rfl (fun K hK => ?_) AllReadyH.nil
          go_simp
          refine (out20 A.gv A.lv B.V v P f a n c _ (SS.out _ BW.out).2.1.rv (SS.out _ BW.out).2.2).mono ?_
          rintro e u2 ⟨a1, m1, c1, rfl, Y1, b1, ha1⟩
          replace BW := hide (belowOn BW.out b1)
          have bz := bz0.on b1
          refine hK.out _ _ (SS.out _ BW.out).1 (fun hHeld => ?_)
          have HY4 := hide Y1
          have HYK : Hid (∀ b o, a1 = some ⟨b, o, none⟩ → 0 < m1 → b ≠ k13) := hide (fun b o e hp => by
            rcases ha1 with h | h
            · rw [h] at e; cases e
            · have h2 := ouF_len B.V v P f
              have h3 := HY4.out.len
              have h4 := HY2.out.len
              have := HY2.out.lt b o (by rw [← h]; exact e) (by omega)
              have := HK13.out
              omega)
          clear hK K b1 Y1 bz0
          change wpAnyH _ _ _ _ _ _ _ ⟨#[.pointer (some ⟨A.g, 0, none⟩),.int .i64 v,_,_,_,_,_,_,_,.pointer (some ⟨kx, 0, none⟩),_,_,.int .i64 (P : Int),.pointer (some ⟨k13, 0, none⟩),_,_,_,_,_,_,_,_,_,_,_,_,_,_,_,_,_,_,_,_,_,_,_,_,_,_,_,_,_,_,_,_,.pointer (some ⟨A.g, 0, none⟩),.pointer (some ⟨A.g, 0, none⟩),.pointer (some ⟨A.g, 1, none⟩),.pointer (some ⟨A.gv + 1, 0, none⟩),.int .i64 v,.int .i64 (P : Int),.agg (FC f (.slice a n c)),.tuple #[.agg (FC (ouF B.V v P f) (.slice a1 m1 c1)), .int .i64 (ouE B.V v P f)],_,_,_,_,_,_,_,_,_,_,_], []⟩ _
          refine wpAnyH_take (i := 8) (v := .tuple #[.agg (FC (ouF B.V v P f) (.slice a1 m1 c1)), .int .i64 (ouE B.V v P f)]) rfl (by kernel_rfl) (by kernel_rfl) (by kernel_rfl) (fun _ _ _ h => h) (Or.inl ⟨by rfl, ?_⟩) hHeld ?_
          · intro W hW; (try dsimp only at hW); go_simp
          change wpAnyH _ _ _ _ _ _ _ ⟨#[.pointer (some ⟨A.g, 0, none⟩),.int .i64 v,_,_,_,_,_,_,_,.pointer (some ⟨kx, 0, none⟩),_,_,.int .i64 (P : Int),.pointer (some ⟨k13, 0, none⟩),_,_,_,_,_,_,_,_,_,_,_,_,_,_,_,_,_,_,_,_,_,_,_,_,_,_,_,_,_,_,_,.tuple #[.agg (FC (ouF B.V v P f) (.slice a1 m1 c1)), .int .i64 (ouE B.V v P f)],.pointer (some ⟨A.g, 0, none⟩),.pointer (some ⟨A.g, 0, none⟩),.pointer (some ⟨A.g, 1, none⟩),.pointer (some ⟨A.gv + 1, 0, none⟩),.int .i64 v,.int .i64 (P : Int),.agg (FC f (.slice a n c)),.tuple #[.agg (FC (ouF B.V v P f) (.slice a1 m1 c1)), .int .i64 (ouE B.V v P f)],_,_,_,_,_,_,_,_,_,_,_], []⟩ _
          refine wpAnyH_take (i := 9) (v := .agg (FC (ouF B.V v P f) (.slice a1 m1 c1))) rfl (by kernel_rfl) (by kernel_rfl) (by kernel_rfl) (fun _ _ _ h => h) (Or.inl ⟨by rfl, ?_⟩) hHeld ?_
          · intro W hW; (try dsimp only at hW); go_simp
          change wpAnyH _ _ _ _ _ _ _ ⟨#[.pointer (some ⟨A.g, 0, none⟩),.int .i64 v,_,_,_,_,_,_,_,.pointer (some ⟨kx, 0, none⟩),_,_,.int .i64 (P : Int),.pointer (some ⟨k13, 0, none⟩),_,_,_,_,_,_,_,_,_,_,_,_,_,_,_,_,_,_,_,_,_,_,_,_,_,_,_,_,_,_,_,.tuple #[.agg (FC (ouF B.V v P f) (.slice a1 m1 c1)), .int .i64 (ouE B.V v P f)],.pointer (some ⟨A.g, 0, none⟩),.pointer (some ⟨A.g, 0, none⟩),.pointer (some ⟨A.g, 1, none⟩),.pointer (some ⟨A.gv + 1, 0, none⟩),.int .i64 v,.int .i64 (P : Int),.agg (FC f (.slice a n c)),.tuple #[.agg (FC (ouF B.V v P f) (.slice a1 m1 c1)), .int .i64 (ouE B.V v P f)],.agg (FC (ouF B.V v P f) (.slice a1 m1 c1)),_,_,_,_,_,_,_,_,_,_], []⟩ _
          refine wpAnyH_take (i := 10) (v := .int .i64 (ouE B.V v P f)) rfl (by kernel_rfl) (by kernel_rfl) (by kernel_rfl) (fun _ _ _ h => h) (Or.inl ⟨by rfl, ?_⟩) hHeld ?_
          · intro W hW; (try dsimp only at hW); go_simp
          change wpAnyH _ _ _ _ _ _ _ ⟨#[.pointer (some ⟨A.g, 0, none⟩),.int .i64 v,_,_,_,_,_,_,_,.pointer (some ⟨kx, 0, none⟩),_,_,.int .i64 (P : Int),.pointer (some ⟨k13, 0, none⟩),_,_,_,_,_,_,_,_,_,_,_,_,_,_,_,_,_,_,_,_,_,_,_,_,_,_,_,_,_,_,_,.tuple #[.agg (FC (ouF B.V v P f) (.slice a1 m1 c1)), .int .i64 (ouE B.V v P f)],.pointer (some ⟨A.g, 0, none⟩),.pointer (some ⟨A.g, 0, none⟩),.pointer (some ⟨A.g, 1, none⟩),.pointer (some ⟨A.gv + 1, 0, none⟩),.int .i64 v,.int .i64 (P : Int),.agg (FC f (.slice a n c)),.tuple #[.agg (FC (ouF B.V v P f) (.slice a1 m1 c1)), .int .i64 (ouE B.V v P f)],.agg (FC (ouF B.V v P f) (.slice a1 m1 c1)),.int .i64 (ouE B.V v P f),_,_,_,_,_,_,_,_,_], []⟩ _
          refine wpAnyH_ready (rs := [12]) (by kernel_rfl) (by simp) ?_
          refine AllReadyH.cons rfl (fun K hK => ?_) AllReadyH.nil
          rw [if_pos (by rfl)]
          refine wp_store_mid 38 (.tmp 13) (.tmp 54) rfl k13 0 (FC (ouF B.V v P f) (.slice a1 m1 c1)) rfl rfl bz.th Tryz.size38 (one_fcl _ _ rfl) ?_
          have G3 := setCells_grown k13 (fcl (ouF B.V v P f) (.slice a1 m1 c1)) 0 u2
          have bf := bz.self (cs' := fcl (ouF B.V v P f) (.slice a1 m1 c1)) rfl
          have BW3 := below_grown BW.out G3 HK13.out BW.out.size
          have Y3 := HY4.out.kept (k := k13) HYK.out G3
          have e4 : World.setCells u2 k13 0 (FC (ouF B.V v P f) (.slice a1 m1 c1)).toList = World.setCells u2 k13 0 (fcl (ouF B.V v P f) (.slice a1 m1 c1)) := rfl
          rw [e4]
          generalize World.setCells u2 k13 0 (fcl (ouF B.V v P f) (.slice a1 m1 c1)) = u9 at *
          refine hK.out _ _ (SS.out _ BW3).1 (fun hHeld => ?_)
          have BW9 := hide BW3
          have HY9 := hide Y3
          have HF9 := hide bf
          clear hK K G3 bf BW3 Y3 e4 bz HY4 HYK BW
          change wpAnyH _ _ _ _ _ _ _ ⟨#[.pointer (some ⟨A.g, 0, none⟩),.int .i64 v,_,_,_,_,_,_,_,.pointer (some ⟨kx, 0, none⟩),_,_,.int .i64 (P : Int),.pointer (some ⟨k13, 0, none⟩),_,_,_,_,_,_,_,_,_,_,_,_,_,_,_,_,_,_,_,_,_,_,_,_,_,_,_,_,_,_,_,.tuple #[.agg (FC (ouF B.V v P f) (.slice a1 m1 c1)), .int .i64 (ouE B.V v P f)],.pointer (some ⟨A.g, 0, none⟩),.pointer (some ⟨A.g, 0, none⟩),.pointer (some ⟨A.g, 1, none⟩),.pointer (some ⟨A.gv + 1, 0, none⟩),.int .i64 v,.int .i64 (P : Int),.agg (FC f (.slice a n c)),.tuple #[.agg (FC (ouF B.V v P f) (.slice a1 m1 c1)), .int .i64 (ouE B.V v P f)],.agg (FC (ouF B.V v P f) (.slice a1 m1 c1)),.int .i64 (ouE B.V v P f),_,_,_,_,_,_,_,_,_], []⟩ _
          refine wpAnyH_take (i := 13) (v := .int .i64 (ouE B.V v P f)) rfl (by kernel_rfl) (by kernel_rfl) (by kernel_rfl) (fun _ _ _ h => h) (Or.inl ⟨by rfl, ?_⟩) hHeld ?_
          · intro W hW; (try dsimp only at hW); go_simp
          change wpAnyH _ _ _ _ _ _ _ ⟨#[.pointer (some ⟨A.g, 0, none⟩),.int .i64 v,_,_,_,_,_,_,_,.pointer (some ⟨kx, 0, none⟩),_,_,.int .i64 (P : Int),.pointer (some ⟨k13, 0, none⟩),.int .i64 (ouE B.V v P f),_,_,_,_,_,_,_,_,_,_,_,_,_,_,_,_,_,_,_,_,_,_,_,_,_,_,_,_,_,_,.tuple #[.agg (FC (ouF B.V v P f) (.slice a1 m1 c1)), .int .i64 (ouE B.V v P f)],.pointer (some ⟨A.g, 0, none⟩),.pointer (some ⟨A.g, 0, none⟩),.pointer (some ⟨A.g, 1, none⟩),.pointer (some ⟨A.gv + 1, 0, none⟩),.int .i64 v,.int .i64 (P : Int),.agg (FC f (.slice a n c)),.tuple #[.agg (FC (ouF B.V v P f) (.slice a1 m1 c1)), .int .i64 (ouE B.V v P f)],.agg (FC (ouF B.V v P f) (.slice a1 m1 c1)),.int .i64 (ouE B.V v P f),_,_,_,_,_,_,_,_,_], []⟩ _
          refine wpAnyH_done (by kernel_rfl) ?_ _
          clear SS
          clear hHeld
          have HL9 : Hid (Rl a n w1 u9 B v u t f k u11 xs) := hide (HL.out.on BW9.out)
          have HXL : Hid (xs.length ≤ k) := hide (by have h := congrArg List.length HL.out.map; rw [List.length_map] at h; have := rly_len B v u t f k; omega)
          have HSZ : Hid (w1.heap.size ≤ u9.heap.size) := hide HL9.out.bel.size
          clear BW9 HL
          obtain ⟨F, hF⟩ : ∃ F, F = ouF B.V v P f := ⟨_, rfl⟩
          obtain ⟨E, hE⟩ : ∃ E, E = ouE B.V v P f := ⟨_, rfl⟩
          rw [← hF] at HY9 HF9
          rw [← hE] at HM
          try rw [← hF]
          try rw [← hE]
          have HFF := hide hF
          clear hF hE
          rcases Bool.eq_false_or_eq_true (E == 0) with h7 | h7
          · have HM2 : Hid (may B v u t f (P : Nat) = true) := hide (by rw [HM.out, h7])
            have R1 := World.ownsRow.alloc HL9.out.row (.cells (OC ⟨⟨(P : Int), F⟩, a1, m1, c1⟩) 57)
            have O1 := ors_one u9 ⟨⟨(P : Int), F⟩, a1, m1, c1⟩
            have BA := below_alloc u9 (.cells (OC ⟨⟨(P : Int), F⟩, a1, m1, c1⟩) 57)
            have hs9 : w1.heap.size ≤ (u9.alloc (.cells (OC ⟨⟨(P : Int), F⟩, a1, m1, c1⟩) 57)).heap.size := Nat.le_trans HSZ.out BA.size
            have RR := hide R1
            have OO := hide O1
            have BB := hide BA
            have HS9 := hide hs9
            clear R1 O1 BA hs9
            have tk1 : True := trivial
            have tk2 : True := trivial
            have tk3 : True := trivial
            have tk4 : True := trivial
            go_wp2_with (first | (have _t := tk1; refine wpl_frame (.tmp 13) rfl HF9.out ?_ ?_ ?_; rfl; rfl; clear tk1) | (have _t := tk2; refine wpl_bO rfl (.tmp 59) (.tmp 60) (P : Int) F a1 m1 c1 rfl rfl rfl ?_; clear tk2) | (have _t := tk3; refine wpl_bsO rfl (.tmp 61) ⟨⟨(P : Int), F⟩, a1, m1, c1⟩ rfl rfl ?_; clear tk3) | (have _t := tk4; at_builtin; refine wpl_oapp rfl rfl (.tmp 58) (.tmp 62) rfl w1.heap.size _ _ xs rfl RR.out _ 1 1 _ rfl OO.out (by have := HXL.out; have := HK.out; have := HN.out; omega) HS9.out ?_; clear tk4))
            intro v2 z2 R2 G2
            have B2 : Below w1.heap.size u9 z2 := (BB.out.mono HSZ.out).grown G2 HS9.out (fun r hr => (RR.out.lt r hr).1)
            have OWN : ∀ b o, a1 = some ⟨b, o, none⟩ → 0 < m1 → a1 = a ∧ 0 < n := fun b o e hp => by
              rcases ha1 with h | h
              · rw [h] at e; cases e
              · have h2 := ouF_len B.V v P f
                have h3 := HY9.out.len
                have h4 := HY.out.len
                rw [HFF.out] at h3
                exact ⟨h, by omega⟩
            have LO : ∀ (a2 : Option Addr) (n2 : Nat), (∀ b o, a2 = some ⟨b, o, none⟩ → 0 < n2 → a2 = a ∧ 0 < n) → ∀ b o, a2 = some ⟨b, o, none⟩ → 0 < n2 → b < w1.heap.size := fun a2 n2 h b o e hp => by
              obtain ⟨h1, h2⟩ := h b o e hp
              exact HY.out.lt b o (by rw [← h1]; exact e) h2
            have Y2 : Byt z2 a1 m1 c1 F.bs := byt_below HY9.out (LO _ _ OWN) B2
            have hx : Rl a n w1 z2 B v u t f (k + 1) v2 (xs ++ [⟨⟨(P : Int), F⟩, a1, m1, c1⟩]) := by
              refine ⟨by rw [List.length_append]; exact R2, ?_, fun x hx => ?_, HL9.out.bel.trans B2, fun x hx => ?_⟩
              · rw [List.map_append, HL9.out.map, rly_yes (by rw [← HPK.out]; exact HM2.out), HFF.out, HPK.out]; rfl
              · rcases List.mem_append.1 hx with hx | hx
                · exact byt_below (HL9.out.byt x hx) (LO _ _ (HL9.out.own x hx)) B2
                · obtain rfl := List.mem_singleton.1 hx
                  exact Y2
              · rcases List.mem_append.1 hx with hx | hx
                · exact HL9.out.own x hx
                · obtain rfl := List.mem_singleton.1 hx
                  exact OWN
            have HX1 := hide hx
            clear R2 G2 B2 hx RR OO BB HS9 Y2 OWN LO
            go_wp2
            go_roundg (B.n - (k + 1))
            case measure => rw [HRK.out]; have := HK.out; omega
            case rel => exact ⟨k + 1, _, by have := HPK.out; omega, rfl, by rw [HPK.out]; first | rfl | go_num, HX1.out⟩
          · have HM2 : Hid (may B v u t f (P : Nat) = false) := hide (by rw [HM.out, h7])
            go_wp2
            go_roundg (B.n - (k + 1))
            case measure => rw [HRK.out]; have := HK.out; omega
            case rel => exact ⟨k + 1, xs, by have := HPK.out; omega, rfl, by rw [HPK.out]; first | rfl | go_num, HL9.out.row, by rw [rly_no (by rw [← HPK.out]; exact HM2.out)]; exact HL9.out.map, HL9.out.byt, HL9.out.bel, HL9.out.own⟩
    · obtain rfl : k = B.n := by have := HK.out; omega
      have p1 : ¬ ((B.n + 1 : Nat) : Int) ≤ (B.n : Int) := by omega
      have p2 : ¬ ((B.n : Int) + 1 ≤ (B.n : Int)) := by omega
      have hrow := HL.out.row
      obtain ⟨ao, cc, rfl, hO⟩ := row_ots HL.out.row HL.out.byt
      have HRW : Hid (∀ b o, ao = some ⟨b, o, none⟩ → w1.heap.size ≤ b) := hide (fun b o e => by
        rcases hrow.2 with ⟨h, _⟩ | ⟨g9, cap9, cur9, h, hb9, _⟩
        · injection h with h1; rw [e] at h1; cases h1
        · injection h with h1; rw [e] at h1; injection Option.some.inj h1 with h2; omega)
      have HO := hide hO
      clear hO hc hrow
      go_wp2
      go_ret
      exact ⟨ao, xs, cc, rfl, HO.out, HL.out.map, (HB0.out.trans (HL.out.bel.mono HB0.out.size)), fun b o e => Nat.le_trans HB0.out.size (HRW.out b o e), HL.out.own⟩
end
end Go.Proofs.YtgpdjfaklcmoiaaGreat
/- Contracts: Reserved of the program and of the document; a way as cells. -/
namespace Go.Proofs.YtgpdjfaklcmoiaaGreat
open Go.RowKit Go.PlainAid

section
attribute [local go_sem] MC0 MC1 MC2 MC3 MC4 MC5
set_option maxRecDepth 100000 in
set_option maxHeartbeats 1000000 in
theorem reservedR (m : Mc) (w : World) (h : Mok m) : Calls Tryz.prog 92 #[.agg (MC m)] w fun e w' => e = .returned (.bool (rsv m)) ∧ Below w.heap.size w w' := by
  have A0 := (box_m w m).at_
  have W0 : Hid (Below w.heap.size w (w.alloc (.cells (MC m) 35))) := hide (below_alloc w _)
  have h0 := num_0 h
  have h1 := num_1 h
  have q := fun w => num38 m w h
  have e1 : (num m).tdiv 16 = num m / 16 := Int.tdiv_eq_ediv_of_nonneg h0
  have e2 : IntKind.u64.wrap (num m / 16) = num m / 16 := by rw [IntKind.wrap_u64]; omega
  have hr : Hid (rsv m = (num m / 16 == 103282638848)) := hide rfl
  generalize rsv m = R at *
  generalize num m = N at *
  clear h
  have tk1 : True := trivial
  go_enter Tryz.func92, Tryz.ntmps92
  go_wp2_with (first | (have _t := tk1; refine wpl_mac (.tmp 1) rfl A0 ?_ ?_ ?_; rfl; rfl; clear tk1))
  refine (q _).mono ?_
  rintro e w1 ⟨rfl, hb⟩
  have HB := hide (belowOn W0.out hb)
  clear hb A0 q
  go_wp2
  go_ret
  exact ⟨ret_bool (by rw [hr.out]), HB.out⟩
theorem and240 (x : Int) (h0 : 0 ≤ x) (h1 : x < 256) : bits .and .u8 x 240 = x / 16 * 16 := by
  have : ∀ k : Fin 256, bits .and .u8 (k.val : Int) 240 = (k.val : Int) / 16 * 16 := by decide +kernel
  have := this ⟨x.toNat, by omega⟩
  rwa [show ((⟨x.toNat, by omega⟩ : Fin 256).val : Int) = x from Int.toNat_of_nonneg h0] at this
def loM (m : Mc) : Mc := { m with f := m.f / 16 * 16 }
def rM : Mc := ⟨1, 128, 194, 0, 0, 0⟩
theorem RMdef : (#[.int .u8 1, .int .u8 128, .int .u8 194, .int .u8 0, .int .u8 0, .int .u8 0] : Array Value) = MC rM := rfl
theorem RM3 : (MC rM).setIfInBounds 3 (.int .u8 0) = MC rM := rfl
theorem RM4 : (MC rM).setIfInBounds 4 (.int .u8 0) = MC rM := rfl
theorem RM5 : (MC rM).setIfInBounds 5 (.int .u8 0) = MC rM := rfl
attribute [local go_sem] RMdef RM3 RM4 RM5
theorem loMdef (m : Mc) : (MC m).setIfInBounds 5 (.int .u8 (m.f / 16 * 16)) = MC (loM m) := rfl
attribute [local go_sem] loMdef
theorem rsv_eq {m : Mc} (h : Mok m) : eqM (loM m) rM = rsv m := by
  obtain ⟨_, _, _, _, _, _, _, _, _, _, _, _⟩ := h
  rw [Bool.eq_iff_iff, eqM_iff]
  unfold rsv
  rw [beq_iff_eq]
  obtain ⟨a, b, c, d, e, f⟩ := m
  simp only [loM, rM, Mc.mk.injEq, num] at *
  omega
set_option maxRecDepth 100000 in
set_option maxHeartbeats 1000000 in
theorem reservedQ (m : Mc) (w : World) (h : Mok m) : Calls Tryz.prog 103 #[.agg (MC m)] w fun e w' => e = .returned (.bool (rsv m)) ∧ Below w.heap.size w w' := by
  have X := box_m w m
  have e1 := and240 m.f h.f0 h.f1
  have HE := hide (rsv_eq h)
  have c5 := X.cell 5 _ rfl
  have f5 := X.free 5 (show 5 < 6 by omega)
  have hq := fun w => eqMac (loM m) rM w
  have A2 := (box_m w (loM m)).at_
  have HB : Hid (Below w.heap.size w (w.alloc (.cells (MC (loM m)) 35))) := hide (below_alloc w _)
  have tk1 : True := trivial
  clear X h
  go_enter Tryz.func103, Tryz.ntmps103
  go_wp2_with (first | (have _t := tk1; refine wpl_mac (.tmp 1) rfl A2 ?_ ?_ ?_; rfl; rfl; clear tk1))
  go_ret
  exact ⟨ret_bool HE.out, HB.out⟩
end
end Go.Proofs.YtgpdjfaklcmoiaaGreat
/- A way as cells; stores of it; results. -/
namespace Go.Proofs.YtgpdjfaklcmoiaaGreat
open Go.RowKit Go.PlainAid

def wcl (c v t : Int) (o : Value) : List Value := [.int .i64 c, .int .i64 v, .int .i64 t, o]
theorem Tryz.size50 : (Tryz.prog.info? 50).map (·.size) = some 4 := by kernel_rfl
theorem wpl_putW {ops : Array Oper} {rest : List Oper} {op : Oper} {a : Act} {w : World} {Q : Exit → Act → World → Prop} {k : Nat} (c v t : Int) (ao : Option Addr) (n m : Nat) (cs0 : List Value) (x y : Operand) (ho : op.op = .store 50 x y) (hb : Box w k cs0) (hl : cs0.length = 4) (hw : Region.wanted op (yielded ops a.tmps) = true) (hx : a.eval x = .pointer (some ⟨k, 0, none⟩)) (hy : a.eval y = .agg #[.int .i64 c, .int .i64 v, .int .i64 t, .slice ao n m])
    (h : ∀ w', Box w' k (wcl c v t (.slice ao n m)) → w.grownBy w' (some k) → wpList Tryz.prog ops Q rest (a.put op.dst undef) w') : wpList Tryz.prog ops Q (op :: rest) a w :=
  wpList_step fun K hK => by
    rw [if_pos hw]
    have ht : w.there k 0 4 := by have := hb.th; rwa [hl] at this
    refine wp_store_mid 50 x y ho k 0 #[.int .i64 c, .int .i64 v, .int .i64 t, .slice ao n m] hx hy ht Tryz.size50 (by simp [Value.oneCell']) (hK _ _ (h _ ?_ (setCells_grown k _ 0 w)))
    exact hb.self (cs' := wcl c v t (.slice ao n m)) (by rw [hl]; rfl)
theorem wpl_wayL {ops : Array Oper} {rest : List Oper} {op : Oper} {a : Act} {w : World} {Q : Exit → Act → World → Prop} {k : Nat} {c v t : Int} {o : Value} (x : Operand) (ho : op.op = .load 50 x) (hA : Box w k (wcl c v t o)) (hw : Region.wanted op (yielded ops a.tmps) = true) (hx : a.eval x = .pointer (some ⟨k, 0, none⟩))
    (h : wpList Tryz.prog ops Q rest (a.put op.dst (.agg #[.int .i64 c, .int .i64 v, .int .i64 t, o])) w) : wpList Tryz.prog ops Q (op :: rest) a w :=
  wpl_load 50 x ho k 0 _ _ hA.at_ Tryz.underlying50 rfl Tryz.size50 hw hx h
theorem res_way {fn : Func} {p : Tmp} (h : fn.results = #[.cell p 50]) {tmps : Array Value} {w : World} {k : Nat} {c v t : Int} {o : Value} (hp : tmps.getD p undef = .pointer (some ⟨k, 0, none⟩)) (hA : Box w k (wcl c v t o)) :
    (results fn tmps).run Tryz.prog w = .ok (.agg #[.int .i64 c, .int .i64 v, .int .i64 t, o]) w := by
  have hl := run_loadVar_mid (P := Tryz.prog) w k 0 50 _ _ hA.at_ Tryz.underlying50 rfl Tryz.size50
  have hp' : tmps[p]?.getD undef = .pointer (some ⟨k, 0, none⟩) := by simpa using hp
  simp only [results, h]
  simp [hp', asAddr, hl, wcl]
theorem Ch.new {O O' : Nat → Prop} {w z z9 : World} {k : Nat} (h : Ch O O' w z) (g : z.grownBy z9 (some k)) (hk : w.heap.size ≤ k) : Ch O O' w z9 :=
  ⟨g.os.trans h.os, g.tape.trans h.tape, g.output.trans h.output, Nat.le_trans h.size g.size, fun i hi ho => (g.block i (Nat.lt_of_lt_of_le hi h.size) (fun e => by have := Option.some.inj e; omega)).trans (h.block i hi ho), h.dom⟩
theorem RB.apart {w z9 : World} {A : RAd} {B : Br} {k : Nat} (H : RB w A B) (g : w.grownBy z9 (some k)) (hk : ¬ Dm A k) : RB z9 A B :=
  H.keep (fun i hi => g.block i (H.lt i hi) (fun e => hk (by have := Option.some.inj e; rw [← this]; exact hi)))
/-- What a way is answered with. -/
def WyP (A : RAd) (a : Option Addr) (n : Nat) (W : Wy) (B' : Br) (w : World) (e : Ending) (w' : World) : Prop :=
  ∃ ao xs cc lf', e = .returned (.agg #[.int .i64 W.c, .int .i64 W.v, .int .i64 W.t, .slice ao xs.length cc]) ∧ Ots w' ao xs.length cc xs ∧ xs.map Ow.o = W.o ∧ RB w' { A with lf := lf' } B' ∧ Ch (Dm A) (Dm { A with lf := lf' }) w w' ∧ (∀ b o, ao = some ⟨b, o, none⟩ → w.heap.size ≤ b ∧ ¬ Dm { A with lf := lf' } b) ∧ (∀ x ∈ xs, ∀ b o, x.a = some ⟨b, o, none⟩ → 0 < x.n → x.a = a ∧ 0 < n)
theorem ots_ch {O O' : Nat → Prop} {w w1 : World} {ao : Option Addr} {n c : Nat} {xs : List Ow} (h : Ots w ao n c xs) (C : Ch O O' w w1) (hr : ∀ b o, ao = some ⟨b, o, none⟩ → ¬ O b) (hx : ∀ x ∈ xs, ∀ b o, x.a = some ⟨b, o, none⟩ → 0 < x.n → ¬ O b) : Ots w1 ao n c xs :=
  ⟨h.len, h.nil, fun j x hj => by
    obtain ⟨b, o, e, r⟩ := h.at_ j x hj
    refine ⟨b, o, e, fun i v hi => ?_⟩
    rw [World.cell?_of_block (a := ⟨b, o + j * 18 + i, none⟩) (C.block b (World.block_lt_of_cell? w _ (r i v hi)) (hr b o e))]
    exact r i v hi, h.le, h.mx, fun x hm =>
    have y := h.byt x hm
    ⟨y.len, y.nil, fun j hj => by
      obtain ⟨b, o, e, hc⟩ := y.cell j hj
      refine ⟨b, o, e, ?_⟩
      rw [World.cell?_of_block (a := ⟨b, o + j, none⟩) (C.block b (World.block_lt_of_cell? w _ hc) (hx x hm b o e (by omega)))]
      exact hc, y.le, y.mx, y.rng⟩⟩
theorem way1 {B : Br} {p : Int} {f : Fd} {t : Int} (h : badW B p f t = true) : wayP B p f t = (⟨1, 0, 0, []⟩, B) := by
  have e : preW B p f t = 1 := by unfold preW; rw [h]; rfl
  unfold wayP; rw [e]; rfl
theorem way2 {B : Br} {p : Int} {f : Fd} {t : Int} (h : badW B p f t = false) (h2 : rsv (mD f) = true) : wayP B p f t = (⟨2, 0, 0, []⟩, B) := by
  have e : preW B p f t = 2 := by unfold preW; rw [h, h2]; rfl
  unfold wayP; rw [e]; rfl
theorem way3 {B : Br} {p : Int} {f : Fd} {t : Int} (h : badW B p f t = false) (h2 : rsv (mD f) = false) (h3 : (sta B p == 0) = true) : wayP B p f t = (⟨3, 0, 0, []⟩, B) := by
  have e : preW B p f t = 3 := by unfold preW; rw [h, h2, h3]; rfl
  unfold wayP; rw [e]; rfl
theorem way4 {B : Br} {p : Int} {f : Fd} {t : Int} (h : badW B p f t = false) (h2 : rsv (mD f) = false) (h3 : (sta B p == 0) = false) (h4 : (inE B.V p f != 0) = true) : wayP B p f t = (⟨4, 0, 0, []⟩, B) := by
  have e : preW B p f t = 4 := by unfold preW; rw [h, h2, h3, h4]; rfl
  unfold wayP; rw [e]; rfl
theorem way5 {B : Br} {p : Int} {f : Fd} {t : Int} (h : badW B p f t = false) (h2 : rsv (mD f) = false) (h3 : (sta B p == 0) = false) (h4 : (inE B.V p f != 0) = false) (h5 : grp (mS f) = true) : wayP B p f t = (⟨5, inV B.V p f, 0, []⟩, B) := by
  have e : preW B p f t = 5 := by unfold preW; rw [h, h2, h3, h4, h5]; rfl
  unfold wayP; rw [e]; rfl
theorem way6 {B : Br} {p : Int} {f : Fd} {t : Int} (h : badW B p f t = false) (h2 : rsv (mD f) = false) (h3 : (sta B p == 0) = false) (h4 : (inE B.V p f != 0) = false) (h5 : grp (mS f) = false) (h6 : (sta B p == 1) = true) : wayP B p f t = (⟨6, inV B.V p f, 0, []⟩, lrn B (inV B.V p f) (mS f) p t) := by
  have e : preW B p f t = 0 := by unfold preW; rw [h, h2, h3, h4, h5]; rfl
  unfold wayP; rw [e, h6]; rfl
theorem way7 {B : Br} {p : Int} {f : Fd} {t : Int} (h : badW B p f t = false) (h2 : rsv (mD f) = false) (h3 : (sta B p == 0) = false) (h4 : (inE B.V p f != 0) = false) (h5 : grp (mS f) = false) (h6 : (sta B p == 1) = false) : wayP B p f t = (outW (lrn B (inV B.V p f) (mS f) p t) (inV B.V p f) p f, lrn B (inV B.V p f) (mS f) p t) := by
  have e : preW B p f t = 0 := by unfold preW; rw [h, h2, h3, h4, h5]; rfl
  unfold wayP; rw [e, h6]; rfl
end Go.Proofs.YtgpdjfaklcmoiaaGreat
/- Contract: way of the document's bridge. -/
namespace Go.Proofs.YtgpdjfaklcmoiaaGreat
open Go.RowKit Go.PlainAid

theorem fcl_dst {w : World} {k : Nat} {f : Fd} {s : Value} (h : Box w k (fcl f s)) : w.rangeAt k 0 (mcl (mD f)) := rangeAt_left (B := scl f ++ [.bool f.tg, .int .i64 f.vl, .int .i64 f.pr, .int .i64 f.ty, s]) h.at_
theorem tgt_no {B : Br} {v : Int} {f : Fd} (h : (fhs B.F.l v (mD f) && !grp (mD f)) = false) : tgtOf B v f = 0 := by unfold tgtOf; rw [h]; rfl
theorem tgt_yes {B : Br} {v : Int} {f : Fd} (h : (fhs B.F.l v (mD f) && !grp (mD f)) = true) : tgtOf B v f = (lk B.F.l v (mD f)).p := by unfold tgtOf; rw [h]; rfl
theorem outW_a {B : Br} {v p : Int} {f : Fd} (h : fhs B.F.l v (mD f) = false) : outW B v p f = if (rly B v p 0 f B.n).isEmpty then ⟨8, v, 0, []⟩ else ⟨0, v, 0, rly B v p 0 f B.n⟩ := by
  have e : tgtOf B v f = 0 := tgt_no (by rw [h]; rfl)
  unfold outW outL
  rw [e, h]
  rfl
theorem outW_b {B : Br} {v p : Int} {f : Fd} (h : fhs B.F.l v (mD f) = true) (g : grp (mD f) = true) : outW B v p f = ⟨8, v, 0, []⟩ := by
  have e : tgtOf B v f = 0 := tgt_no (by rw [h, g]; rfl)
  unfold outW outL
  rw [e, h, g]
  rfl
theorem outW_c1 {B : Br} {v p : Int} {f : Fd} (h : fhs B.F.l v (mD f) = true) (g : grp (mD f) = false) (q : ((lk B.F.l v (mD f)).p == p) = true) : outW B v p f = ⟨7, v, 0, []⟩ := by
  unfold outW
  rw [h, g, q]
  rfl
theorem outW_c2 {B : Br} {v p : Int} {f : Fd} (h : fhs B.F.l v (mD f) = true) (g : grp (mD f) = false) {x : En} (hx : x = lk B.F.l v (mD f)) (q : (x.p == p) = false) (r : 0 < x.p) : outW B v p f = if (rly B v p x.p f B.n).isEmpty then ⟨8, v, x.p, []⟩ else ⟨0, v, x.p, rly B v p x.p f B.n⟩ := by
  have e : tgtOf B v f = x.p := by rw [tgt_yes (by rw [h, g]; rfl), hx]
  unfold outW outL
  rw [e, h, g, ← hx, q, decide_eq_true r]
  rfl
theorem outW_c3 {B : Br} {v p : Int} {f : Fd} (h : fhs B.F.l v (mD f) = true) (g : grp (mD f) = false) {x : En} (hx : x = lk B.F.l v (mD f)) (q : (x.p == p) = false) (r : ¬ 0 < x.p) : outW B v p f = ⟨8, v, x.p, []⟩ := by
  have e : tgtOf B v f = x.p := by rw [tgt_yes (by rw [h, g]; rfl), hx]
  unfold outW outL
  rw [e, h, g, ← hx, q, decide_eq_false r]
  rfl
theorem ots_apart {w z : World} {ao : Option Addr} {n c k : Nat} {xs : List Ow} (O : Ots w ao n c xs) (g : w.grownBy z (some k)) (h1 : ∀ b o, ao = some ⟨b, o, none⟩ → b ≠ k) (h2 : ∀ x ∈ xs, ∀ b o, x.a = some ⟨b, o, none⟩ → 0 < x.n → b ≠ k) : Ots z ao n c xs :=
  ⟨O.len, O.nil, fun j x hj => by
    obtain ⟨b, o, e, r⟩ := O.at_ j x hj
    exact ⟨b, o, e, fun i v hi => g.cell (r i v hi) (fun e2 => h1 b o e (Option.some.inj e2))⟩, O.le, O.mx, fun x hx => (O.byt x hx).kept (h2 x hx) g⟩
theorem below_drew (w : World) : Below w.heap.size w w.drew := ⟨rfl, rfl, rfl, Nat.le_refl _, fun _ _ => rfl⟩
theorem byt_ch {O O' : Nat → Prop} {w w1 : World} {ao : Option Addr} {n c : Nat} {ns : List Int} (h : Byt w ao n c ns) (C : Ch O O' w w1) (hg : ∀ b o, ao = some ⟨b, o, none⟩ → 0 < n → ¬ O b) : Byt w1 ao n c ns :=
  ⟨h.len, h.nil, fun j hj => by
    obtain ⟨b, o, e, hc⟩ := h.cell j hj
    refine ⟨b, o, e, ?_⟩
    rw [World.cell?_of_block (a := ⟨b, o + j, none⟩) (C.block b (World.block_lt_of_cell? w _ hc) (hg b o e (by omega)))]
    exact hc, h.le, h.mx, h.rng⟩
theorem fcl_src {w : World} {k : Nat} {f : Fd} {s : Value} (h : Box w k (fcl f s)) : w.rangeAt k 6 (mcl (mS f)) :=
  rangeAt_left (B := [.bool f.tg, .int .i64 f.vl, .int .i64 f.pr, .int .i64 f.ty, s]) (rangeAt_right (A := dcl f) (q := 6) h.at_ rfl)
set_option maxRecDepth 100000 in
set_option maxHeartbeats 8000000 in
theorem wayR_bad (A : RAd) (B : Br) (p : Int) (f : Fd) (a : Option Addr) (n c : Nat) (t : Int) (w : World) (H : RB w A B) (hY : Byt w a n c f.bs) (hbad : badW B p f t = true) :
    Calls Tryz.prog 63 #[.pointer (some ⟨A.g, 0, none⟩), .int .i64 p, .agg (FC f (.slice a n c)), .int .i64 t] w (WyP A a n (wayP B p f t).1 (wayP B p f t).2 w) := by
  have b0 := below_alloc w (.cells (FC f (.slice a n c)) 38)
  have b1 := below_alloc (w.alloc (.cells (FC f (.slice a n c)) 38)) (.cells (wcl 0 0 0 (.slice none 0 0)).toArray 50)
  have X0 : Box ((w.alloc (.cells (FC f (.slice a n c)) 38)).alloc (.cells (wcl 0 0 0 (.slice none 0 0)).toArray 50)) w.heap.size (fcl f (.slice a n c)) := (Box.new w (fcl f (.slice a n c)) 38).alloc (.cells (wcl 0 0 0 (.slice none 0 0)).toArray 50)
  have K0 := Box.new (w.alloc (.cells (FC f (.slice a n c)) 38)) (wcl 0 0 0 (.slice none 0 0)) 50
  have hsz := World.size_alloc w (.cells (FC f (.slice a n c)) 38)
  rw [hsz] at K0
  have HB := hide (belowOn b0 b1)
  have HX := hide X0
  have K1 : Box ((w.alloc (.cells (FC f (.slice a n c)) 38)).alloc (.cells (wcl 0 0 0 (.slice none 0 0)).toArray 50)) (w.heap.size + 1) (wcl 0 0 0 (.slice none 0 0)) := K0
  have HK := hide K1
  have HR := hide (H.on HB.out)
  have HY := hide (hY.on HB.out)
  have HC := hide (Ch.of_below (O := Dm A) HB.out)
  have HKD : Hid (¬ Dm A (w.heap.size + 1)) := hide (fun h => by have := H.lt _ h; omega)
  have HKW : Hid (w.heap.size ≤ w.heap.size + 1) := hide (Nat.le_succ _)
  have HXD : Hid (¬ Dm A w.heap.size) := hide (fun h => by have := H.lt _ h; omega)
  have HLN := hide hY.len
  have HYK : ∀ b o, a = some ⟨b, o, none⟩ → 0 < n → b ≠ w.heap.size + 1 := fun b o e hn h => by have := hY.lt b o e hn; omega
  clear b0 b1 X0 K0 K1 hsz hY HB
  clear H HYK
  have hW := hide (way1 hbad)
  have hcs : rt f = false ∨ (rt f = true ∧ hasP B.n p = false) ∨ (rt f = true ∧ hasP B.n p = true ∧ t < 0) ∨ (rt f = true ∧ hasP B.n p = true ∧ ¬ t < 0 ∧ 1099511627776 < t) := by
    rcases Bool.eq_false_or_eq_true (rt f) with h1 | h1
    · rcases Bool.eq_false_or_eq_true (hasP B.n p) with h2 | h2
      · have h3 : ¬ (0 ≤ t ∧ t ≤ 1099511627776) := fun h => by
          unfold badW at hbad
          rw [h1, h2, isT_iff.2 h] at hbad
          cases hbad
        by_cases h4 : t < 0
        · exact Or.inr (Or.inr (Or.inl ⟨h1, h2, h4⟩))
        · exact Or.inr (Or.inr (Or.inr ⟨h1, h2, h4, by omega⟩))
      · exact Or.inr (Or.inl ⟨h1, h2⟩)
    · exact Or.inl h1
  clear hbad
  have tk1 : True := trivial
  go_enter Tryz.func63, Tryz.ntmps63
  have hz : ((w.alloc (.cells (FC f (.slice a n c)) 38)).alloc (.cells #[.int .i64 0, .int .i64 0, .int .i64 0, .slice none 0 0] 50)) = ((w.alloc (.cells (FC f (.slice a n c)) 38)).alloc (.cells (wcl 0 0 0 (.slice none 0 0)).toArray 50)) := rfl
  go_wp2_with (first | (have _t := tk1; refine wpl_frame (.tmp 6) rfl HX.out ?_ ?_ ?_; rfl; rfl; clear tk1))
  generalize ((w.alloc (.cells (FC f (.slice a n c)) 38)).alloc (.cells (wcl 0 0 0 (.slice none 0 0)).toArray 50)) = z0 at *
  clear hz
  refine (right35 f a n c HLN.out _).mono ?_
  rintro e z1 ⟨rfl, bb⟩
  replace HR := hide (HR.out.on bb)
  replace HX := hide (HX.out.on bb)
  replace HK := hide (HK.out.on bb)
  replace HY := hide (HY.out.on bb)
  replace HC := hide (HC.out.on bb)
  clear bb
  go_wp2_with fail
  refine (hasR A B p _ HR.out).mono ?_
  rintro e z2 ⟨rfl, rfl⟩
  rcases hcs with h1 | ⟨h1, h2⟩ | ⟨h1, h2, h3⟩ | ⟨h1, h2, h3, h4⟩
  · rw [h1]
    clear h1
    have tkE : True := trivial
    go_wp2_with (first | (have _t := tkE; refine wpl_putW 1 0 0 none 0 0 _ (.tmp 8) (.tmp 36) rfl HK.out rfl ?_ ?_ ?_ ?_; rfl; rfl; rfl; clear tkE; intro z9 K9 G9; have HK9 := hide K9; have HG9 := hide G9; clear K9 G9) | (refine bodyPost_ret (res_way rfl rfl HK9.out) rfl ?_; rw [hW.out]; exact ⟨none, [], 0, A.lf, rfl, Ots.nothing _, rfl, HR.out.apart HG9.out HKD.out, HC.out.new HG9.out HKW.out, fun b o e => (by cases e), fun x hx => (by cases hx)⟩))
  · rw [h1, h2]
    clear h1 h2
    have tkE : True := trivial
    go_wp2_with (first | (have _t := tkE; refine wpl_putW 1 0 0 none 0 0 _ (.tmp 8) (.tmp 36) rfl HK.out rfl ?_ ?_ ?_ ?_; rfl; rfl; rfl; clear tkE; intro z9 K9 G9; have HK9 := hide K9; have HG9 := hide G9; clear K9 G9) | (refine bodyPost_ret (res_way rfl rfl HK9.out) rfl ?_; rw [hW.out]; exact ⟨none, [], 0, A.lf, rfl, Ots.nothing _, rfl, HR.out.apart HG9.out HKD.out, HC.out.new HG9.out HKW.out, fun b o e => (by cases e), fun x hx => (by cases hx)⟩))
  · rw [h1, h2]
    clear h1 h2
    have tkE : True := trivial
    go_wp2_with (first | (have _t := tkE; refine wpl_putW 1 0 0 none 0 0 _ (.tmp 8) (.tmp 36) rfl HK.out rfl ?_ ?_ ?_ ?_; rfl; rfl; rfl; clear tkE; intro z9 K9 G9; have HK9 := hide K9; have HG9 := hide G9; clear K9 G9) | (refine bodyPost_ret (res_way rfl rfl HK9.out) rfl ?_; rw [hW.out]; exact ⟨none, [], 0, A.lf, rfl, Ots.nothing _, rfl, HR.out.apart HG9.out HKD.out, HC.out.new HG9.out HKW.out, fun b o e => (by cases e), fun x hx => (by cases hx)⟩))
  · rw [h1, h2]
    clear h1 h2
    have tkE : True := trivial
    go_wp2_with (first | (have _t := tkE; refine wpl_putW 1 0 0 none 0 0 _ (.tmp 8) (.tmp 36) rfl HK.out rfl ?_ ?_ ?_ ?_; rfl; rfl; rfl; clear tkE; intro z9 K9 G9; have HK9 := hide K9; have HG9 := hide G9; clear K9 G9) | (refine bodyPost_ret (res_way rfl rfl HK9.out) rfl ?_; rw [hW.out]; exact ⟨none, [], 0, A.lf, rfl, Ots.nothing _, rfl, HR.out.apart HG9.out HKD.out, HC.out.new HG9.out HKW.out, fun b o e => (by cases e), fun x hx => (by cases hx)⟩))
end Go.Proofs.YtgpdjfaklcmoiaaGreat
/- Contract: way of the document's bridge, where the frame is right. -/
namespace Go.Proofs.YtgpdjfaklcmoiaaGreat
open Go.RowKit Go.PlainAid

section
attribute [local go_sem] ZE
set_option maxRecDepth 100000 in
set_option maxHeartbeats 16000000 in
theorem wayR_ok (A : RAd) (B : Br) (k : Nat) (f : Fd) (a : Option Addr) (n c : Nat) (t : Int) (w : World) (H : RB w A B) (hY : Byt w a n c f.bs) (hyd : ∀ b o, a = some ⟨b, o, none⟩ → 0 < n → ¬ Dm A b) (hd : Mok (mD f)) (hs : Mok (mS f)) (hls : ∀ x ∈ B.ln, x + 1 < 1000000) (hr : rt f = true) (hp : hasP B.n k = true) (ht : isT t = true) :
    Calls Tryz.prog 63 #[.pointer (some ⟨A.g, 0, none⟩), .int .i64 k, .agg (FC f (.slice a n c)), .int .i64 t] w (WyP A a n (wayP B k f t).1 (wayP B k f t).2 w) := by
  have b0 := below_alloc w (.cells (FC f (.slice a n c)) 38)
  have b1 := below_alloc (w.alloc (.cells (FC f (.slice a n c)) 38)) (.cells (wcl 0 0 0 (.slice none 0 0)).toArray 50)
  have X0 : Box ((w.alloc (.cells (FC f (.slice a n c)) 38)).alloc (.cells (wcl 0 0 0 (.slice none 0 0)).toArray 50)) w.heap.size (fcl f (.slice a n c)) := (Box.new w (fcl f (.slice a n c)) 38).alloc (.cells (wcl 0 0 0 (.slice none 0 0)).toArray 50)
  have K0 := Box.new (w.alloc (.cells (FC f (.slice a n c)) 38)) (wcl 0 0 0 (.slice none 0 0)) 50
  have hsz := World.size_alloc w (.cells (FC f (.slice a n c)) 38)
  rw [hsz] at K0
  have HB := hide (belowOn b0 b1)
  have HX := hide X0
  have K1 : Box ((w.alloc (.cells (FC f (.slice a n c)) 38)).alloc (.cells (wcl 0 0 0 (.slice none 0 0)).toArray 50)) (w.heap.size + 1) (wcl 0 0 0 (.slice none 0 0)) := K0
  have HK := hide K1
  have HR := hide (H.on HB.out)
  have HY := hide (hY.on HB.out)
  have HC := hide (Ch.of_below (O := Dm A) HB.out)
  have HKD : Hid (¬ Dm A (w.heap.size + 1)) := hide (fun h => by have := H.lt _ h; omega)
  have HKW : Hid (w.heap.size ≤ w.heap.size + 1) := hide (Nat.le_succ _)
  have HXD : Hid (¬ Dm A w.heap.size) := hide (fun h => by have := H.lt _ h; omega)
  have HLN := hide hY.len
  have HYK : ∀ b o, a = some ⟨b, o, none⟩ → 0 < n → b ≠ w.heap.size + 1 := fun b o e hn h => by have := hY.lt b o e hn; omega
  clear b0 b1 X0 K0 K1 hsz hY HB
  have hbad : badW B k f t = false := by unfold badW; rw [hr, hp, ht]; rfl
  have HBD := hide hbad
  have t0 : ¬ t < 0 := by have := isT_iff.1 ht; omega
  have t1 : ¬ 1099511627776 < t := by have := isT_iff.1 ht; omega
  have hkp := (hasP_iff _ _).1 hp
  have hk : k < B.st.length := by rw [H.wf.sl]; omega
  have k1 : (0 : Int) ≤ (k : Int) := by omega
  have k2 : (k : Int) < (B.n : Int) + 1 := by omega
  have HST : Hid (sta B k = B.st.getD k 0) := hide (by unfold sta; rw [hp, if_pos rfl, Int.toNat_natCast])
  have HLK := hide hk
  have HMD := hide hd
  have HMS := hide hs
  have HLS := hide hls
  have HYD := hide hyd
  have HY8 := hide HYK
  clear H hbad hkp hk hd hs hls ht hyd HYK
  have tk1 : True := trivial
  go_enter Tryz.func63, Tryz.ntmps63
  have hz : ((w.alloc (.cells (FC f (.slice a n c)) 38)).alloc (.cells #[.int .i64 0, .int .i64 0, .int .i64 0, .slice none 0 0] 50)) = ((w.alloc (.cells (FC f (.slice a n c)) 38)).alloc (.cells (wcl 0 0 0 (.slice none 0 0)).toArray 50)) := rfl
  go_wp2_with (first | (have _t := tk1; refine wpl_frame (.tmp 6) rfl HX.out ?_ ?_ ?_; rfl; rfl; clear tk1))
  generalize ((w.alloc (.cells (FC f (.slice a n c)) 38)).alloc (.cells (wcl 0 0 0 (.slice none 0 0)).toArray 50)) = z0 at *
  clear hz
  refine (right35 f a n c HLN.out _).mono ?_
  rintro e z1 ⟨rfl, bb⟩
  replace HR := hide (HR.out.on bb)
  replace HX := hide (HX.out.on bb)
  replace HK := hide (HK.out.on bb)
  replace HY := hide (HY.out.on bb)
  replace HC := hide (HC.out.on bb)
  clear bb
  go_wp2_with fail
  refine (hasR A B k _ HR.out).mono ?_
  rintro e z2 ⟨rfl, rfl⟩
  rw [hp]
  clear hr hp
  have tk2 : True := trivial
  go_wp2_with (first | (have _t := tk2; refine wpl_mac (.tmp 37) rfl (fcl_dst HX.out) ?_ ?_ ?_; rfl; rfl; clear tk2))
  refine (reservedR (mD f) _ HMD.out).mono ?_
  rintro e z3 ⟨rfl, bb⟩
  replace HR := hide (HR.out.on bb)
  replace HX := hide (HX.out.on bb)
  replace HK := hide (HK.out.on bb)
  replace HY := hide (HY.out.on bb)
  replace HC := hide (HC.out.on bb)
  clear bb
  rcases Bool.eq_false_or_eq_true (rsv (mD f)) with h2 | h2
  · have hW := hide (way2 HBD.out h2)
    rw [h2]
    clear h2
    have tkE : True := trivial
    go_wp2_with (first | (have _t := tkE; refine wpl_putW 2 0 0 none 0 0 _ (.tmp 8) (.tmp 40) rfl HK.out rfl ?_ ?_ ?_ ?_; rfl; rfl; rfl; clear tkE; intro z9 K9 G9; have HK9 := hide K9; have HG9 := hide G9; clear K9 G9) | (refine bodyPost_ret (res_way rfl rfl HK9.out) rfl ?_; rw [hW.out]; exact ⟨none, [], 0, A.lf, rfl, Ots.nothing _, rfl, HR.out.apart HG9.out HKD.out, HC.out.new HG9.out HKW.out, fun b o e => (by cases e), fun x hx => (by cases hx)⟩))
  rw [h2]
  have H2 := hide h2
  clear h2
  have c3 := HR.out.bx.cell 3 _ rfl
  have d0 := HR.out.ss.cell k _ (nsl_get HLK.out)
  obtain ⟨s, hsv⟩ : ∃ s, s = B.st.getD k 0 := ⟨_, rfl⟩
  rw [← hsv] at d0 HST
  have HSV := hide hsv
  clear hsv
  rcases Bool.eq_false_or_eq_true (s == 0) with h3 | h3
  · have hW := hide (way3 HBD.out H2.out (by rw [HST.out]; exact h3))
    have tkE : True := trivial
    go_wp2_with (first | (have _t := tkE; refine wpl_putW 3 0 0 none 0 0 _ (.tmp 8) (.tmp 49) rfl HK.out rfl ?_ ?_ ?_ ?_; rfl; rfl; rfl; clear tkE; intro z9 K9 G9; have HK9 := hide K9; have HG9 := hide G9; clear K9 G9) | (refine bodyPost_ret (res_way rfl rfl HK9.out) rfl ?_; rw [hW.out]; exact ⟨none, [], 0, A.lf, rfl, Ots.nothing _, rfl, HR.out.apart HG9.out HKD.out, HC.out.new HG9.out HKW.out, fun b o e => (by cases e), fun x hx => (by cases hx)⟩))
  have H3 : Hid ((sta B k == 0) = false) := hide (by rw [HST.out]; exact h3)
  go_wp2_with fail
  clear c3 d0 h3
  have bb := below_drew z3
  refine wp_region_held_drew (S := fun w' => w'.cell? ⟨A.g, 1, none⟩ = some (.pointer (some ⟨A.gv + 1, 0, none⟩)) ∧ Box w' w.heap.size (fcl f (.slice a n c))) (by kernel_rfl) ⟨HR.out.bx.cell 1 _ rfl, HX.out.drew⟩ (fun hHeld => ?_)
  replace HR := hide (HR.out.on bb)
  replace HX := hide (HX.out.on bb)
  replace HK := hide (HK.out.on bb)
  replace HY := hide (HY.out.on bb)
  replace HC := hide (HC.out.on bb)
  clear bb
  generalize z3.drew = u0 at *
  refine wpAnyH_take (i := 0) (v := .pointer (some ⟨A.g, 0, none⟩)) rfl (by kernel_rfl) (by kernel_rfl) (by kernel_rfl) (fun _ _ _ h => h) (Or.inl ⟨by rfl, ?_⟩) hHeld ?_
  · intro W hW; (try dsimp only at hW); go_simp
  change wpAnyH _ _ _ _ _ _ _ ⟨#[.pointer (some ⟨A.g, 0, none⟩),.int .i64 (k : Int),_,_,_,_,.pointer (some ⟨w.heap.size, 0, none⟩),_,.pointer (some ⟨w.heap.size + 1, 0, none⟩),_,_,_,_,_,_,_,_,_,_,_,_,_,_,_,_,_,_,_,_,_,_,_,_,_,_,_,_,_,_,_,_,_,_,_,_,_,_,_,_,_,_,.pointer (some ⟨A.g, 0, none⟩),_,_,_,_,_,_,_,_,_,_,_,_,_,_,_,_,_,_,_,_,_,_,_,_,_,_,_,_,_,_,_,_,_,_,_,_,_,_,_,_,_,_,_,_,_,_,_,_,_,_,_,_,_,_,_,_,_,_,_,_,_,_,_,_,_,_,_,_,_,_,_,_,_,_,_,_,_,_,_,_,_], []⟩ _
  refine wpAnyH_take (i := 1) (v := .pointer (some ⟨A.g, 0, none⟩)) rfl (by kernel_rfl) (by kernel_rfl) (by kernel_rfl) (fun _ _ _ h => h) (Or.inl ⟨by rfl, ?_⟩) hHeld ?_
  · intro W hW; (try dsimp only at hW); go_simp
  change wpAnyH _ _ _ _ _ _ _ ⟨#[.pointer (some ⟨A.g, 0, none⟩),.int .i64 (k : Int),_,_,_,_,.pointer (some ⟨w.heap.size, 0, none⟩),_,.pointer (some ⟨w.heap.size + 1, 0, none⟩),_,_,_,_,_,_,_,_,_,_,_,_,_,_,_,_,_,_,_,_,_,_,_,_,_,_,_,_,_,_,_,_,_,_,_,_,_,_,_,_,_,_,.pointer (some ⟨A.g, 0, none⟩),.pointer (some ⟨A.g, 0, none⟩),_,_,_,_,_,_,_,_,_,_,_,_,_,_,_,_,_,_,_,_,_,_,_,_,_,_,_,_,_,_,_,_,_,_,_,_,_,_,_,_,_,_,_,_,_,_,_,_,_,_,_,_,_,_,_,_,_,_,_,_,_,_,_,_,_,_,_,_,_,_,_,_,_,_,_,_,_,_,_,_], []⟩ _
  refine wpAnyH_take (i := 2) (v := .pointer (some ⟨A.g, 1, none⟩)) rfl (by kernel_rfl) (by kernel_rfl) (by kernel_rfl) (fun _ _ _ h => h) (Or.inl ⟨by rfl, ?_⟩) hHeld ?_
  · intro W hW; (try dsimp only at hW); go_simp
  change wpAnyH _ _ _ _ _ _ _ ⟨#[.pointer (some ⟨A.g, 0, none⟩),.int .i64 (k : Int),_,_,_,_,.pointer (some ⟨w.heap.size, 0, none⟩),_,.pointer (some ⟨w.heap.size + 1, 0, none⟩),_,_,_,_,_,_,_,_,_,_,_,_,_,_,_,_,_,_,_,_,_,_,_,_,_,_,_,_,_,_,_,_,_,_,_,_,_,_,_,_,_,_,.pointer (some ⟨A.g, 0, none⟩),.pointer (some ⟨A.g, 0, none⟩),.pointer (some ⟨A.g, 1, none⟩),_,_,_,_,_,_,_,_,_,_,_,_,_,_,_,_,_,_,_,_,_,_,_,_,_,_,_,_,_,_,_,_,_,_,_,_,_,_,_,_,_,_,_,_,_,_,_,_,_,_,_,_,_,_,_,_,_,_,_,_,_,_,_,_,_,_,_,_,_,_,_,_,_,_,_,_,_,_,_], []⟩ _
  refine wpAnyH_take (i := 3) (v := .pointer (some ⟨A.gv + 1, 0, none⟩)) rfl (by kernel_rfl) (by kernel_rfl) (by kernel_rfl) (fun _ _ _ h => h) (Or.inl ⟨by rfl, ?_⟩) hHeld ?_
  · intro W hW; (try dsimp only at hW); have hc := hW.1; clear hW; go_simp
  change wpAnyH _ _ _ _ _ _ _ ⟨#[.pointer (some ⟨A.g, 0, none⟩),.int .i64 (k : Int),_,_,_,_,.pointer (some ⟨w.heap.size, 0, none⟩),_,.pointer (some ⟨w.heap.size + 1, 0, none⟩),_,_,_,_,_,_,_,_,_,_,_,_,_,_,_,_,_,_,_,_,_,_,_,_,_,_,_,_,_,_,_,_,_,_,_,_,_,_,_,_,_,_,.pointer (some ⟨A.g, 0, none⟩),.pointer (some ⟨A.g, 0, none⟩),.pointer (some ⟨A.g, 1, none⟩),.pointer (some ⟨A.gv + 1, 0, none⟩),_,_,_,_,_,_,_,_,_,_,_,_,_,_,_,_,_,_,_,_,_,_,_,_,_,_,_,_,_,_,_,_,_,_,_,_,_,_,_,_,_,_,_,_,_,_,_,_,_,_,_,_,_,_,_,_,_,_,_,_,_,_,_,_,_,_,_,_,_,_,_,_,_,_,_,_,_,_], []⟩ _
  refine wpAnyH_take (i := 4) (v := .int .i64 (k : Int)) rfl (by kernel_rfl) (by kernel_rfl) (by kernel_rfl) (fun _ _ _ h => h) (Or.inl ⟨by rfl, ?_⟩) hHeld ?_
  · intro W hW; (try dsimp only at hW); go_simp
  change wpAnyH _ _ _ _ _ _ _ ⟨#[.pointer (some ⟨A.g, 0, none⟩),.int .i64 (k : Int),_,_,_,_,.pointer (some ⟨w.heap.size, 0, none⟩),_,.pointer (some ⟨w.heap.size + 1, 0, none⟩),_,_,_,_,_,_,_,_,_,_,_,_,_,_,_,_,_,_,_,_,_,_,_,_,_,_,_,_,_,_,_,_,_,_,_,_,_,_,_,_,_,_,.pointer (some ⟨A.g, 0, none⟩),.pointer (some ⟨A.g, 0, none⟩),.pointer (some ⟨A.g, 1, none⟩),.pointer (some ⟨A.gv + 1, 0, none⟩),.int .i64 (k : Int),_,_,_,_,_,_,_,_,_,_,_,_,_,_,_,_,_,_,_,_,_,_,_,_,_,_,_,_,_,_,_,_,_,_,_,_,_,_,_,_,_,_,_,_,_,_,_,_,_,_,_,_,_,_,_,_,_,_,_,_,_,_,_,_,_,_,_,_,_,_,_,_,_,_,_,_,_], []⟩ _
  refine wpAnyH_take (i := 5) (v := .agg (FC f (.slice a n c))) rfl (by kernel_rfl) (by kernel_rfl) (by kernel_rfl) (fun _ _ _ h => h) (yieldsIf_load_mid (by rfl) 38 (.tmp 6) rfl w.heap.size 0 rfl (fcl f (.slice a n c)) _ (fun W hW => hW.2.at_) Tryz.underlying38 rfl Tryz.size38) hHeld ?_
  change wpAnyH _ _ _ _ _ _ _ ⟨#[.pointer (some ⟨A.g, 0, none⟩),.int .i64 (k : Int),_,_,_,_,.pointer (some ⟨w.heap.size, 0, none⟩),_,.pointer (some ⟨w.heap.size + 1, 0, none⟩),_,_,_,_,_,_,_,_,_,_,_,_,_,_,_,_,_,_,_,_,_,_,_,_,_,_,_,_,_,_,_,_,_,_,_,_,_,_,_,_,_,_,.pointer (some ⟨A.g, 0, none⟩),.pointer (some ⟨A.g, 0, none⟩),.pointer (some ⟨A.g, 1, none⟩),.pointer (some ⟨A.gv + 1, 0, none⟩),.int .i64 (k : Int),.agg (FC f (.slice a n c)),_,_,_,_,_,_,_,_,_,_,_,_,_,_,_,_,_,_,_,_,_,_,_,_,_,_,_,_,_,_,_,_,_,_,_,_,_,_,_,_,_,_,_,_,_,_,_,_,_,_,_,_,_,_,_,_,_,_,_,_,_,_,_,_,_,_,_,_,_,_,_,_,_,_,_,_], []⟩ _
  refine wpAnyH_ready (rs := [6]) (by kernel_rfl) (by simp) ?_
  refine AllReadyH.cons rfl (fun K hK => ?_) AllReadyH.nil
  go_simp
  refine (in18 A.gv A.lv B.V k f a n c HLN.out _ HR.out.rv).mono ?_
  rintro e z4 ⟨rfl, bb⟩
  refine hK.out _ _ ⟨(HR.out.on bb).bx.cell 1 _ rfl, HX.out.on bb⟩ (fun hHeld => ?_)
  clear hK K
  replace HR := hide (HR.out.on bb)
  replace HX := hide (HX.out.on bb)
  replace HK := hide (HK.out.on bb)
  replace HY := hide (HY.out.on bb)
  replace HC := hide (HC.out.on bb)
  clear bb
  change wpAnyH _ _ _ _ _ _ _ ⟨#[.pointer (some ⟨A.g, 0, none⟩),.int .i64 (k : Int),_,_,_,_,.pointer (some ⟨w.heap.size, 0, none⟩),_,.pointer (some ⟨w.heap.size + 1, 0, none⟩),_,_,_,_,_,_,_,_,_,_,_,_,_,_,_,_,_,_,_,_,_,_,_,_,_,_,_,_,_,_,_,_,_,_,_,_,_,_,_,_,_,_,.pointer (some ⟨A.g, 0, none⟩),.pointer (some ⟨A.g, 0, none⟩),.pointer (some ⟨A.g, 1, none⟩),.pointer (some ⟨A.gv + 1, 0, none⟩),.int .i64 (k : Int),.agg (FC f (.slice a n c)),.tuple #[.int .i64 (inV B.V k f), .int .i64 (inE B.V k f)],_,_,_,_,_,_,_,_,_,_,_,_,_,_,_,_,_,_,_,_,_,_,_,_,_,_,_,_,_,_,_,_,_,_,_,_,_,_,_,_,_,_,_,_,_,_,_,_,_,_,_,_,_,_,_,_,_,_,_,_,_,_,_,_,_,_,_,_,_,_,_,_,_,_,_], []⟩ _
  refine wpAnyH_take (i := 7) (v := .tuple #[.int .i64 (inV B.V k f), .int .i64 (inE B.V k f)]) rfl (by kernel_rfl) (by kernel_rfl) (by kernel_rfl) (fun _ _ _ h => h) (Or.inl ⟨by rfl, ?_⟩) hHeld ?_
  · intro W hW; (try dsimp only at hW); go_simp
  change wpAnyH _ _ _ _ _ _ _ ⟨#[.pointer (some ⟨A.g, 0, none⟩),.int .i64 (k : Int),_,_,_,_,.pointer (some ⟨w.heap.size, 0, none⟩),_,.pointer (some ⟨w.heap.size + 1, 0, none⟩),_,_,_,_,_,_,_,_,_,_,_,_,_,_,_,_,_,_,_,_,_,_,_,_,_,_,_,_,_,_,_,_,_,_,_,_,_,_,_,_,_,.tuple #[.int .i64 (inV B.V k f), .int .i64 (inE B.V k f)],.pointer (some ⟨A.g, 0, none⟩),.pointer (some ⟨A.g, 0, none⟩),.pointer (some ⟨A.g, 1, none⟩),.pointer (some ⟨A.gv + 1, 0, none⟩),.int .i64 (k : Int),.agg (FC f (.slice a n c)),.tuple #[.int .i64 (inV B.V k f), .int .i64 (inE B.V k f)],_,_,_,_,_,_,_,_,_,_,_,_,_,_,_,_,_,_,_,_,_,_,_,_,_,_,_,_,_,_,_,_,_,_,_,_,_,_,_,_,_,_,_,_,_,_,_,_,_,_,_,_,_,_,_,_,_,_,_,_,_,_,_,_,_,_,_,_,_,_,_,_,_,_,_], []⟩ _
  refine wpAnyH_take (i := 8) (v := .int .i64 (inV B.V k f)) rfl (by kernel_rfl) (by kernel_rfl) (by kernel_rfl) (fun _ _ _ h => h) (Or.inl ⟨by rfl, ?_⟩) hHeld ?_
  · intro W hW; (try dsimp only at hW); go_simp
  change wpAnyH _ _ _ _ _ _ _ ⟨#[.pointer (some ⟨A.g, 0, none⟩),.int .i64 (k : Int),_,_,_,_,.pointer (some ⟨w.heap.size, 0, none⟩),_,.pointer (some ⟨w.heap.size + 1, 0, none⟩),_,_,_,_,_,_,_,_,_,_,_,_,_,_,_,_,_,_,_,_,_,_,_,_,_,_,_,_,_,_,_,_,_,_,_,_,_,_,_,_,_,.tuple #[.int .i64 (inV B.V k f), .int .i64 (inE B.V k f)],.pointer (some ⟨A.g, 0, none⟩),.pointer (some ⟨A.g, 0, none⟩),.pointer (some ⟨A.g, 1, none⟩),.pointer (some ⟨A.gv + 1, 0, none⟩),.int .i64 (k : Int),.agg (FC f (.slice a n c)),.tuple #[.int .i64 (inV B.V k f), .int .i64 (inE B.V k f)],.int .i64 (inV B.V k f),_,_,_,_,_,_,_,_,_,_,_,_,_,_,_,_,_,_,_,_,_,_,_,_,_,_,_,_,_,_,_,_,_,_,_,_,_,_,_,_,_,_,_,_,_,_,_,_,_,_,_,_,_,_,_,_,_,_,_,_,_,_,_,_,_,_,_,_,_,_,_,_,_,_], []⟩ _
  refine wpAnyH_take (i := 9) (v := .int .i64 (inE B.V k f)) rfl (by kernel_rfl) (by kernel_rfl) (by kernel_rfl) (fun _ _ _ h => h) (Or.inl ⟨by rfl, ?_⟩) hHeld ?_
  · intro W hW; (try dsimp only at hW); go_simp
  change wpAnyH _ _ _ _ _ _ _ ⟨#[.pointer (some ⟨A.g, 0, none⟩),.int .i64 (k : Int),_,_,_,_,.pointer (some ⟨w.heap.size, 0, none⟩),_,.pointer (some ⟨w.heap.size + 1, 0, none⟩),_,_,_,_,_,_,_,_,_,_,_,_,_,_,_,_,_,_,_,_,_,_,_,_,_,_,_,_,_,_,_,_,_,_,_,_,_,_,_,_,_,.tuple #[.int .i64 (inV B.V k f), .int .i64 (inE B.V k f)],.pointer (some ⟨A.g, 0, none⟩),.pointer (some ⟨A.g, 0, none⟩),.pointer (some ⟨A.g, 1, none⟩),.pointer (some ⟨A.gv + 1, 0, none⟩),.int .i64 (k : Int),.agg (FC f (.slice a n c)),.tuple #[.int .i64 (inV B.V k f), .int .i64 (inE B.V k f)],.int .i64 (inV B.V k f),.int .i64 (inE B.V k f),_,_,_,_,_,_,_,_,_,_,_,_,_,_,_,_,_,_,_,_,_,_,_,_,_,_,_,_,_,_,_,_,_,_,_,_,_,_,_,_,_,_,_,_,_,_,_,_,_,_,_,_,_,_,_,_,_,_,_,_,_,_,_,_,_,_,_,_,_,_,_,_,_], []⟩ _
  refine wpAnyH_take (i := 10) (v := .int .i64 (inV B.V k f)) rfl (by kernel_rfl) (by kernel_rfl) (by kernel_rfl) (fun _ _ _ h => h) (Or.inl ⟨by rfl, ?_⟩) hHeld ?_
  · intro W hW; (try dsimp only at hW); go_simp
  change wpAnyH _ _ _ _ _ _ _ ⟨#[.pointer (some ⟨A.g, 0, none⟩),.int .i64 (k : Int),_,_,_,_,.pointer (some ⟨w.heap.size, 0, none⟩),_,.pointer (some ⟨w.heap.size + 1, 0, none⟩),_,_,.int .i64 (inV B.V k f),_,_,_,_,_,_,_,_,_,_,_,_,_,_,_,_,_,_,_,_,_,_,_,_,_,_,_,_,_,_,_,_,_,_,_,_,_,_,.tuple #[.int .i64 (inV B.V k f), .int .i64 (inE B.V k f)],.pointer (some ⟨A.g, 0, none⟩),.pointer (some ⟨A.g, 0, none⟩),.pointer (some ⟨A.g, 1, none⟩),.pointer (some ⟨A.gv + 1, 0, none⟩),.int .i64 (k : Int),.agg (FC f (.slice a n c)),.tuple #[.int .i64 (inV B.V k f), .int .i64 (inE B.V k f)],.int .i64 (inV B.V k f),.int .i64 (inE B.V k f),_,_,_,_,_,_,_,_,_,_,_,_,_,_,_,_,_,_,_,_,_,_,_,_,_,_,_,_,_,_,_,_,_,_,_,_,_,_,_,_,_,_,_,_,_,_,_,_,_,_,_,_,_,_,_,_,_,_,_,_,_,_,_,_,_,_,_,_,_,_,_,_,_], []⟩ _
  refine wpAnyH_take (i := 11) (v := .int .i64 (inE B.V k f)) rfl (by kernel_rfl) (by kernel_rfl) (by kernel_rfl) (fun _ _ _ h => h) (Or.inl ⟨by rfl, ?_⟩) hHeld ?_
  · intro W hW; (try dsimp only at hW); go_simp
  change wpAnyH _ _ _ _ _ _ _ ⟨#[.pointer (some ⟨A.g, 0, none⟩),.int .i64 (k : Int),_,_,_,_,.pointer (some ⟨w.heap.size, 0, none⟩),_,.pointer (some ⟨w.heap.size + 1, 0, none⟩),_,_,.int .i64 (inV B.V k f),.int .i64 (inE B.V k f),_,_,_,_,_,_,_,_,_,_,_,_,_,_,_,_,_,_,_,_,_,_,_,_,_,_,_,_,_,_,_,_,_,_,_,_,_,.tuple #[.int .i64 (inV B.V k f), .int .i64 (inE B.V k f)],.pointer (some ⟨A.g, 0, none⟩),.pointer (some ⟨A.g, 0, none⟩),.pointer (some ⟨A.g, 1, none⟩),.pointer (some ⟨A.gv + 1, 0, none⟩),.int .i64 (k : Int),.agg (FC f (.slice a n c)),.tuple #[.int .i64 (inV B.V k f), .int .i64 (inE B.V k f)],.int .i64 (inV B.V k f),.int .i64 (inE B.V k f),_,_,_,_,_,_,_,_,_,_,_,_,_,_,_,_,_,_,_,_,_,_,_,_,_,_,_,_,_,_,_,_,_,_,_,_,_,_,_,_,_,_,_,_,_,_,_,_,_,_,_,_,_,_,_,_,_,_,_,_,_,_,_,_,_,_,_,_,_,_,_,_,_], []⟩ _
  refine wpAnyH_done (by kernel_rfl) ?_ _
  rcases Bool.eq_false_or_eq_true (inE B.V k f != 0) with h4 | h4
  · have hW := hide (way4 HBD.out H2.out H3.out h4)
    have tkE : True := trivial
    go_wp2_with (first | (have _t := tkE; refine wpl_putW 4 0 0 none 0 0 _ (.tmp 8) (.tmp 62) rfl HK.out rfl ?_ ?_ ?_ ?_; rfl; rfl; rfl; clear tkE; intro z9 K9 G9; have HK9 := hide K9; have HG9 := hide G9; clear K9 G9) | (refine bodyPost_ret (res_way rfl rfl HK9.out) rfl ?_; rw [hW.out]; exact ⟨none, [], 0, A.lf, rfl, Ots.nothing _, rfl, HR.out.apart HG9.out HKD.out, HC.out.new HG9.out HKW.out, fun b o e => (by cases e), fun x hx => (by cases hx)⟩))
  have H4 := hide h4
  have tk3 : True := trivial
  go_wp2_with (first | (have _t := tk3; refine wpl_mac (.tmp 63) rfl (fcl_src HX.out) ?_ ?_ ?_; rfl; rfl; clear tk3))
  clear h4
  refine (group22 (mS f) _ HMS.out).mono ?_
  rintro e z5 ⟨rfl, bb⟩
  replace HR := hide (HR.out.on bb)
  replace HX := hide (HX.out.on bb)
  replace HK := hide (HK.out.on bb)
  replace HY := hide (HY.out.on bb)
  replace HC := hide (HC.out.on bb)
  clear bb
  rcases Bool.eq_false_or_eq_true (grp (mS f)) with h5 | h5
  · have hW := hide (way5 HBD.out H2.out H3.out H4.out h5)
    rw [h5]
    clear h5
    have tkE : True := trivial
    go_wp2_with (first | (have _t := tkE; refine wpl_putW 5 (inV B.V k f) 0 none 0 0 _ (.tmp 8) (.tmp 67) rfl HK.out rfl ?_ ?_ ?_ ?_; rfl; rfl; rfl; clear tkE; intro z9 K9 G9; have HK9 := hide K9; have HG9 := hide G9; clear K9 G9) | (refine bodyPost_ret (res_way rfl rfl HK9.out) rfl ?_; rw [hW.out]; exact ⟨none, [], 0, A.lf, rfl, Ots.nothing _, rfl, HR.out.apart HG9.out HKD.out, HC.out.new HG9.out HKW.out, fun b o e => (by cases e), fun x hx => (by cases hx)⟩))
  rw [h5]
  have H5 := hide h5
  clear h5
  have tk4 : True := trivial
  go_wp2_with (first | (have _t := tk4; refine wpl_mac (.tmp 70) rfl (fcl_src HX.out) ?_ ?_ ?_; rfl; rfl; clear tk4))
  refine (learnR A B (inV B.V k f) (mS f) k t _ HMS.out HR.out HLS.out).mono ?_
  rintro e z6 ⟨rfl, lf', R1, C1⟩
  have HLX := hide HX.out.lt
  have HLK8 := hide HK.out.lt
  replace HX := hide (HX.out.block (C1.block _ HLX.out HXD.out))
  replace HK := hide (HK.out.block (C1.block _ HLK8.out HKD.out))
  have HLY := hide HY.out.lt
  replace HY := hide (byt_ch HY.out C1 HYD.out)
  replace HC := hide (HC.out.trans C1)
  have HKD1 : Hid (¬ Dm { A with lf := lf' } (w.heap.size + 1)) := hide (fun h => by rcases C1.dom _ h with h | h; exact HKD.out h; have := HLK8.out; omega)
  have HXD1 : Hid (¬ Dm { A with lf := lf' } w.heap.size) := hide (fun h => by rcases C1.dom _ h with h | h; exact HXD.out h; have := HLX.out; omega)
  replace HYD : Hid (∀ b o, a = some ⟨b, o, none⟩ → 0 < n → ¬ Dm { A with lf := lf' } b) := hide (fun b o e hn h => by rcases C1.dom _ h with h | h; exact HYD.out b o e hn h; have := HLY.out b o e hn; omega)
  replace HR := hide R1
  replace HKD := HKD1
  replace HXD := HXD1
  clear R1 C1 HKD1 HXD1 HLX HLK8 HLY
  obtain ⟨B1, hB1⟩ : ∃ B1, B1 = lrn B (inV B.V k f) (mS f) k t := ⟨_, rfl⟩
  have HB1 := hide hB1
  have hst1 : B1.st = B.st := by rw [hB1]; rfl
  rw [← hB1] at HR
  clear hB1
  have c3 := HR.out.bx.cell 3 _ rfl
  have hn1 : B1.n = B.n := by rw [HB1.out]; rfl
  rw [hn1] at c3
  have d0 := HR.out.ss.cell k _ (nsl_get (by rw [hst1]; exact HLK.out))
  rw [hst1, ← HSV.out] at d0
  rcases Bool.eq_false_or_eq_true (s == 1) with h6 | h6
  · have hW := hide (way6 HBD.out H2.out H3.out H4.out H5.out (by rw [HST.out]; exact h6))
    rw [← HB1.out] at hW
    have tkE : True := trivial
    go_wp2_with (first | (have _t := tkE; refine wpl_putW 6 (inV B.V k f) 0 none 0 0 _ (.tmp 8) (.tmp 84) rfl HK.out rfl ?_ ?_ ?_ ?_; rfl; rfl; rfl; clear tkE; intro z9 K9 G9; have HK9 := hide K9; have HG9 := hide G9; clear K9 G9) | (refine bodyPost_ret (res_way rfl rfl HK9.out) rfl ?_; rw [hW.out]; exact ⟨none, [], 0, lf', rfl, Ots.nothing _, rfl, HR.out.apart HG9.out HKD.out, HC.out.new HG9.out HKW.out, fun b o e => (by cases e), fun x hx => (by cases hx)⟩))
  have hW := hide (way7 HBD.out H2.out H3.out H4.out H5.out (by rw [HST.out]; exact h6))
  rw [← HB1.out] at hW
  have SS : Hid (∀ z : World, Below z6.heap.size z6 z → z.cell? ⟨A.g, 2, none⟩ = some (.pointer (some ⟨A.gf, 0, none⟩)) ∧ Box z w.heap.size (fcl f (.slice a n c))) := hide (fun z b => ⟨(HR.out.on b).bx.cell 2 _ rfl, HX.out.on b⟩)
  have BW : Hid (Below z6.heap.size z6 z6.drew) := hide (below_drew z6)
  obtain ⟨x, hx⟩ : ∃ x, x = lk B1.F.l (inV B.V k f) (mD f) := ⟨_, rfl⟩
  obtain ⟨is, his⟩ : ∃ is, is = fhs B1.F.l (inV B.V k f) (mD f) := ⟨_, rfl⟩
  have HXX := hide hx
  have HIS := hide his
  clear hx his
  go_upto_region 18 with fail
  clear c3 d0 h6
  go_cut [14, 15] from 16 (fun s15 u15 w' => Below z6.heap.size z6 w' ∧ u15 = .bool is ∧ ∃ k14, s15 = .pointer (some ⟨k14, 0, none⟩) ∧ Box w' k14 (ecl x))
  case first =>
    go_wp2_with fail
    refine wp_region_held_drew (S := fun w' => w'.cell? ⟨A.g, 2, none⟩ = some (.pointer (some ⟨A.gf, 0, none⟩)) ∧ Box w' w.heap.size (fcl f (.slice a n c))) (by kernel_rfl) (SS.out _ BW.out) (fun hHeld => ?_)
    generalize z6.drew = y0 at *
    refine wpAnyH_take (i := 0) (v := .pointer (some ⟨A.g, 0, none⟩)) rfl (by kernel_rfl) (by kernel_rfl) (by kernel_rfl) (fun _ _ _ h => h) (Or.inl ⟨by rfl, ?_⟩) hHeld ?_
    · intro W hW; (try dsimp only at hW); go_simp
    change wpAnyH _ _ _ _ _ _ _ ⟨#[.pointer (some ⟨A.g, 0, none⟩),.int .i64 (k : Int),_,_,_,_,.pointer (some ⟨w.heap.size, 0, none⟩),_,.pointer (some ⟨w.heap.size + 1, 0, none⟩),_,_,.int .i64 (inV B.V k f),_,_,_,_,_,_,_,_,_,_,_,_,_,_,_,_,_,_,_,_,_,_,_,_,_,_,_,_,_,_,_,_,_,_,_,_,_,_,_,_,_,_,_,_,_,_,_,_,_,_,_,_,_,_,_,_,_,_,_,_,_,_,_,_,_,_,_,_,_,_,_,_,_,_,.pointer (some ⟨A.g, 0, none⟩),_,_,_,_,_,_,_,_,_,_,_,_,_,_,_,_,_,_,_,_,_,_,_,_,_,_,_,_,_,_,_,_,_,_,_,_,_,_,_,_,_,_,_,_,_,_], []⟩ _
    refine wpAnyH_take (i := 1) (v := .pointer (some ⟨A.g, 0, none⟩)) rfl (by kernel_rfl) (by kernel_rfl) (by kernel_rfl) (fun _ _ _ h => h) (Or.inl ⟨by rfl, ?_⟩) hHeld ?_
    · intro W hW; (try dsimp only at hW); go_simp
    change wpAnyH _ _ _ _ _ _ _ ⟨#[.pointer (some ⟨A.g, 0, none⟩),.int .i64 (k : Int),_,_,_,_,.pointer (some ⟨w.heap.size, 0, none⟩),_,.pointer (some ⟨w.heap.size + 1, 0, none⟩),_,_,.int .i64 (inV B.V k f),_,_,_,_,_,_,_,_,_,_,_,_,_,_,_,_,_,_,_,_,_,_,_,_,_,_,_,_,_,_,_,_,_,_,_,_,_,_,_,_,_,_,_,_,_,_,_,_,_,_,_,_,_,_,_,_,_,_,_,_,_,_,_,_,_,_,_,_,_,_,_,_,_,_,.pointer (some ⟨A.g, 0, none⟩),.pointer (some ⟨A.g, 0, none⟩),_,_,_,_,_,_,_,_,_,_,_,_,_,_,_,_,_,_,_,_,_,_,_,_,_,_,_,_,_,_,_,_,_,_,_,_,_,_,_,_,_,_,_,_,_], []⟩ _
    refine wpAnyH_take (i := 2) (v := .pointer (some ⟨A.g, 2, none⟩)) rfl (by kernel_rfl) (by kernel_rfl) (by kernel_rfl) (fun _ _ _ h => h) (Or.inl ⟨by rfl, ?_⟩) hHeld ?_
    · intro W hW; (try dsimp only at hW); go_simp
    change wpAnyH _ _ _ _ _ _ _ ⟨#[.pointer (some ⟨A.g, 0, none⟩),.int .i64 (k : Int),_,_,_,_,.pointer (some ⟨w.heap.size, 0, none⟩),_,.pointer (some ⟨w.heap.size + 1, 0, none⟩),_,_,.int .i64 (inV B.V k f),_,_,_,_,_,_,_,_,_,_,_,_,_,_,_,_,_,_,_,_,_,_,_,_,_,_,_,_,_,_,_,_,_,_,_,_,_,_,_,_,_,_,_,_,_,_,_,_,_,_,_,_,_,_,_,_,_,_,_,_,_,_,_,_,_,_,_,_,_,_,_,_,_,_,.pointer (some ⟨A.g, 0, none⟩),.pointer (some ⟨A.g, 0, none⟩),.pointer (some ⟨A.g, 2, none⟩),_,_,_,_,_,_,_,_,_,_,_,_,_,_,_,_,_,_,_,_,_,_,_,_,_,_,_,_,_,_,_,_,_,_,_,_,_,_,_,_,_,_,_,_], []⟩ _
    refine wpAnyH_take (i := 3) (v := .pointer (some ⟨A.gf, 0, none⟩)) rfl (by kernel_rfl) (by kernel_rfl) (by kernel_rfl) (fun _ _ _ h => h) (Or.inl ⟨by rfl, ?_⟩) hHeld ?_
    · intro W hW; (try dsimp only at hW); have hc := hW.1; clear hW; go_simp
    change wpAnyH _ _ _ _ _ _ _ ⟨#[.pointer (some ⟨A.g, 0, none⟩),.int .i64 (k : Int),_,_,_,_,.pointer (some ⟨w.heap.size, 0, none⟩),_,.pointer (some ⟨w.heap.size + 1, 0, none⟩),_,_,.int .i64 (inV B.V k f),_,_,_,_,_,_,_,_,_,_,_,_,_,_,_,_,_,_,_,_,_,_,_,_,_,_,_,_,_,_,_,_,_,_,_,_,_,_,_,_,_,_,_,_,_,_,_,_,_,_,_,_,_,_,_,_,_,_,_,_,_,_,_,_,_,_,_,_,_,_,_,_,_,_,.pointer (some ⟨A.g, 0, none⟩),.pointer (some ⟨A.g, 0, none⟩),.pointer (some ⟨A.g, 2, none⟩),.pointer (some ⟨A.gf, 0, none⟩),_,_,_,_,_,_,_,_,_,_,_,_,_,_,_,_,_,_,_,_,_,_,_,_,_,_,_,_,_,_,_,_,_,_,_,_,_,_,_,_,_,_,_], []⟩ _
    refine wpAnyH_take (i := 4) (v := .int .i64 (inV B.V k f)) rfl (by kernel_rfl) (by kernel_rfl) (by kernel_rfl) (fun _ _ _ h => h) (Or.inl ⟨by rfl, ?_⟩) hHeld ?_
    · intro W hW; (try dsimp only at hW); go_simp
    change wpAnyH _ _ _ _ _ _ _ ⟨#[.pointer (some ⟨A.g, 0, none⟩),.int .i64 (k : Int),_,_,_,_,.pointer (some ⟨w.heap.size, 0, none⟩),_,.pointer (some ⟨w.heap.size + 1, 0, none⟩),_,_,.int .i64 (inV B.V k f),_,_,_,_,_,_,_,_,_,_,_,_,_,_,_,_,_,_,_,_,_,_,_,_,_,_,_,_,_,_,_,_,_,_,_,_,_,_,_,_,_,_,_,_,_,_,_,_,_,_,_,_,_,_,_,_,_,_,_,_,_,_,_,_,_,_,_,_,_,_,_,_,_,_,.pointer (some ⟨A.g, 0, none⟩),.pointer (some ⟨A.g, 0, none⟩),.pointer (some ⟨A.g, 2, none⟩),.pointer (some ⟨A.gf, 0, none⟩),.int .i64 (inV B.V k f),_,_,_,_,_,_,_,_,_,_,_,_,_,_,_,_,_,_,_,_,_,_,_,_,_,_,_,_,_,_,_,_,_,_,_,_,_,_,_,_,_,_], []⟩ _
    refine wpAnyH_take (i := 5) (v := .pointer (some ⟨w.heap.size, 0, none⟩)) rfl (by kernel_rfl) (by kernel_rfl) (by kernel_rfl) (fun _ _ _ h => h) (Or.inl ⟨by rfl, ?_⟩) hHeld ?_
    · intro W hW; (try dsimp only at hW); go_simp
    change wpAnyH _ _ _ _ _ _ _ ⟨#[.pointer (some ⟨A.g, 0, none⟩),.int .i64 (k : Int),_,_,_,_,.pointer (some ⟨w.heap.size, 0, none⟩),_,.pointer (some ⟨w.heap.size + 1, 0, none⟩),_,_,.int .i64 (inV B.V k f),_,_,_,_,_,_,_,_,_,_,_,_,_,_,_,_,_,_,_,_,_,_,_,_,_,_,_,_,_,_,_,_,_,_,_,_,_,_,_,_,_,_,_,_,_,_,_,_,_,_,_,_,_,_,_,_,_,_,_,_,_,_,_,_,_,_,_,_,_,_,_,_,_,_,.pointer (some ⟨A.g, 0, none⟩),.pointer (some ⟨A.g, 0, none⟩),.pointer (some ⟨A.g, 2, none⟩),.pointer (some ⟨A.gf, 0, none⟩),.int .i64 (inV B.V k f),.pointer (some ⟨w.heap.size, 0, none⟩),_,_,_,_,_,_,_,_,_,_,_,_,_,_,_,_,_,_,_,_,_,_,_,_,_,_,_,_,_,_,_,_,_,_,_,_,_,_,_,_,_], []⟩ _
    refine wpAnyH_take (i := 6) (v := .agg (MC (mD f))) rfl (by kernel_rfl) (by kernel_rfl) (by kernel_rfl) (fun _ _ _ h => h) (yieldsIf_load_mid (by rfl) 35 (.tmp 91) rfl w.heap.size 0 rfl (mcl (mD f)) _ (fun W hW => fcl_dst hW.2) Tryz.underlying35 rfl Tryz.size35) hHeld ?_
    change wpAnyH _ _ _ _ _ _ _ ⟨#[.pointer (some ⟨A.g, 0, none⟩),.int .i64 (k : Int),_,_,_,_,.pointer (some ⟨w.heap.size, 0, none⟩),_,.pointer (some ⟨w.heap.size + 1, 0, none⟩),_,_,.int .i64 (inV B.V k f),_,_,_,_,_,_,_,_,_,_,_,_,_,_,_,_,_,_,_,_,_,_,_,_,_,_,_,_,_,_,_,_,_,_,_,_,_,_,_,_,_,_,_,_,_,_,_,_,_,_,_,_,_,_,_,_,_,_,_,_,_,_,_,_,_,_,_,_,_,_,_,_,_,_,.pointer (some ⟨A.g, 0, none⟩),.pointer (some ⟨A.g, 0, none⟩),.pointer (some ⟨A.g, 2, none⟩),.pointer (some ⟨A.gf, 0, none⟩),.int .i64 (inV B.V k f),.pointer (some ⟨w.heap.size, 0, none⟩),.agg (MC (mD f)),_,_,_,_,_,_,_,_,_,_,_,_,_,_,_,_,_,_,_,_,_,_,_,_,_,_,_,_,_,_,_,_,_,_,_,_,_,_,_,_], []⟩ _
    refine wpAnyH_ready (rs := [7, 11]) (by kernel_rfl) (by simp) ?_
    refine AllReadyH.cons rfl (fun K hK => ?_) (AllReadyH.cons rfl (fun K hK => ?_) AllReadyH.nil)
    · skip
      go_simp
      refine (look12 A.gf lf' B1.F (inV B.V k f) (mD f) _ (HR.out.on BW.out).rf).mono ?_
      rw [← HXX.out, ← HIS.out]
      rintro e y1 ⟨rfl, b1⟩
      replace BW := hide (belowOn BW.out b1)
      refine hK.out _ _ (SS.out _ BW.out) (fun hHeld => ?_)
      clear hK K b1
      change wpAnyH _ _ _ _ _ _ _ ⟨#[.pointer (some ⟨A.g, 0, none⟩),.int .i64 (k : Int),_,_,_,_,.pointer (some ⟨w.heap.size, 0, none⟩),_,.pointer (some ⟨w.heap.size + 1, 0, none⟩),_,_,.int .i64 (inV B.V k f),_,_,_,_,_,_,_,_,_,_,_,_,_,_,_,_,_,_,_,_,_,_,_,_,_,_,_,_,_,_,_,_,_,_,_,_,_,_,_,_,_,_,_,_,_,_,_,_,_,_,_,_,_,_,_,_,_,_,_,_,_,_,_,_,_,_,_,_,_,_,_,_,_,_,.pointer (some ⟨A.g, 0, none⟩),.pointer (some ⟨A.g, 0, none⟩),.pointer (some ⟨A.g, 2, none⟩),.pointer (some ⟨A.gf, 0, none⟩),.int .i64 (inV B.V k f),.pointer (some ⟨w.heap.size, 0, none⟩),.agg (MC (mD f)),.tuple #[.agg (EC x), .bool is],_,_,_,_,_,_,_,_,_,_,_,_,_,_,_,_,_,_,_,_,_,_,_,_,_,_,_,_,_,_,_,_,_,_,_,_,_,_,_], []⟩ _
      refine wpAnyH_take (i := 8) (v := .tuple #[.agg (EC x), .bool is]) rfl (by kernel_rfl) (by kernel_rfl) (by kernel_rfl) (fun _ _ _ h => h) (Or.inl ⟨by rfl, ?_⟩) hHeld ?_
      · intro W hW; (try dsimp only at hW); go_simp
      change wpAnyH _ _ _ _ _ _ _ ⟨#[.pointer (some ⟨A.g, 0, none⟩),.int .i64 (k : Int),_,_,_,_,.pointer (some ⟨w.heap.size, 0, none⟩),_,.pointer (some ⟨w.heap.size + 1, 0, none⟩),_,_,.int .i64 (inV B.V k f),_,_,_,_,_,_,_,_,_,_,_,_,_,_,_,_,_,_,_,_,_,_,_,_,_,_,_,_,_,_,_,_,_,_,_,_,_,_,_,_,_,_,_,_,_,_,_,_,_,_,_,_,_,_,_,_,_,_,_,_,_,_,_,_,_,_,_,_,_,_,_,_,_,.tuple #[.agg (EC x), .bool is],.pointer (some ⟨A.g, 0, none⟩),.pointer (some ⟨A.g, 0, none⟩),.pointer (some ⟨A.g, 2, none⟩),.pointer (some ⟨A.gf, 0, none⟩),.int .i64 (inV B.V k f),.pointer (some ⟨w.heap.size, 0, none⟩),.agg (MC (mD f)),.tuple #[.agg (EC x), .bool is],_,_,_,_,_,_,_,_,_,_,_,_,_,_,_,_,_,_,_,_,_,_,_,_,_,_,_,_,_,_,_,_,_,_,_,_,_,_,_], []⟩ _
      refine wpAnyH_take (i := 9) (v := .agg (EC x)) rfl (by kernel_rfl) (by kernel_rfl) (by kernel_rfl) (fun _ _ _ h => h) (Or.inl ⟨by rfl, ?_⟩) hHeld ?_
      · intro W hW; (try dsimp only at hW); go_simp
      change wpAnyH _ _ _ _ _ _ _ ⟨#[.pointer (some ⟨A.g, 0, none⟩),.int .i64 (k : Int),_,_,_,_,.pointer (some ⟨w.heap.size, 0, none⟩),_,.pointer (some ⟨w.heap.size + 1, 0, none⟩),_,_,.int .i64 (inV B.V k f),_,_,_,_,_,_,_,_,_,_,_,_,_,_,_,_,_,_,_,_,_,_,_,_,_,_,_,_,_,_,_,_,_,_,_,_,_,_,_,_,_,_,_,_,_,_,_,_,_,_,_,_,_,_,_,_,_,_,_,_,_,_,_,_,_,_,_,_,_,_,_,_,_,.tuple #[.agg (EC x), .bool is],.pointer (some ⟨A.g, 0, none⟩),.pointer (some ⟨A.g, 0, none⟩),.pointer (some ⟨A.g, 2, none⟩),.pointer (some ⟨A.gf, 0, none⟩),.int .i64 (inV B.V k f),.pointer (some ⟨w.heap.size, 0, none⟩),.agg (MC (mD f)),.tuple #[.agg (EC x), .bool is],.agg (EC x),_,_,_,_,_,_,_,_,_,_,_,_,_,_,_,_,_,_,_,_,_,_,_,_,_,_,_,_,_,_,_,_,_,_,_,_,_,_], []⟩ _
      refine wpAnyH_take (i := 10) (v := .bool is) rfl (by kernel_rfl) (by kernel_rfl) (by kernel_rfl) (fun _ _ _ h => h) (Or.inl ⟨by rfl, ?_⟩) hHeld ?_
      · intro W hW; (try dsimp only at hW); go_simp
      change wpAnyH _ _ _ _ _ _ _ ⟨#[.pointer (some ⟨A.g, 0, none⟩),.int .i64 (k : Int),_,_,_,_,.pointer (some ⟨w.heap.size, 0, none⟩),_,.pointer (some ⟨w.heap.size + 1, 0, none⟩),_,_,.int .i64 (inV B.V k f),_,_,_,_,_,_,_,_,_,_,_,_,_,_,_,_,_,_,_,_,_,_,_,_,_,_,_,_,_,_,_,_,_,_,_,_,_,_,_,_,_,_,_,_,_,_,_,_,_,_,_,_,_,_,_,_,_,_,_,_,_,_,_,_,_,_,_,_,_,_,_,_,_,.tuple #[.agg (EC x), .bool is],.pointer (some ⟨A.g, 0, none⟩),.pointer (some ⟨A.g, 0, none⟩),.pointer (some ⟨A.g, 2, none⟩),.pointer (some ⟨A.gf, 0, none⟩),.int .i64 (inV B.V k f),.pointer (some ⟨w.heap.size, 0, none⟩),.agg (MC (mD f)),.tuple #[.agg (EC x), .bool is],.agg (EC x),.bool is,_,_,_,_,_,_,_,_,_,_,_,_,_,_,_,_,_,_,_,_,_,_,_,_,_,_,_,_,_,_,_,_,_,_,_,_,_], []⟩ _
      refine wpAnyH_ready (rs := [11]) (by kernel_rfl) (by simp) ?_
      refine AllReadyH.cons rfl (fun K hK => ?_) AllReadyH.nil
      go_simp
      have bz := Box.new y1 (ecl zE) 61
      have HK14 : Hid (z6.heap.size ≤ y1.heap.size) := hide BW.out.size
      replace BW := hide (belowOn BW.out (below_alloc y1 (.cells (EC zE) 61)))
      have bz' : Box (y1.alloc (.cells (EC zE) 61)) y1.heap.size (ecl zE) := bz
      replace bz := bz'
      clear bz'
      generalize (y1.alloc (.cells (EC zE) 61)) = y2 at *
      generalize y1.heap.size = k14 at *
      refine hK.out _ _ (SS.out _ BW.out) (fun hHeld => ?_)
      clear hK K
      change wpAnyH _ _ _ _ _ _ _ ⟨#[.pointer (some ⟨A.g, 0, none⟩),.int .i64 (k : Int),_,_,_,_,.pointer (some ⟨w.heap.size, 0, none⟩),_,.pointer (some ⟨w.heap.size + 1, 0, none⟩),_,_,.int .i64 (inV B.V k f),_,_,.pointer (some ⟨k14, 0, none⟩),_,_,_,_,_,_,_,_,_,_,_,_,_,_,_,_,_,_,_,_,_,_,_,_,_,_,_,_,_,_,_,_,_,_,_,_,_,_,_,_,_,_,_,_,_,_,_,_,_,_,_,_,_,_,_,_,_,_,_,_,_,_,_,_,_,_,_,_,_,_,.tuple #[.agg (EC x), .bool is],.pointer (some ⟨A.g, 0, none⟩),.pointer (some ⟨A.g, 0, none⟩),.pointer (some ⟨A.g, 2, none⟩),.pointer (some ⟨A.gf, 0, none⟩),.int .i64 (inV B.V k f),.pointer (some ⟨w.heap.size, 0, none⟩),.agg (MC (mD f)),.tuple #[.agg (EC x), .bool is],.agg (EC x),.bool is,_,_,_,_,_,_,_,_,_,_,_,_,_,_,_,_,_,_,_,_,_,_,_,_,_,_,_,_,_,_,_,_,_,_,_,_,_], []⟩ _
      refine wpAnyH_ready (rs := [12]) (by kernel_rfl) (by simp) ?_
      refine AllReadyH.cons rfl (fun K hK => ?_) AllReadyH.nil
      rw [if_pos (by rfl)]
      refine wp_store_mid 61 (.tmp 14) (.tmp 94) rfl k14 0 (EC x) rfl rfl bz.th Tryz.size61 (one_EC x) ?_
      have G3 := setCells_grown k14 (ecl x) 0 y2
      have bf := bz.self (cs' := ecl x) rfl
      have BW3 := below_grown BW.out G3 HK14.out BW.out.size
      have e4 : World.setCells y2 k14 0 (EC x).toList = World.setCells y2 k14 0 (ecl x) := rfl
      rw [e4]
      generalize World.setCells y2 k14 0 (ecl x) = y9 at *
      refine hK.out _ _ (SS.out _ BW3) (fun hHeld => ?_)
      have HE := hide bf
      have HBB := hide BW3
      clear hK K G3 bf BW3 e4 bz BW
      change wpAnyH _ _ _ _ _ _ _ ⟨#[.pointer (some ⟨A.g, 0, none⟩),.int .i64 (k : Int),_,_,_,_,.pointer (some ⟨w.heap.size, 0, none⟩),_,.pointer (some ⟨w.heap.size + 1, 0, none⟩),_,_,.int .i64 (inV B.V k f),_,_,.pointer (some ⟨k14, 0, none⟩),_,_,_,_,_,_,_,_,_,_,_,_,_,_,_,_,_,_,_,_,_,_,_,_,_,_,_,_,_,_,_,_,_,_,_,_,_,_,_,_,_,_,_,_,_,_,_,_,_,_,_,_,_,_,_,_,_,_,_,_,_,_,_,_,_,_,_,_,_,_,.tuple #[.agg (EC x), .bool is],.pointer (some ⟨A.g, 0, none⟩),.pointer (some ⟨A.g, 0, none⟩),.pointer (some ⟨A.g, 2, none⟩),.pointer (some ⟨A.gf, 0, none⟩),.int .i64 (inV B.V k f),.pointer (some ⟨w.heap.size, 0, none⟩),.agg (MC (mD f)),.tuple #[.agg (EC x), .bool is],.agg (EC x),.bool is,_,_,_,_,_,_,_,_,_,_,_,_,_,_,_,_,_,_,_,_,_,_,_,_,_,_,_,_,_,_,_,_,_,_,_,_,_], []⟩ _
      refine wpAnyH_take (i := 13) (v := .bool is) rfl (by kernel_rfl) (by kernel_rfl) (by kernel_rfl) (fun _ _ _ h => h) (Or.inl ⟨by rfl, ?_⟩) hHeld ?_
      · intro W hW; (try dsimp only at hW); go_simp
      change wpAnyH _ _ _ _ _ _ _ ⟨#[.pointer (some ⟨A.g, 0, none⟩),.int .i64 (k : Int),_,_,_,_,.pointer (some ⟨w.heap.size, 0, none⟩),_,.pointer (some ⟨w.heap.size + 1, 0, none⟩),_,_,.int .i64 (inV B.V k f),_,_,.pointer (some ⟨k14, 0, none⟩),.bool is,_,_,_,_,_,_,_,_,_,_,_,_,_,_,_,_,_,_,_,_,_,_,_,_,_,_,_,_,_,_,_,_,_,_,_,_,_,_,_,_,_,_,_,_,_,_,_,_,_,_,_,_,_,_,_,_,_,_,_,_,_,_,_,_,_,_,_,_,_,.tuple #[.agg (EC x), .bool is],.pointer (some ⟨A.g, 0, none⟩),.pointer (some ⟨A.g, 0, none⟩),.pointer (some ⟨A.g, 2, none⟩),.pointer (some ⟨A.gf, 0, none⟩),.int .i64 (inV B.V k f),.pointer (some ⟨w.heap.size, 0, none⟩),.agg (MC (mD f)),.tuple #[.agg (EC x), .bool is],.agg (EC x),.bool is,_,_,_,_,_,_,_,_,_,_,_,_,_,_,_,_,_,_,_,_,_,_,_,_,_,_,_,_,_,_,_,_,_,_,_,_,_], []⟩ _
      refine wpAnyH_done (by kernel_rfl) ?_ _
      clear SS
      go_wp2_with fail
      go_meet
      case rel => exact ⟨HBB.out, rfl, k14, rfl, HE.out⟩
    · skip
      go_simp
      have bz0 : Box (y0.alloc (.cells (EC zE) 61)) y0.heap.size (ecl zE) := Box.new y0 (ecl zE) 61
      have HK14 : Hid (z6.heap.size ≤ y0.heap.size) := hide BW.out.size
      replace BW := hide (belowOn BW.out (below_alloc y0 (.cells (EC zE) 61)))
      generalize (y0.alloc (.cells (EC zE) 61)) = y1 at *
      generalize y0.heap.size = k14 at *
      refine hK.out _ _ (SS.out _ BW.out) (fun hHeld => ?_)
      clear hK K
      change wpAnyH _ _ _ _ _ _ _ ⟨#[.pointer (some ⟨A.g, 0, none⟩),.int .i64 (k : Int),_,_,_,_,.pointer (some ⟨w.heap.size, 0, none⟩),_,.pointer (some ⟨w.heap.size + 1, 0, none⟩),_,_,.int .i64 (inV B.V k f),_,_,.pointer (some ⟨k14, 0, none⟩),_,_,_,_,_,_,_,_,_,_,_,_,_,_,_,_,_,_,_,_,_,_,_,_,_,_,_,_,_,_,_,_,_,_,_,_,_,_,_,_,_,_,_,_,_,_,_,_,_,_,_,_,_,_,_,_,_,_,_,_,_,_,_,_,_,_,_,_,_,_,_,.pointer (some ⟨A.g, 0, none⟩),.pointer (some ⟨A.g, 0, none⟩),.pointer (some ⟨A.g, 2, none⟩),.pointer (some ⟨A.gf, 0, none⟩),.int .i64 (inV B.V k f),.pointer (some ⟨w.heap.size, 0, none⟩),.agg (MC (mD f)),_,_,_,_,_,_,_,_,_,_,_,_,_,_,_,_,_,_,_,_,_,_,_,_,_,_,_,_,_,_,_,_,_,_,_,_,_,_,_,_], []⟩ _
      refine wpAnyH_ready (rs := [7]) (by kernel_rfl) (by simp) ?_
      refine AllReadyH.cons rfl (fun K hK => ?_) AllReadyH.nil
      go_simp
      refine (look12 A.gf lf' B1.F (inV B.V k f) (mD f) _ (HR.out.on BW.out).rf).mono ?_
      rw [← HXX.out, ← HIS.out]
      rintro e y2 ⟨rfl, b1⟩
      replace BW := hide (belowOn BW.out b1)
      have bz := bz0.on b1
      refine hK.out _ _ (SS.out _ BW.out) (fun hHeld => ?_)
      clear hK K b1 bz0
      change wpAnyH _ _ _ _ _ _ _ ⟨#[.pointer (some ⟨A.g, 0, none⟩),.int .i64 (k : Int),_,_,_,_,.pointer (some ⟨w.heap.size, 0, none⟩),_,.pointer (some ⟨w.heap.size + 1, 0, none⟩),_,_,.int .i64 (inV B.V k f),_,_,.pointer (some ⟨k14, 0, none⟩),_,_,_,_,_,_,_,_,_,_,_,_,_,_,_,_,_,_,_,_,_,_,_,_,_,_,_,_,_,_,_,_,_,_,_,_,_,_,_,_,_,_,_,_,_,_,_,_,_,_,_,_,_,_,_,_,_,_,_,_,_,_,_,_,_,_,_,_,_,_,_,.pointer (some ⟨A.g, 0, none⟩),.pointer (some ⟨A.g, 0, none⟩),.pointer (some ⟨A.g, 2, none⟩),.pointer (some ⟨A.gf, 0, none⟩),.int .i64 (inV B.V k f),.pointer (some ⟨w.heap.size, 0, none⟩),.agg (MC (mD f)),.tuple #[.agg (EC x), .bool is],_,_,_,_,_,_,_,_,_,_,_,_,_,_,_,_,_,_,_,_,_,_,_,_,_,_,_,_,_,_,_,_,_,_,_,_,_,_,_], []⟩ _
      refine wpAnyH_take (i := 8) (v := .tuple #[.agg (EC x), .bool is]) rfl (by kernel_rfl) (by kernel_rfl) (by kernel_rfl) (fun _ _ _ h => h) (Or.inl ⟨by rfl, ?_⟩) hHeld ?_
      · intro W hW; (try dsimp only at hW); go_simp
      change wpAnyH _ _ _ _ _ _ _ ⟨#[.pointer (some ⟨A.g, 0, none⟩),.int .i64 (k : Int),_,_,_,_,.pointer (some ⟨w.heap.size, 0, none⟩),_,.pointer (some ⟨w.heap.size + 1, 0, none⟩),_,_,.int .i64 (inV B.V k f),_,_,.pointer (some ⟨k14, 0, none⟩),_,_,_,_,_,_,_,_,_,_,_,_,_,_,_,_,_,_,_,_,_,_,_,_,_,_,_,_,_,_,_,_,_,_,_,_,_,_,_,_,_,_,_,_,_,_,_,_,_,_,_,_,_,_,_,_,_,_,_,_,_,_,_,_,_,_,_,_,_,_,.tuple #[.agg (EC x), .bool is],.pointer (some ⟨A.g, 0, none⟩),.pointer (some ⟨A.g, 0, none⟩),.pointer (some ⟨A.g, 2, none⟩),.pointer (some ⟨A.gf, 0, none⟩),.int .i64 (inV B.V k f),.pointer (some ⟨w.heap.size, 0, none⟩),.agg (MC (mD f)),.tuple #[.agg (EC x), .bool is],_,_,_,_,_,_,_,_,_,_,_,_,_,_,_,_,_,_,_,_,_,_,_,_,_,_,_,_,_,_,_,_,_,_,_,_,_,_,_], []⟩ _
      refine wpAnyH_take (i := 9) (v := .agg (EC x)) rfl (by kernel_rfl) (by kernel_rfl) (by kernel_rfl) (fun _ _ _ h => h) (Or.inl ⟨by rfl, ?_⟩) hHeld ?_
      · intro W hW; (try dsimp only at hW); go_simp
      change wpAnyH _ _ _ _ _ _ _ ⟨#[.pointer (some ⟨A.g, 0, none⟩),.int .i64 (k : Int),_,_,_,_,.pointer (some ⟨w.heap.size, 0, none⟩),_,.pointer (some ⟨w.heap.size + 1, 0, none⟩),_,_,.int .i64 (inV B.V k f),_,_,.pointer (some ⟨k14, 0, none⟩),_,_,_,_,_,_,_,_,_,_,_,_,_,_,_,_,_,_,_,_,_,_,_,_,_,_,_,_,_,_,_,_,_,_,_,_,_,_,_,_,_,_,_,_,_,_,_,_,_,_,_,_,_,_,_,_,_,_,_,_,_,_,_,_,_,_,_,_,_,_,.tuple #[.agg (EC x), .bool is],.pointer (some ⟨A.g, 0, none⟩),.pointer (some ⟨A.g, 0, none⟩),.pointer (some ⟨A.g, 2, none⟩),.pointer (some ⟨A.gf, 0, none⟩),.int .i64 (inV B.V k f),.pointer (some ⟨w.heap.size, 0, none⟩),.agg (MC (mD f)),.tuple #[.agg (EC x), .bool is],.agg (EC x),_,_,_,_,_,_,_,_,_,_,_,_,_,_,_,_,_,_,_,_,_,_,_,_,_,_,_,_,_,_,_,_,_,_,_,_,_,_], []⟩ _
      refine wpAnyH_take (i := 10) (v := .bool is) rfl (by kernel_rfl) (by kernel_rfl) (by kernel_rfl) (fun _ _ _ h => h) (Or.inl ⟨by rfl, ?_⟩) hHeld ?_
      · intro W hW; (try dsimp only at hW); go_simp
      change wpAnyH _ _ _ _ _ _ _ ⟨#[.pointer (some ⟨A.g, 0, none⟩),.int .i64 (k : Int),_,_,_,_,.pointer (some ⟨w.heap.size, 0, none⟩),_,.pointer (some ⟨w.heap.size + 1, 0, none⟩),_,_,.int .i64 (inV B.V k f),_,_,.pointer (some ⟨k14, 0, none⟩),_,_,_,_,_,_,_,_,_,_,_,_,_,_,_,_,_,_,_,_,_,_,_,_,_,_,_,_,_,_,_,_,_,_,_,_,_,_,_,_,_,_,_,_,_,_,_,_,_,_,_,_,_,_,_,_,_,_,_,_,_,_,_,_,_,_,_,_,_,_,.tuple #[.agg (EC x), .bool is],.pointer (some ⟨A.g, 0, none⟩),.pointer (some ⟨A.g, 0, none⟩),.pointer (some ⟨A.g, 2, none⟩),.pointer (some ⟨A.gf, 0, none⟩),.int .i64 (inV B.V k f),.pointer (some ⟨w.heap.size, 0, none⟩),.agg (MC (mD f)),.tuple #[.agg (EC x), .bool is],.agg (EC x),.bool is,_,_,_,_,_,_,_,_,_,_,_,_,_,_,_,_,_,_,_,_,_,_,_,_,_,_,_,_,_,_,_,_,_,_,_,_,_], []⟩ _
      refine wpAnyH_ready (rs := [12]) (by kernel_rfl) (by simp) ?_
      refine AllReadyH.cons rfl (fun K hK => ?_) AllReadyH.nil
      rw [if_pos (by rfl)]
      refine wp_store_mid 61 (.tmp 14) (.tmp 94) rfl k14 0 (EC x) rfl rfl bz.th Tryz.size61 (one_EC x) ?_
      have G3 := setCells_grown k14 (ecl x) 0 y2
      have bf := bz.self (cs' := ecl x) rfl
      have BW3 := below_grown BW.out G3 HK14.out BW.out.size
      have e4 : World.setCells y2 k14 0 (EC x).toList = World.setCells y2 k14 0 (ecl x) := rfl
      rw [e4]
      generalize World.setCells y2 k14 0 (ecl x) = y9 at *
      refine hK.out _ _ (SS.out _ BW3) (fun hHeld => ?_)
      have HE := hide bf
      have HBB := hide BW3
      clear hK K G3 bf BW3 e4 bz BW
      change wpAnyH _ _ _ _ _ _ _ ⟨#[.pointer (some ⟨A.g, 0, none⟩),.int .i64 (k : Int),_,_,_,_,.pointer (some ⟨w.heap.size, 0, none⟩),_,.pointer (some ⟨w.heap.size + 1, 0, none⟩),_,_,.int .i64 (inV B.V k f),_,_,.pointer (some ⟨k14, 0, none⟩),_,_,_,_,_,_,_,_,_,_,_,_,_,_,_,_,_,_,_,_,_,_,_,_,_,_,_,_,_,_,_,_,_,_,_,_,_,_,_,_,_,_,_,_,_,_,_,_,_,_,_,_,_,_,_,_,_,_,_,_,_,_,_,_,_,_,_,_,_,_,.tuple #[.agg (EC x), .bool is],.pointer (some ⟨A.g, 0, none⟩),.pointer (some ⟨A.g, 0, none⟩),.pointer (some ⟨A.g, 2, none⟩),.pointer (some ⟨A.gf, 0, none⟩),.int .i64 (inV B.V k f),.pointer (some ⟨w.heap.size, 0, none⟩),.agg (MC (mD f)),.tuple #[.agg (EC x), .bool is],.agg (EC x),.bool is,_,_,_,_,_,_,_,_,_,_,_,_,_,_,_,_,_,_,_,_,_,_,_,_,_,_,_,_,_,_,_,_,_,_,_,_,_], []⟩ _
      refine wpAnyH_take (i := 13) (v := .bool is) rfl (by kernel_rfl) (by kernel_rfl) (by kernel_rfl) (fun _ _ _ h => h) (Or.inl ⟨by rfl, ?_⟩) hHeld ?_
      · intro W hW; (try dsimp only at hW); go_simp
      change wpAnyH _ _ _ _ _ _ _ ⟨#[.pointer (some ⟨A.g, 0, none⟩),.int .i64 (k : Int),_,_,_,_,.pointer (some ⟨w.heap.size, 0, none⟩),_,.pointer (some ⟨w.heap.size + 1, 0, none⟩),_,_,.int .i64 (inV B.V k f),_,_,.pointer (some ⟨k14, 0, none⟩),.bool is,_,_,_,_,_,_,_,_,_,_,_,_,_,_,_,_,_,_,_,_,_,_,_,_,_,_,_,_,_,_,_,_,_,_,_,_,_,_,_,_,_,_,_,_,_,_,_,_,_,_,_,_,_,_,_,_,_,_,_,_,_,_,_,_,_,_,_,_,_,.tuple #[.agg (EC x), .bool is],.pointer (some ⟨A.g, 0, none⟩),.pointer (some ⟨A.g, 0, none⟩),.pointer (some ⟨A.g, 2, none⟩),.pointer (some ⟨A.gf, 0, none⟩),.int .i64 (inV B.V k f),.pointer (some ⟨w.heap.size, 0, none⟩),.agg (MC (mD f)),.tuple #[.agg (EC x), .bool is],.agg (EC x),.bool is,_,_,_,_,_,_,_,_,_,_,_,_,_,_,_,_,_,_,_,_,_,_,_,_,_,_,_,_,_,_,_,_,_,_,_,_,_], []⟩ _
      refine wpAnyH_done (by kernel_rfl) ?_ _
      clear SS
      go_wp2_with fail
      go_meet
      case rel => exact ⟨HBB.out, rfl, k14, rfl, HE.out⟩
  case rest =>
  obtain ⟨bb, rfl, k14, rfl, he⟩ := hcut
  have HE := hide he
  clear he SS BW
  replace HR := hide (HR.out.on bb)
  replace HX := hide (HX.out.on bb)
  replace HK := hide (HK.out.on bb)
  replace HY := hide (HY.out.on bb)
  replace HC := hide (HC.out.on bb)
  clear bb
  rcases Bool.eq_false_or_eq_true is with hi | hi
  · subst hi
    have tkD : True := trivial
    go_wp2_with (first | (have _t := tkD; refine wpl_mac (.tmp 98) rfl (fcl_dst HX.out) ?_ ?_ ?_; rfl; rfl; clear tkD))
    refine (group22 (mD f) _ HMD.out).mono ?_
    rintro e z7 ⟨rfl, bb⟩
    replace HE := hide (HE.out.on bb)
    replace HR := hide (HR.out.on bb)
    replace HX := hide (HX.out.on bb)
    replace HK := hide (HK.out.on bb)
    replace HY := hide (HY.out.on bb)
    replace HC := hide (HC.out.on bb)
    clear bb
    have c7 := HE.out.cell 7 _ rfl
    rcases Bool.eq_false_or_eq_true (grp (mD f)) with hg | hg
    · replace hW := hide (hW.out.trans (by rw [outW_b HIS.out.symm hg]))
      rw [hg]
      clear hg
      have tkE : True := trivial
      go_wp2_with (first | (have _t := tkE; refine wpl_putW 8 (inV B.V k f) 0 none 0 0 _ (.tmp 8) (.tmp 128) rfl HK.out rfl ?_ ?_ ?_ ?_; rfl; rfl; rfl; clear tkE; intro z9 K9 G9; have HK9 := hide K9; have HG9 := hide G9; clear K9 G9) | (refine bodyPost_ret (res_way rfl rfl HK9.out) rfl ?_; rw [hW.out]; exact ⟨none, [], 0, lf', rfl, Ots.nothing _, rfl, HR.out.apart HG9.out HKD.out, HC.out.new HG9.out HKW.out, fun b o e => (by cases e), fun x hx => (by cases hx)⟩))
    · rw [hg]
      rcases Bool.eq_false_or_eq_true (x.p == (k : Int)) with hq | hq
      · replace hW := hide (hW.out.trans (by rw [outW_c1 HIS.out.symm hg (by rw [← HXX.out]; exact hq)]))
        clear hg
        have tkE : True := trivial
        go_wp2_with (first | (have _t := tkE; refine wpl_putW 7 (inV B.V k f) 0 none 0 0 _ (.tmp 8) (.tmp 108) rfl HK.out rfl ?_ ?_ ?_ ?_; rfl; rfl; rfl; clear tkE; intro z9 K9 G9; have HK9 := hide K9; have HG9 := hide G9; clear K9 G9) | (refine bodyPost_ret (res_way rfl rfl HK9.out) rfl ?_; rw [hW.out]; exact ⟨none, [], 0, lf', rfl, Ots.nothing _, rfl, HR.out.apart HG9.out HKD.out, HC.out.new HG9.out HKW.out, fun b o e => (by cases e), fun x hx => (by cases hx)⟩))
      · by_cases hpos : 0 < x.p
        · have HGG := hide hg
          have HQQ := hide hq
          have HPP := hide hpos
          clear hg
          have tkF : True := trivial
          go_wp2_with (first | (have _t := tkF; refine wpl_frame (.tmp 6) rfl HX.out ?_ ?_ ?_; rfl; rfl; clear tkF))
          refine (relayR { A with lf := lf' } B1 (inV B.V k f) k x.p f a n c _ HR.out HY.out).mono ?_
          rintro e z8 ⟨ao, xs, cc, rfl, hO, hm, bb, hrow, hown⟩
          have HO := hide hO
          have HM := hide hm
          have HRW := hide hrow
          have HOWN := hide hown
          have HZ := hide HK.out.lt
          have HDL := hide HR.out.lt
          clear hO hm hrow hown
          replace HR := hide (HR.out.on bb)
          replace HX := hide (HX.out.on bb)
          replace HK := hide (HK.out.on bb)
          replace HY := hide (HY.out.on bb)
          replace HC := hide (HC.out.on bb)
          clear bb
          have hO1 := outW_c2 HIS.out.symm HGG.out (x := x) HXX.out HQQ.out HPP.out
          by_cases h0 : xs.length = 0
          · have hx0 : xs = [] := List.eq_nil_of_length_eq_zero h0
            have hr0 : rly B1 (inV B.V k f) k x.p f B1.n = [] := by rw [← HM.out, hx0]; rfl
            rw [hr0, List.isEmpty_nil, if_pos rfl] at hO1
            replace hW := hide (hW.out.trans (by rw [hO1]))
            rw [h0]
            clear h0 hx0 hr0 hO1
            have tkE : True := trivial
            go_wp2_with (first | (have _t := tkE; refine wpl_putW 8 (inV B.V k f) x.p none 0 0 _ (.tmp 8) (.tmp 128) rfl HK.out rfl ?_ ?_ ?_ ?_; rfl; rfl; rfl; clear tkE; intro z9 K9 G9; have HK9 := hide K9; have HG9 := hide G9; clear K9 G9) | (refine bodyPost_ret (res_way rfl rfl HK9.out) rfl ?_; rw [hW.out]; exact ⟨none, [], 0, lf', rfl, Ots.nothing _, rfl, HR.out.apart HG9.out HKD.out, HC.out.new HG9.out HKW.out, fun b o e => (by cases e), fun x hx => (by cases hx)⟩))
          · have hr0 : (rly B1 (inV B.V k f) k x.p f B1.n).isEmpty = false := by
              rw [← HM.out]
              cases xs with
              | nil => exact absurd rfl h0
              | cons y r => rfl
            rw [hr0, if_neg (by simp)] at hO1
            replace hW := hide (hW.out.trans (by rw [hO1]))
            have hl0 : ¬ (xs.length : Int) = 0 := by omega
            have hl1 : ((xs.length : Int) == 0) = false := beq_eq_false_iff_ne.mpr hl0
            clear h0 hr0 hO1
            have tkE : True := trivial
            go_wp2_with (first | (have _t := tkE; refine wpl_putW 0 (inV B.V k f) x.p ao xs.length cc _ (.tmp 8) (.tmp 132) rfl HK.out rfl ?_ ?_ ?_ ?_; rfl; rfl; rfl; clear tkE; intro z9 K9 G9; have HK9 := hide K9; have HG9 := hide G9; clear K9 G9) | (refine bodyPost_ret (res_way rfl rfl HK9.out) rfl ?_; rw [hW.out]; exact ⟨ao, xs, cc, lf', rfl, ots_apart HO.out HG9.out (fun b o e h => by have := HRW.out b o e; have := HZ.out; omega) (fun x hx b o e hp h => HY8.out b o (by rw [← (HOWN.out x hx b o e hp).1]; exact e) (HOWN.out x hx b o e hp).2 h), HM.out, HR.out.apart HG9.out HKD.out, HC.out.new HG9.out HKW.out, fun b o e => ⟨by have := HRW.out b o e; have := HZ.out; omega, fun hd => by have := HDL.out _ hd; have := HRW.out b o e; omega⟩, HOWN.out⟩))
        · replace hW := hide (hW.out.trans (by rw [outW_c3 HIS.out.symm hg (x := x) HXX.out hq hpos]))
          clear hg
          have tkE : True := trivial
          go_wp2_with (first | (have _t := tkE; refine wpl_putW 8 (inV B.V k f) x.p none 0 0 _ (.tmp 8) (.tmp 128) rfl HK.out rfl ?_ ?_ ?_ ?_; rfl; rfl; rfl; clear tkE; intro z9 K9 G9; have HK9 := hide K9; have HG9 := hide G9; clear K9 G9) | (refine bodyPost_ret (res_way rfl rfl HK9.out) rfl ?_; rw [hW.out]; exact ⟨none, [], 0, lf', rfl, Ots.nothing _, rfl, HR.out.apart HG9.out HKD.out, HC.out.new HG9.out HKW.out, fun b o e => (by cases e), fun x hx => (by cases hx)⟩))
  · subst hi
    have tkF : True := trivial
    go_wp2_with (first | (have _t := tkF; refine wpl_frame (.tmp 6) rfl HX.out ?_ ?_ ?_; rfl; rfl; clear tkF))
    refine (relayR { A with lf := lf' } B1 (inV B.V k f) k 0 f a n c _ HR.out HY.out).mono ?_
    rintro e z8 ⟨ao, xs, cc, rfl, hO, hm, bb, hrow, hown⟩
    have HO := hide hO
    have HM := hide hm
    have HRW := hide hrow
    have HOWN := hide hown
    have HZ := hide HK.out.lt
    have HDL := hide HR.out.lt
    clear hO hm hrow hown
    replace HR := hide (HR.out.on bb)
    replace HX := hide (HX.out.on bb)
    replace HK := hide (HK.out.on bb)
    replace HY := hide (HY.out.on bb)
    replace HC := hide (HC.out.on bb)
    clear bb
    have hO1 := outW_a (B := B1) (v := inV B.V k f) (p := k) (f := f) HIS.out.symm
    by_cases h0 : xs.length = 0
    · have hx0 : xs = [] := List.eq_nil_of_length_eq_zero h0
      have hr0 : rly B1 (inV B.V k f) k 0 f B1.n = [] := by rw [← HM.out, hx0]; rfl
      rw [hr0, List.isEmpty_nil, if_pos rfl] at hO1
      replace hW := hide (hW.out.trans (by rw [hO1]))
      rw [h0]
      clear h0 hx0 hr0 hO1
      have tkE : True := trivial
      go_wp2_with (first | (have _t := tkE; refine wpl_putW 8 (inV B.V k f) 0 none 0 0 _ (.tmp 8) (.tmp 128) rfl HK.out rfl ?_ ?_ ?_ ?_; rfl; rfl; rfl; clear tkE; intro z9 K9 G9; have HK9 := hide K9; have HG9 := hide G9; clear K9 G9) | (refine bodyPost_ret (res_way rfl rfl HK9.out) rfl ?_; rw [hW.out]; exact ⟨none, [], 0, lf', rfl, Ots.nothing _, rfl, HR.out.apart HG9.out HKD.out, HC.out.new HG9.out HKW.out, fun b o e => (by cases e), fun x hx => (by cases hx)⟩))
    · have hr0 : (rly B1 (inV B.V k f) k 0 f B1.n).isEmpty = false := by
        rw [← HM.out]
        cases xs with
        | nil => exact absurd rfl h0
        | cons y r => rfl
      rw [hr0, if_neg (by simp)] at hO1
      replace hW := hide (hW.out.trans (by rw [hO1]))
      have hl0 : ¬ (xs.length : Int) = 0 := by omega
      have hl1 : ((xs.length : Int) == 0) = false := beq_eq_false_iff_ne.mpr hl0
      clear h0 hr0 hO1
      have tkE : True := trivial
      go_wp2_with (first | (have _t := tkE; refine wpl_putW 0 (inV B.V k f) 0 ao xs.length cc _ (.tmp 8) (.tmp 132) rfl HK.out rfl ?_ ?_ ?_ ?_; rfl; rfl; rfl; clear tkE; intro z9 K9 G9; have HK9 := hide K9; have HG9 := hide G9; clear K9 G9) | (refine bodyPost_ret (res_way rfl rfl HK9.out) rfl ?_; rw [hW.out]; exact ⟨ao, xs, cc, lf', rfl, ots_apart HO.out HG9.out (fun b o e h => by have := HRW.out b o e; have := HZ.out; omega) (fun x hx b o e hp h => HY8.out b o (by rw [← (HOWN.out x hx b o e hp).1]; exact e) (HOWN.out x hx b o e hp).2 h), HM.out, HR.out.apart HG9.out HKD.out, HC.out.new HG9.out HKW.out, fun b o e => ⟨by have := HRW.out b o e; have := HZ.out; omega, fun hd => by have := HDL.out _ hd; have := HRW.out b o e; omega⟩, HOWN.out⟩))
end
end Go.Proofs.YtgpdjfaklcmoiaaGreat
/- Contract: Take of the document's bridge. -/
namespace Go.Proofs.YtgpdjfaklcmoiaaGreat
open Go.RowKit Go.PlainAid

theorem wayP_ct (B : Br) (p : Int) (f : Fd) (t : Int) : (wayP B p f t).2.ct = B.ct := by
  unfold wayP
  split
  · split <;> rfl
  · rfl
theorem wayR (A : RAd) (B : Br) (p : Int) (f : Fd) (a : Option Addr) (n c : Nat) (t : Int) (w : World) (H : RB w A B) (hY : Byt w a n c f.bs) (hyd : ∀ b o, a = some ⟨b, o, none⟩ → 0 < n → ¬ Dm A b) (hd : Mok (mD f)) (hs : Mok (mS f)) (hls : ∀ x ∈ B.ln, x + 1 < 1000000) :
    Calls Tryz.prog 63 #[.pointer (some ⟨A.g, 0, none⟩), .int .i64 p, .agg (FC f (.slice a n c)), .int .i64 t] w (WyP A a n (wayP B p f t).1 (wayP B p f t).2 w) := by
  rcases Bool.eq_false_or_eq_true (badW B p f t) with hb | hb
  · exact wayR_bad A B p f a n c t w H hY hb
  · have h3 : rt f = true ∧ hasP B.n p = true ∧ isT t = true := by
      unfold badW at hb
      cases h1 : rt f <;> cases h2 : hasP B.n p <;> cases h4 : isT t <;> simp_all
    obtain ⟨k, rfl⟩ := Int.eq_ofNat_of_zero_le (show 0 ≤ p by have := (hasP_iff _ _).1 h3.2.1; omega)
    exact wayR_ok A B k f a n c t w H hY hyd hd hs hls h3.1 h3.2.1 h3.2.2
set_option maxRecDepth 100000 in
set_option maxHeartbeats 8000000 in
theorem takeR (A : RAd) (B : Br) (p : Int) (f : Fd) (a : Option Addr) (n c : Nat) (t : Int) (w : World) (H : RB w A B) (hY : Byt w a n c f.bs) (hyd : ∀ b o, a = some ⟨b, o, none⟩ → 0 < n → ¬ Dm A b) (hd : Mok (mD f)) (hs : Mok (mS f)) (hls : ∀ x ∈ B.ln, x + 1 < 1000000) (hcs : ∀ x ∈ B.ct, x + 1 < 1000000) :
    Calls Tryz.prog 38 #[.pointer (some ⟨A.g, 0, none⟩), .int .i64 p, .agg (FC f (.slice a n c)), .int .i64 t] w (WyP A a n (tk B p f t).1 (tk B p f t).2 w) := by
  have b0 := below_alloc w (.cells (FC f (.slice a n c)) 38)
  have b1 := below_alloc (w.alloc (.cells (FC f (.slice a n c)) 38)) (.cells (wcl 0 0 0 (.slice none 0 0)).toArray 50)
  have X0 : Box ((w.alloc (.cells (FC f (.slice a n c)) 38)).alloc (.cells (wcl 0 0 0 (.slice none 0 0)).toArray 50)) w.heap.size (fcl f (.slice a n c)) := (Box.new w (fcl f (.slice a n c)) 38).alloc (.cells (wcl 0 0 0 (.slice none 0 0)).toArray 50)
  have K0 := Box.new (w.alloc (.cells (FC f (.slice a n c)) 38)) (wcl 0 0 0 (.slice none 0 0)) 50
  have hsz := World.size_alloc w (.cells (FC f (.slice a n c)) 38)
  rw [hsz] at K0
  have K1 : Box ((w.alloc (.cells (FC f (.slice a n c)) 38)).alloc (.cells (wcl 0 0 0 (.slice none 0 0)).toArray 50)) (w.heap.size + 1) (wcl 0 0 0 (.slice none 0 0)) := K0
  have HB := hide (belowOn b0 b1)
  have HX := hide X0
  have HK := hide K1
  have HKD : Hid (¬ Dm A (w.heap.size + 1)) := hide (fun h => by have := H.lt _ h; omega)
  have HKW : Hid (w.heap.size ≤ w.heap.size + 1) := hide (Nat.le_succ _)
  have HW := hide (fun z (b : Below w.heap.size w z) => wayR A B p f a n c t z (H.on b) (hY.on b) hyd hd hs hls)
  have HC := hide (Ch.of_below (O := Dm A) HB.out)
  have HCS := hide hcs
  have HYD := hide hyd
  have HYL := hide hY.lt
  have HCL := hide H.wf.cl
  clear b0 b1 X0 K0 K1 hsz H hY hyd hd hs hls hcs
  have tk1 : True := trivial
  go_enter Tryz.func38, Tryz.ntmps38
  have hz : ((w.alloc (.cells (FC f (.slice a n c)) 38)).alloc (.cells #[.int .i64 0, .int .i64 0, .int .i64 0, .slice none 0 0] 50)) = ((w.alloc (.cells (FC f (.slice a n c)) 38)).alloc (.cells (wcl 0 0 0 (.slice none 0 0)).toArray 50)) := rfl
  go_wp2_with (first | (have _t := tk1; refine wpl_frame (.tmp 6) rfl HX.out ?_ ?_ ?_; rfl; rfl; clear tk1))
  generalize ((w.alloc (.cells (FC f (.slice a n c)) 38)).alloc (.cells (wcl 0 0 0 (.slice none 0 0)).toArray 50)) = z0 at *
  clear hz
  refine (HW.out z0 HB.out).mono ?_
  rintro e z1 ⟨ao, xs, cc, lf', rfl, hO, hm, hR, hC, hrw, hown⟩
  have HRW := hide hrw
  have HOWN := hide hown
  have HZ0 := hide HB.out.size
  replace HYD : Hid (∀ b o, a = some ⟨b, o, none⟩ → 0 < n → ¬ Dm { A with lf := lf' } b ∧ b < w.heap.size) := hide (fun b o e hn => ⟨fun h => (by rcases hC.dom _ h with h | h; exact HYD.out b o e hn h; have := HYL.out b o e hn; have := HZ0.out; omega), HYL.out b o e hn⟩)
  clear hrw hown HYL
  have HTK : Hid (tk B p f t = ((wayP B p f t).1, { (wayP B p f t).2 with ct := inc (wayP B p f t).2.ct (wayP B p f t).1.c.toNat })) := hide rfl
  have hct := wayP_ct B p f t
  have hcb := wayP_c B p f t
  generalize (wayP B p f t) = WB at *
  obtain ⟨W, B1⟩ := WB
  obtain ⟨C, v, tt, oo⟩ := W
  dsimp only at *
  obtain ⟨j, rfl⟩ := Int.eq_ofNat_of_zero_le hcb.1
  have hj : j < 9 := by omega
  have HJ := hide hj
  have HO := hide hO
  have HM := hide hm
  have HR := hide hR
  have HK0 := hide HK.out.lt
  have hK1 : Box z1 (w.heap.size + 1) (wcl 0 0 0 (.slice none 0 0)) := HK.out.block (hC.block _ HK.out.lt HKD.out)
  replace HK := hide hK1
  have HC2 := hide (HC.out.trans hC)
  have HCT := hide hct
  have HD1 : Hid (∀ i, Dm { A with lf := lf' } i → i < z1.heap.size) := hide hR.lt
  have HK8 : Hid (w.heap.size + 1 < z1.heap.size) := hide hK1.lt
  have HKD2 : Hid (¬ Dm { A with lf := lf' } (w.heap.size + 1)) := hide (fun h => by rcases hC.dom _ h with h | h; exact HKD.out h; have := HK0.out; omega)
  clear hO hm hR hC hK1 hct hcb hj HC
  obtain ⟨z2, hz2⟩ : ∃ z2, z2 = z1.alloc (.cells #[.int .i64 (j : Int), .int .i64 v, .int .i64 tt, .slice ao xs.length cc] 50) := ⟨_, rfl⟩
  have hz2' : z1.alloc (.cells #[.int .i64 (j : Int), .int .i64 v, .int .i64 tt, .slice ao xs.length cc] 50) = z2 := hz2.symm
  have B2 : Below z1.heap.size z1 z2 := by rw [hz2]; exact below_alloc z1 _
  have K9 : Box z2 z1.heap.size (wcl (j : Int) v tt (.slice ao xs.length cc)) := by rw [hz2]; exact Box.new z1 (wcl (j : Int) v tt (.slice ao xs.length cc)) 50
  have HK9 := hide K9
  have HR2 := hide (HR.out.on B2)
  have hcell := HR2.out.bx.cell (4 + j) _ (rcl_getC _ _ (j := j) (by rw [HCT.out, HCL.out]; exact HJ.out))
  have hfree := HR2.out.bx.free (4 + j) (by rw [rcl_len _ _ HR2.out.wf.cl HR2.out.wf.ll]; have := HJ.out; omega)
  have hinc := hide (HR2.out.incC (j := j) HJ.out (by rw [HCT.out]; exact HCS.out))
  have c0 := K9.cell 0 _ rfl
  have j0 : (0 : Int) ≤ (j : Int) := by omega
  have j1 : (j : Int) < 9 := by have := HJ.out; omega
  have HB2 := hide B2
  clear hz2 K9 B2
  have hwr : IntKind.i64.wrap (B1.ct.getD j 0 + 1) = B1.ct.getD j 0 + 1 := by
    have hm : B1.ct.getD j 0 ∈ B1.ct := by
      rw [List.getD_eq_getElem?_getD, List.getElem?_eq_getElem (by rw [HCT.out, HCL.out]; exact HJ.out)]
      exact List.getElem_mem _
    have h1 := HCS.out _ (by rw [← HCT.out]; exact hm)
    have h0 := (HR2.out.wf.cs _ hm).1
    exact IntWalk.i64_in _ (by omega)
  generalize B1.ct.getD j 0 = q0 at *
  go_wp2_with fail
  go_region
  have HR3 := hide hinc.out.1.drew
  have HC3 := hide ((HC2.out.on HB2.out).trans hinc.out.2.drew)
  have HN1 : Hid (¬ Dm { A with lf := lf' } z1.heap.size) := hide (fun h => by have := HD1.out _ h; omega)
  have HN2 : Hid (z1.heap.size < z2.heap.size) := hide HK9.out.lt
  replace HK9 := hide (HK9.out.block (hinc.out.2.drew.block _ HN2.out HN1.out))
  have hK2 := HK.out.on HB2.out
  replace HK := hide (hK2.block (hinc.out.2.drew.block _ hK2.lt HKD2.out))
  have HO3 := hide (ots_ch (HO.out.on HB2.out) hinc.out.2.drew (fun b o e => (HRW.out b o e).2) (fun x hx b o e hp => (HYD.out b o (by rw [← (HOWN.out x hx b o e hp).1]; exact e) (HOWN.out x hx b o e hp).2).1))
  clear hK2 hinc HR HC2 HO HR2 hcell hfree c0 hz2' HB2
  generalize (z2.setCell ⟨A.g, 4 + j, none⟩ (.int .i64 (q0 + 1))).drew = z3 at *
  have tkE : True := trivial
  go_wp2_with (first | (refine wpl_wayL (.tmp 9) rfl HK9.out rfl rfl ?_) | (have _t := tkE; refine wpl_putW (j : Int) v tt ao xs.length cc _ (.tmp 8) (.tmp 26) rfl HK.out rfl ?_ ?_ ?_ ?_; rfl; rfl; rfl; clear tkE; intro z9 K9 G9; have HKZ := hide K9; have HG9 := hide G9; clear K9 G9) | (refine bodyPost_ret (res_way rfl rfl HKZ.out) rfl ?_; rw [HTK.out]; exact ⟨ao, xs, cc, lf', rfl, ots_apart HO3.out HG9.out (fun b o e h => by have := (HRW.out b o e).1; have := HK0.out; omega) (fun x hx b o e hp h => by have := (HYD.out b o (by rw [← (HOWN.out x hx b o e hp).1]; exact e) (HOWN.out x hx b o e hp).2).2; omega), HM.out, HR3.out.apart HG9.out HKD2.out, HC3.out.new HG9.out HKW.out, fun b o e => ⟨by have := (HRW.out b o e).1; have := HZ0.out; omega, (HRW.out b o e).2⟩, HOWN.out⟩))
end Go.Proofs.YtgpdjfaklcmoiaaGreat
/- A step of the bridge as cells; steps in a slice; few; sum. -/
namespace Go.Proofs.YtgpdjfaklcmoiaaGreat
open Go.RowKit Go.PlainAid

/-- A step, and where its frame's Body lies. -/
structure Stp where
  d : Int
  p : Int
  n : Int
  v : Int
  g : Bool
  f : Fd
  a : Option Addr
  k : Nat
  c : Nat
  t : Int
def stc (x : Stp) : List Value := [.int .i64 x.d, .int .i64 x.p, .int .i64 x.n, .int .i64 x.v, .bool x.g] ++ (fcl x.f (.slice x.a x.k x.c) ++ [.int .i64 x.t])
theorem stc_length (x : Stp) : (stc x).length = 23 := rfl
structure Sts (w : World) (ao : Option Addr) (n c : Nat) (xs : List Stp) : Prop where
  len : xs.length = n
  nil : ao = none → n = 0 ∧ c = 0
  at_ : ∀ j x, xs[j]? = some x → ∃ b o, ao = some ⟨b, o, none⟩ ∧ w.rangeAt b (o + j * 23) (stc x)
  le : n ≤ c
  mx : c ≤ maxLen
  byt : ∀ x ∈ xs, Byt w x.a x.k x.c x.f.bs
  md : ∀ x ∈ xs, Mok (mD x.f)
  ms : ∀ x ∈ xs, Mok (mS x.f)
theorem Sts.on {w w1 : World} {ao : Option Addr} {n c : Nat} {xs : List Stp} (h : Sts w ao n c xs) (hb : Below w.heap.size w w1) : Sts w1 ao n c xs :=
  ⟨h.len, h.nil, fun j x hj => by
    obtain ⟨b, o, e, r⟩ := h.at_ j x hj
    exact ⟨b, o, e, range_on r hb⟩, h.le, h.mx, fun x hx => (h.byt x hx).on hb, h.md, h.ms⟩
def fewB (xs : List Stp) : Bool := (xs.take 120).all (fun x => decide (x.k ≤ 2000))
theorem few_next {xs : List Stp} {q : Nat} {x : Stp} (h : xs[q]? = some x) : (xs.take (q + 1)).all (fun x => decide (x.k ≤ 2000)) = ((xs.take q).all (fun x => decide (x.k ≤ 2000)) && decide (x.k ≤ 2000)) := by
  rw [List.take_add_one, h]
  simp
theorem few_no {xs : List Stp} {q : Nat} {x : Stp} (h : xs[q]? = some x) (hq : q < 120) (hk : ¬ x.k ≤ 2000) : fewB xs = false := by
  unfold fewB
  rw [List.all_eq_false]
  refine ⟨x, ?_, by simpa using hk⟩
  rw [List.mem_iff_getElem?]
  exact ⟨q, by rw [List.getElem?_take, if_pos hq]; exact h⟩
theorem few_yes {xs : List Stp} {q : Nat} (h : (xs.take q).all (fun x => decide (x.k ≤ 2000)) = true) (hq : ¬ (q < xs.length ∧ q < 120)) (hl : q ≤ 120) : fewB xs = true := by
  unfold fewB
  by_cases h1 : q < xs.length
  · have : q = 120 := by omega
    rw [this] at h
    exact h
  · rw [List.take_of_length_le (by omega)] at h
    rw [List.take_of_length_le (by omega)]
    exact h
set_option maxRecDepth 100000 in
set_option maxHeartbeats 4000000 in
theorem fewR (ao : Option Addr) (n c : Nat) (xs : List Stp) (w : World) (H : Sts w ao n c xs) :
    Calls Tryz.prog 11 #[.slice ao n c] w fun e w' => e = .returned (.bool (fewB xs)) ∧ w' = w := by
  have HS := hide H
  have hmx : n ≤ maxLen := Nat.le_trans H.le H.mx
  have HN : Hid (n ≤ 9223372036854775807) := hide (Nat.le_trans hmx (by decide))
  clear H hmx
  go_enter Tryz.func11, Tryz.ntmps11
  go_wp2
  go_loopg [3] 121 (fun r i wr => ∃ q : Nat, q ≤ 120 ∧ r = 121 - q ∧ i = .int .i64 q ∧ wr = w ∧ (xs.take q).all (fun x => decide (x.k ≤ 2000)) = true)
  case atStart => exact ⟨0, by omega, rfl, rfl, rfl, by simp⟩
  case round =>
    obtain ⟨q, hq, hr, rfl, rfl, hA⟩ := hrel
    have HR := hide hr
    have HA := hide hA
    clear hr hA
    by_cases h1 : q < n
    · have p1 : (q : Int) < n := by omega
      by_cases h2 : q < 120
      · have p2 : (q : Int) < 120 := by omega
        have p3 : (0 : Int) ≤ (q : Int) := by omega
        have p4 : IntKind.i64.wrap ((q : Int) + 1) = (q : Int) + 1 := IntWalk.i64_in _ (by omega)
        obtain ⟨x, hx⟩ : ∃ x, xs[q]? = some x := ⟨_, List.getElem?_eq_getElem (by rw [HS.out.len]; exact h1)⟩
        obtain ⟨b, o, rfl, ra⟩ := HS.out.at_ q x hx
        have hb := ra 21 _ rfl
        have HX := hide hx
        clear hx ra
        by_cases h3 : x.k ≤ 2000
        · have p5 : ¬ (2000 : Int) < (x.k : Int) := by omega
          go_wp2
          go_roundg (121 - (q + 1))
          case measure => rw [HR.out]; omega
          case rel => exact ⟨q + 1, by omega, rfl, by go_num, rfl, by rw [few_next HX.out, HA.out]; simpa using h3⟩
        · have p5 : (2000 : Int) < (x.k : Int) := by omega
          have HF := hide (few_no HX.out h2 h3)
          go_wp2
          go_ret
          exact ⟨by rw [HF.out]; rfl, rfl⟩
      · have p2 : ¬ (q : Int) < 120 := by omega
        have HF := hide (few_yes HA.out (fun h => h2 h.2) hq)
        go_wp2
        go_ret
        exact ⟨by rw [HF.out]; rfl, rfl⟩
    · have p1 : ¬ (q : Int) < n := by omega
      have HF := hide (few_yes HA.out (fun h => h1 (by rw [← HS.out.len]; exact h.1)) hq)
      go_wp2
      go_ret
      exact ⟨by rw [HF.out]; rfl, rfl⟩
def sumL : List Int → Int
  | [] => 0
  | x :: r => x + sumL r
theorem sum_append (l r : List Int) : sumL (l ++ r) = sumL l + sumL r := by
  induction l with
  | nil => simp [sumL]
  | cons x l ih => rw [List.cons_append, sumL, sumL, ih]; omega
theorem sum_next {l : List Int} {q : Nat} {x : Int} (h : l[q]? = some x) : sumL (l.take (q + 1)) = sumL (l.take q) + x := by
  rw [List.take_add_one, h, sum_append]
  show _ + (x + 0) = _
  omega
theorem sum_le (l : List Int) (hb : ∀ x ∈ l, 0 ≤ x ∧ x ≤ 1000000) : 0 ≤ sumL l ∧ sumL l ≤ 1000000 * l.length := by
  induction l with
  | nil => exact ⟨Int.le_refl _, by simp [sumL]⟩
  | cons x l ih =>
    have h1 := hb x (List.mem_cons_self ..)
    have h2 := ih (fun y hy => hb y (List.mem_cons_of_mem _ hy))
    rw [sumL, List.length_cons]
    omega
set_option maxRecDepth 100000 in
set_option maxHeartbeats 4000000 in
theorem sumR (l : List Int) (hl : l.length = 9) (hb : ∀ x ∈ l, 0 ≤ x ∧ x ≤ 1000000) (w : World) :
    Calls Tryz.prog 17 #[.agg (nsl l).toArray] w fun e w' => e = .returned (.int .i64 (sumL l)) ∧ Below w.heap.size w w' := by
  have HB := hide (below_alloc w (.cells (nsl l).toArray 46))
  have HX := hide (Box.new w (nsl l) 46)
  have HL := hide hl
  have HS := hide hb
  clear hl hb
  go_enter Tryz.func17, Tryz.ntmps17
  go_wp2
  generalize (w.alloc (.cells (nsl l).toArray 46)) = w1 at *
  go_loopg [3, 4] 9 (fun r s i wr => ∃ q : Nat, q ≤ 9 ∧ r = 9 - q ∧ i = .int .i64 q ∧ s = .int .i64 (sumL (l.take q)) ∧ wr = w1)
  case atStart => exact ⟨0, by omega, rfl, rfl, rfl, rfl⟩
  case round =>
    obtain ⟨q, hq, hr, rfl, rfl, rfl⟩ := hrel
    have HR := hide hr
    clear hr
    by_cases h1 : q < 9
    · have p1 : (q : Int) < 9 := by omega
      have p3 : (0 : Int) ≤ (q : Int) := by omega
      have p4 : IntKind.i64.wrap ((q : Int) + 1) = (q : Int) + 1 := IntWalk.i64_in _ (by omega)
      obtain ⟨x, hx⟩ : ∃ x, l[q]? = some x := ⟨_, List.getElem?_eq_getElem (by rw [HL.out]; exact h1)⟩
      have hc := HX.out.cell q (.int .i64 x) (by unfold nsl; rw [List.getElem?_map, hx]; rfl)
      have hN := hide (sum_next hx)
      have b1 := sum_le (l.take (q + 1)) (fun y hy => HS.out y (List.mem_of_mem_take hy))
      have b2 : (l.take (q + 1)).length ≤ 9 := by rw [List.length_take]; omega
      rw [hN.out] at b1
      have p5 : IntKind.i64.wrap (sumL (l.take q) + x) = sumL (l.take q) + x := IntWalk.i64_in _ (by omega)
      clear b1 b2
      go_wp2
      go_roundg (9 - (q + 1))
      case measure => rw [HR.out]; omega
      case rel => exact ⟨q + 1, by omega, rfl, by go_num, by rw [hN.out], rfl⟩
    · have p1 : ¬ (q : Int) < 9 := by omega
      have e1 : l.take q = l := List.take_of_length_le (by rw [HL.out]; omega)
      rw [e1]
      clear e1
      go_wp2
      go_ret
      exact ⟨rfl, HB.out⟩
end Go.Proofs.YtgpdjfaklcmoiaaGreat
