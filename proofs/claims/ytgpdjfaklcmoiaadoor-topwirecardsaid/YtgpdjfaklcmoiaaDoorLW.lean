/- TopWire: for every frame, port and bits the law answers true, and the arguments read behind the call as they read before; the package's table of kinds is as the program's text lays it. -/
import Derived.Test.YtgpdjfaklcmoiaaDoorTw
import Derived.BigQuiet
namespace Go.Proofs.YtgpdjfaklcmoiaaDoor
open Go.RowKit Go.PlainAid

/-- All that lies in memory while the law is under way. -/
structure WI (w z : World) (A0 A1 : PAd) (B0 B1 : Br) (f : Fd) (s : Value) (x y : Int) : Prop where
  p0 : PB z A0 B0
  p1 : PB z A1 B1
  lo : w.heap.size + 2 ≤ A0.lo
  md : A0.hi ≤ A1.lo
  hx : Box z w.heap.size (fcl f s)
  hz : Box z (w.heap.size + 1) [.int .i64 x, .int .i64 y]
  b : Below w.heap.size w z
theorem WI.on {w z z1 : World} {A0 A1 : PAd} {B0 B1 : Br} {f : Fd} {s : Value} {x y : Int} (h : WI w z A0 A1 B0 B1 f s x y) (hb : Below z.heap.size z z1) : WI w z1 A0 A1 B0 B1 f s x y :=
  ⟨h.p0.on hb, h.p1.on hb, h.lo, h.md, h.hx.on hb, h.hz.on hb, belowOn h.b hb⟩
theorem WI.one {w z z1 : World} {A0 A1 : PAd} {B0 B1 C0 : Br} {f : Fd} {s : Value} {x y : Int} (h : WI w z A0 A1 B0 B1 f s x y) (hp : PB z1 A0 C0) (hm : Mid A0.lo A0.hi z z1) : WI w z1 A0 A1 C0 B1 f s x y := by
  have l0 := h.p0.lt
  have l1 := h.p1.lt
  have lo := h.lo
  have md := h.md
  exact ⟨hp, h.p1.keep (fun k h1 h2 => hm.block k (by omega) (by omega)), lo, md, h.hx.block (hm.block _ h.hx.lt (by omega)), h.hz.block (hm.block _ h.hz.lt (by omega)), h.b.trans (hm.below (N := A0.lo) (by omega) |>.mono (by omega))⟩
theorem WI.two {w z z1 : World} {A0 A1 : PAd} {B0 B1 C1 : Br} {f : Fd} {s : Value} {x y : Int} (h : WI w z A0 A1 B0 B1 f s x y) (hp : PB z1 A1 C1) (hm : Mid A1.lo A1.hi z z1) : WI w z1 A0 A1 B0 C1 f s x y := by
  have l0 := h.p0.lt
  have l1 := h.p1.lt
  have lo := h.lo
  have md := h.md
  exact ⟨h.p0.keep (fun k h1 h2 => hm.block k (by omega) (by omega)), hp, lo, md, h.hx.block (hm.block _ h.hx.lt (by omega)), h.hz.block (hm.block _ h.hz.lt (by omega)), h.b.trans (hm.below (N := A1.lo) (by omega) |>.mono (by omega))⟩
/-- A round of the inner loop: the bridge that it is at, and the other one. -/
theorem WI.turn {w z : World} {A0 A1 : PAd} {B C : Br} {f : Fd} {s : Value} {x y : Int} {q : Nat} (hq : q < 2) (h : WI w z A0 A1 (if 0 < q then C else B) (if 1 < q then C else B) f s x y) :
    ∃ P : PAd, (if q = 0 then A0 else A1) = P ∧ PB z P B ∧ w.heap.size + 2 ≤ P.lo ∧ P.hi ≤ A1.hi ∧ ∀ z1, PB z1 P C → Mid P.lo P.hi z z1 → WI w z1 A0 A1 (if 0 < q + 1 then C else B) (if 1 < q + 1 then C else B) f s x y := by
  have l0 := h.p0.lt
  have l1 := h.p1.lt
  have lo := h.lo
  have md := h.md
  rcases (show q = 0 ∨ q = 1 by omega) with rfl | rfl
  · exact ⟨A0, rfl, h.p0, by omega, by omega, fun z1 hp hm => h.one hp hm⟩
  · exact ⟨A1, rfl, h.p1, by omega, by omega, fun z1 hp hm => h.two hp hm⟩
set_option maxRecDepth 100000 in
set_option maxHeartbeats 8000000 in
theorem topWireWalk (f : Fd) (a : Option Addr) (m c : Nat) (p x y : Int) (w : World) (hT : Ctl.KT w) (hM : Mok (mD f) ∧ Mok (mS f)) (hE : Eth.FdB (eF f)) (hY : Byt w a m c f.bs) :
    Calls Tryd.prog 3 #[.agg (FC f (.slice a m c)), .int .i64 p, .agg #[.int .i64 x, .int .i64 y]] w fun e w' => e = .returned (.bool true) ∧ Below w.heap.size w w' := by
  have HT := hide hT
  have HM := hide hM
  have HE := hide hE
  have HY := hide hY
  have HYL : Hid (∀ b o, a = some ⟨b, o, none⟩ → 0 < m → b < w.heap.size) := hide hY.lt
  have hx := Box.new w (fcl f (.slice a m c)) 26
  have hz := Box.new (w.alloc (.cells (fcl f (.slice a m c)).toArray 26)) [.int .i64 x, .int .i64 y] 27
  rw [World.size_alloc] at hz
  have HX := hide (hx.alloc (.cells [.int .i64 x, .int .i64 y].toArray 27))
  have HZ := hide hz
  have HB := hide (belowOn (below_alloc w (.cells (fcl f (.slice a m c)).toArray 26)) (below_alloc _ (.cells [.int .i64 x, .int .i64 y].toArray 27)))
  have HS : Hid (w.heap.size + 2 ≤ ((w.alloc (.cells (fcl f (.slice a m c)).toArray 26)).alloc (.cells [.int .i64 x, .int .i64 y].toArray 27)).heap.size) := hide (by rw [World.size_alloc, World.size_alloc]; exact Nat.le_refl _)
  clear hT hM hE hY hx hz
  have g4 : ∀ z, Calls Tryd.prog 4 #[.int .i64 4, .int .i64 20] z _ := fun z => newQ 4 20 z (by omega) (by omega) (by omega) (by omega)
  have G4 := hide g4
  clear g4
  have tk1 : True := trivial
  go_enter Tryd.func3, Tryd.ntmps3
  go_wp2_with fail
  refine (G4.out _).mono ?_
  rintro e z1 ⟨A0, rfl, hP, hlo, bb⟩
  have HP0 := hide hP
  have HL0 : Hid (w.heap.size + 2 ≤ A0.lo) := hide (Nat.le_trans HS.out hlo)
  replace HX := hide (HX.out.on bb)
  replace HZ := hide (HZ.out.on bb)
  replace HB := hide (belowOn HB.out bb)
  clear hP hlo bb HS
  go_wp2_with fail
  refine (G4.out _).mono ?_
  rintro e z2 ⟨A1, rfl, hP, hlo, bb⟩
  have HW := hide (show WI w z2 A0 A1 (bNew 4 20) (bNew 4 20) f (.slice a m c) x y from ⟨HP0.out.on bb, hP, HL0.out, Nat.le_trans HP0.out.lt.2.2.2.2 hlo, HX.out.on bb, HZ.out.on bb, belowOn HB.out bb⟩)
  clear hP hlo bb HX HZ HB HP0 HL0 G4
  have c16 := HW.out.hx.cell 16 _ rfl
  by_cases hm : m ≤ 1500
  rotate_left
  · have g1 : (1500 : Int) < (m : Int) := by omega
    go_wp2
    go_ret
    exact ⟨rfl, HW.out.b⟩
  have g1 : ¬ (1500 : Int) < (m : Int) := by omega
  have HMM := hide hm
  clear hm
  go_wp2_with fail
  go_loopg [10, 12] 4 (fun r i _ wr => ∃ (q : Nat) (B : Br), q ≤ 4 ∧ r = 4 - q ∧ i = .int .i64 ((q : Int) + 1) ∧ WI w wr A0 A1 B B f (.slice a m c) x y ∧ Wir B)
  case atStart => exact ⟨0, _, Nat.zero_le _, rfl, rfl, HW.out, wir_new⟩
  case round =>
    obtain ⟨q, B, hq, hr, rfl, hW, hI⟩ := hrel
    have HRK := hide hr
    have HI := hide hI
    replace HW := hide hW
    clear hr hI hW c16 g1
    by_cases hc : q < 4
    · have k1 : (q : Int) + 1 ≤ 4 := by omega
      go_wp2_with fail
      have hG := Box.new wr [.pointer (some ⟨A0.g, 0, none⟩), .pointer (some ⟨A1.g, 0, none⟩)] 28
      have HW2 := hide (HW.out.on (below_alloc wr (.cells [.pointer (some ⟨A0.g, 0, none⟩), .pointer (some ⟨A1.g, 0, none⟩)].toArray 28)))
      have HGL : Hid (A1.hi ≤ wr.heap.size) := hide HW.out.p1.lt.2.2.2.2
      have HBX := hide hG
      clear hG HW k1
      generalize wr.heap.size = G at *
      obtain ⟨TT, hTT⟩ : ∃ T : Bool, T = (bits .and .i64 (x / 2 ^ (q + 1)) 1 == 1) := ⟨_, rfl⟩
      obtain ⟨SS, hSS⟩ : ∃ S : Int, S = (wrap64 (2 * bits .and .i64 (y / 2 ^ (q + 1)) 1)) := ⟨_, rfl⟩
      obtain ⟨C, hC⟩ : ∃ C, C = wst B ((q : Int) + 1) TT SS := ⟨_, rfl⟩
      have HTT := hide hTT
      have HSS := hide hSS
      have HC := hide hC
      clear hTT hSS hC
      go_loopg [12, 55] 2 (fun r _ j wr => ∃ q2 : Nat, q2 ≤ 2 ∧ r = 2 - q2 ∧ j = .int .i64 q2 ∧ WI w wr A0 A1 (if 0 < q2 then C else B) (if 1 < q2 then C else B) f (.slice a m c) x y ∧ Box wr G [.pointer (some ⟨A0.g, 0, none⟩), .pointer (some ⟨A1.g, 0, none⟩)])
      case atStart => exact ⟨0, Nat.zero_le _, rfl, rfl, HW2.out, HBX.out⟩
      case round =>
        obtain ⟨q2, hq2, hr2, rfl, hW2, hB2⟩ := hrel
        have HR2 := hide hr2
        replace HBX := hide hB2
        replace HW2 := hide hW2
        clear hr2 hW2 hB2
        by_cases hd : q2 < 2
        · obtain ⟨P, hPe, hP, hPl, hPh, hback⟩ := HW2.out.turn hd
          have cG : wr.cell? ⟨G, q2, none⟩ = some (.pointer (some ⟨P.g, 0, none⟩)) := by
            rw [← hPe]
            rcases (show q2 = 0 ∨ q2 = 1 by omega) with rfl | rfl
            · exact HBX.out.cell 0 _ rfl
            · exact HBX.out.cell 1 _ rfl
          have HP := hide hP
          have HBK := hide hback
          have HPH := hide hPh
          have HPL := hide hPl
          have j1 : (0 : Int) ≤ (q2 : Int) := by omega
          have j2 : (q2 : Int) < 2 := by omega
          have j3 : IntKind.i64.wrap ((q2 : Int) + 1) = (q2 : Int) + 1 := IntWalk.i64_in _ (by omega)
          have e2 : IntKind.u64.wrap ((q : Int) + 1) = (q : Int) + 1 := by rcases (show q = 0 ∨ q = 1 ∨ q = 2 ∨ q = 3 by omega) with rfl | rfl | rfl | rfl <;> rfl
          clear hPe hP hback hPh hPl
          go_wp2_with fail
          have HZ0 := hide HW2.out.hz.drew
          have HP0 := hide HP.out.drew
          have BW : Hid (Below wr.heap.size wr wr.drew) := hide (below_drew wr)
          refine wp_region_held_drew (S := fun w' => Box w' (w.heap.size + 1) [.int .i64 x, .int .i64 y]) (by kernel_rfl) HZ0.out (fun hHeld => ?_)
          generalize wr.drew = y0 at *
          refine wpAnyH_take (i := 0) (v := .pointer (some ⟨P.g, 0, none⟩)) rfl (by kernel_rfl) (by kernel_rfl) (by kernel_rfl) (fun _ _ _ h => h) (Or.inl ⟨by rfl, ?_⟩) hHeld ?_
          · intro W hW; (try dsimp only at hW); go_simp
          change wpAnyH _ _ _ _ _ _ _ ⟨#[_,_,_,_,_,.pointer (some ⟨w.heap.size + 1, 0, none⟩),_,_,_,_,.int .i64 ((q : Int) + 1),_,.pointer (some ⟨P.g, 0, none⟩),_,_,_,_,_,_,_,_,_,_,_,_,_,_,_,_,_,_,_,_,_,_,_,_,_,_,_,_,_,_,_,_,_,_,_,_,_,_,_,_,_,_,_,_,_,_,.pointer (some ⟨P.g, 0, none⟩),_,_,_,_,_,_,_,_,_,_,_,_,_,_,_,_,_,_,_,_,_,_,_,_,_,_,_,_,_,_,_,_,_,_,_,_,_,_,_,_,_,_,_,_,_,_,_,_,_,_,_,_,_,_,_,_,_,_,_,_,_,_,_,_,_,_,_,_,_,_,_,_,_,_,_,_,_,_,_,_,_,_,_,_,_,_,_,_,_,_,_,_,_,_,_,_,_,_,_,_], []⟩ _
          refine wpAnyH_take (i := 2) (v := .int .i64 ((q : Int) + 1)) rfl (by kernel_rfl) (by kernel_rfl) (by kernel_rfl) (fun _ _ _ h => h) (Or.inl ⟨by rfl, ?_⟩) hHeld ?_
          · intro W hW; (try dsimp only at hW); go_simp
          change wpAnyH _ _ _ _ _ _ _ ⟨#[_,_,_,_,_,.pointer (some ⟨w.heap.size + 1, 0, none⟩),_,_,_,_,.int .i64 ((q : Int) + 1),_,.pointer (some ⟨P.g, 0, none⟩),_,_,_,_,_,_,_,_,_,_,_,_,_,_,_,_,_,_,_,_,_,_,_,_,_,_,_,_,_,_,_,_,_,_,_,_,_,_,_,_,_,_,_,_,_,_,.pointer (some ⟨P.g, 0, none⟩),_,.int .i64 ((q : Int) + 1),_,_,_,_,_,_,_,_,_,_,_,_,_,_,_,_,_,_,_,_,_,_,_,_,_,_,_,_,_,_,_,_,_,_,_,_,_,_,_,_,_,_,_,_,_,_,_,_,_,_,_,_,_,_,_,_,_,_,_,_,_,_,_,_,_,_,_,_,_,_,_,_,_,_,_,_,_,_,_,_,_,_,_,_,_,_,_,_,_,_,_,_,_,_,_,_,_,_], []⟩ _
          refine wpAnyH_take (i := 3) (v := .pointer (some ⟨w.heap.size + 1, 0, none⟩)) rfl (by kernel_rfl) (by kernel_rfl) (by kernel_rfl) (fun _ _ _ h => h) (Or.inl ⟨by rfl, ?_⟩) hHeld ?_
          · intro W hW; (try dsimp only at hW); go_simp
          change wpAnyH _ _ _ _ _ _ _ ⟨#[_,_,_,_,_,.pointer (some ⟨w.heap.size + 1, 0, none⟩),_,_,_,_,.int .i64 ((q : Int) + 1),_,.pointer (some ⟨P.g, 0, none⟩),_,_,_,_,_,_,_,_,_,_,_,_,_,_,_,_,_,_,_,_,_,_,_,_,_,_,_,_,_,_,_,_,_,_,_,_,_,_,_,_,_,_,_,_,_,_,.pointer (some ⟨P.g, 0, none⟩),_,.int .i64 ((q : Int) + 1),.pointer (some ⟨w.heap.size + 1, 0, none⟩),_,_,_,_,_,_,_,_,_,_,_,_,_,_,_,_,_,_,_,_,_,_,_,_,_,_,_,_,_,_,_,_,_,_,_,_,_,_,_,_,_,_,_,_,_,_,_,_,_,_,_,_,_,_,_,_,_,_,_,_,_,_,_,_,_,_,_,_,_,_,_,_,_,_,_,_,_,_,_,_,_,_,_,_,_,_,_,_,_,_,_,_,_,_,_,_,_], []⟩ _
          refine wpAnyH_take (i := 4) (v := .int .i64 x) rfl (by kernel_rfl) (by kernel_rfl) (by kernel_rfl) (fun _ _ _ h => h) (Or.inl ⟨by rfl, ?_⟩) hHeld ?_
          · intro W hW; (try dsimp only at hW); have c0 := hW.cell 0 _ rfl; clear hW; go_simp
          change wpAnyH _ _ _ _ _ _ _ ⟨#[_,_,_,_,_,.pointer (some ⟨w.heap.size + 1, 0, none⟩),_,_,_,_,.int .i64 ((q : Int) + 1),_,.pointer (some ⟨P.g, 0, none⟩),_,_,_,_,_,_,_,_,_,_,_,_,_,_,_,_,_,_,_,_,_,_,_,_,_,_,_,_,_,_,_,_,_,_,_,_,_,_,_,_,_,_,_,_,_,_,.pointer (some ⟨P.g, 0, none⟩),_,.int .i64 ((q : Int) + 1),.pointer (some ⟨w.heap.size + 1, 0, none⟩),.int .i64 x,_,_,_,_,_,_,_,_,_,_,_,_,_,_,_,_,_,_,_,_,_,_,_,_,_,_,_,_,_,_,_,_,_,_,_,_,_,_,_,_,_,_,_,_,_,_,_,_,_,_,_,_,_,_,_,_,_,_,_,_,_,_,_,_,_,_,_,_,_,_,_,_,_,_,_,_,_,_,_,_,_,_,_,_,_,_,_,_,_,_,_,_,_,_,_,_], []⟩ _
          refine wpAnyH_take (i := 5) (v := .int .i64 ((q : Int) + 1)) rfl (by kernel_rfl) (by kernel_rfl) (by kernel_rfl) (fun _ _ _ h => h) (Or.inl ⟨by rfl, ?_⟩) hHeld ?_
          · intro W hW; (try dsimp only at hW); go_simp
          change wpAnyH _ _ _ _ _ _ _ ⟨#[_,_,_,_,_,.pointer (some ⟨w.heap.size + 1, 0, none⟩),_,_,_,_,.int .i64 ((q : Int) + 1),_,.pointer (some ⟨P.g, 0, none⟩),_,_,_,_,_,_,_,_,_,_,_,_,_,_,_,_,_,_,_,_,_,_,_,_,_,_,_,_,_,_,_,_,_,_,_,_,_,_,_,_,_,_,_,_,_,_,.pointer (some ⟨P.g, 0, none⟩),_,.int .i64 ((q : Int) + 1),.pointer (some ⟨w.heap.size + 1, 0, none⟩),.int .i64 x,.int .i64 ((q : Int) + 1),_,_,_,_,_,_,_,_,_,_,_,_,_,_,_,_,_,_,_,_,_,_,_,_,_,_,_,_,_,_,_,_,_,_,_,_,_,_,_,_,_,_,_,_,_,_,_,_,_,_,_,_,_,_,_,_,_,_,_,_,_,_,_,_,_,_,_,_,_,_,_,_,_,_,_,_,_,_,_,_,_,_,_,_,_,_,_,_,_,_,_,_,_,_,_], []⟩ _
          refine wpAnyH_take (i := 6) (v := .int .u64 ((q : Int) + 1)) rfl (by kernel_rfl) (by kernel_rfl) (by kernel_rfl) (fun _ _ _ h => h) (Or.inl ⟨by rfl, ?_⟩) hHeld ?_
          · intro W hW; (try dsimp only at hW); go_simp
          change wpAnyH _ _ _ _ _ _ _ ⟨#[_,_,_,_,_,.pointer (some ⟨w.heap.size + 1, 0, none⟩),_,_,_,_,.int .i64 ((q : Int) + 1),_,.pointer (some ⟨P.g, 0, none⟩),_,_,_,_,_,_,_,_,_,_,_,_,_,_,_,_,_,_,_,_,_,_,_,_,_,_,_,_,_,_,_,_,_,_,_,_,_,_,_,_,_,_,_,_,_,_,.pointer (some ⟨P.g, 0, none⟩),_,.int .i64 ((q : Int) + 1),.pointer (some ⟨w.heap.size + 1, 0, none⟩),.int .i64 x,.int .i64 ((q : Int) + 1),.int .u64 ((q : Int) + 1),_,_,_,_,_,_,_,_,_,_,_,_,_,_,_,_,_,_,_,_,_,_,_,_,_,_,_,_,_,_,_,_,_,_,_,_,_,_,_,_,_,_,_,_,_,_,_,_,_,_,_,_,_,_,_,_,_,_,_,_,_,_,_,_,_,_,_,_,_,_,_,_,_,_,_,_,_,_,_,_,_,_,_,_,_,_,_,_,_,_,_,_,_,_], []⟩ _
          refine wpAnyH_take (i := 7) (v := .int .i64 (x / 2 ^ (q + 1))) rfl (by kernel_rfl) (by kernel_rfl) (by kernel_rfl) (fun _ _ _ h => h) (Or.inl ⟨by rfl, ?_⟩) hHeld ?_
          · intro W hW; (try dsimp only at hW); go_simp
          change wpAnyH _ _ _ _ _ _ _ ⟨#[_,_,_,_,_,.pointer (some ⟨w.heap.size + 1, 0, none⟩),_,_,_,_,.int .i64 ((q : Int) + 1),_,.pointer (some ⟨P.g, 0, none⟩),_,_,_,_,_,_,_,_,_,_,_,_,_,_,_,_,_,_,_,_,_,_,_,_,_,_,_,_,_,_,_,_,_,_,_,_,_,_,_,_,_,_,_,_,_,_,.pointer (some ⟨P.g, 0, none⟩),_,.int .i64 ((q : Int) + 1),.pointer (some ⟨w.heap.size + 1, 0, none⟩),.int .i64 x,.int .i64 ((q : Int) + 1),.int .u64 ((q : Int) + 1),.int .i64 (x / 2 ^ (q + 1)),_,_,_,_,_,_,_,_,_,_,_,_,_,_,_,_,_,_,_,_,_,_,_,_,_,_,_,_,_,_,_,_,_,_,_,_,_,_,_,_,_,_,_,_,_,_,_,_,_,_,_,_,_,_,_,_,_,_,_,_,_,_,_,_,_,_,_,_,_,_,_,_,_,_,_,_,_,_,_,_,_,_,_,_,_,_,_,_,_,_,_,_,_], []⟩ _
          refine wpAnyH_take (i := 8) (v := .int .i64 (bits .and .i64 (x / 2 ^ (q + 1)) 1)) rfl (by kernel_rfl) (by kernel_rfl) (by kernel_rfl) (fun _ _ _ h => h) (Or.inl ⟨by rfl, ?_⟩) hHeld ?_
          · intro W hW; (try dsimp only at hW); go_simp
          change wpAnyH _ _ _ _ _ _ _ ⟨#[_,_,_,_,_,.pointer (some ⟨w.heap.size + 1, 0, none⟩),_,_,_,_,.int .i64 ((q : Int) + 1),_,.pointer (some ⟨P.g, 0, none⟩),_,_,_,_,_,_,_,_,_,_,_,_,_,_,_,_,_,_,_,_,_,_,_,_,_,_,_,_,_,_,_,_,_,_,_,_,_,_,_,_,_,_,_,_,_,_,.pointer (some ⟨P.g, 0, none⟩),_,.int .i64 ((q : Int) + 1),.pointer (some ⟨w.heap.size + 1, 0, none⟩),.int .i64 x,.int .i64 ((q : Int) + 1),.int .u64 ((q : Int) + 1),.int .i64 (x / 2 ^ (q + 1)),.int .i64 (bits .and .i64 (x / 2 ^ (q + 1)) 1),_,_,_,_,_,_,_,_,_,_,_,_,_,_,_,_,_,_,_,_,_,_,_,_,_,_,_,_,_,_,_,_,_,_,_,_,_,_,_,_,_,_,_,_,_,_,_,_,_,_,_,_,_,_,_,_,_,_,_,_,_,_,_,_,_,_,_,_,_,_,_,_,_,_,_,_,_,_,_,_,_,_,_,_,_,_,_,_,_,_,_,_], []⟩ _
          refine wpAnyH_take (i := 9) (v := .bool TT) rfl (by kernel_rfl) (by kernel_rfl) (by kernel_rfl) (fun _ _ _ h => h) (Or.inl ⟨by rfl, ?_⟩) hHeld ?_
          · intro W hW; (try dsimp only at hW); rw [HTT.out]; go_simp
          change wpAnyH _ _ _ _ _ _ _ ⟨#[_,_,_,_,_,.pointer (some ⟨w.heap.size + 1, 0, none⟩),_,_,_,_,.int .i64 ((q : Int) + 1),_,.pointer (some ⟨P.g, 0, none⟩),_,_,_,_,_,_,_,_,_,_,_,_,_,_,_,_,_,_,_,_,_,_,_,_,_,_,_,_,_,_,_,_,_,_,_,_,_,_,_,_,_,_,_,_,_,_,.pointer (some ⟨P.g, 0, none⟩),_,.int .i64 ((q : Int) + 1),.pointer (some ⟨w.heap.size + 1, 0, none⟩),.int .i64 x,.int .i64 ((q : Int) + 1),.int .u64 ((q : Int) + 1),.int .i64 (x / 2 ^ (q + 1)),.int .i64 (bits .and .i64 (x / 2 ^ (q + 1)) 1),.bool TT,_,_,_,_,_,_,_,_,_,_,_,_,_,_,_,_,_,_,_,_,_,_,_,_,_,_,_,_,_,_,_,_,_,_,_,_,_,_,_,_,_,_,_,_,_,_,_,_,_,_,_,_,_,_,_,_,_,_,_,_,_,_,_,_,_,_,_,_,_,_,_,_,_,_,_,_,_,_,_,_,_,_,_,_,_,_,_,_,_,_,_], []⟩ _
          refine wpAnyH_ready (rs := [1]) (by kernel_rfl) (by simp) ?_
          refine AllReadyH.cons rfl (fun K hK => ?_) AllReadyH.nil
          go_simp
          refine (vlansQ P B _ HP0.out).mono ?_
          rintro e y1 ⟨rfl, hw⟩
          obtain rfl : y0 = y1 := hw.symm
          refine hK.out _ _ HZ0.out (fun hHeld => ?_)
          clear hK K
          change wpAnyH _ _ _ _ _ _ _ ⟨#[_,_,_,_,_,.pointer (some ⟨w.heap.size + 1, 0, none⟩),_,_,_,_,.int .i64 ((q : Int) + 1),_,.pointer (some ⟨P.g, 0, none⟩),_,_,_,_,_,_,_,_,_,_,_,_,_,_,_,_,_,_,_,_,_,_,_,_,_,_,_,_,_,_,_,_,_,_,_,_,_,_,_,_,_,_,_,_,_,_,.pointer (some ⟨P.g, 0, none⟩),.pointer (some ⟨P.h + 2, 0, none⟩),.int .i64 ((q : Int) + 1),.pointer (some ⟨w.heap.size + 1, 0, none⟩),.int .i64 x,.int .i64 ((q : Int) + 1),.int .u64 ((q : Int) + 1),.int .i64 (x / 2 ^ (q + 1)),.int .i64 (bits .and .i64 (x / 2 ^ (q + 1)) 1),.bool TT,_,_,_,_,_,_,_,_,_,_,_,_,_,_,_,_,_,_,_,_,_,_,_,_,_,_,_,_,_,_,_,_,_,_,_,_,_,_,_,_,_,_,_,_,_,_,_,_,_,_,_,_,_,_,_,_,_,_,_,_,_,_,_,_,_,_,_,_,_,_,_,_,_,_,_,_,_,_,_,_,_,_,_,_,_,_,_,_,_,_,_], []⟩ _
          refine wpAnyH_ready (rs := [10]) (by kernel_rfl) (by simp) ?_
          refine AllReadyH.cons rfl (fun K hK => ?_) AllReadyH.nil
          go_simp
          refine (add23 P.h B.V 1 ((q : Int) + 1) TT _ HP0.out.pv).mono ?_
          rintro e z3 ⟨rfl, hT, hM⟩
          have hlt := HP0.out.lt
          have HPB := hide (HP0.out.vlan hT hM (wAdd_n _ _ _ _))
          have HM3 := hide (mid_out (N := P.lo) (M := P.hi) hM (by omega) (by omega))
          have hx1 := HZ0.out.block (HM3.out.block _ HZ0.out.lt (Or.inl (by have := HPL.out; omega)))
          refine hK.out _ _ hx1 (fun hHeld => ?_)
          clear hK K hT hM hlt hx1
          change wpAnyH _ _ _ _ _ _ _ ⟨#[_,_,_,_,_,.pointer (some ⟨w.heap.size + 1, 0, none⟩),_,_,_,_,.int .i64 ((q : Int) + 1),_,.pointer (some ⟨P.g, 0, none⟩),_,_,_,_,_,_,_,_,_,_,_,_,_,_,_,_,_,_,_,_,_,_,_,_,_,_,_,_,_,_,_,_,_,_,_,_,_,_,_,_,_,_,_,_,_,_,.pointer (some ⟨P.g, 0, none⟩),.pointer (some ⟨P.h + 2, 0, none⟩),.int .i64 ((q : Int) + 1),.pointer (some ⟨w.heap.size + 1, 0, none⟩),.int .i64 x,.int .i64 ((q : Int) + 1),.int .u64 ((q : Int) + 1),.int .i64 (x / 2 ^ (q + 1)),.int .i64 (bits .and .i64 (x / 2 ^ (q + 1)) 1),.bool TT,.int .i64 (eAdd B.V 1 ((q : Int) + 1)),_,_,_,_,_,_,_,_,_,_,_,_,_,_,_,_,_,_,_,_,_,_,_,_,_,_,_,_,_,_,_,_,_,_,_,_,_,_,_,_,_,_,_,_,_,_,_,_,_,_,_,_,_,_,_,_,_,_,_,_,_,_,_,_,_,_,_,_,_,_,_,_,_,_,_,_,_,_,_,_,_,_,_,_,_,_,_,_,_,_], []⟩ _
          refine wpAnyH_done (by kernel_rfl) ?_ _
          have HZ3 := hide hHeld
          have HM0 : Hid (Mid P.lo P.hi wr z3) := hide (((Mid.refl _ _ _).on BW.out).trans HM3.out)
          clear hHeld HM3 HZ0 HP0 BW HP
          go_wp2_with fail
          refine (vlansQ P _ _ HPB.out).mono ?_
          rintro e y2 ⟨rfl, hw⟩
          obtain rfl : z3 = y2 := hw.symm
          clear hw
          go_wp2_with fail
          refine (native22 P.h (tAdd B.V 1 ((q : Int) + 1) TT) ((q : Int) + 1) 1 _ HPB.out.pv).mono ?_
          rintro e z4 ⟨rfl, hT, hM⟩
          have hlt := HPB.out.lt
          have HP4 := hide (HPB.out.vlan hT hM (wNat_n _ _ _))
          have HM4 : Hid (Mid P.lo P.hi z3 z4) := hide (mid_out hM (by omega) (by omega))
          have HZ4 := hide (HZ3.out.block (HM4.out.block _ HZ3.out.lt (Or.inl (by have := HPL.out; omega))))
          have HM5 := hide (HM0.out.trans HM4.out)
          clear hT hM hlt HPB HZ3 HM0 HM4
          have cz := HZ4.out.cell 1 _ rfl
          go_wp2_with fail
          rw [← HSS.out]
          refine (setQ P _ ((q : Int) + 1) SS _ HP4.out).mono ?_
          rintro e z5 ⟨rfl, hP5, hM5⟩
          have HF := hide (HBK.out z5 (by rw [HC.out]; exact hP5) (HM5.out.trans hM5))
          have HB5 := hide (HBX.out.block ((HM5.out.trans hM5).block _ HBX.out.lt (Or.inr (by have := HPH.out; have := HGL.out; omega))))
          clear hP5 hM5 cz HP4 HM5 HZ4
          go_wp2
          go_roundg (2 - (q2 + 1))
          case measure => rw [HR2.out]; omega
          case rel => exact ⟨q2 + 1, by omega, rfl, by go_num, HF.out, HB5.out⟩
        · have j2 : ¬ (q2 : Int) < 2 := by omega
          obtain rfl : q2 = 2 := by omega
          have h5 := HW2.out
          rw [if_pos (by omega), if_pos (by omega)] at h5
          have HW3 := hide h5
          have e5 : IntKind.i64.wrap ((q : Int) + 1 + 1) = (q : Int) + 1 + 1 := IntWalk.i64_in _ (by omega)
          clear h5 HW2
          go_wp2
          go_roundg (4 - (q + 1))
          case measure => rw [HRK.out]; omega
          case rel => exact ⟨q + 1, C, by omega, rfl, by go_num, HW3.out, by rw [HC.out]; exact HI.out.st _ _ _⟩
    · have k1 : ¬ (q : Int) + 1 ≤ 4 := by omega
      clear HRK
      have HQ := hide (fun z (b : Below wr.heap.size wr z) => takeQ A0 B p f a m c 0 z (HW.out.p0.on b) (HY.out.on (belowOn HW.out.b b)) HM.out.1 HM.out.2 HI.out.l HI.out.c (fun b o e hp => Or.inl (by have := HYL.out b o e hp; have := HW.out.lo; omega)))
      unfold WyQ at HQ
      have HYES := hide (wire_yes HW.out.p0.wf HI.out (p := p) (f := f))
      have HNO := hide (wire_no (B := B) (p := p) (f := f))
      obtain ⟨T, hT⟩ : ∃ T, T = tk B p f 0 := ⟨_, rfl⟩
      rw [← hT] at HQ HYES HNO
      clear hT
      obtain ⟨⟨C, V, TT, oo⟩, B1⟩ := T
      dsimp only at HQ HYES HNO
      have tk2 : True := trivial
      go_wp2_with (first | (have _t := tk2; refine wpl_frame (.tmp 3) rfl HW.out.hx ?_ ?_ ?_; rfl; rfl; clear tk2))
      refine (HQ.out _ (Below.refl _ _)).mono ?_
      rintro e z1 ⟨ao, ys, cc, rfl, hO, hm, hP1, hMd, hown⟩
      have HW1 := hide (HW.out.one hP1 hMd)
      have HO := hide hO
      have HMO := hide hm
      have bz := below_alloc z1 (.cells (wcl 0 0 0 (.slice none 0 0)).toArray 40)
      have K0 := Box.new z1 (wcl 0 0 0 (.slice none 0 0)) 40
      have HBZ := hide bz
      have HK0 := hide K0
      clear hO hm hP1 hMd hown bz K0 HQ HW
      have tk3 : True := trivial
      by_cases hC : C = 0
      rotate_left
      · have g1 : (C != 0) = true := by simpa using hC
        have hl : ys.length = 0 := by have h1 := congrArg List.length HMO.out; rw [HNO.out hC, List.length_map] at h1; exact h1
        have g2 : ((ys.length : Int) == 0) = true := by rw [hl]; rfl
        have HB0 := hide (belowOn HW1.out.b HBZ.out)
        clear hl hC HYES HNO
        go_wp2_with (first | (have _t := tk3; refine wpl_putW C V TT ao ys.length cc _ (.tmp 13) (.tmp 88) rfl HK0.out rfl ?_ ?_ ?_ ?_; rfl; rfl; rfl; clear tk3; intro z9 K9 G9; have c90 := K9.cell 0 _ rfl; have c93 := K9.cell 3 _ rfl; have HB9 := hide (HB0.out.trans (below_grown (Below.refl _ _) G9 (Nat.le_trans HW1.out.b.size (Nat.le_refl _)) (Nat.le_trans HW1.out.b.size HBZ.out.size))); clear K9 G9))
        go_ret
        exact ⟨rfl, HB9.out⟩
      · obtain ⟨hrt, hpp, hvv, rfl, hoo⟩ := HYES.out hC
        subst hC
        have HRT := hide hrt
        have HPP : Hid (0 ≤ p ∧ p ≤ 1000) := hide (by omega)
        have HVV := hide hvv
        have HV64 : Hid (I64 V) := hide (by unfold I64; omega)
        rw [hoo] at HMO
        have HSH := hide (enc_short hrt)
        clear HYES HNO hrt hpp hvv hoo
        have tk4 : True := trivial
        go_wp2_with (first | (have _t := tk3; refine wpl_putW 0 V 0 ao ys.length cc _ (.tmp 13) (.tmp 88) rfl HK0.out rfl ?_ ?_ ?_ ?_; rfl; rfl; rfl; clear tk3; intro z9 K9 G9; have HK9 := hide K9; have HB9 := hide (below_grown HBZ.out G9 (Nat.le_refl _) HBZ.out.size); have c90 := K9.cell 0 _ rfl; have HW9 := hide (HW1.out.on HB9.out); clear K9 G9) | (have _t := tk4; refine wpl_frame (.tmp 3) rfl HW9.out.hx ?_ ?_ ?_; rfl; rfl; clear tk4))
        replace HO := hide (HO.out.on HB9.out)
        obtain ⟨kw, hkw⟩ : ∃ kw, kw = z1.heap.size := ⟨_, rfl⟩
        rw [← hkw] at HK9
        rw [← hkw]
        clear hkw HW1 HBZ HK0 HB9 c90
        refine (encodeQ f a m c _ HE.out (HY.out.on HW9.out.b) HRT.out).mono ?_
        rintro e u1 ⟨ra, rn, rc, rfl, hR, b1⟩
        replace HW9 := hide (HW9.out.on b1)
        replace HK9 := hide (HK9.out.on b1)
        replace HO := hide (HO.out.on b1)
        have HR := hide hR
        clear hR b1
        have c91 := HK9.out.cell 1 _ rfl
        have c92 := HK9.out.cell 2 _ rfl
        go_wp2_with fail
        refine (packQ V p 0 (Eth.enc (eF f)) ra rn rc _ (HT.out.on HW9.out.b) HR.out HVV.out HPP.out (by omega) HSH.out).mono ?_
        rintro e u2 ⟨sa1, sn1, sc1, rfl, hS, b2⟩
        replace HW9 := hide (HW9.out.on b2)
        replace HK9 := hide (HK9.out.on b2)
        replace HO := hide (HO.out.on b2)
        have HS1 := hide hS
        clear hS b2 c91 c92 HR
        go_wp2_with fail
        refine (unpackQ V p 0 (Eth.enc (eF f)) sa1 sn1 sc1 _ (HT.out.on HW9.out.b) HS1.out HVV.out HPP.out (by omega) HSH.out).mono ?_
        rintro e u3 ⟨sa, sm, sc, rfl, hD, b3⟩
        replace HW9 := hide (HW9.out.on b3)
        replace HK9 := hide (HK9.out.on b3)
        replace HO := hide (HO.out.on b3)
        have HD := hide hD
        have HBZ := hide (below_alloc u3 (.cells (Ctl.pcl Ctl.zeroP (.slice none 0 0)).toArray 48))
        have HKP0 := hide (Ctl.Box.new u3 (Ctl.pcl Ctl.zeroP (.slice none 0 0)) 48)
        clear hD b3 HS1
        have tk5 : True := trivial
        go_wp2_with (first | (have _t := tk5; refine Ctl.wpl_putP (pkt V p 0 (Eth.enc (eF f))) (.slice sa sm sc) Ctl.zeroP (.slice none 0 0) rfl (.tmp 18) (.tmp 116) rfl HKP0.out ?_ ?_ ?_ ?_; rfl; rfl; rfl; clear tk5; intro u4 K4 G4; have HKP := hide (toB K4); have HB4 := hide (below_grown HBZ.out G4 (Nat.le_refl _) HBZ.out.size); have c13 := K4.cell 13 _ rfl; clear K4 G4))
        replace HW9 := hide (HW9.out.on HB4.out)
        replace HK9 := hide (HK9.out.on HB4.out)
        replace HO := hide (HO.out.on HB4.out)
        replace HD := hide (HD.out.on HB4.out)
        obtain ⟨kp, hkp⟩ : ∃ kp, kp = u3.heap.size := ⟨_, rfl⟩
        rw [← hkp] at HKP
        rw [← hkp]
        clear hkp HBZ HKP0 HB4 c13
        refine (decodeQ f sa sm sc _ HD.out HRT.out).mono ?_
        rintro e u5 ⟨a9, n9, c9, rfl, hF, b5⟩
        replace HW9 := hide (HW9.out.on b5)
        replace HK9 := hide (HK9.out.on b5)
        replace HO := hide (HO.out.on b5)
        replace HKP := hide (HKP.out.on b5)
        have HY9 := hide hF
        have HBZ := hide (below_alloc u5 (.cells (fcl zeroF (.slice none 0 0)).toArray 26))
        have HKF0 := hide (Box.new u5 (fcl zeroF (.slice none 0 0)) 26)
        clear hF b5 HD
        have tk6 : True := trivial
        have tk7 : True := trivial
        have tk8 : True := trivial
        go_wp2_with (first | (have _t := tk6; refine wpl_putF f (.slice a9 n9 c9) zeroF (.slice none 0 0) rfl (.tmp 20) (.tmp 123) rfl HKF0.out ?_ ?_ ?_ ?_; rfl; rfl; rfl; clear tk6; intro u6 K6 G6; have HKF := hide K6; have HB6 := hide (below_grown HBZ.out G6 (Nat.le_refl _) HBZ.out.size); replace HW9 := hide (HW9.out.on HB6.out); clear K6 G6) | (have _t := tk7; refine wpl_frame (.tmp 20) rfl HKF.out ?_ ?_ ?_; rfl; rfl; clear tk7) | (have _t := tk8; refine wpl_frame (.tmp 3) rfl HW9.out.hx ?_ ?_ ?_; rfl; rfl; clear tk8))
        replace HK9 := hide (HK9.out.on HB6.out)
        replace HO := hide (HO.out.on HB6.out)
        replace HKP := hide (HKP.out.on HB6.out)
        replace HY9 := hide (HY9.out.on HB6.out)
        obtain ⟨kb, hkb⟩ : ∃ kb, kb = u5.heap.size := ⟨_, rfl⟩
        rw [← hkb] at HKF
        rw [← hkb]
        clear hkb HBZ HKF0 HB6
        refine (same21 f a9 a n9 c9 m c _ HY9.out (HY.out.on HW9.out.b)).mono ?_
        rintro e zz ⟨rfl, b7⟩
        replace HW9 := hide (HW9.out.on b7)
        replace HK9 := hide (HK9.out.on b7)
        replace HO := hide (HO.out.on b7)
        replace HKP := hide (HKP.out.on b7)
        replace HKF := hide (HKF.out.on b7)
        replace HY9 := hide (HY9.out.on b7)
        have HS9 : Hid (∀ z, Below zz.heap.size zz z → Box z kw (wcl 0 V 0 (.slice ao ys.length cc)) ∧ Box z kp (Ctl.pcl (pkt V p 0 (Eth.enc (eF f))) (.slice sa sm sc)) ∧ Box z kb (fcl f (.slice a9 n9 c9))) := hide (fun z b => ⟨HK9.out.on b, HKP.out.on b, HKF.out.on b⟩)
        clear b7 HK9 HKP HKF
        go_wp2_with fail
        refine wp_region_held_drew (S := fun w' => Box w' kw (wcl 0 V 0 (.slice ao ys.length cc)) ∧ Box w' kp (Ctl.pcl (pkt V p 0 (Eth.enc (eF f))) (.slice sa sm sc)) ∧ Box w' kb (fcl f (.slice a9 n9 c9))) (by kernel_rfl) (HS9.out _ (below_drew _)) (fun hHeld => ?_)
        have HPZ := hide (HW9.out.p1.drew)
        have BZ := hide (below_drew zz)
        have HSZ := hide (HS9.out _ (below_drew _))
        generalize zz.drew = y0 at *
        refine wpAnyH_take (i := 0) (v := .bool true) rfl (by kernel_rfl) (by kernel_rfl) (by kernel_rfl) (fun _ _ _ h => h) (Or.inl ⟨by rfl, ?_⟩) hHeld ?_
        · intro W hW; (try dsimp only at hW); go_simp
        change wpAnyH _ _ _ _ _ _ _ ⟨#[_,_,_,_,_,_,_,_,_,.pointer (some ⟨A1.g, 0, none⟩),_,_,_,.pointer (some ⟨kw, 0, none⟩),_,_,_,_,.pointer (some ⟨kp, 0, none⟩),_,.pointer (some ⟨kb, 0, none⟩),_,.bool true,_,_,_,_,_,_,_,_,_,_,_,_,_,_,_,_,_,_,_,_,_,_,_,_,_,_,_,_,_,_,_,_,_,_,_,_,_,_,_,_,_,_,_,_,_,_,_,_,_,_,_,_,_,_,_,_,_,_,_,_,_,_,_,_,_,_,_,_,_,_,_,_,_,_,_,_,_,_,_,_,_,_,_,_,_,_,_,_,_,_,_,_,_,_,_,_,_,_,_,_,_,_,_,_,_,_,_,_,_,_,_,_,_,_,_,_,_,_,_,.bool true,_,_,_,_,_,_,_,_,_,_,_,_,_,_,_,_,_], []⟩ _
        refine wpAnyH_take (i := 1) (v := .bool true) rfl (by kernel_rfl) (by kernel_rfl) (by kernel_rfl) (fun _ _ _ h => h) (Or.inl ⟨by rfl, ?_⟩) hHeld ?_
        · intro W hW; (try dsimp only at hW); go_simp
        change wpAnyH _ _ _ _ _ _ _ ⟨#[_,_,_,_,_,_,_,_,_,.pointer (some ⟨A1.g, 0, none⟩),_,_,_,.pointer (some ⟨kw, 0, none⟩),_,_,_,_,.pointer (some ⟨kp, 0, none⟩),_,.pointer (some ⟨kb, 0, none⟩),_,.bool true,_,_,_,_,_,_,_,_,_,_,_,_,_,_,_,_,_,_,_,_,_,_,_,_,_,_,_,_,_,_,_,_,_,_,_,_,_,_,_,_,_,_,_,_,_,_,_,_,_,_,_,_,_,_,_,_,_,_,_,_,_,_,_,_,_,_,_,_,_,_,_,_,_,_,_,_,_,_,_,_,_,_,_,_,_,_,_,_,_,_,_,_,_,_,_,_,_,_,_,_,_,_,_,_,_,_,_,_,_,_,_,_,_,_,_,_,_,_,_,.bool true,.bool true,_,_,_,_,_,_,_,_,_,_,_,_,_,_,_,_], []⟩ _
        refine wpAnyH_take (i := 2) (v := .pointer (some ⟨A1.g, 0, none⟩)) rfl (by kernel_rfl) (by kernel_rfl) (by kernel_rfl) (fun _ _ _ h => h) (Or.inl ⟨by rfl, ?_⟩) hHeld ?_
        · intro W hW; (try dsimp only at hW); go_simp
        change wpAnyH _ _ _ _ _ _ _ ⟨#[_,_,_,_,_,_,_,_,_,.pointer (some ⟨A1.g, 0, none⟩),_,_,_,.pointer (some ⟨kw, 0, none⟩),_,_,_,_,.pointer (some ⟨kp, 0, none⟩),_,.pointer (some ⟨kb, 0, none⟩),_,.bool true,_,_,_,_,_,_,_,_,_,_,_,_,_,_,_,_,_,_,_,_,_,_,_,_,_,_,_,_,_,_,_,_,_,_,_,_,_,_,_,_,_,_,_,_,_,_,_,_,_,_,_,_,_,_,_,_,_,_,_,_,_,_,_,_,_,_,_,_,_,_,_,_,_,_,_,_,_,_,_,_,_,_,_,_,_,_,_,_,_,_,_,_,_,_,_,_,_,_,_,_,_,_,_,_,_,_,_,_,_,_,_,_,_,_,_,_,_,_,_,.bool true,.bool true,.pointer (some ⟨A1.g, 0, none⟩),_,_,_,_,_,_,_,_,_,_,_,_,_,_,_], []⟩ _
        refine wpAnyH_take (i := 3) (v := .pointer (some ⟨kp, 3, none⟩)) rfl (by kernel_rfl) (by kernel_rfl) (by kernel_rfl) (fun _ _ _ h => h) (Or.inl ⟨by rfl, ?_⟩) hHeld ?_
        · intro W hW; (try dsimp only at hW); go_simp
        change wpAnyH _ _ _ _ _ _ _ ⟨#[_,_,_,_,_,_,_,_,_,.pointer (some ⟨A1.g, 0, none⟩),_,_,_,.pointer (some ⟨kw, 0, none⟩),_,_,_,_,.pointer (some ⟨kp, 0, none⟩),_,.pointer (some ⟨kb, 0, none⟩),_,.bool true,_,_,_,_,_,_,_,_,_,_,_,_,_,_,_,_,_,_,_,_,_,_,_,_,_,_,_,_,_,_,_,_,_,_,_,_,_,_,_,_,_,_,_,_,_,_,_,_,_,_,_,_,_,_,_,_,_,_,_,_,_,_,_,_,_,_,_,_,_,_,_,_,_,_,_,_,_,_,_,_,_,_,_,_,_,_,_,_,_,_,_,_,_,_,_,_,_,_,_,_,_,_,_,_,_,_,_,_,_,_,_,_,_,_,_,_,_,_,_,.bool true,.bool true,.pointer (some ⟨A1.g, 0, none⟩),.pointer (some ⟨kp, 3, none⟩),_,_,_,_,_,_,_,_,_,_,_,_,_,_], []⟩ _
        refine wpAnyH_take (i := 4) (v := .pointer (some ⟨kp, 4, none⟩)) rfl (by kernel_rfl) (by kernel_rfl) (by kernel_rfl) (fun _ _ _ h => h) (Or.inl ⟨by rfl, ?_⟩) hHeld ?_
        · intro W hW; (try dsimp only at hW); go_simp
        change wpAnyH _ _ _ _ _ _ _ ⟨#[_,_,_,_,_,_,_,_,_,.pointer (some ⟨A1.g, 0, none⟩),_,_,_,.pointer (some ⟨kw, 0, none⟩),_,_,_,_,.pointer (some ⟨kp, 0, none⟩),_,.pointer (some ⟨kb, 0, none⟩),_,.bool true,_,_,_,_,_,_,_,_,_,_,_,_,_,_,_,_,_,_,_,_,_,_,_,_,_,_,_,_,_,_,_,_,_,_,_,_,_,_,_,_,_,_,_,_,_,_,_,_,_,_,_,_,_,_,_,_,_,_,_,_,_,_,_,_,_,_,_,_,_,_,_,_,_,_,_,_,_,_,_,_,_,_,_,_,_,_,_,_,_,_,_,_,_,_,_,_,_,_,_,_,_,_,_,_,_,_,_,_,_,_,_,_,_,_,_,_,_,_,_,.bool true,.bool true,.pointer (some ⟨A1.g, 0, none⟩),.pointer (some ⟨kp, 3, none⟩),.pointer (some ⟨kp, 4, none⟩),_,_,_,_,_,_,_,_,_,_,_,_,_], []⟩ _
        refine wpAnyH_take (i := 5) (v := .int .i64 V) rfl (by kernel_rfl) (by kernel_rfl) (by kernel_rfl) (fun _ _ _ h => h) (Or.inl ⟨by rfl, ?_⟩) hHeld ?_
        · intro W hW; (try dsimp only at hW); have c0 := hW.2.1.cell 4 _ rfl; clear hW; go_simp; rfl
        change wpAnyH _ _ _ _ _ _ _ ⟨#[_,_,_,_,_,_,_,_,_,.pointer (some ⟨A1.g, 0, none⟩),_,_,_,.pointer (some ⟨kw, 0, none⟩),_,_,_,_,.pointer (some ⟨kp, 0, none⟩),_,.pointer (some ⟨kb, 0, none⟩),_,.bool true,_,_,_,_,_,_,_,_,_,_,_,_,_,_,_,_,_,_,_,_,_,_,_,_,_,_,_,_,_,_,_,_,_,_,_,_,_,_,_,_,_,_,_,_,_,_,_,_,_,_,_,_,_,_,_,_,_,_,_,_,_,_,_,_,_,_,_,_,_,_,_,_,_,_,_,_,_,_,_,_,_,_,_,_,_,_,_,_,_,_,_,_,_,_,_,_,_,_,_,_,_,_,_,_,_,_,_,_,_,_,_,_,_,_,_,_,_,_,_,.bool true,.bool true,.pointer (some ⟨A1.g, 0, none⟩),.pointer (some ⟨kp, 3, none⟩),.pointer (some ⟨kp, 4, none⟩),.int .i64 V,_,_,_,_,_,_,_,_,_,_,_,_], []⟩ _
        refine wpAnyH_take (i := 6) (v := .pointer (some ⟨kp, 3, none⟩)) rfl (by kernel_rfl) (by kernel_rfl) (by kernel_rfl) (fun _ _ _ h => h) (Or.inl ⟨by rfl, ?_⟩) hHeld ?_
        · intro W hW; (try dsimp only at hW); go_simp
        change wpAnyH _ _ _ _ _ _ _ ⟨#[_,_,_,_,_,_,_,_,_,.pointer (some ⟨A1.g, 0, none⟩),_,_,_,.pointer (some ⟨kw, 0, none⟩),_,_,_,_,.pointer (some ⟨kp, 0, none⟩),_,.pointer (some ⟨kb, 0, none⟩),_,.bool true,_,_,_,_,_,_,_,_,_,_,_,_,_,_,_,_,_,_,_,_,_,_,_,_,_,_,_,_,_,_,_,_,_,_,_,_,_,_,_,_,_,_,_,_,_,_,_,_,_,_,_,_,_,_,_,_,_,_,_,_,_,_,_,_,_,_,_,_,_,_,_,_,_,_,_,_,_,_,_,_,_,_,_,_,_,_,_,_,_,_,_,_,_,_,_,_,_,_,_,_,_,_,_,_,_,_,_,_,_,_,_,_,_,_,_,_,_,_,_,.bool true,.bool true,.pointer (some ⟨A1.g, 0, none⟩),.pointer (some ⟨kp, 3, none⟩),.pointer (some ⟨kp, 4, none⟩),.int .i64 V,.pointer (some ⟨kp, 3, none⟩),_,_,_,_,_,_,_,_,_,_,_], []⟩ _
        refine wpAnyH_take (i := 7) (v := .pointer (some ⟨kp, 11, none⟩)) rfl (by kernel_rfl) (by kernel_rfl) (by kernel_rfl) (fun _ _ _ h => h) (Or.inl ⟨by rfl, ?_⟩) hHeld ?_
        · intro W hW; (try dsimp only at hW); go_simp
        change wpAnyH _ _ _ _ _ _ _ ⟨#[_,_,_,_,_,_,_,_,_,.pointer (some ⟨A1.g, 0, none⟩),_,_,_,.pointer (some ⟨kw, 0, none⟩),_,_,_,_,.pointer (some ⟨kp, 0, none⟩),_,.pointer (some ⟨kb, 0, none⟩),_,.bool true,_,_,_,_,_,_,_,_,_,_,_,_,_,_,_,_,_,_,_,_,_,_,_,_,_,_,_,_,_,_,_,_,_,_,_,_,_,_,_,_,_,_,_,_,_,_,_,_,_,_,_,_,_,_,_,_,_,_,_,_,_,_,_,_,_,_,_,_,_,_,_,_,_,_,_,_,_,_,_,_,_,_,_,_,_,_,_,_,_,_,_,_,_,_,_,_,_,_,_,_,_,_,_,_,_,_,_,_,_,_,_,_,_,_,_,_,_,_,_,.bool true,.bool true,.pointer (some ⟨A1.g, 0, none⟩),.pointer (some ⟨kp, 3, none⟩),.pointer (some ⟨kp, 4, none⟩),.int .i64 V,.pointer (some ⟨kp, 3, none⟩),.pointer (some ⟨kp, 11, none⟩),_,_,_,_,_,_,_,_,_,_], []⟩ _
        refine wpAnyH_take (i := 8) (v := .int .i64 p) rfl (by kernel_rfl) (by kernel_rfl) (by kernel_rfl) (fun _ _ _ h => h) (Or.inl ⟨by rfl, ?_⟩) hHeld ?_
        · intro W hW; (try dsimp only at hW); have c0 := hW.2.1.cell 11 _ rfl; clear hW; go_simp; rfl
        change wpAnyH _ _ _ _ _ _ _ ⟨#[_,_,_,_,_,_,_,_,_,.pointer (some ⟨A1.g, 0, none⟩),_,_,_,.pointer (some ⟨kw, 0, none⟩),_,_,_,_,.pointer (some ⟨kp, 0, none⟩),_,.pointer (some ⟨kb, 0, none⟩),_,.bool true,_,_,_,_,_,_,_,_,_,_,_,_,_,_,_,_,_,_,_,_,_,_,_,_,_,_,_,_,_,_,_,_,_,_,_,_,_,_,_,_,_,_,_,_,_,_,_,_,_,_,_,_,_,_,_,_,_,_,_,_,_,_,_,_,_,_,_,_,_,_,_,_,_,_,_,_,_,_,_,_,_,_,_,_,_,_,_,_,_,_,_,_,_,_,_,_,_,_,_,_,_,_,_,_,_,_,_,_,_,_,_,_,_,_,_,_,_,_,_,.bool true,.bool true,.pointer (some ⟨A1.g, 0, none⟩),.pointer (some ⟨kp, 3, none⟩),.pointer (some ⟨kp, 4, none⟩),.int .i64 V,.pointer (some ⟨kp, 3, none⟩),.pointer (some ⟨kp, 11, none⟩),.int .i64 p,_,_,_,_,_,_,_,_,_], []⟩ _
        refine wpAnyH_take (i := 9) (v := .pointer (some ⟨kp, 3, none⟩)) rfl (by kernel_rfl) (by kernel_rfl) (by kernel_rfl) (fun _ _ _ h => h) (Or.inl ⟨by rfl, ?_⟩) hHeld ?_
        · intro W hW; (try dsimp only at hW); go_simp
        change wpAnyH _ _ _ _ _ _ _ ⟨#[_,_,_,_,_,_,_,_,_,.pointer (some ⟨A1.g, 0, none⟩),_,_,_,.pointer (some ⟨kw, 0, none⟩),_,_,_,_,.pointer (some ⟨kp, 0, none⟩),_,.pointer (some ⟨kb, 0, none⟩),_,.bool true,_,_,_,_,_,_,_,_,_,_,_,_,_,_,_,_,_,_,_,_,_,_,_,_,_,_,_,_,_,_,_,_,_,_,_,_,_,_,_,_,_,_,_,_,_,_,_,_,_,_,_,_,_,_,_,_,_,_,_,_,_,_,_,_,_,_,_,_,_,_,_,_,_,_,_,_,_,_,_,_,_,_,_,_,_,_,_,_,_,_,_,_,_,_,_,_,_,_,_,_,_,_,_,_,_,_,_,_,_,_,_,_,_,_,_,_,_,_,_,.bool true,.bool true,.pointer (some ⟨A1.g, 0, none⟩),.pointer (some ⟨kp, 3, none⟩),.pointer (some ⟨kp, 4, none⟩),.int .i64 V,.pointer (some ⟨kp, 3, none⟩),.pointer (some ⟨kp, 11, none⟩),.int .i64 p,.pointer (some ⟨kp, 3, none⟩),_,_,_,_,_,_,_,_], []⟩ _
        refine wpAnyH_take (i := 10) (v := .pointer (some ⟨kp, 12, none⟩)) rfl (by kernel_rfl) (by kernel_rfl) (by kernel_rfl) (fun _ _ _ h => h) (Or.inl ⟨by rfl, ?_⟩) hHeld ?_
        · intro W hW; (try dsimp only at hW); go_simp
        change wpAnyH _ _ _ _ _ _ _ ⟨#[_,_,_,_,_,_,_,_,_,.pointer (some ⟨A1.g, 0, none⟩),_,_,_,.pointer (some ⟨kw, 0, none⟩),_,_,_,_,.pointer (some ⟨kp, 0, none⟩),_,.pointer (some ⟨kb, 0, none⟩),_,.bool true,_,_,_,_,_,_,_,_,_,_,_,_,_,_,_,_,_,_,_,_,_,_,_,_,_,_,_,_,_,_,_,_,_,_,_,_,_,_,_,_,_,_,_,_,_,_,_,_,_,_,_,_,_,_,_,_,_,_,_,_,_,_,_,_,_,_,_,_,_,_,_,_,_,_,_,_,_,_,_,_,_,_,_,_,_,_,_,_,_,_,_,_,_,_,_,_,_,_,_,_,_,_,_,_,_,_,_,_,_,_,_,_,_,_,_,_,_,_,_,.bool true,.bool true,.pointer (some ⟨A1.g, 0, none⟩),.pointer (some ⟨kp, 3, none⟩),.pointer (some ⟨kp, 4, none⟩),.int .i64 V,.pointer (some ⟨kp, 3, none⟩),.pointer (some ⟨kp, 11, none⟩),.int .i64 p,.pointer (some ⟨kp, 3, none⟩),.pointer (some ⟨kp, 12, none⟩),_,_,_,_,_,_,_], []⟩ _
        refine wpAnyH_take (i := 11) (v := .int .i64 0) rfl (by kernel_rfl) (by kernel_rfl) (by kernel_rfl) (fun _ _ _ h => h) (Or.inl ⟨by rfl, ?_⟩) hHeld ?_
        · intro W hW; (try dsimp only at hW); have c0 := hW.2.1.cell 12 _ rfl; clear hW; go_simp; rfl
        change wpAnyH _ _ _ _ _ _ _ ⟨#[_,_,_,_,_,_,_,_,_,.pointer (some ⟨A1.g, 0, none⟩),_,_,_,.pointer (some ⟨kw, 0, none⟩),_,_,_,_,.pointer (some ⟨kp, 0, none⟩),_,.pointer (some ⟨kb, 0, none⟩),_,.bool true,_,_,_,_,_,_,_,_,_,_,_,_,_,_,_,_,_,_,_,_,_,_,_,_,_,_,_,_,_,_,_,_,_,_,_,_,_,_,_,_,_,_,_,_,_,_,_,_,_,_,_,_,_,_,_,_,_,_,_,_,_,_,_,_,_,_,_,_,_,_,_,_,_,_,_,_,_,_,_,_,_,_,_,_,_,_,_,_,_,_,_,_,_,_,_,_,_,_,_,_,_,_,_,_,_,_,_,_,_,_,_,_,_,_,_,_,_,_,_,.bool true,.bool true,.pointer (some ⟨A1.g, 0, none⟩),.pointer (some ⟨kp, 3, none⟩),.pointer (some ⟨kp, 4, none⟩),.int .i64 V,.pointer (some ⟨kp, 3, none⟩),.pointer (some ⟨kp, 11, none⟩),.int .i64 p,.pointer (some ⟨kp, 3, none⟩),.pointer (some ⟨kp, 12, none⟩),.int .i64 0,_,_,_,_,_,_], []⟩ _
        refine wpAnyH_take (i := 12) (v := .agg (FC f (.slice a9 n9 c9))) rfl (by kernel_rfl) (by kernel_rfl) (by kernel_rfl) (fun _ _ _ h => h) (yieldsIf_load_mid (by rfl) 26 (.tmp 20) rfl kb 0 rfl (fcl f (.slice a9 n9 c9)) _ (fun W hW => hW.2.2.at_) Tryd.underlying26 rfl Tryd.size26) hHeld ?_
        change wpAnyH _ _ _ _ _ _ _ ⟨#[_,_,_,_,_,_,_,_,_,.pointer (some ⟨A1.g, 0, none⟩),_,_,_,.pointer (some ⟨kw, 0, none⟩),_,_,_,_,.pointer (some ⟨kp, 0, none⟩),_,.pointer (some ⟨kb, 0, none⟩),_,.bool true,_,_,_,_,_,_,_,_,_,_,_,_,_,_,_,_,_,_,_,_,_,_,_,_,_,_,_,_,_,_,_,_,_,_,_,_,_,_,_,_,_,_,_,_,_,_,_,_,_,_,_,_,_,_,_,_,_,_,_,_,_,_,_,_,_,_,_,_,_,_,_,_,_,_,_,_,_,_,_,_,_,_,_,_,_,_,_,_,_,_,_,_,_,_,_,_,_,_,_,_,_,_,_,_,_,_,_,_,_,_,_,_,_,_,_,_,_,_,_,.bool true,.bool true,.pointer (some ⟨A1.g, 0, none⟩),.pointer (some ⟨kp, 3, none⟩),.pointer (some ⟨kp, 4, none⟩),.int .i64 V,.pointer (some ⟨kp, 3, none⟩),.pointer (some ⟨kp, 11, none⟩),.int .i64 p,.pointer (some ⟨kp, 3, none⟩),.pointer (some ⟨kp, 12, none⟩),.int .i64 0,.agg (FC f (.slice a9 n9 c9)),_,_,_,_,_], []⟩ _
        refine wpAnyH_take (i := 14) (v := .pointer (some ⟨kw, 3, none⟩)) rfl (by kernel_rfl) (by kernel_rfl) (by kernel_rfl) (fun _ _ _ h => h) (Or.inl ⟨by rfl, ?_⟩) hHeld ?_
        · intro W hW; (try dsimp only at hW); go_simp
        change wpAnyH _ _ _ _ _ _ _ ⟨#[_,_,_,_,_,_,_,_,_,.pointer (some ⟨A1.g, 0, none⟩),_,_,_,.pointer (some ⟨kw, 0, none⟩),_,_,_,_,.pointer (some ⟨kp, 0, none⟩),_,.pointer (some ⟨kb, 0, none⟩),_,.bool true,_,_,_,_,_,_,_,_,_,_,_,_,_,_,_,_,_,_,_,_,_,_,_,_,_,_,_,_,_,_,_,_,_,_,_,_,_,_,_,_,_,_,_,_,_,_,_,_,_,_,_,_,_,_,_,_,_,_,_,_,_,_,_,_,_,_,_,_,_,_,_,_,_,_,_,_,_,_,_,_,_,_,_,_,_,_,_,_,_,_,_,_,_,_,_,_,_,_,_,_,_,_,_,_,_,_,_,_,_,_,_,_,_,_,_,_,_,_,_,.bool true,.bool true,.pointer (some ⟨A1.g, 0, none⟩),.pointer (some ⟨kp, 3, none⟩),.pointer (some ⟨kp, 4, none⟩),.int .i64 V,.pointer (some ⟨kp, 3, none⟩),.pointer (some ⟨kp, 11, none⟩),.int .i64 p,.pointer (some ⟨kp, 3, none⟩),.pointer (some ⟨kp, 12, none⟩),.int .i64 0,.agg (FC f (.slice a9 n9 c9)),_,.pointer (some ⟨kw, 3, none⟩),_,_,_], []⟩ _
        refine wpAnyH_take (i := 15) (v := .slice ao ys.length cc) rfl (by kernel_rfl) (by kernel_rfl) (by kernel_rfl) (fun _ _ _ h => h) (Or.inl ⟨by rfl, ?_⟩) hHeld ?_
        · intro W hW; (try dsimp only at hW); have c0 := hW.1.cell 3 _ rfl; clear hW; go_simp
        change wpAnyH _ _ _ _ _ _ _ ⟨#[_,_,_,_,_,_,_,_,_,.pointer (some ⟨A1.g, 0, none⟩),_,_,_,.pointer (some ⟨kw, 0, none⟩),_,_,_,_,.pointer (some ⟨kp, 0, none⟩),_,.pointer (some ⟨kb, 0, none⟩),_,.bool true,_,_,_,_,_,_,_,_,_,_,_,_,_,_,_,_,_,_,_,_,_,_,_,_,_,_,_,_,_,_,_,_,_,_,_,_,_,_,_,_,_,_,_,_,_,_,_,_,_,_,_,_,_,_,_,_,_,_,_,_,_,_,_,_,_,_,_,_,_,_,_,_,_,_,_,_,_,_,_,_,_,_,_,_,_,_,_,_,_,_,_,_,_,_,_,_,_,_,_,_,_,_,_,_,_,_,_,_,_,_,_,_,_,_,_,_,_,_,_,.bool true,.bool true,.pointer (some ⟨A1.g, 0, none⟩),.pointer (some ⟨kp, 3, none⟩),.pointer (some ⟨kp, 4, none⟩),.int .i64 V,.pointer (some ⟨kp, 3, none⟩),.pointer (some ⟨kp, 11, none⟩),.int .i64 p,.pointer (some ⟨kp, 3, none⟩),.pointer (some ⟨kp, 12, none⟩),.int .i64 0,.agg (FC f (.slice a9 n9 c9)),_,.pointer (some ⟨kw, 3, none⟩),.slice ao ys.length cc,_,_], []⟩ _
        refine wpAnyH_ready (rs := [13]) (by kernel_rfl) (by simp) ?_
        refine AllReadyH.cons rfl (fun K hK => ?_) AllReadyH.nil
        go_simp
        refine (relayQ A1 B V p 0 f a9 n9 c9 _ HPZ.out (HY9.out.on BZ.out) HV64.out).mono ?_
        rintro e y2 ⟨ao2, ys2, cc2, rfl, hO2, hm2, b2, _⟩
        have HO2 := hide hO2
        have HM2 := hide hm2
        have BZ2 := hide (belowOn BZ.out b2)
        have HSY := hide (HS9.out _ BZ2.out)
        refine hK.out _ _ HSY.out (fun hHeld => ?_)
        clear hK K hO2 hm2 b2
        change wpAnyH _ _ _ _ _ _ _ ⟨#[_,_,_,_,_,_,_,_,_,.pointer (some ⟨A1.g, 0, none⟩),_,_,_,.pointer (some ⟨kw, 0, none⟩),_,_,_,_,.pointer (some ⟨kp, 0, none⟩),_,.pointer (some ⟨kb, 0, none⟩),_,.bool true,_,_,_,_,_,_,_,_,_,_,_,_,_,_,_,_,_,_,_,_,_,_,_,_,_,_,_,_,_,_,_,_,_,_,_,_,_,_,_,_,_,_,_,_,_,_,_,_,_,_,_,_,_,_,_,_,_,_,_,_,_,_,_,_,_,_,_,_,_,_,_,_,_,_,_,_,_,_,_,_,_,_,_,_,_,_,_,_,_,_,_,_,_,_,_,_,_,_,_,_,_,_,_,_,_,_,_,_,_,_,_,_,_,_,_,_,_,_,_,.bool true,.bool true,.pointer (some ⟨A1.g, 0, none⟩),.pointer (some ⟨kp, 3, none⟩),.pointer (some ⟨kp, 4, none⟩),.int .i64 V,.pointer (some ⟨kp, 3, none⟩),.pointer (some ⟨kp, 11, none⟩),.int .i64 p,.pointer (some ⟨kp, 3, none⟩),.pointer (some ⟨kp, 12, none⟩),.int .i64 0,.agg (FC f (.slice a9 n9 c9)),.slice ao2 ys2.length cc2,.pointer (some ⟨kw, 3, none⟩),.slice ao ys.length cc,_,_], []⟩ _
        refine wpAnyH_ready (rs := [16]) (by kernel_rfl) (by simp) ?_
        refine AllReadyH.cons rfl (fun K hK => ?_) AllReadyH.nil
        go_simp
        refine (sameOutsR ao2 ao _ _ _ _ ys2 ys _ HO2.out (HO.out.on BZ2.out) (by rw [HM2.out, HMO.out])).mono ?_
        rintro e y3 ⟨rfl, b3⟩
        have BZ3 := hide (belowOn BZ2.out b3)
        refine hK.out _ _ (HS9.out _ BZ3.out) (fun hHeld => ?_)
        clear hK K b3
        change wpAnyH _ _ _ _ _ _ _ ⟨#[_,_,_,_,_,_,_,_,_,.pointer (some ⟨A1.g, 0, none⟩),_,_,_,.pointer (some ⟨kw, 0, none⟩),_,_,_,_,.pointer (some ⟨kp, 0, none⟩),_,.pointer (some ⟨kb, 0, none⟩),_,.bool true,_,_,_,_,_,_,_,_,_,_,_,_,_,_,_,_,_,_,_,_,_,_,_,_,_,_,_,_,_,_,_,_,_,_,_,_,_,_,_,_,_,_,_,_,_,_,_,_,_,_,_,_,_,_,_,_,_,_,_,_,_,_,_,_,_,_,_,_,_,_,_,_,_,_,_,_,_,_,_,_,_,_,_,_,_,_,_,_,_,_,_,_,_,_,_,_,_,_,_,_,_,_,_,_,_,_,_,_,_,_,_,_,_,_,_,_,_,_,_,.bool true,.bool true,.pointer (some ⟨A1.g, 0, none⟩),.pointer (some ⟨kp, 3, none⟩),.pointer (some ⟨kp, 4, none⟩),.int .i64 V,.pointer (some ⟨kp, 3, none⟩),.pointer (some ⟨kp, 11, none⟩),.int .i64 p,.pointer (some ⟨kp, 3, none⟩),.pointer (some ⟨kp, 12, none⟩),.int .i64 0,.agg (FC f (.slice a9 n9 c9)),.slice ao2 ys2.length cc2,.pointer (some ⟨kw, 3, none⟩),.slice ao ys.length cc,.bool true,_], []⟩ _
        refine wpAnyH_take (i := 17) (v := .bool true) rfl (by kernel_rfl) (by kernel_rfl) (by kernel_rfl) (fun _ _ _ h => h) (Or.inl ⟨by rfl, ?_⟩) hHeld ?_
        · intro W hW; (try dsimp only at hW); go_simp
        change wpAnyH _ _ _ _ _ _ _ ⟨#[_,_,_,_,_,_,_,_,_,.pointer (some ⟨A1.g, 0, none⟩),_,_,_,.pointer (some ⟨kw, 0, none⟩),_,_,_,_,.pointer (some ⟨kp, 0, none⟩),_,.pointer (some ⟨kb, 0, none⟩),_,.bool true,_,_,_,_,_,_,_,_,_,_,_,_,_,_,_,_,_,_,_,_,_,_,_,_,_,_,_,_,_,_,_,_,_,_,_,_,_,_,_,_,_,_,_,_,_,_,_,_,_,_,_,_,_,_,_,_,_,_,_,_,_,_,_,_,_,_,_,_,_,_,_,_,_,_,_,_,_,_,_,_,_,_,_,_,_,_,_,_,_,_,_,_,_,_,_,_,_,_,_,_,_,_,_,_,_,_,_,_,_,_,_,_,_,_,_,_,_,_,_,.bool true,.bool true,.pointer (some ⟨A1.g, 0, none⟩),.pointer (some ⟨kp, 3, none⟩),.pointer (some ⟨kp, 4, none⟩),.int .i64 V,.pointer (some ⟨kp, 3, none⟩),.pointer (some ⟨kp, 11, none⟩),.int .i64 p,.pointer (some ⟨kp, 3, none⟩),.pointer (some ⟨kp, 12, none⟩),.int .i64 0,.agg (FC f (.slice a9 n9 c9)),.slice ao2 ys2.length cc2,.pointer (some ⟨kw, 3, none⟩),.slice ao ys.length cc,.bool true,.bool true], []⟩ _
        refine wpAnyH_take (i := 18) (v := .bool true) rfl (by kernel_rfl) (by kernel_rfl) (by kernel_rfl) (fun _ _ _ h => h) (Or.inl ⟨by rfl, ?_⟩) hHeld ?_
        · intro W hW; (try dsimp only at hW); go_simp
        change wpAnyH _ _ _ _ _ _ _ ⟨#[_,_,_,_,_,_,.bool true,_,_,.pointer (some ⟨A1.g, 0, none⟩),_,_,_,.pointer (some ⟨kw, 0, none⟩),_,_,_,_,.pointer (some ⟨kp, 0, none⟩),_,.pointer (some ⟨kb, 0, none⟩),_,.bool true,_,_,_,_,_,_,_,_,_,_,_,_,_,_,_,_,_,_,_,_,_,_,_,_,_,_,_,_,_,_,_,_,_,_,_,_,_,_,_,_,_,_,_,_,_,_,_,_,_,_,_,_,_,_,_,_,_,_,_,_,_,_,_,_,_,_,_,_,_,_,_,_,_,_,_,_,_,_,_,_,_,_,_,_,_,_,_,_,_,_,_,_,_,_,_,_,_,_,_,_,_,_,_,_,_,_,_,_,_,_,_,_,_,_,_,_,_,_,_,.bool true,.bool true,.pointer (some ⟨A1.g, 0, none⟩),.pointer (some ⟨kp, 3, none⟩),.pointer (some ⟨kp, 4, none⟩),.int .i64 V,.pointer (some ⟨kp, 3, none⟩),.pointer (some ⟨kp, 11, none⟩),.int .i64 p,.pointer (some ⟨kp, 3, none⟩),.pointer (some ⟨kp, 12, none⟩),.int .i64 0,.agg (FC f (.slice a9 n9 c9)),.slice ao2 ys2.length cc2,.pointer (some ⟨kw, 3, none⟩),.slice ao ys.length cc,.bool true,.bool true], []⟩ _
        refine wpAnyH_done (by kernel_rfl) ?_ _
        have HBF := hide (belowOn HW9.out.b BZ3.out)
        go_wp2_with (go_ret; exact ⟨rfl, HBF.out⟩)
end Go.Proofs.YtgpdjfaklcmoiaaDoor
