/- Contract of awake. -/
import Derived.Test.YtelinahpneikiaaE6
namespace Go.Proofs.Ytelinahpneikiaa
open Go.RowKit

def f0 : Fd := { zeroF with ty := 2048 }
def T3 : Tb := tNat (tAdd (tAdd (tNew 4) 10 1 true) 10 2 false) 2 10
theorem FS15 : (FC zeroF (.slice none 0 0)).setIfInBounds 15 (.int .i64 2048) = FC f0 (.slice none 0 0) := rfl
theorem aw1 : inV T3 2 f0 = 10 := by decide
theorem aw2 : inE T3 2 f0 = 0 := by decide
theorem aw3 : ouF T3 10 1 f0 = tagF f0 10 0 := by rfl
theorem aw4 : ouE T3 10 1 f0 = 0 := by decide
section
attribute [local go_sem] FC12 FC13 FC14 FC15 FC16 FC_size ZF FS15
set_option maxRecDepth 100000 in
set_option maxHeartbeats 4000000 in
theorem awake10 (w : World) : Calls Try.prog 10 #[] w fun e w' => e = .returned (.bool true) ∧ Below w.heap.size w w' := by
  go_enter Try.func10, Try.ntmps10
  go_wp2_with fail
  refine (new25 4 _ (by omega) (by omega)).mono ?_
  rintro e w1 ⟨rfl, P1, B1⟩
  generalize hh : w.heap.size = h at *
  have hl : Hid (h ≤ w1.heap.size) := hide (by have := P1.lt; omega)
  have PP := hide P1
  have BB := hide B1
  clear P1 B1
  go_wp2_with fail
  refine (add23 h _ 10 1 true _ PP.out).mono ?_
  rintro e w2 ⟨rfl, P2, M2⟩
  have B2 := hide (BB.out.trans (M2.below hl.out))
  have h2 : Hid (h ≤ w2.heap.size) := hide (Nat.le_trans hl.out M2.size)
  have PQ := hide P2
  clear P2 M2 PP BB hl
  go_wp2_with fail
  refine (add23 h _ 10 2 false _ PQ.out).mono ?_
  rintro e w3 ⟨rfl, P3, M3⟩
  have B3 := hide (B2.out.trans (M3.below h2.out))
  have h3 : Hid (h ≤ w3.heap.size) := hide (Nat.le_trans h2.out M3.size)
  have PR := hide P3
  clear P3 M3 PQ B2 h2
  go_wp2_with fail
  refine (native22 h _ 2 10 _ PR.out).mono ?_
  rintro e w4 ⟨rfl, P4, M4⟩
  have B4 := hide (B3.out.trans (M4.below h3.out))
  have h4 : Hid (h ≤ w4.heap.size) := hide (Nat.le_trans h3.out M4.size)
  have P5 : Hid (PT w4 h T3) := hide P4
  clear P4 M4 PR B3 h3
  have ba := below_alloc w4 (.cells (FC zeroF (.slice none 0 0)) 37)
  have N0 := hide (Box.new w4 (fcl zeroF (.slice none 0 0)) 37)
  have P6 := hide (P5.out.on ba)
  have B5 := hide (B4.out.trans (ba.mono h4.out))
  have lP := P5.out.lt
  have tk1 : True := trivial
  have tk2 : True := trivial
  have tk3 : True := trivial
  have tk4 : True := trivial
  clear ba P5 B4
  go_wp2_with (first | (have _t := tk1; refine wpl_putF f0 (.slice none 0 0) _ _ rfl (.tmp 3) (.tmp 24) rfl N0.out ?_ ?_ ?_ ?_; rfl; rfl; rfl; clear tk1))
  intro w5 N1 g5
  have P7 := hide (P6.out.keep (w1 := w5) (fun k h1 h2 => g5.block k (by simp; omega) (fun e => by have := Option.some.inj e; omega)))
  have B6 := hide (below_grown B5.out g5 (by omega) (by simp; omega))
  have N2 := hide N1
  have lN := N1.lt
  clear g5 N1 N0 P6 B5
  go_wp2_with (first | (have _t := tk2; refine wpl_frame (.tmp 3) rfl N2.out ?_ ?_ ?_; rfl; rfl; clear tk2))
  refine (in17 h T3 2 f0 none 0 0 rfl _ P7.out).mono ?_
  rintro e w6 ⟨rfl, C1⟩
  rw [aw1, aw2]
  have P8 := hide (P7.out.on C1)
  have B7 := hide (B6.out.trans (C1.mono (by omega)))
  have N3 := hide (N2.out.on C1)
  have lN3 := N3.out.lt
  clear C1 P7 B6 N2
  go_wp2_with (first | (have _t := tk3; refine wpl_frame (.tmp 3) rfl N3.out ?_ ?_ ?_; rfl; rfl; clear tk3))
  refine (out19 h T3 10 1 f0 none 0 0 _ P8.out (Byt.nothing _) (by omega)).mono ?_
  rintro e w7 ⟨a, m, c, rfl, -, C2⟩
  rw [aw3, aw4]
  have B8 := B7.out.trans (C2.mono (by omega))
  have lC := C2.size
  have ba := below_alloc w7 (.cells (FC zeroF (.slice none 0 0)) 37)
  have B9 := hide (B8.trans (ba.mono (by omega)))
  have N4 := hide (Box.new w7 (fcl zeroF (.slice none 0 0)) 37)
  clear C2 P8 B7 N3 B8 ba
  go_wp2_with (first | (have _t := tk4; refine wpl_putF (tagF f0 10 0) (.slice a m c) _ _ rfl (.tmp 6) (.tmp 35) rfl N4.out ?_ ?_ ?_ ?_; rfl; rfl; rfl; clear tk4))
  intro w8 N5 g8
  have BX := hide (below_grown B9.out g8 (by omega) (by simp; omega))
  have c12 := N5.cell 12 _ rfl
  have c13 := N5.cell 13 _ rfl
  have k12 : (tagF f0 10 0).tg = true := rfl
  have k13 : (tagF f0 10 0).vl = 10 := rfl
  rw [k12] at c12
  rw [k13] at c13
  clear N5 g8 N4 B9 k12 k13
  go_wp2
  go_ret
  exact ⟨rfl, by rw [hh]; exact BX.out⟩
end
end Go.Proofs.Ytelinahpneikiaa
