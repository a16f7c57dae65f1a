/- Contract of awake. -/
import Derived.Test.YtbpkdkniiggcpaaE4
import Derived.Test.YtbpkdkniiggcpaaB5
namespace Go.Proofs.Ytbpkdkniiggcpaa
open Go.RowKit Go.PlainAid

def m2 : Mc := ⟨2, 0, 0, 0, 0, 0⟩
theorem mok_m2 : Mok m2 := by constructor <;> simp [m2]
def Ta : Tb := lT (tNew 4) 1 m2 3 5
def Tc : Tb := lT Ta 1 m2 4 6
theorem aw1 : lK (tNew 4) 1 m2 3 5 = 1 := by decide
theorem aw2 : lE (tNew 4) 1 m2 3 5 = 0 := by decide
theorem aw3 : lK Ta 1 m2 4 6 = 2 := by decide
theorem aw4 : lE Ta 1 m2 4 6 = 0 := by decide
theorem aw5 : lk Tc.l 1 m2 = ⟨1, m2, 4, 6, false⟩ := by rfl
theorem aw6 : hs Tc.l 1 m2 = true := by decide
theorem aw7 : Tc.l.length = 1 := by decide
theorem MC2d : (#[.int .u8 2, .int .u8 0, .int .u8 0, .int .u8 0, .int .u8 0, .int .u8 0] : Array Value) = MC m2 := rfl
section
attribute [local go_sem] ZE MC2d
set_option maxRecDepth 100000 in
set_option maxHeartbeats 4000000 in
theorem awake9 (w : World) : Calls Try.prog 9 #[] w fun e w' => e = .returned (.bool true) ∧ Below w.heap.size w w' := by
  go_enter Try.func9, Try.ntmps9
  go_wp2_with fail
  refine (new17 4 _ (by omega) (by omega)).mono ?_
  rintro e w1 ⟨h, ps, rfl, P1, hz, B1⟩
  have HZ := hide hz
  have PP := hide P1
  have BB := hide B1
  clear P1 B1 hz
  go_wp2_with fail
  refine (learn16 h ps _ 1 m2 3 5 _ mok_m2 PP.out).mono ?_
  rintro e w2 ⟨rfl, ⟨ps2, P2⟩, M2⟩
  rw [aw1, aw2]
  have B2 := hide (BB.out.trans ((M2.below (by have := PP.out.lt; omega)).mono HZ.out))
  have PQ : Hid (PT w2 h ps2 Ta) := hide P2
  clear P2 M2 PP BB
  go_wp2_with fail
  refine (learn16 h ps2 _ 1 m2 4 6 _ mok_m2 PQ.out).mono ?_
  rintro e w3 ⟨rfl, ⟨ps3, P3⟩, M3⟩
  rw [aw3, aw4]
  have B3 := hide (B2.out.trans ((M3.below (by have := PQ.out.lt; omega)).mono HZ.out))
  have PR : Hid (PT w3 h ps3 Tc) := hide P3
  clear P3 M3 PQ B2
  go_wp2_with fail
  refine (look11 h ps3 Tc 1 m2 _ mok_m2 PR.out).mono ?_
  rintro e w4 ⟨rfl, C4⟩
  rw [aw5, aw6]
  have B4 := hide (B3.out.trans (C4.mono B3.out.size))
  have P4 := hide (PR.out.on C4)
  clear C4 PR B3
  have ba := below_alloc w4 (.cells (EC zE) 33)
  have N0 := hide (box_e w4 zE)
  have P5 := hide (P4.out.on ba)
  have B5 := hide (B4.out.trans (ba.mono B4.out.size))
  have hw4 : Hid (w.heap.size ≤ w4.heap.size) := hide B4.out.size
  have lP := P4.out.lt
  have tk1 : True := trivial
  clear ba P4 B4
  go_wp2_with (first | (have _t := tk1; refine wpl_putE ⟨1, m2, 4, 6, false⟩ zE (.tmp 7) (.tmp 35) rfl N0.out ?_ rfl rfl ?_; rfl; clear tk1))
  intro w5 N1 g5
  have P7 := hide (P5.out.keep (w1 := w5) (fun k h1 h2 => g5.block k (by simp; omega) (fun e => by have := Option.some.inj e; omega)))
  have B6 := hide (below_grown B5.out g5 hw4.out (by have := hw4.out; simp; omega))
  have d7 := N1.cell 7 _ rfl
  have hq : Calls Try.prog 15 #[.pointer (some ⟨h + 1, 0, none⟩)] w5 fun e w' => e = .returned (.int .i64 1) ∧ w' = w5 := by
    have := len15 h ps3 Tc w5 P7.out
    rw [aw7] at this
    exact this
  clear g5 N1 N0 P5 B5 lP
  go_wp2_with (first | (go_at_call 15; refine hq.mono ?_; rintro e w6 ⟨rfl, rfl⟩))
  go_ret
  exact ⟨rfl, B6.out⟩
end
end Go.Proofs.Ytbpkdkniiggcpaa
