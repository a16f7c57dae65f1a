/- Contract of awake: it answers true. -/
import Derived.Test.YtaehhhknpbbmkaaA5
namespace Go.Proofs.Ytaehhhknpbbmkaa
open Go.RowKit

def l0 : Lac := ⟨⟨0, 0, 0, 0, 0, 0, 0, 0, 0, 258, 61⟩, zeroI, 0⟩
theorem l0_rt : lrt l0 = true := by decide
theorem l0_B : LacB l0 := ⟨fun n hn => by simp [ml, l0] at hn; omega, fun n hn => by simp [ml, l0, zeroI] at hn; omega⟩
theorem l0_LC : (#[.int .i64 0, .int .u8 0, .int .u8 0, .int .u8 0, .int .u8 0, .int .u8 0, .int .u8 0, .int .i64 0, .int .i64 0, .int .i64 258, .int .i64 61, .int .i64 0, .int .u8 0, .int .u8 0, .int .u8 0, .int .u8 0, .int .u8 0, .int .u8 0, .int .i64 0, .int .i64 0, .int .i64 0, .int .i64 0, .int .i64 0] : Array Value) = LC l0 := rfl
set_option maxRecDepth 100000 in
set_option maxHeartbeats 1000000 in
theorem awake9 (w : World) : Calls Try.prog 9 #[] w fun e w' => e = .returned (.bool true) ∧ Below w.heap.size w w' := by
  go_enter Try.func9, Try.ntmps9
  go_wp2_with fail
  rw [l0_LC]
  refine (encode10_yes l0 _ l0_B l0_rt).mono ?_
  rintro e w1 ⟨g, c, rfl, hb, hB⟩
  obtain ⟨b, o, e, hc, -⟩ := hb.at (by omega)
  injection Option.some.inj e with e1 e2
  subst e1 e2
  have c3 : w1.cell? ⟨g, 3, none⟩ = some (.int .u8 20) := hc 3 (by omega)
  have c16 : w1.cell? ⟨g, 16, none⟩ = some (.int .u8 1) := hc 16 (by omega)
  have c17 : w1.cell? ⟨g, 17, none⟩ = some (.int .u8 2) := hc 17 (by omega)
  have c18 : w1.cell? ⟨g, 18, none⟩ = some (.int .u8 61) := hc 18 (by omega)
  clear hb hc e
  go_wp2
  go_ret
  exact ⟨rfl, hB⟩
end Go.Proofs.Ytaehhhknpbbmkaa
