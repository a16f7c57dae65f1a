/- Contract of awake: it answers true. -/
import Derived.Test.YtkhdaibpggmklaaA8
namespace Go.Proofs.Ytkhdaibpggmklaa
open Go.RowKit

def f0 : Fd := ⟨1, 0, 0, 0, 0, 0, 2, 0, 0, 0, 0, 0, false, 0, 0, 2048, [5]⟩
theorem f0_rt : rt f0 = true := by decide
theorem f0_enc : eb f0 = [1, 0, 0, 0, 0, 0, 2, 0, 0, 0, 0, 0, 8, 0, 5] := by decide
theorem f0_ec : ec f0 = 0 := by decide
theorem f0_B : FdB f0 := ⟨fun n hn => by simp [adL, f0] at hn; omega, fun n hn => by simp [f0] at hn; omega⟩
set_option maxRecDepth 100000 in
set_option maxHeartbeats 1000000 in
theorem awake9 (w : World) : Calls Try.prog 9 #[] w fun e w' => e = .returned (.bool true) ∧ Below w.heap.size w w' := by
  have Y0 : Byt (w.alloc (.cells #[.int .u8 5] 5)) (some ⟨w.heap.size, 0, none⟩) 1 1 f0.bs := byt1 w 5 (by omega)
  go_enter Try.func9, Try.ntmps9
  go_wp2_with fail
  refine (encode10 f0 (some ⟨w.heap.size, 0, none⟩) 1 1 _ f0_B Y0).mono ?_
  rintro e w1 ⟨ao, n, c, rfl, hb, hB⟩
  rw [f0_ec]
  have hl := hb.len
  rw [f0_enc] at hb hl
  obtain rfl : n = 15 := hl.symm
  obtain ⟨b, o, rfl, hc, -⟩ := hb.at (by omega)
  have c12 : w1.cell? ⟨b, o + 12, none⟩ = some (.int .u8 8) := hc 12 (by omega)
  have c14 : w1.cell? ⟨b, o + 14, none⟩ = some (.int .u8 5) := hc 14 (by omega)
  have hB1 := belowOn (below_alloc w _) hB
  clear Y0 hB hb hl hc
  go_wp2
  go_ret
  exact ⟨rfl, hB1⟩
end Go.Proofs.Ytkhdaibpggmklaa
