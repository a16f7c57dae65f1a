/- Contract of awake: it answers true. -/
import Derived.Test.YtdaglmimfkcmeaaEn
namespace Go.Proofs.Ytdaglmimfkcmeaa
open Go.RowKit

def b1 : Bpd := ⟨2, 0, zeroI, 0, zeroI, 258, 0, 0, 0, 0⟩
theorem b1_rt : brt b1 = true := by decide
theorem b1_B : BpdB b1 := ⟨zeroI_B, zeroI_B⟩
theorem bare_B : BpdB bare := ⟨zeroI_B, zeroI_B⟩
theorem BC_b1 : ((BC zeroB).setIfInBounds 0 (.int .i64 2)).setIfInBounds 17 (.int .i64 258) = BC b1 := rfl
theorem enc_bare (w : World) : Calls Try.prog 10 #[.agg (BC bare)] w fun e w' => ∃ g cap, e = .returned (.tuple #[.slice (some ⟨g, 0, none⟩) 4 cap, .int .i64 0]) ∧ Byt w' (some ⟨g, 0, none⟩) 4 cap [0, 0, 0, 128] ∧ Below w.heap.size w w' :=
  encode10_yes bare w bare_B bare_brt
theorem enc_b1 (w : World) : Calls Try.prog 10 #[.agg (BC b1)] w fun e w' => ∃ g cap, e = .returned (.tuple #[.slice (some ⟨g, 0, none⟩) 36 cap, .int .i64 0]) ∧ Byt w' (some ⟨g, 0, none⟩) 36 cap (enc b1) ∧ Below w.heap.size w w' :=
  encode10_yes b1 w b1_B b1_rt
section
attribute [local go_sem] ZB BC_bare BC_b1
set_option maxRecDepth 100000 in
set_option maxHeartbeats 1000000 in
theorem awake9 (w : World) : Calls Try.prog 9 #[] w fun e w' => e = .returned (.bool true) ∧ Below w.heap.size w w' := by
  go_enter Try.func9, Try.ntmps9
  go_wp2_with fail
  refine (enc_bare _).mono ?_
  rintro e w1 ⟨g, c, rfl, Y1, hB⟩
  go_wp2_with fail
  refine (enc_b1 _).mono ?_
  rintro e w2 ⟨g2, c2, rfl, Y2, hB2⟩
  replace Y1 := Y1.on hB2
  replace hB := belowOn hB hB2
  obtain ⟨b, o, e, hc, -⟩ := Y2.at (by omega)
  injection Option.some.inj e with e1 e2
  subst e1 e2
  have c3 : w2.cell? ⟨g2, 25, none⟩ = some (.int .u8 1) := hc 25 (by omega)
  have c4 : w2.cell? ⟨g2, 26, none⟩ = some (.int .u8 2) := hc 26 (by omega)
  have hs := bytStr Y1
  have hle := Y2.le
  have hle1 : (36 : Int) ≤ c2 := by omega
  clear hc e hB2 Y1 Y2 hle
  have hq : ((bs [0, 0, 0, 128]).toList == [0, 0, 0, 128]) = true := by rw [bs_toList]; rfl
  go_wp2
  go_ret
  exact ⟨rfl, hB⟩
end
end Go.Proofs.Ytdaglmimfkcmeaa
