/- Contract of awake: it answers true. -/
import Derived.Test.YtijfcfpoimknmaaDoorC4
namespace Go.Proofs.YtijfcfpoimknmaaDoor
open Go.RowKit

def n1 : Nt := ⟨2, 10, 7, 0, 0, 0, 0, 0, 0, 0, []⟩
def p1 : Pk := ⟨1, 2, 3, n1⟩
theorem p1_rt : rtp p1 = true := by decide
theorem n1_B : NtB n1 := ⟨fun n hn => by simp [ml, n1] at hn; omega, rng_nil⟩
theorem MC_1 : (#[.int .u8 7, .int .u8 0, .int .u8 0, .int .u8 0, .int .u8 0, .int .u8 0] : Array Value) = MC n1 := rfl
theorem PC_p1 : (#[.int .i64 1, .int .i64 2, .int .i64 3, .int .i64 2, .int .i64 10, .int .u8 7, .int .u8 0, .int .u8 0, .int .u8 0, .int .u8 0, .int .u8 0, .int .i64 0, .int .i64 0, .slice none 0 0] : Array Value) = PC p1 (.slice none 0 0) := rfl
theorem enc_p1 (w : World) (hT : KT w) : Calls Tryd.prog 11 #[.agg (PC p1 (.slice none 0 0))] w fun e w' => ∃ g cap, e = .returned (.tuple #[.slice (some ⟨g, 0, none⟩) 21 cap, .int .i64 0]) ∧ Byt w' (some ⟨g, 0, none⟩) 21 cap (enc p1) ∧ Below w.heap.size w w' :=
  encode11_yes p1 none 0 0 w hT n1_B (Byt.nothing w) p1_rt
section
attribute [local go_sem] PC_p1
set_option maxRecDepth 100000 in
set_option maxHeartbeats 1000000 in
theorem awake10 (w : World) (hT : KT w) : Calls Tryd.prog 10 #[] w fun e w' => e = .returned (.bool true) ∧ Below w.heap.size w w' := by
  go_enter Tryd.func10, Tryd.ntmps10
  go_wp2_with fail
  refine (enc_p1 _ hT).mono ?_
  rintro e w1 ⟨g, c, rfl, Y1, hB⟩
  obtain ⟨b, o, e, hc, -⟩ := Y1.at (by omega)
  injection Option.some.inj e with e1 e2
  subst e1 e2
  have c3 : w1.cell? ⟨g, 3, none⟩ = some (.int .u8 1) := hc 3 (by omega)
  have c7 : w1.cell? ⟨g, 7, none⟩ = some (.int .u8 2) := hc 7 (by omega)
  have c11 : w1.cell? ⟨g, 11, none⟩ = some (.int .u8 3) := hc 11 (by omega)
  have c12 : w1.cell? ⟨g, 12, none⟩ = some (.int .u8 2) := hc 12 (by omega)
  have c14 : w1.cell? ⟨g, 14, none⟩ = some (.int .u8 10) := hc 14 (by omega)
  have c15 : w1.cell? ⟨g, 15, none⟩ = some (.int .u8 7) := hc 15 (by omega)
  have hle := Y1.le
  have hle1 : (21 : Int) ≤ c := by omega
  clear hc e Y1 hle
  go_wp2
  go_ret
  exact ⟨rfl, hB⟩
end
end Go.Proofs.YtijfcfpoimknmaaDoor
