/- Contract of Encode, as the document has it. -/
import Derived.Test.YtkhdaibpggmklaaA8
namespace Go.Proofs.Ytkhdaibpggmklaa
open Go.RowKit

theorem two22' (n : Int) (w : World) (h0 : 0 ≤ n) (h1 : n ≤ 65535) :
    Calls Try.prog 22 #[.int .i64 n] w fun e w' => ∃ ao, e = .returned (.slice ao 2 2) ∧ Byt w' ao 2 2 [n / 256, n % 256] ∧ Below w.heap.size w w' :=
  (two22 n w h0 h1).mono fun e w' ⟨he, hw⟩ => ⟨_, he, by rw [hw]; exact byt2 w _ _ (by omega) (by omega), by rw [hw]; exact below_alloc _ _⟩
theorem adL_rng {f : Fd} (h : FdB f) (j : Nat) : 0 ≤ (adL f).getD j 0 ∧ (adL f).getD j 0 ≤ 255 := rng_getD h.a j
set_option maxRecDepth 100000 in
set_option maxHeartbeats 1000000 in
theorem encode11_no (f : Fd) (ao : Option Addr) (n c : Nat) (w : World) (hn : f.bs.length = n) (hr : rt f = false) :
    Calls Try.prog 11 #[.agg #[.int .u8 f.d0, .int .u8 f.d1, .int .u8 f.d2, .int .u8 f.d3, .int .u8 f.d4, .int .u8 f.d5, .int .u8 f.s0, .int .u8 f.s1, .int .u8 f.s2, .int .u8 f.s3, .int .u8 f.s4, .int .u8 f.s5, .bool f.tg, .int .i64 f.vl, .int .i64 f.pr, .int .i64 f.ty, (.slice ao n c)]] w fun e w' => e = .returned (.tuple #[.slice none 0 0, .int .i64 1]) ∧ Below w.heap.size w w' := by
  have HN := hide hn
  have A0 := AtF.new w f (.slice ao n c)
  clear hn
  go_enter Try.func11, Try.ntmps11
  go_wp2_with (refine wpl_frame (.tmp 1) rfl A0 ?_ ?_ ?_; rfl; rfl)
  refine (right13 f ao n c _ HN.out).mono ?_
  rintro e w1 ⟨rfl, hb1⟩
  clear A0
  go_wp2
  go_ret2
  exact ⟨rfl, belowOn (below_alloc _ _) hb1⟩

end Go.Proofs.Ytkhdaibpggmklaa
