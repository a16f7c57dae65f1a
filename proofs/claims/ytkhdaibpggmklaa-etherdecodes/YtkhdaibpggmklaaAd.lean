/- Contract of Same. -/
import Derived.Test.YtkhdaibpggmklaaAc
namespace Go.Proofs.Ytkhdaibpggmklaa
open Go.RowKit

set_option maxRecDepth 100000 in
set_option maxHeartbeats 4000000 in
theorem same16 (f g : Fd) (ao bo : Option Addr) (n c m d : Nat) (w : World) (ha : Byt w ao n c f.bs) (hb : Byt w bo m d g.bs) :
    Calls Try.prog 16 #[.agg #[.int .u8 f.d0, .int .u8 f.d1, .int .u8 f.d2, .int .u8 f.d3, .int .u8 f.d4, .int .u8 f.d5, .int .u8 f.s0, .int .u8 f.s1, .int .u8 f.s2, .int .u8 f.s3, .int .u8 f.s4, .int .u8 f.s5, .bool f.tg, .int .i64 f.vl, .int .i64 f.pr, .int .i64 f.ty, (.slice ao n c)], .agg #[.int .u8 g.d0, .int .u8 g.d1, .int .u8 g.d2, .int .u8 g.d3, .int .u8 g.d4, .int .u8 g.d5, .int .u8 g.s0, .int .u8 g.s1, .int .u8 g.s2, .int .u8 g.s3, .int .u8 g.s4, .int .u8 g.s5, .bool g.tg, .int .i64 g.vl, .int .i64 g.pr, .int .i64 g.ty, (.slice bo m d)]] w fun e w' => e = .returned (.bool (sm f g)) ∧ Below w.heap.size w w' := by
  have hc1 := bytStr ((ha.alloc (.cells #[.int .u8 f.d0, .int .u8 f.d1, .int .u8 f.d2, .int .u8 f.d3, .int .u8 f.d4, .int .u8 f.d5, .int .u8 f.s0, .int .u8 f.s1, .int .u8 f.s2, .int .u8 f.s3, .int .u8 f.s4, .int .u8 f.s5, .bool f.tg, .int .i64 f.vl, .int .i64 f.pr, .int .i64 f.ty, (.slice ao n c)] 26)).alloc (.cells #[.int .u8 g.d0, .int .u8 g.d1, .int .u8 g.d2, .int .u8 g.d3, .int .u8 g.d4, .int .u8 g.d5, .int .u8 g.s0, .int .u8 g.s1, .int .u8 g.s2, .int .u8 g.s3, .int .u8 g.s4, .int .u8 g.s5, .bool g.tg, .int .i64 g.vl, .int .i64 g.pr, .int .i64 g.ty, (.slice bo m d)] 26))
  have hc2 := bytStr ((hb.alloc (.cells #[.int .u8 f.d0, .int .u8 f.d1, .int .u8 f.d2, .int .u8 f.d3, .int .u8 f.d4, .int .u8 f.d5, .int .u8 f.s0, .int .u8 f.s1, .int .u8 f.s2, .int .u8 f.s3, .int .u8 f.s4, .int .u8 f.s5, .bool f.tg, .int .i64 f.vl, .int .i64 f.pr, .int .i64 f.ty, (.slice ao n c)] 26)).alloc (.cells #[.int .u8 g.d0, .int .u8 g.d1, .int .u8 g.d2, .int .u8 g.d3, .int .u8 g.d4, .int .u8 g.d5, .int .u8 g.s0, .int .u8 g.s1, .int .u8 g.s2, .int .u8 g.s3, .int .u8 g.s4, .int .u8 g.s5, .bool g.tg, .int .i64 g.vl, .int .i64 g.pr, .int .i64 g.ty, (.slice bo m d)] 26))
  have hq := bs_beq ha.rng hb.rng
  have A0 := (AtF.new w f (.slice ao n c)).alloc (.cells #[.int .u8 g.d0, .int .u8 g.d1, .int .u8 g.d2, .int .u8 g.d3, .int .u8 g.d4, .int .u8 g.d5, .int .u8 g.s0, .int .u8 g.s1, .int .u8 g.s2, .int .u8 g.s3, .int .u8 g.s4, .int .u8 g.s5, .bool g.tg, .int .i64 g.vl, .int .i64 g.pr, .int .i64 g.ty, (.slice bo m d)] 26)
  have B0 := AtF.new (w.alloc (.cells #[.int .u8 f.d0, .int .u8 f.d1, .int .u8 f.d2, .int .u8 f.d3, .int .u8 f.d4, .int .u8 f.d5, .int .u8 f.s0, .int .u8 f.s1, .int .u8 f.s2, .int .u8 f.s3, .int .u8 f.s4, .int .u8 f.s5, .bool f.tg, .int .i64 f.vl, .int .i64 f.pr, .int .i64 f.ty, (.slice ao n c)] 26)) g (.slice bo m d)
  rw [World.size_alloc] at B0
  have m1 := eqMac f.d0 f.d1 f.d2 f.d3 f.d4 f.d5 g.d0 g.d1 g.d2 g.d3 g.d4 g.d5
  have m2 := eqMac f.s0 f.s1 f.s2 f.s3 f.s4 f.s5 g.s0 g.s1 g.s2 g.s3 g.s4 g.s5
  have d1 : eq6 f.d0 f.d1 f.d2 f.d3 f.d4 f.d5 g.d0 g.d1 g.d2 g.d3 g.d4 g.d5 = eD f g := rfl
  have d2 : eq6 f.s0 f.s1 f.s2 f.s3 f.s4 f.s5 g.s0 g.s1 g.s2 g.s3 g.s4 g.s5 = eS f g := rfl
  rw [d1] at m1
  rw [d2] at m2
  clear d1 d2 ha hb
  cases e1 : (eD f g)
  · have hs : sm f g = false := by simp [sm, e1]
    rw [hs]
    clear hs
    have tk1 : True := trivial
    have tk2 : True := trivial
    go_enter Try.func16, Try.ntmps16
    go_wp2_with (first | (have _t := tk1; refine wpl_dst (.tmp 5) rfl A0 ?_ ?_ ?_; rfl; rfl; clear tk1) | (have _t := tk2; refine wpl_dst (.tmp 7) rfl B0 ?_ ?_ ?_; rfl; rfl; clear tk2))
    go_ret
    exact ⟨rfl, by go_grown⟩
  cases e2 : (eS f g)
  · have hs : sm f g = false := by simp [sm, e1, e2]
    rw [hs]
    clear hs
    have tk1 : True := trivial
    have tk2 : True := trivial
    have tk3 : True := trivial
    have tk4 : True := trivial
    go_enter Try.func16, Try.ntmps16
    go_wp2_with (first | (have _t := tk1; refine wpl_dst (.tmp 5) rfl A0 ?_ ?_ ?_; rfl; rfl; clear tk1) | (have _t := tk2; refine wpl_dst (.tmp 7) rfl B0 ?_ ?_ ?_; rfl; rfl; clear tk2) | (have _t := tk3; refine wpl_src (.tmp 11) rfl A0 ?_ ?_ ?_; rfl; rfl; clear tk3) | (have _t := tk4; refine wpl_src (.tmp 13) rfl B0 ?_ ?_ ?_; rfl; rfl; clear tk4))
    go_ret
    exact ⟨rfl, by go_grown⟩
  cases e3 : (f.tg == g.tg)
  · have hs : sm f g = false := by simp [sm, e1, e2, e3]
    rw [hs]
    clear hs
    have tk1 : True := trivial
    have tk2 : True := trivial
    have tk3 : True := trivial
    have tk4 : True := trivial
    go_enter Try.func16, Try.ntmps16
    go_wp2_with (first | (have _t := tk1; refine wpl_dst (.tmp 5) rfl A0 ?_ ?_ ?_; rfl; rfl; clear tk1) | (have _t := tk2; refine wpl_dst (.tmp 7) rfl B0 ?_ ?_ ?_; rfl; rfl; clear tk2) | (have _t := tk3; refine wpl_src (.tmp 11) rfl A0 ?_ ?_ ?_; rfl; rfl; clear tk3) | (have _t := tk4; refine wpl_src (.tmp 13) rfl B0 ?_ ?_ ?_; rfl; rfl; clear tk4))
    go_ret
    exact ⟨rfl, by go_grown⟩
  cases e4 : (f.vl == g.vl)
  · have hs : sm f g = false := by simp [sm, e1, e2, e3, e4]
    rw [hs]
    clear hs
    have tk1 : True := trivial
    have tk2 : True := trivial
    have tk3 : True := trivial
    have tk4 : True := trivial
    go_enter Try.func16, Try.ntmps16
    go_wp2_with (first | (have _t := tk1; refine wpl_dst (.tmp 5) rfl A0 ?_ ?_ ?_; rfl; rfl; clear tk1) | (have _t := tk2; refine wpl_dst (.tmp 7) rfl B0 ?_ ?_ ?_; rfl; rfl; clear tk2) | (have _t := tk3; refine wpl_src (.tmp 11) rfl A0 ?_ ?_ ?_; rfl; rfl; clear tk3) | (have _t := tk4; refine wpl_src (.tmp 13) rfl B0 ?_ ?_ ?_; rfl; rfl; clear tk4))
    go_ret
    exact ⟨rfl, by go_grown⟩
  cases e5 : (f.pr == g.pr)
  · have hs : sm f g = false := by simp [sm, e1, e2, e3, e4, e5]
    rw [hs]
    clear hs
    have tk1 : True := trivial
    have tk2 : True := trivial
    have tk3 : True := trivial
    have tk4 : True := trivial
    go_enter Try.func16, Try.ntmps16
    go_wp2_with (first | (have _t := tk1; refine wpl_dst (.tmp 5) rfl A0 ?_ ?_ ?_; rfl; rfl; clear tk1) | (have _t := tk2; refine wpl_dst (.tmp 7) rfl B0 ?_ ?_ ?_; rfl; rfl; clear tk2) | (have _t := tk3; refine wpl_src (.tmp 11) rfl A0 ?_ ?_ ?_; rfl; rfl; clear tk3) | (have _t := tk4; refine wpl_src (.tmp 13) rfl B0 ?_ ?_ ?_; rfl; rfl; clear tk4))
    go_ret
    exact ⟨rfl, by go_grown⟩
  cases e6 : (f.ty == g.ty)
  · have hs : sm f g = false := by simp [sm, e1, e2, e3, e4, e5, e6]
    rw [hs]
    clear hs
    have tk1 : True := trivial
    have tk2 : True := trivial
    have tk3 : True := trivial
    have tk4 : True := trivial
    go_enter Try.func16, Try.ntmps16
    go_wp2_with (first | (have _t := tk1; refine wpl_dst (.tmp 5) rfl A0 ?_ ?_ ?_; rfl; rfl; clear tk1) | (have _t := tk2; refine wpl_dst (.tmp 7) rfl B0 ?_ ?_ ?_; rfl; rfl; clear tk2) | (have _t := tk3; refine wpl_src (.tmp 11) rfl A0 ?_ ?_ ?_; rfl; rfl; clear tk3) | (have _t := tk4; refine wpl_src (.tmp 13) rfl B0 ?_ ?_ ?_; rfl; rfl; clear tk4))
    go_ret
    exact ⟨rfl, by go_grown⟩
  cases e7 : (decide (f.bs = g.bs))
  · have hs : sm f g = false := by simp [sm, e1, e2, e3, e4, e5, e6, e7]
    rw [hs]
    clear hs
    have tk1 : True := trivial
    have tk2 : True := trivial
    have tk3 : True := trivial
    have tk4 : True := trivial
    go_enter Try.func16, Try.ntmps16
    go_wp2_with (first | (have _t := tk1; refine wpl_dst (.tmp 5) rfl A0 ?_ ?_ ?_; rfl; rfl; clear tk1) | (have _t := tk2; refine wpl_dst (.tmp 7) rfl B0 ?_ ?_ ?_; rfl; rfl; clear tk2) | (have _t := tk3; refine wpl_src (.tmp 11) rfl A0 ?_ ?_ ?_; rfl; rfl; clear tk3) | (have _t := tk4; refine wpl_src (.tmp 13) rfl B0 ?_ ?_ ?_; rfl; rfl; clear tk4))
    go_ret
    exact ⟨rfl, by go_grown⟩
  have hs : sm f g = true := by simp only [sm, e1, e2, e3, e4, e5, e6, e7, Bool.and_self]
  rw [hs]
  clear hs
  have tk1 : True := trivial
  have tk2 : True := trivial
  have tk3 : True := trivial
  have tk4 : True := trivial
  go_enter Try.func16, Try.ntmps16
  go_wp2_with (first | (have _t := tk1; refine wpl_dst (.tmp 5) rfl A0 ?_ ?_ ?_; rfl; rfl; clear tk1) | (have _t := tk2; refine wpl_dst (.tmp 7) rfl B0 ?_ ?_ ?_; rfl; rfl; clear tk2) | (have _t := tk3; refine wpl_src (.tmp 11) rfl A0 ?_ ?_ ?_; rfl; rfl; clear tk3) | (have _t := tk4; refine wpl_src (.tmp 13) rfl B0 ?_ ?_ ?_; rfl; rfl; clear tk4))
  go_ret
  exact ⟨rfl, by go_grown⟩
end Go.Proofs.Ytkhdaibpggmklaa
