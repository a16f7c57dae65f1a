/- EtherOnce: for every two frames the law answers true, and both read behind the call as they read before. No condition. -/
import Derived.Test.YtkhdaibpggmklaaAd
import Derived.Test.YtkhdaibpggmklaaAe
import Derived.Test.YtkhdaibpggmklaaAf
namespace Go.Proofs.Ytkhdaibpggmklaa
open Go.ChangeShapes Go.WideShapes Go.ChangeAt Go.RowKit

theorem sm_enc {f g : Fd} (hf : FdB f) (hg : FdB g) (kf : rt f = true) (kg : rt g = true) : ((bs (enc f)).toList == (bs (enc g)).toList) = sm f g := by
  rw [bs_beq (enc_rng hf kf) (enc_rng hg kg), Bool.eq_iff_iff, decide_eq_true_eq, sm_iff]
  exact ⟨enc_inj kf kg, fun h => by rw [h]⟩
set_option maxRecDepth 100000 in
set_option maxHeartbeats 4000000 in
theorem onceWalk (f : Fd) (ao : Option Addr) (n c : Nat) (g : Fd) (bo : Option Addr) (m d : Nat) (w : World) (hf : FdB f) (hb : Byt w ao n c f.bs) (hg : FdB g) (hc : Byt w bo m d g.bs) :
    Calls Try.prog 8 #[.agg #[.int .u8 f.d0, .int .u8 f.d1, .int .u8 f.d2, .int .u8 f.d3, .int .u8 f.d4, .int .u8 f.d5, .int .u8 f.s0, .int .u8 f.s1, .int .u8 f.s2, .int .u8 f.s3, .int .u8 f.s4, .int .u8 f.s5, .bool f.tg, .int .i64 f.vl, .int .i64 f.pr, .int .i64 f.ty, (.slice ao n c)], .agg #[.int .u8 g.d0, .int .u8 g.d1, .int .u8 g.d2, .int .u8 g.d3, .int .u8 g.d4, .int .u8 g.d5, .int .u8 g.s0, .int .u8 g.s1, .int .u8 g.s2, .int .u8 g.s3, .int .u8 g.s4, .int .u8 g.s5, .bool g.tg, .int .i64 g.vl, .int .i64 g.pr, .int .i64 g.ty, (.slice bo m d)]] w fun e w' => e = .returned (.bool true) ∧ Below w.heap.size w w' := by
  have HN := hide hb.len
  by_cases hn : (3000 : Int) < n
  · have hn' : decide ((3000 : Int) < n) = true := by simp; omega
    have A0 := (AtF.new w f (.slice ao n c)).alloc (.cells #[.int .u8 g.d0, .int .u8 g.d1, .int .u8 g.d2, .int .u8 g.d3, .int .u8 g.d4, .int .u8 g.d5, .int .u8 g.s0, .int .u8 g.s1, .int .u8 g.s2, .int .u8 g.s3, .int .u8 g.s4, .int .u8 g.s5, .bool g.tg, .int .i64 g.vl, .int .i64 g.pr, .int .i64 g.ty, (.slice bo m d)] 26)
    have B0 := AtF.new (w.alloc (.cells #[.int .u8 f.d0, .int .u8 f.d1, .int .u8 f.d2, .int .u8 f.d3, .int .u8 f.d4, .int .u8 f.d5, .int .u8 f.s0, .int .u8 f.s1, .int .u8 f.s2, .int .u8 f.s3, .int .u8 f.s4, .int .u8 f.s5, .bool f.tg, .int .i64 f.vl, .int .i64 f.pr, .int .i64 f.ty, (.slice ao n c)] 26)) g (.slice bo m d)
    rw [World.size_alloc] at B0
    have Y0 := (hb.alloc (.cells #[.int .u8 f.d0, .int .u8 f.d1, .int .u8 f.d2, .int .u8 f.d3, .int .u8 f.d4, .int .u8 f.d5, .int .u8 f.s0, .int .u8 f.s1, .int .u8 f.s2, .int .u8 f.s3, .int .u8 f.s4, .int .u8 f.s5, .bool f.tg, .int .i64 f.vl, .int .i64 f.pr, .int .i64 f.ty, (.slice ao n c)] 26)).alloc (.cells #[.int .u8 g.d0, .int .u8 g.d1, .int .u8 g.d2, .int .u8 g.d3, .int .u8 g.d4, .int .u8 g.d5, .int .u8 g.s0, .int .u8 g.s1, .int .u8 g.s2, .int .u8 g.s3, .int .u8 g.s4, .int .u8 g.s5, .bool g.tg, .int .i64 g.vl, .int .i64 g.pr, .int .i64 g.ty, (.slice bo m d)] 26)
    have Z0 := (hc.alloc (.cells #[.int .u8 f.d0, .int .u8 f.d1, .int .u8 f.d2, .int .u8 f.d3, .int .u8 f.d4, .int .u8 f.d5, .int .u8 f.s0, .int .u8 f.s1, .int .u8 f.s2, .int .u8 f.s3, .int .u8 f.s4, .int .u8 f.s5, .bool f.tg, .int .i64 f.vl, .int .i64 f.pr, .int .i64 f.ty, (.slice ao n c)] 26)).alloc (.cells #[.int .u8 g.d0, .int .u8 g.d1, .int .u8 g.d2, .int .u8 g.d3, .int .u8 g.d4, .int .u8 g.d5, .int .u8 g.s0, .int .u8 g.s1, .int .u8 g.s2, .int .u8 g.s3, .int .u8 g.s4, .int .u8 g.s5, .bool g.tg, .int .i64 g.vl, .int .i64 g.pr, .int .i64 g.ty, (.slice bo m d)] 26)
    have W0 := (below_alloc w (.cells #[.int .u8 f.d0, .int .u8 f.d1, .int .u8 f.d2, .int .u8 f.d3, .int .u8 f.d4, .int .u8 f.d5, .int .u8 f.s0, .int .u8 f.s1, .int .u8 f.s2, .int .u8 f.s3, .int .u8 f.s4, .int .u8 f.s5, .bool f.tg, .int .i64 f.vl, .int .i64 f.pr, .int .i64 f.ty, (.slice ao n c)] 26)).alloc (by simp) (.cells #[.int .u8 g.d0, .int .u8 g.d1, .int .u8 g.d2, .int .u8 g.d3, .int .u8 g.d4, .int .u8 g.d5, .int .u8 g.s0, .int .u8 g.s1, .int .u8 g.s2, .int .u8 g.s3, .int .u8 g.s4, .int .u8 g.s5, .bool g.tg, .int .i64 g.vl, .int .i64 g.pr, .int .i64 g.ty, (.slice bo m d)] 26)
    clear hb hc
    go_enter Try.func8, Try.ntmps8
    go_wp2_with fail
    refine (awake9 _).mono ?_
    rintro e w1 ⟨rfl, hb1⟩
    replace A0 := A0.on hb1; replace B0 := B0.on hb1; replace Y0 := Y0.on hb1; replace Z0 := Z0.on hb1; replace W0 := belowOn W0 hb1
    clear hb1
    have p16 := A0.c16
    have q16 := B0.c16
    go_wp2
    go_ret
    exact ⟨rfl, W0⟩
  have hn' : decide ((3000 : Int) < n) = false := by simp; omega
  by_cases hm : (3000 : Int) < m
  · have hm' : decide ((3000 : Int) < m) = true := by simp; omega
    have A0 := (AtF.new w f (.slice ao n c)).alloc (.cells #[.int .u8 g.d0, .int .u8 g.d1, .int .u8 g.d2, .int .u8 g.d3, .int .u8 g.d4, .int .u8 g.d5, .int .u8 g.s0, .int .u8 g.s1, .int .u8 g.s2, .int .u8 g.s3, .int .u8 g.s4, .int .u8 g.s5, .bool g.tg, .int .i64 g.vl, .int .i64 g.pr, .int .i64 g.ty, (.slice bo m d)] 26)
    have B0 := AtF.new (w.alloc (.cells #[.int .u8 f.d0, .int .u8 f.d1, .int .u8 f.d2, .int .u8 f.d3, .int .u8 f.d4, .int .u8 f.d5, .int .u8 f.s0, .int .u8 f.s1, .int .u8 f.s2, .int .u8 f.s3, .int .u8 f.s4, .int .u8 f.s5, .bool f.tg, .int .i64 f.vl, .int .i64 f.pr, .int .i64 f.ty, (.slice ao n c)] 26)) g (.slice bo m d)
    rw [World.size_alloc] at B0
    have Y0 := (hb.alloc (.cells #[.int .u8 f.d0, .int .u8 f.d1, .int .u8 f.d2, .int .u8 f.d3, .int .u8 f.d4, .int .u8 f.d5, .int .u8 f.s0, .int .u8 f.s1, .int .u8 f.s2, .int .u8 f.s3, .int .u8 f.s4, .int .u8 f.s5, .bool f.tg, .int .i64 f.vl, .int .i64 f.pr, .int .i64 f.ty, (.slice ao n c)] 26)).alloc (.cells #[.int .u8 g.d0, .int .u8 g.d1, .int .u8 g.d2, .int .u8 g.d3, .int .u8 g.d4, .int .u8 g.d5, .int .u8 g.s0, .int .u8 g.s1, .int .u8 g.s2, .int .u8 g.s3, .int .u8 g.s4, .int .u8 g.s5, .bool g.tg, .int .i64 g.vl, .int .i64 g.pr, .int .i64 g.ty, (.slice bo m d)] 26)
    have Z0 := (hc.alloc (.cells #[.int .u8 f.d0, .int .u8 f.d1, .int .u8 f.d2, .int .u8 f.d3, .int .u8 f.d4, .int .u8 f.d5, .int .u8 f.s0, .int .u8 f.s1, .int .u8 f.s2, .int .u8 f.s3, .int .u8 f.s4, .int .u8 f.s5, .bool f.tg, .int .i64 f.vl, .int .i64 f.pr, .int .i64 f.ty, (.slice ao n c)] 26)).alloc (.cells #[.int .u8 g.d0, .int .u8 g.d1, .int .u8 g.d2, .int .u8 g.d3, .int .u8 g.d4, .int .u8 g.d5, .int .u8 g.s0, .int .u8 g.s1, .int .u8 g.s2, .int .u8 g.s3, .int .u8 g.s4, .int .u8 g.s5, .bool g.tg, .int .i64 g.vl, .int .i64 g.pr, .int .i64 g.ty, (.slice bo m d)] 26)
    have W0 := (below_alloc w (.cells #[.int .u8 f.d0, .int .u8 f.d1, .int .u8 f.d2, .int .u8 f.d3, .int .u8 f.d4, .int .u8 f.d5, .int .u8 f.s0, .int .u8 f.s1, .int .u8 f.s2, .int .u8 f.s3, .int .u8 f.s4, .int .u8 f.s5, .bool f.tg, .int .i64 f.vl, .int .i64 f.pr, .int .i64 f.ty, (.slice ao n c)] 26)).alloc (by simp) (.cells #[.int .u8 g.d0, .int .u8 g.d1, .int .u8 g.d2, .int .u8 g.d3, .int .u8 g.d4, .int .u8 g.d5, .int .u8 g.s0, .int .u8 g.s1, .int .u8 g.s2, .int .u8 g.s3, .int .u8 g.s4, .int .u8 g.s5, .bool g.tg, .int .i64 g.vl, .int .i64 g.pr, .int .i64 g.ty, (.slice bo m d)] 26)
    clear hb hc
    go_enter Try.func8, Try.ntmps8
    go_wp2_with fail
    refine (awake9 _).mono ?_
    rintro e w1 ⟨rfl, hb1⟩
    replace A0 := A0.on hb1; replace B0 := B0.on hb1; replace Y0 := Y0.on hb1; replace Z0 := Z0.on hb1; replace W0 := belowOn W0 hb1
    clear hb1
    have p16 := A0.c16
    have q16 := B0.c16
    go_wp2
    go_ret
    exact ⟨rfl, W0⟩
  have hm' : decide ((3000 : Int) < m) = false := by simp; omega
  cases kf : rt f
  · have h1 := ec_no kf
    have KF := hide kf
    clear kf
    have A0 := (AtF.new w f (.slice ao n c)).alloc (.cells #[.int .u8 g.d0, .int .u8 g.d1, .int .u8 g.d2, .int .u8 g.d3, .int .u8 g.d4, .int .u8 g.d5, .int .u8 g.s0, .int .u8 g.s1, .int .u8 g.s2, .int .u8 g.s3, .int .u8 g.s4, .int .u8 g.s5, .bool g.tg, .int .i64 g.vl, .int .i64 g.pr, .int .i64 g.ty, (.slice bo m d)] 26)
    have B0 := AtF.new (w.alloc (.cells #[.int .u8 f.d0, .int .u8 f.d1, .int .u8 f.d2, .int .u8 f.d3, .int .u8 f.d4, .int .u8 f.d5, .int .u8 f.s0, .int .u8 f.s1, .int .u8 f.s2, .int .u8 f.s3, .int .u8 f.s4, .int .u8 f.s5, .bool f.tg, .int .i64 f.vl, .int .i64 f.pr, .int .i64 f.ty, (.slice ao n c)] 26)) g (.slice bo m d)
    rw [World.size_alloc] at B0
    have Y0 := (hb.alloc (.cells #[.int .u8 f.d0, .int .u8 f.d1, .int .u8 f.d2, .int .u8 f.d3, .int .u8 f.d4, .int .u8 f.d5, .int .u8 f.s0, .int .u8 f.s1, .int .u8 f.s2, .int .u8 f.s3, .int .u8 f.s4, .int .u8 f.s5, .bool f.tg, .int .i64 f.vl, .int .i64 f.pr, .int .i64 f.ty, (.slice ao n c)] 26)).alloc (.cells #[.int .u8 g.d0, .int .u8 g.d1, .int .u8 g.d2, .int .u8 g.d3, .int .u8 g.d4, .int .u8 g.d5, .int .u8 g.s0, .int .u8 g.s1, .int .u8 g.s2, .int .u8 g.s3, .int .u8 g.s4, .int .u8 g.s5, .bool g.tg, .int .i64 g.vl, .int .i64 g.pr, .int .i64 g.ty, (.slice bo m d)] 26)
    have Z0 := (hc.alloc (.cells #[.int .u8 f.d0, .int .u8 f.d1, .int .u8 f.d2, .int .u8 f.d3, .int .u8 f.d4, .int .u8 f.d5, .int .u8 f.s0, .int .u8 f.s1, .int .u8 f.s2, .int .u8 f.s3, .int .u8 f.s4, .int .u8 f.s5, .bool f.tg, .int .i64 f.vl, .int .i64 f.pr, .int .i64 f.ty, (.slice ao n c)] 26)).alloc (.cells #[.int .u8 g.d0, .int .u8 g.d1, .int .u8 g.d2, .int .u8 g.d3, .int .u8 g.d4, .int .u8 g.d5, .int .u8 g.s0, .int .u8 g.s1, .int .u8 g.s2, .int .u8 g.s3, .int .u8 g.s4, .int .u8 g.s5, .bool g.tg, .int .i64 g.vl, .int .i64 g.pr, .int .i64 g.ty, (.slice bo m d)] 26)
    have W0 := (below_alloc w (.cells #[.int .u8 f.d0, .int .u8 f.d1, .int .u8 f.d2, .int .u8 f.d3, .int .u8 f.d4, .int .u8 f.d5, .int .u8 f.s0, .int .u8 f.s1, .int .u8 f.s2, .int .u8 f.s3, .int .u8 f.s4, .int .u8 f.s5, .bool f.tg, .int .i64 f.vl, .int .i64 f.pr, .int .i64 f.ty, (.slice ao n c)] 26)).alloc (by simp) (.cells #[.int .u8 g.d0, .int .u8 g.d1, .int .u8 g.d2, .int .u8 g.d3, .int .u8 g.d4, .int .u8 g.d5, .int .u8 g.s0, .int .u8 g.s1, .int .u8 g.s2, .int .u8 g.s3, .int .u8 g.s4, .int .u8 g.s5, .bool g.tg, .int .i64 g.vl, .int .i64 g.pr, .int .i64 g.ty, (.slice bo m d)] 26)
    clear hb hc
    go_enter Try.func8, Try.ntmps8
    go_wp2_with fail
    refine (awake9 _).mono ?_
    rintro e w1 ⟨rfl, hb1⟩
    replace A0 := A0.on hb1; replace B0 := B0.on hb1; replace Y0 := Y0.on hb1; replace Z0 := Z0.on hb1; replace W0 := belowOn W0 hb1
    clear hb1
    have p16 := A0.c16
    have q16 := B0.c16
    have tk1 : True := trivial
    go_wp2_with (have _t := tk1; refine wpl_frame (.tmp 2) rfl A0 ?_ ?_ ?_; rfl; rfl; clear tk1)
    refine (encode10 f ao n c _ hf Y0).mono ?_
    rintro e w2 ⟨a1, n1, c1, rfl, Y1, hb1⟩
    replace A0 := A0.on hb1; replace B0 := B0.on hb1; replace Y0 := Y0.on hb1; replace Z0 := Z0.on hb1; replace W0 := belowOn W0 hb1
    clear hb1 p16 q16
    have tk1 : True := trivial
    go_wp2_with (have _t := tk1; refine wpl_frame (.tmp 3) rfl B0 ?_ ?_ ?_; rfl; rfl; clear tk1)
    refine (encode10 g bo m d _ hg Z0).mono ?_
    rintro e w3 ⟨a2, n2, c2, rfl, Y2, hb1⟩
    replace A0 := A0.on hb1; replace B0 := B0.on hb1; replace Y0 := Y0.on hb1; replace Z0 := Z0.on hb1; replace Y1 := Y1.on hb1; replace W0 := belowOn W0 hb1
    clear hb1
    go_wp2
    go_ret
    exact ⟨rfl, W0⟩
  cases kg : rt g
  · have h1 := ec_yes kf
    have h2 := ec_no kg
    have KF := hide kf
    have KG := hide kg
    clear kf kg
    have A0 := (AtF.new w f (.slice ao n c)).alloc (.cells #[.int .u8 g.d0, .int .u8 g.d1, .int .u8 g.d2, .int .u8 g.d3, .int .u8 g.d4, .int .u8 g.d5, .int .u8 g.s0, .int .u8 g.s1, .int .u8 g.s2, .int .u8 g.s3, .int .u8 g.s4, .int .u8 g.s5, .bool g.tg, .int .i64 g.vl, .int .i64 g.pr, .int .i64 g.ty, (.slice bo m d)] 26)
    have B0 := AtF.new (w.alloc (.cells #[.int .u8 f.d0, .int .u8 f.d1, .int .u8 f.d2, .int .u8 f.d3, .int .u8 f.d4, .int .u8 f.d5, .int .u8 f.s0, .int .u8 f.s1, .int .u8 f.s2, .int .u8 f.s3, .int .u8 f.s4, .int .u8 f.s5, .bool f.tg, .int .i64 f.vl, .int .i64 f.pr, .int .i64 f.ty, (.slice ao n c)] 26)) g (.slice bo m d)
    rw [World.size_alloc] at B0
    have Y0 := (hb.alloc (.cells #[.int .u8 f.d0, .int .u8 f.d1, .int .u8 f.d2, .int .u8 f.d3, .int .u8 f.d4, .int .u8 f.d5, .int .u8 f.s0, .int .u8 f.s1, .int .u8 f.s2, .int .u8 f.s3, .int .u8 f.s4, .int .u8 f.s5, .bool f.tg, .int .i64 f.vl, .int .i64 f.pr, .int .i64 f.ty, (.slice ao n c)] 26)).alloc (.cells #[.int .u8 g.d0, .int .u8 g.d1, .int .u8 g.d2, .int .u8 g.d3, .int .u8 g.d4, .int .u8 g.d5, .int .u8 g.s0, .int .u8 g.s1, .int .u8 g.s2, .int .u8 g.s3, .int .u8 g.s4, .int .u8 g.s5, .bool g.tg, .int .i64 g.vl, .int .i64 g.pr, .int .i64 g.ty, (.slice bo m d)] 26)
    have Z0 := (hc.alloc (.cells #[.int .u8 f.d0, .int .u8 f.d1, .int .u8 f.d2, .int .u8 f.d3, .int .u8 f.d4, .int .u8 f.d5, .int .u8 f.s0, .int .u8 f.s1, .int .u8 f.s2, .int .u8 f.s3, .int .u8 f.s4, .int .u8 f.s5, .bool f.tg, .int .i64 f.vl, .int .i64 f.pr, .int .i64 f.ty, (.slice ao n c)] 26)).alloc (.cells #[.int .u8 g.d0, .int .u8 g.d1, .int .u8 g.d2, .int .u8 g.d3, .int .u8 g.d4, .int .u8 g.d5, .int .u8 g.s0, .int .u8 g.s1, .int .u8 g.s2, .int .u8 g.s3, .int .u8 g.s4, .int .u8 g.s5, .bool g.tg, .int .i64 g.vl, .int .i64 g.pr, .int .i64 g.ty, (.slice bo m d)] 26)
    have W0 := (below_alloc w (.cells #[.int .u8 f.d0, .int .u8 f.d1, .int .u8 f.d2, .int .u8 f.d3, .int .u8 f.d4, .int .u8 f.d5, .int .u8 f.s0, .int .u8 f.s1, .int .u8 f.s2, .int .u8 f.s3, .int .u8 f.s4, .int .u8 f.s5, .bool f.tg, .int .i64 f.vl, .int .i64 f.pr, .int .i64 f.ty, (.slice ao n c)] 26)).alloc (by simp) (.cells #[.int .u8 g.d0, .int .u8 g.d1, .int .u8 g.d2, .int .u8 g.d3, .int .u8 g.d4, .int .u8 g.d5, .int .u8 g.s0, .int .u8 g.s1, .int .u8 g.s2, .int .u8 g.s3, .int .u8 g.s4, .int .u8 g.s5, .bool g.tg, .int .i64 g.vl, .int .i64 g.pr, .int .i64 g.ty, (.slice bo m d)] 26)
    clear hb hc
    go_enter Try.func8, Try.ntmps8
    go_wp2_with fail
    refine (awake9 _).mono ?_
    rintro e w1 ⟨rfl, hb1⟩
    replace A0 := A0.on hb1; replace B0 := B0.on hb1; replace Y0 := Y0.on hb1; replace Z0 := Z0.on hb1; replace W0 := belowOn W0 hb1
    clear hb1
    have p16 := A0.c16
    have q16 := B0.c16
    have tk1 : True := trivial
    go_wp2_with (have _t := tk1; refine wpl_frame (.tmp 2) rfl A0 ?_ ?_ ?_; rfl; rfl; clear tk1)
    refine (encode10 f ao n c _ hf Y0).mono ?_
    rintro e w2 ⟨a1, n1, c1, rfl, Y1, hb1⟩
    replace A0 := A0.on hb1; replace B0 := B0.on hb1; replace Y0 := Y0.on hb1; replace Z0 := Z0.on hb1; replace W0 := belowOn W0 hb1
    clear hb1 p16 q16
    have tk1 : True := trivial
    go_wp2_with (have _t := tk1; refine wpl_frame (.tmp 3) rfl B0 ?_ ?_ ?_; rfl; rfl; clear tk1)
    refine (encode10 g bo m d _ hg Z0).mono ?_
    rintro e w3 ⟨a2, n2, c2, rfl, Y2, hb1⟩
    replace A0 := A0.on hb1; replace B0 := B0.on hb1; replace Y0 := Y0.on hb1; replace Z0 := Z0.on hb1; replace Y1 := Y1.on hb1; replace W0 := belowOn W0 hb1
    clear hb1
    go_wp2
    go_ret
    exact ⟨rfl, W0⟩
  have h1 := ec_yes kf
  have h2 := ec_yes kg
  have hq := sm_enc hf hg kf kg
  have e1 := eb_yes kf
  have e2 := eb_yes kg
  have KF := hide kf
  have HL := hide (enc_length f)
  have E1 := hide e1
  have E2 := hide e2
  clear kf kg e1 e2
  have A0 := (AtF.new w f (.slice ao n c)).alloc (.cells #[.int .u8 g.d0, .int .u8 g.d1, .int .u8 g.d2, .int .u8 g.d3, .int .u8 g.d4, .int .u8 g.d5, .int .u8 g.s0, .int .u8 g.s1, .int .u8 g.s2, .int .u8 g.s3, .int .u8 g.s4, .int .u8 g.s5, .bool g.tg, .int .i64 g.vl, .int .i64 g.pr, .int .i64 g.ty, (.slice bo m d)] 26)
  have B0 := AtF.new (w.alloc (.cells #[.int .u8 f.d0, .int .u8 f.d1, .int .u8 f.d2, .int .u8 f.d3, .int .u8 f.d4, .int .u8 f.d5, .int .u8 f.s0, .int .u8 f.s1, .int .u8 f.s2, .int .u8 f.s3, .int .u8 f.s4, .int .u8 f.s5, .bool f.tg, .int .i64 f.vl, .int .i64 f.pr, .int .i64 f.ty, (.slice ao n c)] 26)) g (.slice bo m d)
  rw [World.size_alloc] at B0
  have Y0 := (hb.alloc (.cells #[.int .u8 f.d0, .int .u8 f.d1, .int .u8 f.d2, .int .u8 f.d3, .int .u8 f.d4, .int .u8 f.d5, .int .u8 f.s0, .int .u8 f.s1, .int .u8 f.s2, .int .u8 f.s3, .int .u8 f.s4, .int .u8 f.s5, .bool f.tg, .int .i64 f.vl, .int .i64 f.pr, .int .i64 f.ty, (.slice ao n c)] 26)).alloc (.cells #[.int .u8 g.d0, .int .u8 g.d1, .int .u8 g.d2, .int .u8 g.d3, .int .u8 g.d4, .int .u8 g.d5, .int .u8 g.s0, .int .u8 g.s1, .int .u8 g.s2, .int .u8 g.s3, .int .u8 g.s4, .int .u8 g.s5, .bool g.tg, .int .i64 g.vl, .int .i64 g.pr, .int .i64 g.ty, (.slice bo m d)] 26)
  have Z0 := (hc.alloc (.cells #[.int .u8 f.d0, .int .u8 f.d1, .int .u8 f.d2, .int .u8 f.d3, .int .u8 f.d4, .int .u8 f.d5, .int .u8 f.s0, .int .u8 f.s1, .int .u8 f.s2, .int .u8 f.s3, .int .u8 f.s4, .int .u8 f.s5, .bool f.tg, .int .i64 f.vl, .int .i64 f.pr, .int .i64 f.ty, (.slice ao n c)] 26)).alloc (.cells #[.int .u8 g.d0, .int .u8 g.d1, .int .u8 g.d2, .int .u8 g.d3, .int .u8 g.d4, .int .u8 g.d5, .int .u8 g.s0, .int .u8 g.s1, .int .u8 g.s2, .int .u8 g.s3, .int .u8 g.s4, .int .u8 g.s5, .bool g.tg, .int .i64 g.vl, .int .i64 g.pr, .int .i64 g.ty, (.slice bo m d)] 26)
  have W0 := (below_alloc w (.cells #[.int .u8 f.d0, .int .u8 f.d1, .int .u8 f.d2, .int .u8 f.d3, .int .u8 f.d4, .int .u8 f.d5, .int .u8 f.s0, .int .u8 f.s1, .int .u8 f.s2, .int .u8 f.s3, .int .u8 f.s4, .int .u8 f.s5, .bool f.tg, .int .i64 f.vl, .int .i64 f.pr, .int .i64 f.ty, (.slice ao n c)] 26)).alloc (by simp) (.cells #[.int .u8 g.d0, .int .u8 g.d1, .int .u8 g.d2, .int .u8 g.d3, .int .u8 g.d4, .int .u8 g.d5, .int .u8 g.s0, .int .u8 g.s1, .int .u8 g.s2, .int .u8 g.s3, .int .u8 g.s4, .int .u8 g.s5, .bool g.tg, .int .i64 g.vl, .int .i64 g.pr, .int .i64 g.ty, (.slice bo m d)] 26)
  clear hb hc
  go_enter Try.func8, Try.ntmps8
  go_wp2_with fail
  refine (awake9 _).mono ?_
  rintro e w1 ⟨rfl, hb1⟩
  replace A0 := A0.on hb1; replace B0 := B0.on hb1; replace Y0 := Y0.on hb1; replace Z0 := Z0.on hb1; replace W0 := belowOn W0 hb1
  clear hb1
  have p16 := A0.c16
  have q16 := B0.c16
  have tk1 : True := trivial
  go_wp2_with (have _t := tk1; refine wpl_frame (.tmp 2) rfl A0 ?_ ?_ ?_; rfl; rfl; clear tk1)
  refine (encode10 f ao n c _ hf Y0).mono ?_
  rintro e w2 ⟨a1, n1, c1, rfl, Y1, hb1⟩
  replace A0 := A0.on hb1; replace B0 := B0.on hb1; replace Y0 := Y0.on hb1; replace Z0 := Z0.on hb1; replace W0 := belowOn W0 hb1
  clear hb1 p16 q16
  have tk1 : True := trivial
  go_wp2_with (have _t := tk1; refine wpl_frame (.tmp 3) rfl B0 ?_ ?_ ?_; rfl; rfl; clear tk1)
  refine (encode10 g bo m d _ hg Z0).mono ?_
  rintro e w3 ⟨a2, n2, c2, rfl, Y2, hb1⟩
  replace A0 := A0.on hb1; replace B0 := B0.on hb1; replace Y0 := Y0.on hb1; replace Z0 := Z0.on hb1; replace Y1 := Y1.on hb1; replace W0 := belowOn W0 hb1
  clear hb1
  rw [E1.out] at Y1
  rw [E2.out] at Y2
  have hl := Y1.len
  rw [HL.out, HN.out] at hl
  have HT := hide hl
  clear hl
  obtain ⟨lt, p0, p1, p2, p3, p4, p5, p6, p7, p8, p9, p10, p11, p12, p13, p14, p15, p16⟩ := id A0
  rcases Bool.eq_false_or_eq_true f.tg with ht | ht
  · have hl := HT.out
    rw [ht] at hl
    have hl1 : (n1 : Int) ≤ 14 + n + 4 := by simp at hl; omega
    have hl2 : 14 + (n : Int) + 4 ≤ n1 := by simp at hl; omega
    rw [ht] at p12
    have tk1 : True := trivial
    have tk2 : True := trivial
    clear hl ht HT
    go_wp2_with (first | (have _t := tk1; refine wpl_frame (.tmp 2) rfl A0 ?_ ?_ ?_; rfl; rfl; clear tk1) | (have _t := tk2; refine wpl_frame (.tmp 3) rfl B0 ?_ ?_ ?_; rfl; rfl; clear tk2))
    refine (same16 f g ao bo n c m d _ Y0 Z0).mono ?_
    rintro e w4 ⟨rfl, hb1⟩
    have hc1 := bytStr (Y1.on hb1)
    have hc2 := bytStr (Y2.on hb1)
    replace W0 := belowOn W0 hb1
    clear hb1 A0 B0 Y0 Z0 Y1 Y2 lt p0 p1 p2 p3 p4 p5 p6 p7 p8 p9 p10 p11 p12 p13 p14 p15 p16
    go_wp2
    go_ret
    exact ⟨rfl, W0⟩
  · have hl := HT.out
    rw [ht] at hl
    have hl1 : (n1 : Int) ≤ 14 + n := by simp at hl; omega
    have hl2 : 14 + (n : Int) ≤ n1 := by simp at hl; omega
    rw [ht] at p12
    have tk1 : True := trivial
    have tk2 : True := trivial
    clear hl ht HT
    go_wp2_with (first | (have _t := tk1; refine wpl_frame (.tmp 2) rfl A0 ?_ ?_ ?_; rfl; rfl; clear tk1) | (have _t := tk2; refine wpl_frame (.tmp 3) rfl B0 ?_ ?_ ?_; rfl; rfl; clear tk2))
    refine (same16 f g ao bo n c m d _ Y0 Z0).mono ?_
    rintro e w4 ⟨rfl, hb1⟩
    have hc1 := bytStr (Y1.on hb1)
    have hc2 := bytStr (Y2.on hb1)
    replace W0 := belowOn W0 hb1
    clear hb1 A0 B0 Y0 Z0 Y1 Y2 lt p0 p1 p2 p3 p4 p5 p6 p7 p8 p9 p10 p11 p12 p13 p14 p15 p16
    go_wp2
    go_ret
    exact ⟨rfl, W0⟩

set_option maxRecDepth 100000 in
set_option maxHeartbeats 2000000 in
theorem etherOncelifted (os : Os) (started : os.Started) (H : Type) (enc : TypeId × Value → H) :
    ReturnsInHanded {} Try.checked os 8 .any (Rows.etherOnceSpec.pre6 enc Try.prog Try.f8 Rows.etherOnceRow.domain false) (Rows.etherOnceSpec.post enc Try.prog Try.f8 false true false false) := by
  refine returnsInHanded_of_change (C := Try.checked) own started (by kernel_rfl) Try.func8
    (ChangeSpec.witness6 (enc := enc) (C := Try.checked) false ⟨#[], #[.agg #[.int .u8 0, .int .u8 0, .int .u8 0, .int .u8 0, .int .u8 0, .int .u8 0, .int .u8 0, .int .u8 0, .int .u8 0, .int .u8 0, .int .u8 0, .int .u8 0, .bool false, .int .i64 0, .int .i64 0, .int .i64 0, .slice none 0 0], .agg #[.int .u8 0, .int .u8 0, .int .u8 0, .int .u8 0, .int .u8 0, .int .u8 0, .int .u8 0, .int .u8 0, .int .u8 0, .int .u8 0, .int .u8 0, .int .u8 0, .bool false, .int .i64 0, .int .i64 0, .int .i64 0, .slice none 0 0]], []⟩ 8 (by kernel_rfl) (by kernel_rfl) (by kernel_rfl) (by kernel_rfl)) ?_
  intro W base args ds gs before hval0 hW _ _
  have hval : ∀ (j : Nat) t v, Try.f8.params[j]? = some t → args[j]? = some v → Value.okWide Try.prog W .any base t v := hval0
  have hW' := hW
  obtain ⟨p, q, hA0, hV, rfl, _, _⟩ := hW
  have hA : DataW.TrodAll enc Try.prog W 0 (fun _ => true) true Try.f8.params.toList args.toList ds p := hA0
  rw [Try.params8] at hA hval
  obtain ⟨v0, vs0, d0, ds0, p0, q0, hargs, rfl, rfl, h0, r0⟩ := trodAll_cons hA
  obtain ⟨v1, vs1, d1, ds1, p1, q1, rfl, rfl, rfl, h1, r1⟩ := trodAll_cons r0
  obtain ⟨rfl, rfl, rfl⟩ := trodAll_nil r1
  obtain rfl : args = #[v0, v1] := by cases args; simp_all
  obtain ⟨rfl, rfl⟩ := trodVars_none hV
  have h0k := h0
  obtain ⟨f0, ao0, n0, c0, rfl, hf0, hb0⟩ := open_frame (hval 0 26 v0 rfl rfl) h0
  have h1k := h1
  obtain ⟨f1, ao1, n1, c1, rfl, hf1, hb1⟩ := open_frame (hval 1 26 v1 rfl rfl) h1
  clear hA0 hval0
  simp only [List.append_nil] at hW'
  have hlt : ∀ x ∈ p0 ++ p1, x.block < W.heap.size := fun x hx => by simpa using hW'.lt x (by simpa using hx)
  refine (onceWalk f0 ao0 n0 c0 f1 ao1 n1 c1 W hf0 hb0 hf1 hb1).mono fun e W' ⟨he, hbl⟩ => ?_
  subst he
  exact ⟨_, rfl, _, _, _, [], _, [], hW', (trodAll_cons_mk (shut_bool Try.underlying4 _) trodAll_mk0), (trodAll_cons_mk (Below.trod Try.laidOut (by kernel_rfl) (of_decide_eq_true (by kernel_rfl)) h0k hbl (fun x hx => hlt x (by simp [hx]))) (trodAll_cons_mk (Below.trod Try.laidOut (by kernel_rfl) (of_decide_eq_true (by kernel_rfl)) h1k hbl (fun x hx => hlt x (by simp [hx]))) trodAll_mk0)), rfl, hbl.frame _, fun h => by cases h⟩

theorem etherOnce_holds : Rows.EtherOnceSaid :=
  OpenClaim.holds_of_wide 8 Try.f8 rfl rfl rfl rfl rfl rfl rfl ⟨rfl, rfl, rfl, rfl, rfl⟩ rfl rfl rfl rfl rfl (by kernel_rfl) Try.func8 (by kernel_rfl)
    (of_decide_eq_true (by kernel_rfl)) (by unfold Func.isWrapper; first | (rw [if_pos (by decide +kernel)]; kernel_rfl) | (rw [if_neg (by decide +kernel)]; exact ⟨rfl, rfl⟩))
    (fun os started H enc _ => etherOncelifted os started H enc)

#print axioms etherOnce_holds
end Go.Proofs.Ytkhdaibpggmklaa
