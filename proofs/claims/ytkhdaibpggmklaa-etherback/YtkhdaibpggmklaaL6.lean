/- EtherBack: for every frame and every list of bytes the law answers true, and both read behind the call as they read before. No condition. -/
import Derived.Test.YtkhdaibpggmklaaAw
import Derived.Test.YtkhdaibpggmklaaAd
import Derived.Test.YtkhdaibpggmklaaAe
import Derived.Test.YtkhdaibpggmklaaAf
namespace Go.Proofs.Ytkhdaibpggmklaa
open Go.ChangeShapes Go.WideShapes Go.ChangeAt Go.RowKit

set_option maxRecDepth 100000 in
set_option maxHeartbeats 4000000 in
theorem back_yy (f : Fd) (ao : Option Addr) (n c : Nat) (bo : Option Addr) (m d : Nat) (ns : List Int) (w : World) (hf : FdB f) (hb : Byt w ao n c f.bs) (hc : Byt w bo m d ns) (hn' : decide ((3000 : Int) < n) = false) (hm' : decide ((3000 : Int) < m) = false) (KF : Hid (rt f = true)) (h1 : ec f = 0) (D : Fd) (HD0 : Hid (dec ns = (D, 0))) (HDR : Hid (rt D = true)) (HDB : Hid (FdB D)) (HDE : Hid (enc D = ns)) (h2 : ec D = 0) :
    Calls Try.prog 6 #[.agg #[.int .u8 f.d0, .int .u8 f.d1, .int .u8 f.d2, .int .u8 f.d3, .int .u8 f.d4, .int .u8 f.d5, .int .u8 f.s0, .int .u8 f.s1, .int .u8 f.s2, .int .u8 f.s3, .int .u8 f.s4, .int .u8 f.s5, .bool f.tg, .int .i64 f.vl, .int .i64 f.pr, .int .i64 f.ty, (.slice ao n c)], .slice bo m d] w fun e w' => e = .returned (.bool true) ∧ Below w.heap.size w w' := by
  have A0 := AtF.new w f (.slice ao n c)
  have Y0 := hb.alloc (.cells #[.int .u8 f.d0, .int .u8 f.d1, .int .u8 f.d2, .int .u8 f.d3, .int .u8 f.d4, .int .u8 f.d5, .int .u8 f.s0, .int .u8 f.s1, .int .u8 f.s2, .int .u8 f.s3, .int .u8 f.s4, .int .u8 f.s5, .bool f.tg, .int .i64 f.vl, .int .i64 f.pr, .int .i64 f.ty, (.slice ao n c)] 26)
  have Z0 := hc.alloc (.cells #[.int .u8 f.d0, .int .u8 f.d1, .int .u8 f.d2, .int .u8 f.d3, .int .u8 f.d4, .int .u8 f.d5, .int .u8 f.s0, .int .u8 f.s1, .int .u8 f.s2, .int .u8 f.s3, .int .u8 f.s4, .int .u8 f.s5, .bool f.tg, .int .i64 f.vl, .int .i64 f.pr, .int .i64 f.ty, (.slice ao n c)] 26)
  have W0 := below_alloc w (.cells #[.int .u8 f.d0, .int .u8 f.d1, .int .u8 f.d2, .int .u8 f.d3, .int .u8 f.d4, .int .u8 f.d5, .int .u8 f.s0, .int .u8 f.s1, .int .u8 f.s2, .int .u8 f.s3, .int .u8 f.s4, .int .u8 f.s5, .bool f.tg, .int .i64 f.vl, .int .i64 f.pr, .int .i64 f.ty, (.slice ao n c)] 26)
  clear hb hc
  go_enter Try.func6, Try.ntmps6
  go_wp2_with fail
  refine (awake9 _).mono ?_
  rintro e w1 ⟨rfl, hb1⟩
  replace A0 := A0.on hb1; replace Y0 := Y0.on hb1; replace Z0 := Z0.on hb1; replace W0 := belowOn W0 hb1
  clear hb1
  have p16 := A0.c16
  have tk1 : True := trivial
  go_wp2_with (have _t := tk1; refine wpl_frame (.tmp 2) rfl A0 ?_ ?_ ?_; rfl; rfl; clear tk1)
  refine (encode10 f ao n c _ hf Y0).mono ?_
  rintro e w2 ⟨a1, n1, c1, rfl, Y1, hb1⟩
  replace A0 := A0.on hb1; replace Y0 := Y0.on hb1; replace Z0 := Z0.on hb1; replace W0 := belowOn W0 hb1
  clear hb1 p16
  rw [eb_yes KF.out] at Y1
  go_wp2_with fail
  refine (decode14' a1 n1 c1 (enc f) _ Y1 f 0 (dec_back KF.out)).mono ?_
  rintro e w3 ⟨a2, n2, c2, rfl, Y2, hb1⟩
  replace A0 := A0.on hb1; replace Y0 := Y0.on hb1; replace Z0 := Z0.on hb1; replace W0 := belowOn W0 hb1
  clear hb1 Y1
  have T1 : (w3.alloc (.cells #[.int .u8 0, .int .u8 0, .int .u8 0, .int .u8 0, .int .u8 0, .int .u8 0, .int .u8 0, .int .u8 0, .int .u8 0, .int .u8 0, .int .u8 0, .int .u8 0, .bool false, .int .i64 0, .int .i64 0, .int .i64 0, .slice none 0 0] 26)).there w3.heap.size 0 17 := there_new w3 #[.int .u8 0, .int .u8 0, .int .u8 0, .int .u8 0, .int .u8 0, .int .u8 0, .int .u8 0, .int .u8 0, .int .u8 0, .int .u8 0, .int .u8 0, .int .u8 0, .bool false, .int .i64 0, .int .i64 0, .int .i64 0, .slice none 0 0] 26
  have tk1 : True := trivial
  have tk2 : True := trivial
  have tk3 : True := trivial
  go_wp2_with (first | (have _t := tk1; refine wpl_put f a2 n2 c2 (.tmp 8) (.tmp 40) rfl T1 ?_ ?_ ?_ ?_; rfl; rfl; rfl; clear tk1; intro w4 B1 T2 G1; have hb1 := put_below G1; replace A0 := A0.on hb1; replace Y0 := Y0.on hb1; replace Z0 := Z0.on hb1; replace Y2 := Y2.on hb1; replace W0 := belowOn W0 hb1; clear T1 T2 G1 hb1) | (have _t := tk2; refine wpl_frame (.tmp 2) rfl A0 ?_ ?_ ?_; rfl; rfl; clear tk2) | (have _t := tk3; refine wpl_frame (.tmp 8) rfl B1 ?_ ?_ ?_; rfl; rfl; clear tk3))
  refine (same16 f f ao a2 n c n2 c2 _ Y0 Y2).mono ?_
  rintro e w5 ⟨rfl, hb1⟩
  have hs := sm_self f
  replace Z0 := Z0.on hb1; replace W0 := belowOn W0 hb1
  clear hb1 A0 Y0 Y2 B1
  go_wp2_with fail
  refine (decode14' bo m d ns _ Z0 D 0 HD0.out).mono ?_
  rintro e w6 ⟨a6, n6, c6, rfl, Y6, hb1⟩
  replace Z0 := Z0.on hb1; replace W0 := belowOn W0 hb1
  clear hb1
  have T1 : (w6.alloc (.cells #[.int .u8 0, .int .u8 0, .int .u8 0, .int .u8 0, .int .u8 0, .int .u8 0, .int .u8 0, .int .u8 0, .int .u8 0, .int .u8 0, .int .u8 0, .int .u8 0, .bool false, .int .i64 0, .int .i64 0, .int .i64 0, .slice none 0 0] 26)).there w6.heap.size 0 17 := there_new w6 #[.int .u8 0, .int .u8 0, .int .u8 0, .int .u8 0, .int .u8 0, .int .u8 0, .int .u8 0, .int .u8 0, .int .u8 0, .int .u8 0, .int .u8 0, .int .u8 0, .bool false, .int .i64 0, .int .i64 0, .int .i64 0, .slice none 0 0] 26
  have tk4 : True := trivial
  have tk5 : True := trivial
  go_wp2_with (first | (have _t := tk4; refine wpl_put D a6 n6 c6 (.tmp 11) (.tmp 54) rfl T1 ?_ ?_ ?_ ?_; rfl; rfl; rfl; clear tk4; intro w7 B6 T2 G1; have hb1 := put_below G1; replace Z0 := Z0.on hb1; replace Y6 := Y6.on hb1; replace W0 := belowOn W0 hb1; clear T1 T2 G1 hb1) | (have _t := tk5; refine wpl_frame (.tmp 11) rfl B6 ?_ ?_ ?_; rfl; rfl; clear tk5))
  refine (encode10 D a6 n6 c6 _ HDB.out Y6).mono ?_
  rintro e w8 ⟨a8, n8, c8, rfl, Y8, hb1⟩
  replace B6 := B6.on hb1; replace Z0 := Z0.on hb1; replace Y6 := Y6.on hb1; replace W0 := belowOn W0 hb1
  rw [(eb_yes HDR.out).trans HDE.out] at Y8
  have hc1 := bytStr Y8
  have hc2 := bytStr Z0
  have hq := bs_beq_self ns
  have hd := HDR.out
  have HN6 := hide Y6.len
  have tk6 : True := trivial
  clear hb1 Y8 Z0 Y6
  go_wp2_with (have _t := tk6; refine wpl_frame (.tmp 11) rfl B6 ?_ ?_ ?_; rfl; rfl; clear tk6)
  refine (right12 D a6 n6 c6 _ HN6.out).mono ?_
  rintro e w9 ⟨rfl, hb1⟩
  replace W0 := belowOn W0 hb1
  clear hb1 B6
  go_wp2
  go_ret
  exact ⟨rfl, W0⟩

set_option maxRecDepth 100000 in
set_option maxHeartbeats 4000000 in
theorem back_yn (f : Fd) (ao : Option Addr) (n c : Nat) (bo : Option Addr) (m d : Nat) (ns : List Int) (w : World) (hf : FdB f) (hb : Byt w ao n c f.bs) (hc : Byt w bo m d ns) (hn' : decide ((3000 : Int) < n) = false) (hm' : decide ((3000 : Int) < m) = false) (KF : Hid (rt f = true)) (h1 : ec f = 0) (D : Fd) (HD0 : Hid (dec ns = (D, 2))) (hDz : Hid (D.bs = [])) :
    Calls Try.prog 6 #[.agg #[.int .u8 f.d0, .int .u8 f.d1, .int .u8 f.d2, .int .u8 f.d3, .int .u8 f.d4, .int .u8 f.d5, .int .u8 f.s0, .int .u8 f.s1, .int .u8 f.s2, .int .u8 f.s3, .int .u8 f.s4, .int .u8 f.s5, .bool f.tg, .int .i64 f.vl, .int .i64 f.pr, .int .i64 f.ty, (.slice ao n c)], .slice bo m d] w fun e w' => e = .returned (.bool true) ∧ Below w.heap.size w w' := by
  have A0 := AtF.new w f (.slice ao n c)
  have Y0 := hb.alloc (.cells #[.int .u8 f.d0, .int .u8 f.d1, .int .u8 f.d2, .int .u8 f.d3, .int .u8 f.d4, .int .u8 f.d5, .int .u8 f.s0, .int .u8 f.s1, .int .u8 f.s2, .int .u8 f.s3, .int .u8 f.s4, .int .u8 f.s5, .bool f.tg, .int .i64 f.vl, .int .i64 f.pr, .int .i64 f.ty, (.slice ao n c)] 26)
  have Z0 := hc.alloc (.cells #[.int .u8 f.d0, .int .u8 f.d1, .int .u8 f.d2, .int .u8 f.d3, .int .u8 f.d4, .int .u8 f.d5, .int .u8 f.s0, .int .u8 f.s1, .int .u8 f.s2, .int .u8 f.s3, .int .u8 f.s4, .int .u8 f.s5, .bool f.tg, .int .i64 f.vl, .int .i64 f.pr, .int .i64 f.ty, (.slice ao n c)] 26)
  have W0 := below_alloc w (.cells #[.int .u8 f.d0, .int .u8 f.d1, .int .u8 f.d2, .int .u8 f.d3, .int .u8 f.d4, .int .u8 f.d5, .int .u8 f.s0, .int .u8 f.s1, .int .u8 f.s2, .int .u8 f.s3, .int .u8 f.s4, .int .u8 f.s5, .bool f.tg, .int .i64 f.vl, .int .i64 f.pr, .int .i64 f.ty, (.slice ao n c)] 26)
  clear hb hc
  go_enter Try.func6, Try.ntmps6
  go_wp2_with fail
  refine (awake9 _).mono ?_
  rintro e w1 ⟨rfl, hb1⟩
  replace A0 := A0.on hb1; replace Y0 := Y0.on hb1; replace Z0 := Z0.on hb1; replace W0 := belowOn W0 hb1
  clear hb1
  have p16 := A0.c16
  have tk1 : True := trivial
  go_wp2_with (have _t := tk1; refine wpl_frame (.tmp 2) rfl A0 ?_ ?_ ?_; rfl; rfl; clear tk1)
  refine (encode10 f ao n c _ hf Y0).mono ?_
  rintro e w2 ⟨a1, n1, c1, rfl, Y1, hb1⟩
  replace A0 := A0.on hb1; replace Y0 := Y0.on hb1; replace Z0 := Z0.on hb1; replace W0 := belowOn W0 hb1
  clear hb1 p16
  rw [eb_yes KF.out] at Y1
  go_wp2_with fail
  refine (decode14' a1 n1 c1 (enc f) _ Y1 f 0 (dec_back KF.out)).mono ?_
  rintro e w3 ⟨a2, n2, c2, rfl, Y2, hb1⟩
  replace A0 := A0.on hb1; replace Y0 := Y0.on hb1; replace Z0 := Z0.on hb1; replace W0 := belowOn W0 hb1
  clear hb1 Y1
  have T1 : (w3.alloc (.cells #[.int .u8 0, .int .u8 0, .int .u8 0, .int .u8 0, .int .u8 0, .int .u8 0, .int .u8 0, .int .u8 0, .int .u8 0, .int .u8 0, .int .u8 0, .int .u8 0, .bool false, .int .i64 0, .int .i64 0, .int .i64 0, .slice none 0 0] 26)).there w3.heap.size 0 17 := there_new w3 #[.int .u8 0, .int .u8 0, .int .u8 0, .int .u8 0, .int .u8 0, .int .u8 0, .int .u8 0, .int .u8 0, .int .u8 0, .int .u8 0, .int .u8 0, .int .u8 0, .bool false, .int .i64 0, .int .i64 0, .int .i64 0, .slice none 0 0] 26
  have tk1 : True := trivial
  have tk2 : True := trivial
  have tk3 : True := trivial
  go_wp2_with (first | (have _t := tk1; refine wpl_put f a2 n2 c2 (.tmp 8) (.tmp 40) rfl T1 ?_ ?_ ?_ ?_; rfl; rfl; rfl; clear tk1; intro w4 B1 T2 G1; have hb1 := put_below G1; replace A0 := A0.on hb1; replace Y0 := Y0.on hb1; replace Z0 := Z0.on hb1; replace Y2 := Y2.on hb1; replace W0 := belowOn W0 hb1; clear T1 T2 G1 hb1) | (have _t := tk2; refine wpl_frame (.tmp 2) rfl A0 ?_ ?_ ?_; rfl; rfl; clear tk2) | (have _t := tk3; refine wpl_frame (.tmp 8) rfl B1 ?_ ?_ ?_; rfl; rfl; clear tk3))
  refine (same16 f f ao a2 n c n2 c2 _ Y0 Y2).mono ?_
  rintro e w5 ⟨rfl, hb1⟩
  have hs := sm_self f
  replace Z0 := Z0.on hb1; replace W0 := belowOn W0 hb1
  clear hb1 A0 Y0 Y2 B1
  go_wp2_with fail
  refine (decode14' bo m d ns _ Z0 D 2 HD0.out).mono ?_
  rintro e w6 ⟨a6, n6, c6, rfl, Y6, hb1⟩
  replace Z0 := Z0.on hb1; replace W0 := belowOn W0 hb1
  clear hb1
  have T1 : (w6.alloc (.cells #[.int .u8 0, .int .u8 0, .int .u8 0, .int .u8 0, .int .u8 0, .int .u8 0, .int .u8 0, .int .u8 0, .int .u8 0, .int .u8 0, .int .u8 0, .int .u8 0, .bool false, .int .i64 0, .int .i64 0, .int .i64 0, .slice none 0 0] 26)).there w6.heap.size 0 17 := there_new w6 #[.int .u8 0, .int .u8 0, .int .u8 0, .int .u8 0, .int .u8 0, .int .u8 0, .int .u8 0, .int .u8 0, .int .u8 0, .int .u8 0, .int .u8 0, .int .u8 0, .bool false, .int .i64 0, .int .i64 0, .int .i64 0, .slice none 0 0] 26
  have tk4 : True := trivial
  have hn6 : n6 = 0 := by have := Y6.len; rw [hDz.out] at this; exact this.symm
  subst hn6
  go_wp2_with (have _t := tk4; refine wpl_put D a6 0 c6 (.tmp 11) (.tmp 54) rfl T1 ?_ ?_ ?_ ?_; rfl; rfl; rfl; clear tk4; intro w7 B6 T2 G1; have hb1 := put_below G1; replace W0 := belowOn W0 hb1; have q16 := B6.c16; clear T1 T2 G1 hb1)
  go_ret
  exact ⟨rfl, W0⟩

set_option maxRecDepth 100000 in
set_option maxHeartbeats 4000000 in
theorem back_ny (f : Fd) (ao : Option Addr) (n c : Nat) (bo : Option Addr) (m d : Nat) (ns : List Int) (w : World) (hf : FdB f) (hb : Byt w ao n c f.bs) (hc : Byt w bo m d ns) (hn' : decide ((3000 : Int) < n) = false) (hm' : decide ((3000 : Int) < m) = false) (KF : Hid (rt f = false)) (h1 : ec f = 1) (D : Fd) (HD0 : Hid (dec ns = (D, 0))) (HDR : Hid (rt D = true)) (HDB : Hid (FdB D)) (HDE : Hid (enc D = ns)) (h2 : ec D = 0) :
    Calls Try.prog 6 #[.agg #[.int .u8 f.d0, .int .u8 f.d1, .int .u8 f.d2, .int .u8 f.d3, .int .u8 f.d4, .int .u8 f.d5, .int .u8 f.s0, .int .u8 f.s1, .int .u8 f.s2, .int .u8 f.s3, .int .u8 f.s4, .int .u8 f.s5, .bool f.tg, .int .i64 f.vl, .int .i64 f.pr, .int .i64 f.ty, (.slice ao n c)], .slice bo m d] w fun e w' => e = .returned (.bool true) ∧ Below w.heap.size w w' := by
  have KFF := KF
  clear KF KFF
  have A0 := AtF.new w f (.slice ao n c)
  have Y0 := hb.alloc (.cells #[.int .u8 f.d0, .int .u8 f.d1, .int .u8 f.d2, .int .u8 f.d3, .int .u8 f.d4, .int .u8 f.d5, .int .u8 f.s0, .int .u8 f.s1, .int .u8 f.s2, .int .u8 f.s3, .int .u8 f.s4, .int .u8 f.s5, .bool f.tg, .int .i64 f.vl, .int .i64 f.pr, .int .i64 f.ty, (.slice ao n c)] 26)
  have Z0 := hc.alloc (.cells #[.int .u8 f.d0, .int .u8 f.d1, .int .u8 f.d2, .int .u8 f.d3, .int .u8 f.d4, .int .u8 f.d5, .int .u8 f.s0, .int .u8 f.s1, .int .u8 f.s2, .int .u8 f.s3, .int .u8 f.s4, .int .u8 f.s5, .bool f.tg, .int .i64 f.vl, .int .i64 f.pr, .int .i64 f.ty, (.slice ao n c)] 26)
  have W0 := below_alloc w (.cells #[.int .u8 f.d0, .int .u8 f.d1, .int .u8 f.d2, .int .u8 f.d3, .int .u8 f.d4, .int .u8 f.d5, .int .u8 f.s0, .int .u8 f.s1, .int .u8 f.s2, .int .u8 f.s3, .int .u8 f.s4, .int .u8 f.s5, .bool f.tg, .int .i64 f.vl, .int .i64 f.pr, .int .i64 f.ty, (.slice ao n c)] 26)
  clear hb hc
  go_enter Try.func6, Try.ntmps6
  go_wp2_with fail
  refine (awake9 _).mono ?_
  rintro e w1 ⟨rfl, hb1⟩
  replace A0 := A0.on hb1; replace Y0 := Y0.on hb1; replace Z0 := Z0.on hb1; replace W0 := belowOn W0 hb1
  clear hb1
  have p16 := A0.c16
  have tk1 : True := trivial
  go_wp2_with (have _t := tk1; refine wpl_frame (.tmp 2) rfl A0 ?_ ?_ ?_; rfl; rfl; clear tk1)
  refine (encode10 f ao n c _ hf Y0).mono ?_
  rintro e w2 ⟨a1, n1, c1, rfl, Y1, hb1⟩
  replace A0 := A0.on hb1; replace Y0 := Y0.on hb1; replace Z0 := Z0.on hb1; replace W0 := belowOn W0 hb1
  clear hb1 p16
  clear Y1 A0 Y0
  go_wp2_with fail
  refine (decode14' bo m d ns _ Z0 D 0 HD0.out).mono ?_
  rintro e w6 ⟨a6, n6, c6, rfl, Y6, hb1⟩
  replace Z0 := Z0.on hb1; replace W0 := belowOn W0 hb1
  clear hb1
  have T1 : (w6.alloc (.cells #[.int .u8 0, .int .u8 0, .int .u8 0, .int .u8 0, .int .u8 0, .int .u8 0, .int .u8 0, .int .u8 0, .int .u8 0, .int .u8 0, .int .u8 0, .int .u8 0, .bool false, .int .i64 0, .int .i64 0, .int .i64 0, .slice none 0 0] 26)).there w6.heap.size 0 17 := there_new w6 #[.int .u8 0, .int .u8 0, .int .u8 0, .int .u8 0, .int .u8 0, .int .u8 0, .int .u8 0, .int .u8 0, .int .u8 0, .int .u8 0, .int .u8 0, .int .u8 0, .bool false, .int .i64 0, .int .i64 0, .int .i64 0, .slice none 0 0] 26
  have tk4 : True := trivial
  have tk5 : True := trivial
  go_wp2_with (first | (have _t := tk4; refine wpl_put D a6 n6 c6 (.tmp 11) (.tmp 54) rfl T1 ?_ ?_ ?_ ?_; rfl; rfl; rfl; clear tk4; intro w7 B6 T2 G1; have hb1 := put_below G1; replace Z0 := Z0.on hb1; replace Y6 := Y6.on hb1; replace W0 := belowOn W0 hb1; clear T1 T2 G1 hb1) | (have _t := tk5; refine wpl_frame (.tmp 11) rfl B6 ?_ ?_ ?_; rfl; rfl; clear tk5))
  refine (encode10 D a6 n6 c6 _ HDB.out Y6).mono ?_
  rintro e w8 ⟨a8, n8, c8, rfl, Y8, hb1⟩
  replace B6 := B6.on hb1; replace Z0 := Z0.on hb1; replace Y6 := Y6.on hb1; replace W0 := belowOn W0 hb1
  rw [(eb_yes HDR.out).trans HDE.out] at Y8
  have hc1 := bytStr Y8
  have hc2 := bytStr Z0
  have hq := bs_beq_self ns
  have hd := HDR.out
  have HN6 := hide Y6.len
  have tk6 : True := trivial
  clear hb1 Y8 Z0 Y6
  go_wp2_with (have _t := tk6; refine wpl_frame (.tmp 11) rfl B6 ?_ ?_ ?_; rfl; rfl; clear tk6)
  refine (right12 D a6 n6 c6 _ HN6.out).mono ?_
  rintro e w9 ⟨rfl, hb1⟩
  replace W0 := belowOn W0 hb1
  clear hb1 B6
  go_wp2
  go_ret
  exact ⟨rfl, W0⟩

set_option maxRecDepth 100000 in
set_option maxHeartbeats 4000000 in
theorem back_nn (f : Fd) (ao : Option Addr) (n c : Nat) (bo : Option Addr) (m d : Nat) (ns : List Int) (w : World) (hf : FdB f) (hb : Byt w ao n c f.bs) (hc : Byt w bo m d ns) (hn' : decide ((3000 : Int) < n) = false) (hm' : decide ((3000 : Int) < m) = false) (KF : Hid (rt f = false)) (h1 : ec f = 1) (D : Fd) (HD0 : Hid (dec ns = (D, 2))) (hDz : Hid (D.bs = [])) :
    Calls Try.prog 6 #[.agg #[.int .u8 f.d0, .int .u8 f.d1, .int .u8 f.d2, .int .u8 f.d3, .int .u8 f.d4, .int .u8 f.d5, .int .u8 f.s0, .int .u8 f.s1, .int .u8 f.s2, .int .u8 f.s3, .int .u8 f.s4, .int .u8 f.s5, .bool f.tg, .int .i64 f.vl, .int .i64 f.pr, .int .i64 f.ty, (.slice ao n c)], .slice bo m d] w fun e w' => e = .returned (.bool true) ∧ Below w.heap.size w w' := by
  have KFF := KF
  clear KF KFF
  have A0 := AtF.new w f (.slice ao n c)
  have Y0 := hb.alloc (.cells #[.int .u8 f.d0, .int .u8 f.d1, .int .u8 f.d2, .int .u8 f.d3, .int .u8 f.d4, .int .u8 f.d5, .int .u8 f.s0, .int .u8 f.s1, .int .u8 f.s2, .int .u8 f.s3, .int .u8 f.s4, .int .u8 f.s5, .bool f.tg, .int .i64 f.vl, .int .i64 f.pr, .int .i64 f.ty, (.slice ao n c)] 26)
  have Z0 := hc.alloc (.cells #[.int .u8 f.d0, .int .u8 f.d1, .int .u8 f.d2, .int .u8 f.d3, .int .u8 f.d4, .int .u8 f.d5, .int .u8 f.s0, .int .u8 f.s1, .int .u8 f.s2, .int .u8 f.s3, .int .u8 f.s4, .int .u8 f.s5, .bool f.tg, .int .i64 f.vl, .int .i64 f.pr, .int .i64 f.ty, (.slice ao n c)] 26)
  have W0 := below_alloc w (.cells #[.int .u8 f.d0, .int .u8 f.d1, .int .u8 f.d2, .int .u8 f.d3, .int .u8 f.d4, .int .u8 f.d5, .int .u8 f.s0, .int .u8 f.s1, .int .u8 f.s2, .int .u8 f.s3, .int .u8 f.s4, .int .u8 f.s5, .bool f.tg, .int .i64 f.vl, .int .i64 f.pr, .int .i64 f.ty, (.slice ao n c)] 26)
  clear hb hc
  go_enter Try.func6, Try.ntmps6
  go_wp2_with fail
  refine (awake9 _).mono ?_
  rintro e w1 ⟨rfl, hb1⟩
  replace A0 := A0.on hb1; replace Y0 := Y0.on hb1; replace Z0 := Z0.on hb1; replace W0 := belowOn W0 hb1
  clear hb1
  have p16 := A0.c16
  have tk1 : True := trivial
  go_wp2_with (have _t := tk1; refine wpl_frame (.tmp 2) rfl A0 ?_ ?_ ?_; rfl; rfl; clear tk1)
  refine (encode10 f ao n c _ hf Y0).mono ?_
  rintro e w2 ⟨a1, n1, c1, rfl, Y1, hb1⟩
  replace A0 := A0.on hb1; replace Y0 := Y0.on hb1; replace Z0 := Z0.on hb1; replace W0 := belowOn W0 hb1
  clear hb1 p16
  clear Y1 A0 Y0
  go_wp2_with fail
  refine (decode14' bo m d ns _ Z0 D 2 HD0.out).mono ?_
  rintro e w6 ⟨a6, n6, c6, rfl, Y6, hb1⟩
  replace Z0 := Z0.on hb1; replace W0 := belowOn W0 hb1
  clear hb1
  have T1 : (w6.alloc (.cells #[.int .u8 0, .int .u8 0, .int .u8 0, .int .u8 0, .int .u8 0, .int .u8 0, .int .u8 0, .int .u8 0, .int .u8 0, .int .u8 0, .int .u8 0, .int .u8 0, .bool false, .int .i64 0, .int .i64 0, .int .i64 0, .slice none 0 0] 26)).there w6.heap.size 0 17 := there_new w6 #[.int .u8 0, .int .u8 0, .int .u8 0, .int .u8 0, .int .u8 0, .int .u8 0, .int .u8 0, .int .u8 0, .int .u8 0, .int .u8 0, .int .u8 0, .int .u8 0, .bool false, .int .i64 0, .int .i64 0, .int .i64 0, .slice none 0 0] 26
  have tk4 : True := trivial
  have hn6 : n6 = 0 := by have := Y6.len; rw [hDz.out] at this; exact this.symm
  subst hn6
  go_wp2_with (have _t := tk4; refine wpl_put D a6 0 c6 (.tmp 11) (.tmp 54) rfl T1 ?_ ?_ ?_ ?_; rfl; rfl; rfl; clear tk4; intro w7 B6 T2 G1; have hb1 := put_below G1; replace W0 := belowOn W0 hb1; have q16 := B6.c16; clear T1 T2 G1 hb1)
  go_ret
  exact ⟨rfl, W0⟩

set_option maxRecDepth 100000 in
set_option maxHeartbeats 4000000 in
theorem backWalk (f : Fd) (ao : Option Addr) (n c : Nat) (bo : Option Addr) (m d : Nat) (ns : List Int) (w : World) (hf : FdB f) (hb : Byt w ao n c f.bs) (hc : Byt w bo m d ns) :
    Calls Try.prog 6 #[.agg #[.int .u8 f.d0, .int .u8 f.d1, .int .u8 f.d2, .int .u8 f.d3, .int .u8 f.d4, .int .u8 f.d5, .int .u8 f.s0, .int .u8 f.s1, .int .u8 f.s2, .int .u8 f.s3, .int .u8 f.s4, .int .u8 f.s5, .bool f.tg, .int .i64 f.vl, .int .i64 f.pr, .int .i64 f.ty, (.slice ao n c)], .slice bo m d] w fun e w' => e = .returned (.bool true) ∧ Below w.heap.size w w' := by
  by_cases hn : (3000 : Int) < n
  · have hn' : decide ((3000 : Int) < n) = true := by simp; omega
    have A0 := AtF.new w f (.slice ao n c)
    have Y0 := hb.alloc (.cells #[.int .u8 f.d0, .int .u8 f.d1, .int .u8 f.d2, .int .u8 f.d3, .int .u8 f.d4, .int .u8 f.d5, .int .u8 f.s0, .int .u8 f.s1, .int .u8 f.s2, .int .u8 f.s3, .int .u8 f.s4, .int .u8 f.s5, .bool f.tg, .int .i64 f.vl, .int .i64 f.pr, .int .i64 f.ty, (.slice ao n c)] 26)
    have Z0 := hc.alloc (.cells #[.int .u8 f.d0, .int .u8 f.d1, .int .u8 f.d2, .int .u8 f.d3, .int .u8 f.d4, .int .u8 f.d5, .int .u8 f.s0, .int .u8 f.s1, .int .u8 f.s2, .int .u8 f.s3, .int .u8 f.s4, .int .u8 f.s5, .bool f.tg, .int .i64 f.vl, .int .i64 f.pr, .int .i64 f.ty, (.slice ao n c)] 26)
    have W0 := below_alloc w (.cells #[.int .u8 f.d0, .int .u8 f.d1, .int .u8 f.d2, .int .u8 f.d3, .int .u8 f.d4, .int .u8 f.d5, .int .u8 f.s0, .int .u8 f.s1, .int .u8 f.s2, .int .u8 f.s3, .int .u8 f.s4, .int .u8 f.s5, .bool f.tg, .int .i64 f.vl, .int .i64 f.pr, .int .i64 f.ty, (.slice ao n c)] 26)
    clear hb hc
    go_enter Try.func6, Try.ntmps6
    go_wp2_with fail
    refine (awake9 _).mono ?_
    rintro e w1 ⟨rfl, hb1⟩
    replace A0 := A0.on hb1; replace Y0 := Y0.on hb1; replace Z0 := Z0.on hb1; replace W0 := belowOn W0 hb1
    clear hb1
    have p16 := A0.c16
    go_wp2
    go_ret
    exact ⟨rfl, W0⟩
  have hn' : decide ((3000 : Int) < n) = false := by simp; omega
  by_cases hm : (3000 : Int) < m
  · have hm' : decide ((3000 : Int) < m) = true := by simp; omega
    have A0 := AtF.new w f (.slice ao n c)
    have Y0 := hb.alloc (.cells #[.int .u8 f.d0, .int .u8 f.d1, .int .u8 f.d2, .int .u8 f.d3, .int .u8 f.d4, .int .u8 f.d5, .int .u8 f.s0, .int .u8 f.s1, .int .u8 f.s2, .int .u8 f.s3, .int .u8 f.s4, .int .u8 f.s5, .bool f.tg, .int .i64 f.vl, .int .i64 f.pr, .int .i64 f.ty, (.slice ao n c)] 26)
    have Z0 := hc.alloc (.cells #[.int .u8 f.d0, .int .u8 f.d1, .int .u8 f.d2, .int .u8 f.d3, .int .u8 f.d4, .int .u8 f.d5, .int .u8 f.s0, .int .u8 f.s1, .int .u8 f.s2, .int .u8 f.s3, .int .u8 f.s4, .int .u8 f.s5, .bool f.tg, .int .i64 f.vl, .int .i64 f.pr, .int .i64 f.ty, (.slice ao n c)] 26)
    have W0 := below_alloc w (.cells #[.int .u8 f.d0, .int .u8 f.d1, .int .u8 f.d2, .int .u8 f.d3, .int .u8 f.d4, .int .u8 f.d5, .int .u8 f.s0, .int .u8 f.s1, .int .u8 f.s2, .int .u8 f.s3, .int .u8 f.s4, .int .u8 f.s5, .bool f.tg, .int .i64 f.vl, .int .i64 f.pr, .int .i64 f.ty, (.slice ao n c)] 26)
    clear hb hc
    go_enter Try.func6, Try.ntmps6
    go_wp2_with fail
    refine (awake9 _).mono ?_
    rintro e w1 ⟨rfl, hb1⟩
    replace A0 := A0.on hb1; replace Y0 := Y0.on hb1; replace Z0 := Z0.on hb1; replace W0 := belowOn W0 hb1
    clear hb1
    have p16 := A0.c16
    go_wp2
    go_ret
    exact ⟨rfl, W0⟩
  have hm' : decide ((3000 : Int) < m) = false := by simp; omega
  rcases dec_cases hc.rng with ⟨D, h1, h2, h3, h4⟩ | h1
  · rcases Bool.eq_false_or_eq_true (rt f) with k | k
    · exact back_yy f ao n c bo m d ns w hf hb hc hn' hm' k (ec_yes k) D h1 h2 h3 h4 (ec_yes h2)
    · exact back_ny f ao n c bo m d ns w hf hb hc hn' hm' k (ec_no k) D h1 h2 h3 h4 (ec_yes h2)
  · rcases Bool.eq_false_or_eq_true (rt f) with k | k
    · exact back_yn f ao n c bo m d ns w hf hb hc hn' hm' k (ec_yes k) zero h1 rfl
    · exact back_nn f ao n c bo m d ns w hf hb hc hn' hm' k (ec_no k) zero h1 rfl

set_option maxRecDepth 100000 in
set_option maxHeartbeats 2000000 in
theorem etherBacklifted (os : Os) (started : os.Started) (H : Type) (enc : TypeId × Value → H) :
    ReturnsInHanded {} Try.checked os 6 .any (Rows.etherBackSpec.pre6 enc Try.prog Try.f6 Rows.etherBackRow.domain false) (Rows.etherBackSpec.post enc Try.prog Try.f6 false true false false) := by
  refine returnsInHanded_of_change (C := Try.checked) own started (by kernel_rfl) Try.func6
    (ChangeSpec.witness6 (enc := enc) (C := Try.checked) false ⟨#[], #[.agg #[.int .u8 0, .int .u8 0, .int .u8 0, .int .u8 0, .int .u8 0, .int .u8 0, .int .u8 0, .int .u8 0, .int .u8 0, .int .u8 0, .int .u8 0, .int .u8 0, .bool false, .int .i64 0, .int .i64 0, .int .i64 0, .slice none 0 0], .slice none 0 0], []⟩ 8 (by kernel_rfl) (by kernel_rfl) (by kernel_rfl) (by kernel_rfl)) ?_
  intro W base args ds gs before hval0 hW _ _
  have hval : ∀ (j : Nat) t v, Try.f6.params[j]? = some t → args[j]? = some v → Value.okWide Try.prog W .any base t v := hval0
  have hW' := hW
  obtain ⟨p, q, hA0, hV, rfl, _, _⟩ := hW
  have hA : DataW.TrodAll enc Try.prog W 0 (fun _ => true) true Try.f6.params.toList args.toList ds p := hA0
  rw [Try.params6] at hA hval
  obtain ⟨v0, vs0, d0, ds0, p0, q0, hargs, rfl, rfl, h0, r0⟩ := trodAll_cons hA
  obtain ⟨v1, vs1, d1, ds1, p1, q1, rfl, rfl, rfl, h1, r1⟩ := trodAll_cons r0
  obtain ⟨rfl, rfl, rfl⟩ := trodAll_nil r1
  obtain rfl : args = #[v0, v1] := by cases args; simp_all
  obtain ⟨rfl, rfl⟩ := trodVars_none hV
  have h0k := h0
  obtain ⟨f0, ao0, n0, c0, rfl, hf0, hb0⟩ := open_frame (hval 0 26 v0 rfl rfl) h0
  have h1k := h1
  obtain ⟨ao1, n1, c1, ns1, rfl, hb1⟩ := open_bytes (hval 1 24 v1 rfl rfl) h1
  clear hA0 hval0
  simp only [List.append_nil] at hW'
  have hlt : ∀ x ∈ p0 ++ p1, x.block < W.heap.size := fun x hx => by simpa using hW'.lt x (by simpa using hx)
  refine (backWalk f0 ao0 n0 c0 ao1 n1 c1 ns1 W hf0 hb0 hb1).mono fun e W' ⟨he, hbl⟩ => ?_
  subst he
  exact ⟨_, rfl, _, _, _, [], _, [], hW', (trodAll_cons_mk (shut_bool Try.underlying4 _) trodAll_mk0), (trodAll_cons_mk (Below.trod Try.laidOut (by kernel_rfl) (of_decide_eq_true (by kernel_rfl)) h0k hbl (fun x hx => hlt x (by simp [hx]))) (trodAll_cons_mk (Below.trod Try.laidOut (by kernel_rfl) (of_decide_eq_true (by kernel_rfl)) h1k hbl (fun x hx => hlt x (by simp [hx]))) trodAll_mk0)), rfl, hbl.frame _, fun h => by cases h⟩

theorem etherBack_holds : Rows.EtherBackSaid :=
  OpenClaim.holds_of_wide 6 Try.f6 rfl rfl rfl rfl rfl rfl rfl ⟨rfl, rfl, rfl, rfl, rfl⟩ rfl rfl rfl rfl rfl (by kernel_rfl) Try.func6 (by kernel_rfl)
    (of_decide_eq_true (by kernel_rfl)) (by unfold Func.isWrapper; first | (rw [if_pos (by decide +kernel)]; kernel_rfl) | (rw [if_neg (by decide +kernel)]; exact ⟨rfl, rfl⟩))
    (fun os started H enc _ => etherBacklifted os started H enc)

#print axioms etherBack_holds
end Go.Proofs.Ytkhdaibpggmklaa
