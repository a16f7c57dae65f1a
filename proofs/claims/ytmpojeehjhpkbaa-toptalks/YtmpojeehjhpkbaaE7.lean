/- Contract of Encode, as the program has it. -/
import Derived.Test.YtmpojeehjhpkbaaE5
namespace Go.Proofs.Ytmpojeehjhpkbaa
open Go.RowKit

set_option maxRecDepth 100000 in
set_option maxHeartbeats 4000000 in
theorem encode10_tag (f : Fd) (ao : Option Addr) (n c : Nat) (w : World) (hf : FdB f) (hr : rt f = true) (hb : Byt w ao n c f.bs) (ht : f.tg = true) :
    Calls Try.prog 17 #[.agg #[.int .u8 f.d0, .int .u8 f.d1, .int .u8 f.d2, .int .u8 f.d3, .int .u8 f.d4, .int .u8 f.d5, .int .u8 f.s0, .int .u8 f.s1, .int .u8 f.s2, .int .u8 f.s3, .int .u8 f.s4, .int .u8 f.s5, .bool f.tg, .int .i64 f.vl, .int .i64 f.pr, .int .i64 f.ty, (.slice ao n c)]] w fun e w' => ∃ g cap, e = .returned (.tuple #[.slice (some ⟨g, 0, none⟩) (enc f).length cap, .int .i64 0]) ∧ Byt w' (some ⟨g, 0, none⟩) (enc f).length cap (enc f) ∧ Below w.heap.size w w' := by
  obtain ⟨k1, k2, k3, k4, k5⟩ := rt_and hr
  rw [hb.len] at k4
  have HE := hide (enc_length f)
  have HR := hide (enc_rng hf hr)
  have HN := hide hb.len
  have HT := hide ht
  obtain ⟨v0, v1, u0, u1⟩ := tok_yes ht k5
  clear k3 k5 hf ht
  obtain ⟨i0, hi, hz0, hz1, hz2⟩ := info_parts Try.info5
  have A0 := AtF.new w f (.slice ao n c)
  have Y0 := hb.alloc (.cells #[.int .u8 f.d0, .int .u8 f.d1, .int .u8 f.d2, .int .u8 f.d3, .int .u8 f.d4, .int .u8 f.d5, .int .u8 f.s0, .int .u8 f.s1, .int .u8 f.s2, .int .u8 f.s3, .int .u8 f.s4, .int .u8 f.s5, .bool f.tg, .int .i64 f.vl, .int .i64 f.pr, .int .i64 f.ty, (.slice ao n c)] 26)
  have W0 := below_alloc w (.cells #[.int .u8 f.d0, .int .u8 f.d1, .int .u8 f.d2, .int .u8 f.d3, .int .u8 f.d4, .int .u8 f.d5, .int .u8 f.s0, .int .u8 f.s1, .int .u8 f.s2, .int .u8 f.s3, .int .u8 f.s4, .int .u8 f.s5, .bool f.tg, .int .i64 f.vl, .int .i64 f.pr, .int .i64 f.ty, (.slice ao n c)] 26)
  clear hb
  go_enter Try.func17, Try.ntmps17
  go_wp2_with (refine wpl_frame (.tmp 1) rfl A0 ?_ ?_ ?_; rfl; rfl)
  refine (right12 f ao n c _ HN.out).mono ?_
  rintro e w1 ⟨rfl, hb1⟩
  replace A0 := A0.on hb1; replace Y0 := Y0.on hb1; replace W0 := belowOn W0 hb1
  clear hb1
  obtain ⟨lt, p0, p1, p2, p3, p4, p5, p6, p7, p8, p9, p10, p11, p12, p13, p14, p15, p16⟩ := id A0
  go_wp2_with (at_make; refine wpList_make_own _ rfl _ (.tmp 11) 24 rfl w1.heap.size 5 i0 (.int .u8 0) 1 Try.underlying24 hi hz0 hz1 .i64 .i64 _ (18 + n) rfl rfl (by omega) (by rw [hz2]; omega) (by unfold maxLen; omega) (Nat.le_refl _) ?_)
  intro w2 hown hgrow
  have B2 : Below w1.heap.size w1 w2 := (Below.refl _ _).grown hgrow (Nat.le_refl _) (fun k hk => by cases hk)
  have hg : w1.heap.size < w2.heap.size := (hown.lt _ rfl).2
  have LY := hide Y0.lt
  replace A0 := A0.below lt B2; replace Y0 := Y0.below LY.out B2; replace W0 := belowOn W0 B2
  have LW : w.heap.size ≤ w1.heap.size := Nat.le_of_lt lt
  replace hown := hide hown
  clear hgrow B2 hr p0 p1 p2 p3 p4 p5 p6 p7 p8 p9 p10 p11 p12 p13 p14 p15 p16
  obtain ⟨G, hG⟩ : ∃ G, G = w1.heap.size := ⟨_, rfl⟩
  rw [← hG] at lt hg LY LW hown ⊢
  clear hG
  obtain ⟨-, p0, p1, p2, p3, p4, p5, p6, p7, p8, p9, p10, p11, p12, p13, p14, p15, p16⟩ := id A0
  go_wp2_with (at_builtin; refine wpList_append_fits _ rfl (.tmp 13) (.tmp 15) 24 rfl G 5 i0 1 Try.underlying24 hi hz1 G 0 (18 + n) [] rfl hown.out ⟨w.heap.size, 0, none⟩ 6 6 [.int .u8 f.d0, .int .u8 f.d1, .int .u8 f.d2, .int .u8 f.d3, .int .u8 f.d4, .int .u8 f.d5] rfl rfl (ow6 A0.dst) one6 (by omega) ?_)
  intro w3 hown2 hgrow
  have B2 : Below G w2 w3 := (Below.refl _ _).grown hgrow (Nat.le_of_lt hg) (fun k hk => by have := Option.some.inj hk; omega)
  have hg' : G < w3.heap.size := Nat.lt_of_lt_of_le hg B2.size
  replace A0 := A0.below lt B2; replace Y0 := Y0.below LY.out B2; replace W0 := W0.trans (B2.mono LW)
  have HO := hide hown2
  clear hgrow B2 hown2 hown hg p0 p1 p2 p3 p4 p5 p6 p7 p8 p9 p10 p11 p12 p13 p14 p15 p16
  have hg := hg'
  have hown := HO
  clear HO hg'
  obtain ⟨-, p0, p1, p2, p3, p4, p5, p6, p7, p8, p9, p10, p11, p12, p13, p14, p15, p16⟩ := id A0
  go_wp2_with (at_builtin; refine wpList_append_fits _ rfl (.tmp 17) (.tmp 19) 24 rfl G 5 i0 1 Try.underlying24 hi hz1 G 6 (18 + n) [.int .u8 f.d0, .int .u8 f.d1, .int .u8 f.d2, .int .u8 f.d3, .int .u8 f.d4, .int .u8 f.d5] rfl hown.out ⟨w.heap.size, 6, none⟩ 6 6 [.int .u8 f.s0, .int .u8 f.s1, .int .u8 f.s2, .int .u8 f.s3, .int .u8 f.s4, .int .u8 f.s5] rfl rfl (ow6 A0.src) one6 (by omega) ?_)
  intro w4 hown2 hgrow
  have B2 : Below G w3 w4 := (Below.refl _ _).grown hgrow (Nat.le_of_lt hg) (fun k hk => by have := Option.some.inj hk; omega)
  have hg' : G < w4.heap.size := Nat.lt_of_lt_of_le hg B2.size
  replace A0 := A0.below lt B2; replace Y0 := Y0.below LY.out B2; replace W0 := W0.trans (B2.mono LW)
  have HO := hide hown2
  clear hgrow B2 hown2 hown hg p0 p1 p2 p3 p4 p5 p6 p7 p8 p9 p10 p11 p12 p13 p14 p15 p16
  have hg := hg'
  have hown := HO
  clear HO hg'
  obtain ⟨-, p0, p1, p2, p3, p4, p5, p6, p7, p8, p9, p10, p11, p12, p13, p14, p15, p16⟩ := id A0
  rw [HT.out] at p12
  go_wp2_with fail
  refine (pair21 G 12 (18 + n) _ (33024) _ (by omega) (by omega) hown.out (by omega) hg).mono ?_
  rintro e w5 ⟨rfl, hown2, B2⟩
  have hg' : G < w5.heap.size := Nat.lt_of_lt_of_le hg B2.size
  replace A0 := A0.below lt B2; replace Y0 := Y0.below LY.out B2; replace W0 := W0.trans (B2.mono LW)
  have HO := hide hown2
  clear B2 hown2 hown hg p0 p1 p2 p3 p4 p5 p6 p7 p8 p9 p10 p11 p12 p13 p14 p15 p16
  have hg := hg'
  have hown := HO
  clear HO hg'
  obtain ⟨-, p0, p1, p2, p3, p4, p5, p6, p7, p8, p9, p10, p11, p12, p13, p14, p15, p16⟩ := id A0
  rw [HT.out] at p12
  go_wp2_with fail
  refine (pair21 G 14 (18 + n) _ (8192 * f.pr + f.vl) _ (by omega) (by omega) hown.out (by omega) hg).mono ?_
  rintro e w6 ⟨rfl, hown2, B2⟩
  have hg' : G < w6.heap.size := Nat.lt_of_lt_of_le hg B2.size
  replace A0 := A0.below lt B2; replace Y0 := Y0.below LY.out B2; replace W0 := W0.trans (B2.mono LW)
  have HO := hide hown2
  clear B2 hown2 hown hg p0 p1 p2 p3 p4 p5 p6 p7 p8 p9 p10 p11 p12 p13 p14 p15 p16
  have hg := hg'
  have hown := HO
  clear HO hg'
  obtain ⟨-, p0, p1, p2, p3, p4, p5, p6, p7, p8, p9, p10, p11, p12, p13, p14, p15, p16⟩ := id A0
  rw [HT.out] at p12
  go_wp2_with fail
  refine (pair21 G 16 (18 + n) _ (f.ty) _ (by omega) (by omega) hown.out (by omega) hg).mono ?_
  rintro e w7 ⟨rfl, hown2, B2⟩
  have hg' : G < w7.heap.size := Nat.lt_of_lt_of_le hg B2.size
  replace A0 := A0.below lt B2; replace Y0 := Y0.below LY.out B2; replace W0 := W0.trans (B2.mono LW)
  have HO := hide hown2
  clear B2 hown2 hown hg p0 p1 p2 p3 p4 p5 p6 p7 p8 p9 p10 p11 p12 p13 p14 p15 p16
  have hg := hg'
  have hown := HO
  clear HO hg'
  obtain ⟨-, p0, p1, p2, p3, p4, p5, p6, p7, p8, p9, p10, p11, p12, p13, p14, p15, p16⟩ := id A0
  have hlen := HN.out
  go_wp2_with (at_builtin; refine wpList_append_fits_any _ rfl (.tmp 37) (.tmp 39) 24 rfl G 5 i0 1 Try.underlying24 hi hz1 G 18 (18 + n) _ rfl hown.out ao n c (f.bs.map (Value.int .u8)) rfl (by simp [hlen]) Y0.nil Y0.srcAny (one_u8 f.bs) (by omega) ?_)
  intro w9 hown2 hgrow
  have B2 : Below G w7 w9 := (Below.refl _ _).grown hgrow (Nat.le_of_lt hg) (fun k hk => by have := Option.some.inj hk; omega)
  replace W0 := W0.trans (B2.mono LW)
  have HO := hide hown2
  clear hgrow B2 hown2 hown hg hlen A0 Y0 p0 p1 p2 p3 p4 p5 p6 p7 p8 p9 p10 p11 p12 p13 p14 p15 p16
  go_wp2
  go_ret2
  have hown2 := HO.out
  have hl : 18 + n = (enc f).length := by have e := HE.out; have e2 := HN.out; rw [HT.out] at e; simp at e; omega
  have hx : w9.ownsRow G 5 1 (.slice (some ⟨G, 0, none⟩) (enc f).length (18 + n)) (enc f).length ((enc f).map (Value.int .u8)) := by
    rw [← hl]
    simpa [enc, adL, tagL, HT.out] using hown2
  refine ⟨G, 18 + n, by rw [← hl]; rfl, own_some hx HR.out, W0⟩
end Go.Proofs.Ytmpojeehjhpkbaa
