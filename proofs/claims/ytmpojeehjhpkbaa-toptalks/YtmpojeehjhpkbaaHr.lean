/- Contract of Hash of the document's. -/
import Derived.Test.YtmpojeehjhpkbaaRs
import Derived.Deep.LoopGhost
namespace Go.Proofs.Ytmpojeehjhpkbaa
open Go.RowKit Go.PlainAid

def adN (f : Fd) : List Nat := (adL f).map Int.toNat
def vlN (f : Fd) : Nat := (f.vl % 65536).toNat
def hsh (f : Fd) : Nat := stps 2166136261 (adN f ++ [vlN f / 256, vlN f % 256])
theorem stps_snoc (h : Nat) (l : List Nat) (b : Nat) : stps h (l ++ [b]) = stp (stps h l) b := by
  unfold stps
  rw [List.foldl_append, List.foldl_cons, List.foldl_nil]
theorem hsh_eq (f : Fd) : hsh f = stp (stp (stps 2166136261 (adN f)) (vlN f / 256)) (vlN f % 256) := by
  unfold hsh
  rw [show adN f ++ [vlN f / 256, vlN f % 256] = (adN f ++ [vlN f / 256]) ++ [vlN f % 256] by simp, stps_snoc, stps_snoc]
theorem hsh_lt (f : Fd) : hsh f < 4294967296 := by rw [hsh_eq]; exact stp_lt _ _
theorem hsh_same {f g : Fd} (h1 : adL g = adL f) (h2 : g.vl = f.vl) : hsh g = hsh f := by
  unfold hsh adN vlN
  rw [h1, h2]
theorem AtF.ad {w : World} {k : Nat} {f : Fd} {b : Value} (h : AtF w k f b) {q : Nat} {x : Int} (hx : (adL f)[q]? = some x) : w.cell? ⟨k, q, none⟩ = some (.int .u8 x) := by
  have hq : q < 12 := (List.getElem?_eq_some_iff.1 hx).1
  match q, hq, hx with
  | 0, _, hx => rw [h.c0, ← Option.some.inj hx]
  | 1, _, hx => rw [h.c1, ← Option.some.inj hx]
  | 2, _, hx => rw [h.c2, ← Option.some.inj hx]
  | 3, _, hx => rw [h.c3, ← Option.some.inj hx]
  | 4, _, hx => rw [h.c4, ← Option.some.inj hx]
  | 5, _, hx => rw [h.c5, ← Option.some.inj hx]
  | 6, _, hx => rw [h.c6, ← Option.some.inj hx]
  | 7, _, hx => rw [h.c7, ← Option.some.inj hx]
  | 8, _, hx => rw [h.c8, ← Option.some.inj hx]
  | 9, _, hx => rw [h.c9, ← Option.some.inj hx]
  | 10, _, hx => rw [h.c10, ← Option.some.inj hx]
  | 11, _, hx => rw [h.c11, ← Option.some.inj hx]
theorem ad_take {f : Fd} {q : Nat} {x : Int} (h : Nat) (hx : (adL f)[q]? = some x) : stps h ((adN f).take (q + 1)) = stp (stps h ((adN f).take q)) x.toNat := by
  have e : (adN f)[q]? = some x.toNat := by unfold adN; rw [List.getElem?_map, hx]; rfl
  rw [List.take_add_one, e, Option.toList_some, stps_snoc]
set_option maxRecDepth 100000 in
set_option maxHeartbeats 4000000 in
theorem hashR (f : Fd) (b : Value) (w : World) (hf : Rng (adL f)) :
    Calls Try.prog 12 #[.agg #[.int .u8 f.d0, .int .u8 f.d1, .int .u8 f.d2, .int .u8 f.d3, .int .u8 f.d4, .int .u8 f.d5, .int .u8 f.s0, .int .u8 f.s1, .int .u8 f.s2, .int .u8 f.s3, .int .u8 f.s4, .int .u8 f.s5, .bool f.tg, .int .i64 f.vl, .int .i64 f.pr, .int .i64 f.ty, b]] w
      fun e w' => e = .returned (.int .u32 (hsh f)) ∧ Below w.heap.size w w' := by
  have B := hide (below_alloc w (.cells #[.int .u8 f.d0, .int .u8 f.d1, .int .u8 f.d2, .int .u8 f.d3, .int .u8 f.d4, .int .u8 f.d5, .int .u8 f.s0, .int .u8 f.s1, .int .u8 f.s2, .int .u8 f.s3, .int .u8 f.s4, .int .u8 f.s5, .bool f.tg, .int .i64 f.vl, .int .i64 f.pr, .int .i64 f.ty, b] 26))
  have A := hide (AtF.new w f b)
  have HF := hide hf
  clear hf
  go_enter Try.func12, Try.ntmps12
  go_wp2
  generalize w.alloc (.cells #[.int .u8 f.d0, .int .u8 f.d1, .int .u8 f.d2, .int .u8 f.d3, .int .u8 f.d4, .int .u8 f.d5, .int .u8 f.s0, .int .u8 f.s1, .int .u8 f.s2, .int .u8 f.s3, .int .u8 f.s4, .int .u8 f.s5, .bool f.tg, .int .i64 f.vl, .int .i64 f.pr, .int .i64 f.ty, b] 26) = w1 at *
  obtain ⟨k, hk⟩ : ∃ k, k = w.heap.size := ⟨_, rfl⟩
  rw [← hk] at A ⊢
  have HK := hide hk
  clear hk
  go_loopg [3, 4] 6 (fun r v i wr => ∃ q : Nat, q ≤ 6 ∧ r = 6 - q ∧ i = .int .i64 q ∧ v = .int .u64 (stps 2166136261 ((adN f).take (q))) ∧ wr = w1)
  case atStart => exact ⟨0, by omega, rfl, rfl, rfl, rfl⟩
  case round =>
    obtain ⟨q, hq, hr, rfl, rfl, rfl⟩ := hrel
    have HR := hide hr
    clear hr
    by_cases hc : q < 6
    · obtain ⟨x, hx⟩ : ∃ x, (adL f)[q]? = some x := ⟨_, List.getElem?_eq_getElem (by show q < 12; omega)⟩
      have hx2 := HF.out x (List.mem_of_getElem? hx)
      obtain ⟨y, hy⟩ := Int.eq_ofNat_of_zero_le hx2.1
      have cq := A.out.ad hx
      have HT := hide (ad_take 2166136261 hx)
      have HX := hide (stps_lt ((adN f).take (q)) (x := 2166136261) (by omega))
      have HY : Hid (y < 256) := hide (by omega)
      rw [hy] at cq HT
      rw [show ((y : Int)).toNat = y from Int.toNat_natCast y] at HT
      have hq2 : (q : Int) < 6 := by omega
      have n0 : (0 : Int) ≤ (q : Int) := by omega
      have e2 : IntKind.i64.wrap ((q : Int) + 1) = (q : Int) + 1 := IntWalk.i64_in _ (by omega)
      obtain ⟨u, hu⟩ : ∃ u, u = stps 2166136261 ((adN f).take (q)) := ⟨_, rfl⟩
      rw [← hu] at HT HX
      rw [← hu]
      clear hx hx2 hy hu
      go_wp2_with fail
      refine (stepR u y _ HX.out HY.out).mono ?_
      rintro e w' ⟨rfl, rfl⟩
      go_wp2
      go_roundg (6 - (q + 1))
      case measure => rw [HR.out]; omega
      case rel => exact ⟨q + 1, by omega, rfl, by go_num, by rw [HT.out], rfl⟩
    · obtain rfl : q = 6 := by omega
      have hq2 : ¬ ((6 : Nat) : Int) < 6 := by omega
      clear hc
      obtain ⟨w0, hw0⟩ : ∃ w0, w0 = wr := ⟨_, rfl⟩
      rw [← hw0] at A B ⊢
      clear hw0
      go_wp2
      go_loopg [3, 5] 6 (fun r v i wr => ∃ q : Nat, q ≤ 6 ∧ r = 6 - q ∧ i = .int .i64 q ∧ v = .int .u64 (stps 2166136261 ((adN f).take (6 + q))) ∧ wr = w0)
      case atStart => exact ⟨0, by omega, rfl, rfl, rfl, rfl⟩
      case round =>
        clear HR
        obtain ⟨q, hq, hr, rfl, rfl, rfl⟩ := hrel
        have HR := hide hr
        clear hr
        by_cases hc : q < 6
        · obtain ⟨x, hx⟩ : ∃ x, (adL f)[6 + q]? = some x := ⟨_, List.getElem?_eq_getElem (by show 6 + q < 12; omega)⟩
          have hx2 := HF.out x (List.mem_of_getElem? hx)
          obtain ⟨y, hy⟩ := Int.eq_ofNat_of_zero_le hx2.1
          have cq := A.out.ad hx
          have HT := hide (ad_take 2166136261 hx)
          have HX := hide (stps_lt ((adN f).take (6 + q)) (x := 2166136261) (by omega))
          have HY : Hid (y < 256) := hide (by omega)
          rw [hy] at cq HT
          rw [show ((y : Int)).toNat = y from Int.toNat_natCast y] at HT
          have hq2 : (q : Int) < 6 := by omega
          have n0 : (0 : Int) ≤ (q : Int) := by omega
          have e2 : IntKind.i64.wrap ((q : Int) + 1) = (q : Int) + 1 := IntWalk.i64_in _ (by omega)
          obtain ⟨u, hu⟩ : ∃ u, u = stps 2166136261 ((adN f).take (6 + q)) := ⟨_, rfl⟩
          rw [← hu] at HT HX
          rw [← hu]
          clear hx hx2 hy hu
          go_wp2_with fail
          refine (stepR u y _ HX.out HY.out).mono ?_
          rintro e w' ⟨rfl, rfl⟩
          go_wp2
          go_roundg (6 - (q + 1))
          case measure => rw [HR.out]; omega
          case rel => exact ⟨q + 1, by omega, rfl, by go_num, by rw [← Nat.add_assoc, HT.out], rfl⟩
        · obtain rfl : q = 6 := by omega
          have hq2 : ¬ ((6 : Nat) : Int) < 6 := by omega
          have eT : (adN f).take (6 + 6) = adN f := rfl
          have HL := hide (stps_lt (adN f) (x := 2166136261) (by omega))
          have HE := hide (hsh_eq f)
          have HSL := hide (hsh_lt f)
          have c13 := A.out.c13
          rw [eT]
          obtain ⟨u, hu⟩ : ∃ u, u = stps 2166136261 (adN f) := ⟨_, rfl⟩
          rw [← hu] at HL HE
          rw [← hu]
          obtain ⟨v, hv⟩ : ∃ v, v = vlN f := ⟨_, rfl⟩
          rw [← hv] at HE
          have hv2 : (v : Int) = f.vl % 65536 := by rw [hv]; unfold vlN; omega
          have hv3 : v < 65536 := by omega
          have e1 : IntKind.u64.wrap f.vl % 65536 = (v : Int) := by rw [IntKind.wrap_u64, hv2]; omega
          have e1t : (IntKind.u64.wrap f.vl).tmod 65536 = (v : Int) := by rw [Int.tmod_eq_emod_of_nonneg (by rw [IntKind.wrap_u64]; omega), e1]
          have e2 : IntKind.u64.wrap (v : Int) = (v : Int) := by rw [IntKind.wrap_u64]; omega
          have HV1 : Hid (v / 256 < 256) := hide (by omega)
          have HV2 : Hid (v % 256 < 256) := hide (by omega)
          obtain ⟨a, ha⟩ : ∃ a, a = v / 256 := ⟨_, rfl⟩
          obtain ⟨d, hd⟩ : ∃ d, d = v % 256 := ⟨_, rfl⟩
          have e3 : (v : Int) / 256 = (a : Int) := by omega
          have e3t : (v : Int).tdiv 256 = (a : Int) := by rw [Int.tdiv_eq_ediv_of_nonneg (by omega)]; omega
          have e4 : (v : Int) % 256 = (d : Int) := by omega
          have e4t : (v : Int).tmod 256 = (d : Int) := by rw [Int.tmod_eq_emod_of_nonneg (by omega)]; omega
          have e5 : IntKind.u64.wrap (a : Int) = (a : Int) := by rw [IntKind.wrap_u64]; omega
          have e6 : IntKind.u64.wrap (d : Int) = (d : Int) := by rw [IntKind.wrap_u64]; omega
          have e7 : IntKind.u8.wrap (a : Int) = (a : Int) := by rw [IntKind.wrap_u8]; omega
          have e8 : IntKind.u8.wrap (d : Int) = (d : Int) := by rw [IntKind.wrap_u8]; omega
          rw [← ha] at HV1
          rw [← hd] at HV2
          rw [← ha, ← hd] at HE
          clear hu hv hv2 hv3 ha hd eT hc hq
          go_wp2_with fail
          refine (stepR u a _ HL.out HV1.out).mono ?_
          rintro e w' ⟨rfl, rfl⟩
          go_wp2_with fail
          refine (stepR _ d _ (stp_lt _ _) HV2.out).mono ?_
          rintro e w' ⟨rfl, rfl⟩
          rw [← HE.out]
          obtain ⟨g, hg⟩ : ∃ g, g = hsh f := ⟨_, rfl⟩
          have HG := hide hg
          have hgl := HSL.out
          rw [← hg] at hgl
          rw [← hg]
          have e9 : IntKind.u32.wrap (g : Int) = (g : Int) := by rw [wrap_u32]; omega
          clear hg hgl
          go_wp2
          go_ret
          exact ⟨by rw [← HG.out]; first | rfl | simp, B.out⟩
end Go.Proofs.Ytmpojeehjhpkbaa
