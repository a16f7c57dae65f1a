/- Contracts of the program's Hash, of cmp.Compare, of cmp.Or, and of what Choose compares by. -/
import Derived.Test.YtmpojeehjhpkbaaQb
namespace Go.Proofs.Ytmpojeehjhpkbaa
open Go.RowKit Go.PlainAid

theorem natOf {x : Int} (h : 0 ≤ x ∧ x ≤ 255) : ((x.toNat : Nat) : Int) = x ∧ x.toNat < 256 := by omega
theorem bts_dst {w : World} {k : Nat} {f : Fd} {b : Value} (h : AtF w k f b) (hf : Rng (adL f)) : Bts w k 0 ((adN f).take 6) := by
  intro j y hj
  have hj6 : j < 6 := by
    have := (List.getElem?_eq_some_iff.1 hj).1
    rw [List.length_take] at this
    omega
  rw [List.getElem?_take, if_pos hj6] at hj
  unfold adN at hj
  rw [List.getElem?_map, Option.map_eq_some_iff] at hj
  obtain ⟨x, hx, rfl⟩ := hj
  rw [Nat.zero_add, h.ad hx, (natOf (hf x (List.mem_of_getElem? hx))).1]
theorem bts_src {w : World} {k : Nat} {f : Fd} {b : Value} (h : AtF w k f b) (hf : Rng (adL f)) : Bts w k 6 ((adN f).drop 6) := by
  intro j y hj
  rw [List.getElem?_drop] at hj
  unfold adN at hj
  rw [List.getElem?_map, Option.map_eq_some_iff] at hj
  obtain ⟨x, hx, rfl⟩ := hj
  rw [h.ad hx, (natOf (hf x (List.mem_of_getElem? hx))).1]
theorem adN_lt {f : Fd} (hf : Rng (adL f)) : ∀ y ∈ adN f, y < 256 := by
  intro y hy
  unfold adN at hy
  obtain ⟨x, hx, rfl⟩ := List.mem_map.1 hy
  exact (natOf (hf x hx)).2
theorem adN_len (f : Fd) : (adN f).length = 12 := by unfold adN; rw [List.length_map]; rfl
theorem stps_two (h : Nat) (a b : List Nat) : stps (stps h a) b = stps h (a ++ b) := by
  unfold stps
  rw [List.foldl_append]
theorem wrap8_lo (v : Int) : IntKind.u8.wrap v = (((v % 65536).toNat % 256 : Nat) : Int) := by rw [IntKind.wrap_u8]; omega
theorem wrap8_hi (v : Int) : IntKind.u8.wrap (v / 256) = (((v % 65536).toNat / 256 : Nat) : Int) := by rw [IntKind.wrap_u8]; omega
set_option maxRecDepth 100000 in
set_option maxHeartbeats 4000000 in
theorem hashQ (f : Fd) (b : Value) (w : World) (hf : Rng (adL f)) :
    Calls Try.prog 11 #[.agg #[.int .u8 f.d0, .int .u8 f.d1, .int .u8 f.d2, .int .u8 f.d3, .int .u8 f.d4, .int .u8 f.d5, .int .u8 f.s0, .int .u8 f.s1, .int .u8 f.s2, .int .u8 f.s3, .int .u8 f.s4, .int .u8 f.s5, .bool f.tg, .int .i64 f.vl, .int .i64 f.pr, .int .i64 f.ty, b]] w
      fun e w' => e = .returned (.int .u32 (hsh f)) ∧ Below w.heap.size w w' := by
  have B := hide (below_alloc w (.cells #[.int .u8 f.d0, .int .u8 f.d1, .int .u8 f.d2, .int .u8 f.d3, .int .u8 f.d4, .int .u8 f.d5, .int .u8 f.s0, .int .u8 f.s1, .int .u8 f.s2, .int .u8 f.s3, .int .u8 f.s4, .int .u8 f.s5, .bool f.tg, .int .i64 f.vl, .int .i64 f.pr, .int .i64 f.ty, b] 26))
  have A := hide (AtF.new w f b)
  have HF := hide hf
  have HE : Hid (hsh f = stps (stps (stps 2166136261 ((adN f).take 6)) ((adN f).drop 6)) [vlN f / 256, vlN f % 256]) := hide (by unfold hsh; rw [stps_two, stps_two, ← List.append_assoc, List.take_append_drop])
  have H1 := hide (stps_lt ((adN f).take 6) (x := 2166136261) (by omega))
  have H2 := hide (stps_lt ((adN f).drop 6) H1.out)
  have HV : Hid (vlN f / 256 < 256 ∧ vlN f % 256 < 256) := hide (by unfold vlN; omega)
  have e1 : IntKind.u8.wrap f.vl = ((vlN f % 256 : Nat) : Int) := wrap8_lo f.vl
  have e2 : IntKind.u8.wrap (f.vl / 256) = ((vlN f / 256 : Nat) : Int) := wrap8_hi f.vl
  have L6 := hide (show ((adN f).take 6).length = 6 by rw [List.length_take, adN_len]; rfl)
  have D6 := hide (show ((adN f).drop 6).length = 6 by rw [List.length_drop, adN_len])
  have c13 := A.out.c13
  clear hf
  go_enter Try.func11, Try.ntmps11
  go_wp2_with fail
  generalize w.alloc (.cells #[.int .u8 f.d0, .int .u8 f.d1, .int .u8 f.d2, .int .u8 f.d3, .int .u8 f.d4, .int .u8 f.d5, .int .u8 f.s0, .int .u8 f.s1, .int .u8 f.s2, .int .u8 f.s3, .int .u8 f.s4, .int .u8 f.s5, .bool f.tg, .int .i64 f.vl, .int .i64 f.pr, .int .i64 f.ty, b] 26) = w1 at *
  obtain ⟨k, hk⟩ : ∃ k, k = w.heap.size := ⟨_, rfl⟩
  rw [← hk] at A c13 ⊢
  have HK := hide hk
  clear hk
  refine (stepQ 2166136261 _ _ 6 _ ((adN f).take 6) _ (by omega) L6.out (by omega) (fun y hy => adN_lt HF.out y (List.mem_of_mem_take hy)) (bts_dst A.out HF.out)).mono ?_
  rintro e w' ⟨rfl, rfl⟩
  obtain ⟨x, hx⟩ : ∃ x, x = stps 2166136261 ((adN f).take 6) := ⟨_, rfl⟩
  rw [← hx] at H1 H2 HE
  rw [← hx]
  clear hx
  go_wp2_with fail
  refine (stepQ x _ _ 6 _ ((adN f).drop 6) _ H1.out D6.out (by omega) (fun y hy => adN_lt HF.out y (List.mem_of_mem_drop hy)) (bts_src A.out HF.out)).mono ?_
  rintro e w' ⟨rfl, rfl⟩
  obtain ⟨z, hz⟩ : ∃ z, z = stps x ((adN f).drop 6) := ⟨_, rfl⟩
  rw [← hz] at H2 HE
  rw [← hz]
  clear hz
  obtain ⟨p, hp⟩ : ∃ p, p = vlN f / 256 := ⟨_, rfl⟩
  obtain ⟨q, hq⟩ : ∃ q, q = vlN f % 256 := ⟨_, rfl⟩
  rw [← hp, ← hq] at HE HV
  rw [← hq] at e1
  rw [← hp] at e2
  clear hp hq
  have HBt := hide (bts_two w' p q)
  have HB2 := hide (B.out.alloc B.out.size (.cells #[.int .u8 (p : Int), .int .u8 (q : Int)] 5))
  go_wp2_with fail
  generalize (w'.alloc (.cells #[.int .u8 (p : Int), .int .u8 (q : Int)] 5)) = w2 at *
  refine (stepQ z _ _ 2 _ [p, q] _ H2.out rfl (by omega) (fun y hy => by
    rcases List.mem_cons.1 hy with rfl | hy
    · exact HV.out.1
    · obtain rfl : y = q := (by simpa using hy)
      exact HV.out.2) HBt.out).mono ?_
  rintro e w' ⟨rfl, rfl⟩
  rw [← HE.out]
  obtain ⟨g, hg⟩ : ∃ g, g = hsh f := ⟨_, rfl⟩
  rw [← hg]
  have HG := hide hg
  clear hg
  go_wp2
  go_ret
  exact ⟨by rw [← HG.out]; rfl, HB2.out⟩
end Go.Proofs.Ytmpojeehjhpkbaa
