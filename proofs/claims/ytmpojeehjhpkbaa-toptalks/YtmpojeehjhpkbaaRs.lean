/- Contracts of step and Weigh of the document's. -/
import Derived.Test.YtmpojeehjhpkbaaPk
import Derived.Laws.Bits64
import Derived.Deep.LoopGhost
namespace Go.Proofs.Ytmpojeehjhpkbaa
open Go.RowKit Go.PlainAid

set_option maxRecDepth 100000 in
set_option maxHeartbeats 1000000 in
theorem stepR (x b : Nat) (w : World) (hx : x < 4294967296) (hb : b < 256) :
    Calls Try.prog 20 #[.int .u64 x, .int .u8 b] w fun e w' => e = .returned (.int .u64 (stp x b)) ∧ w' = w := by
  have e0 : IntKind.u64.wrap (b : Int) = (b : Int) := by rw [IntKind.wrap_u64]; omega
  have e1 : bits .xor .u64 (x : Int) (b : Int) = ((x ^^^ b : Nat) : Int) := bits_xor_u64_nat x b (by omega) (by omega)
  have hlt : x ^^^ b < 4294967296 := Nat.xor_lt_two_pow (n := 32) hx (by omega)
  obtain ⟨y, hy⟩ : ∃ y, y = x ^^^ b := ⟨_, rfl⟩
  have hs : stp x b = (y * 16777619) % 4294967296 := by rw [hy]; rfl
  rw [← hy] at e1 hlt
  have e2 : IntKind.u64.wrap ((y : Int) * 16777619) = (y : Int) * 16777619 := by rw [IntKind.wrap_u64]; omega
  have e3 : ((y : Int) * 16777619).tmod 4294967296 = ((stp x b : Nat) : Int) := by
    rw [Int.tmod_eq_emod_of_nonneg (by omega), hs]; omega
  have e3' : ((y : Int) * 16777619) % 4294967296 = ((stp x b : Nat) : Int) := by rw [hs]; omega
  have e4 : IntKind.u64.wrap ((stp x b : Nat) : Int) = ((stp x b : Nat) : Int) := by
    have := stp_lt x b
    rw [IntKind.wrap_u64]; omega
  obtain ⟨s, hs2⟩ : ∃ s, s = stp x b := ⟨_, rfl⟩
  rw [← hs2] at e3 e3' e4 ⊢
  clear hy hs hs2 hlt
  go_enter Try.func20, Try.ntmps20
  go_wp2
  go_ret
  exact ⟨by first | rfl | (simp [e0, e1, e2, e3, e4]), by first | rfl | trivial⟩
theorem wrap8_mod (m : Nat) : IntKind.u8.wrap ((m % 256 : Nat) : Int) = ((m % 256 : Nat) : Int) := by rw [IntKind.wrap_u8]; omega
def dvs (m q : Nat) : Nat := m / 256 ^ q
theorem bys_eq (m : Nat) : bys m = [dvs m 0 % 256, dvs m 1 % 256, dvs m 2 % 256, dvs m 3 % 256] := by
  unfold bys dvs
  rw [Nat.pow_zero, Nat.div_one, Nat.pow_one, show (256 : Nat) ^ 2 = 65536 from by decide, show (256 : Nat) ^ 3 = 16777216 from by decide]
theorem wrap_u32 (n : Int) : IntKind.u32.wrap n = n % 4294967296 := by simp [IntKind.wrap, IntKind.bits, IntKind.signed]
theorem dvs_zero (m : Nat) : dvs m 0 = m := by unfold dvs; rw [Nat.pow_zero, Nat.div_one]
theorem dvs_le (m q : Nat) : dvs m q ≤ m := Nat.div_le_self _ _
theorem dvs_next (m q : Nat) : dvs m q / 256 = dvs m (q + 1) := by
  unfold dvs
  rw [Nat.div_div_eq_div_mul, Nat.pow_succ]
theorem stps_take {h m q : Nat} (hq : q < 4) : stps h ((bys m).take (q + 1)) = stp (stps h ((bys m).take q)) (dvs m q % 256) := by
  have e : (bys m)[q]? = some (dvs m q % 256) := by
    rw [bys_eq]
    match q, hq with
    | 0, _ | 1, _ | 2, _ | 3, _ => rfl
  rw [List.take_add_one, e]
  unfold stps
  rw [List.foldl_append, Option.toList_some, List.foldl_cons, List.foldl_nil]
theorem mix_lt (x : Nat) : mix x < 4294967296 := by
  unfold mix
  exact Nat.mod_lt _ (by omega)
theorem fin_lt {x : Nat} (h : x < 4294967296) : fin x < 4294967296 := by
  unfold fin
  exact Nat.xor_lt_two_pow (n := 32) h (by omega)
theorem wgh_lt (h : Nat) (m : Int) : wgh h m < 4294967296 := by
  unfold wgh
  exact fin_lt (mix_lt _)
set_option maxRecDepth 100000 in
set_option maxHeartbeats 2000000 in
theorem weighR (h : Nat) (m : Int) (w : World) (hh : h < 4294967296) :
    Calls Try.prog 14 #[.int .u32 h, .int .i64 m] w fun e w' => e = .returned (.int .u32 (wgh h m)) ∧ w' = w := by
  have e0 : IntKind.u64.wrap (h : Int) = (h : Int) := by rw [IntKind.wrap_u64]; omega
  obtain ⟨u, hu⟩ : ∃ u : Nat, (u : Int) = IntKind.u64.wrap m := ⟨(IntKind.u64.wrap m).toNat, by rw [IntKind.wrap_u64]; omega⟩
  have hu2 : u < 18446744073709551616 := by
    have := hu; rw [IntKind.wrap_u64] at this; omega
  have hu4 : u % 4294967296 = m4 m := by
    have := hu; rw [IntKind.wrap_u64] at this
    unfold m4; omega
  have e1 : ((u : Int)).tmod 4294967296 = ((m4 m : Nat) : Int) := by
    rw [Int.tmod_eq_emod_of_nonneg (by omega), ← hu4]; omega
  have e1' : IntKind.u64.wrap m % 4294967296 = ((m4 m : Nat) : Int) := by rw [← hu]; omega
  have hm4 : m4 m < 4294967296 := by rw [← hu4]; omega
  have HW : Hid (wgh h m = fin (mix (stps h (bys (m4 m))))) := hide rfl
  have HWL := hide (wgh_lt h m)
  have e1b : IntKind.u64.wrap ((m4 m : Nat) : Int) = ((m4 m : Nat) : Int) := by rw [IntKind.wrap_u64]; omega
  obtain ⟨a, ha⟩ : ∃ a, a = m4 m := ⟨_, rfl⟩
  rw [← ha] at e1 e1' e1b hm4
  have HE := hide e1'
  have HA := hide ha
  have HH := hide hh
  clear hu2 hu4 ha hh
  go_enter Try.func14, Try.ntmps14
  go_wp2
  clear e1 e1' e1b hu e0
  go_loopg [5, 6, 7] 4 (fun r v5 v6 i wr => ∃ q : Nat, q ≤ 4 ∧ r = 4 - q ∧ i = .int .i64 q ∧ v5 = .int .u64 (stps h ((bys a).take q)) ∧ v6 = .int .u64 (dvs a q) ∧ wr = w)
  case atStart => exact ⟨0, by omega, rfl, rfl, rfl, by rw [dvs_zero]; first | rfl | rw [HE.out], rfl⟩
  case round =>
    obtain ⟨q, hq, hr, rfl, rfl, rfl, rfl⟩ := hrel
    have HR := hide hr
    clear hr
    by_cases hc : q < 4
    · have hq2 : (q : Int) < 4 := by omega
      have e2 : IntKind.i64.wrap ((q : Int) + 1) = (q : Int) + 1 := IntWalk.i64_in _ (by omega)
      have HT := hide (stps_take (h := h) (m := a) hc)
      have HD := hide (dvs_next a q)
      have HX := hide (stps_lt ((bys a).take q) HH.out)
      have hul := dvs_le a q
      obtain ⟨x, hx⟩ : ∃ x, x = stps h ((bys a).take q) := ⟨_, rfl⟩
      obtain ⟨u, hu⟩ : ∃ u, u = dvs a q := ⟨_, rfl⟩
      rw [← hx] at HX HT
      rw [← hu] at HT HD hul
      rw [← hx, ← hu]
      have e3 : ((u : Int)).tmod 256 = ((u % 256 : Nat) : Int) := by rw [Int.tmod_eq_emod_of_nonneg (by omega)]; omega
      have e3' : ((u : Int)) % 256 = ((u % 256 : Nat) : Int) := by omega
      have e4 : IntKind.u64.wrap ((u % 256 : Nat) : Int) = ((u % 256 : Nat) : Int) := by rw [IntKind.wrap_u64]; omega
      have e5 : IntKind.u8.wrap ((u % 256 : Nat) : Int) = ((u % 256 : Nat) : Int) := wrap8_mod u
      have e6 : ((u : Int)).tdiv 256 = ((u / 256 : Nat) : Int) := by rw [Int.tdiv_eq_ediv_of_nonneg (by omega)]; omega
      have e6' : ((u : Int)) / 256 = ((u / 256 : Nat) : Int) := by omega
      have e7 : IntKind.u64.wrap ((u / 256 : Nat) : Int) = ((u / 256 : Nat) : Int) := by rw [IntKind.wrap_u64]; omega
      have HV : Hid (u % 256 < 256) := hide (Nat.mod_lt _ (by omega))
      obtain ⟨v, hv⟩ : ∃ v, v = u % 256 := ⟨_, rfl⟩
      obtain ⟨d, hd⟩ : ∃ d, d = u / 256 := ⟨_, rfl⟩
      rw [← hv] at e3 e3' e4 e5 HV HT
      rw [← hd] at e6 e6' e7 HD
      clear hx hu hv hd hul
      go_wp2_with fail
      refine (stepR x v _ HX.out HV.out).mono ?_
      rintro e w' ⟨rfl, rfl⟩
      go_wp2
      go_roundg (4 - (q + 1))
      case measure => rw [HR.out]; omega
      case rel => exact ⟨q + 1, by omega, rfl, by go_num, by rw [HT.out], by rw [← HD.out], rfl⟩
    · obtain rfl : q = 4 := by omega
      have e8 : (bys a).take 4 = bys a := rfl
      have HX := stps_lt (bys a) HH.out
      rw [e8]
      have hW := HW.out
      rw [← HA.out] at hW
      obtain ⟨x, hx⟩ : ∃ x, x = stps h (bys a) := ⟨_, rfl⟩
      rw [← hx] at HX hW ⊢
      have e9 : ((x : Int)).tdiv 32768 = ((x / 32768 : Nat) : Int) := by rw [Int.tdiv_eq_ediv_of_nonneg (by omega)]; omega
      have e9' : ((x : Int)) / 32768 = ((x / 32768 : Nat) : Int) := by omega
      have ea : IntKind.u64.wrap ((x / 32768 : Nat) : Int) = ((x / 32768 : Nat) : Int) := by rw [IntKind.wrap_u64]; omega
      have eb : bits .xor .u64 (x : Int) ((x / 32768 : Nat) : Int) = ((x ^^^ x / 32768 : Nat) : Int) := bits_xor_u64_nat _ _ (by omega) (by omega)
      have hl2 : x ^^^ x / 32768 < 4294967296 := Nat.xor_lt_two_pow (n := 32) HX (by omega)
      obtain ⟨y, hy⟩ : ∃ y, y = x ^^^ x / 32768 := ⟨_, rfl⟩
      have hmix : mix x = (y * 739982445) % 4294967296 := by unfold mix; rw [hy]
      rw [← hy] at eb hl2
      have ec : IntKind.u64.wrap ((y : Int) * 739982445) = (y : Int) * 739982445 := by rw [IntKind.wrap_u64]; omega
      have ed : ((y : Int) * 739982445).tmod 4294967296 = ((mix x : Nat) : Int) := by rw [Int.tmod_eq_emod_of_nonneg (by omega), hmix]; omega
      have ed' : ((y : Int) * 739982445) % 4294967296 = ((mix x : Nat) : Int) := by rw [hmix]; omega
      have hml := mix_lt x
      obtain ⟨z, hz⟩ : ∃ z, z = mix x := ⟨_, rfl⟩
      rw [← hz] at ed ed' hml hW
      have ee : IntKind.u64.wrap (z : Int) = (z : Int) := by rw [IntKind.wrap_u64]; omega
      have ef : ((z : Int)).tdiv 4096 = ((z / 4096 : Nat) : Int) := by rw [Int.tdiv_eq_ediv_of_nonneg (by omega)]; omega
      have ef' : ((z : Int)) / 4096 = ((z / 4096 : Nat) : Int) := by omega
      have eg : IntKind.u64.wrap ((z / 4096 : Nat) : Int) = ((z / 4096 : Nat) : Int) := by rw [IntKind.wrap_u64]; omega
      have eh : bits .xor .u64 (z : Int) ((z / 4096 : Nat) : Int) = ((fin z : Nat) : Int) := by unfold fin; exact bits_xor_u64_nat _ _ (by omega) (by omega)
      rw [← hW] at eh
      have hwl := HWL.out
      obtain ⟨g, hg⟩ : ∃ g, g = wgh h m := ⟨_, rfl⟩
      rw [← hg] at eh hwl
      have HG := hide hg
      have ei : IntKind.u32.wrap (g : Int) = (g : Int) := by rw [wrap_u32]; omega
      obtain ⟨x1, hx1⟩ : ∃ x1, x1 = x / 32768 := ⟨_, rfl⟩
      obtain ⟨z1, hz1⟩ : ∃ z1, z1 = z / 4096 := ⟨_, rfl⟩
      rw [← hx1] at e9 e9' ea eb
      rw [← hz1] at ef ef' eg eh
      clear hx hy hz hg hW hmix hx1 hz1 e8 HX hl2 hml hwl hq hc
      go_wp2
      go_ret
      exact ⟨by rw [← HG.out]; first | rfl | simp, by first | rfl | trivial⟩
end Go.Proofs.Ytmpojeehjhpkbaa
