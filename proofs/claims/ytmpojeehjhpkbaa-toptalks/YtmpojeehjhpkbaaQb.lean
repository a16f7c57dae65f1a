/- Contract of the program's Weigh. -/
import Derived.Test.YtmpojeehjhpkbaaQa
namespace Go.Proofs.Ytmpojeehjhpkbaa
open Go.RowKit Go.PlainAid
set_option maxRecDepth 100000 in
set_option maxHeartbeats 2000000 in
theorem weighQ (h : Nat) (m : Int) (w : World) (hh : h < 4294967296) :
    Calls Try.prog 13 #[.int .u32 h, .int .i64 m] w fun e w' => e = .returned (.int .u32 (wgh h m)) ∧ Below w.heap.size w w' := by
  have e0 : IntKind.u32.wrap m = ((m4 m : Nat) : Int) := by rw [wrap_u32]; unfold m4; omega
  have hm4 : m4 m < 4294967296 := by unfold m4; omega
  have HW : Hid (wgh h m = fin (mix (stps h (bys (m4 m))))) := hide rfl
  obtain ⟨a, ha⟩ : ∃ a, a = m4 m := ⟨_, rfl⟩
  rw [← ha] at e0 hm4 HW
  have HH := hide hh
  have HM := hide hm4
  clear ha hh hm4
  go_enter Try.func13, Try.ntmps13
  go_wp2
  clear e0
  go_loopg [0, 5, 8] 4 (fun r v5 v6 i wr => ∃ q : Nat, q ≤ 4 ∧ r = 4 - q ∧ i = .int .i64 q ∧ v5 = .int .u32 (stps h ((bys a).take q)) ∧ v6 = .int .u32 (dvs a q) ∧ Below w.heap.size w wr)
  case atStart => exact ⟨0, by omega, rfl, rfl, rfl, by rw [dvs_zero], Below.refl _ _⟩
  case round =>
    obtain ⟨q, hq, hr, rfl, rfl, rfl, hB⟩ := hrel
    have HR := hide hr
    have HB := hide hB
    clear hr hB
    by_cases hc : q < 4
    · have hq2 : (q : Int) < 4 := by omega
      have e2 : IntKind.i64.wrap ((q : Int) + 1) = (q : Int) + 1 := IntWalk.i64_in _ (by omega)
      have HT := hide (stps_take (h := h) (m := a) hc)
      have HD := hide (dvs_next a q)
      have HX := hide (stps_lt ((bys a).take q) HH.out)
      have hul := dvs_le a q
      have hm := HM.out
      obtain ⟨x, hx⟩ : ∃ x, x = stps h ((bys a).take q) := ⟨_, rfl⟩
      obtain ⟨u, hu⟩ : ∃ u, u = dvs a q := ⟨_, rfl⟩
      rw [← hx] at HX HT
      rw [← hu] at HT HD hul
      rw [← hx, ← hu]
      have e3 : IntKind.u8.wrap (u : Int) = ((u % 256 : Nat) : Int) := by rw [IntKind.wrap_u8]; omega
      have e6 : ((u : Int)).tdiv 256 = ((u / 256 : Nat) : Int) := by rw [Int.tdiv_eq_ediv_of_nonneg (by omega)]; omega
      have e6' : ((u : Int)) / 256 = ((u / 256 : Nat) : Int) := by omega
      have e7 : IntKind.u32.wrap ((u / 256 : Nat) : Int) = ((u / 256 : Nat) : Int) := by rw [wrap_u32]; omega
      have HV : Hid (u % 256 < 256) := hide (Nat.mod_lt _ (by omega))
      obtain ⟨v, hv⟩ : ∃ v, v = u % 256 := ⟨_, rfl⟩
      obtain ⟨d, hd⟩ : ∃ d, d = u / 256 := ⟨_, rfl⟩
      rw [← hv] at e3 HV HT
      rw [← hd] at e6 e6' e7 HD
      have HBt := hide (bts_one wr v)
      have HB2 := hide (HB.out.alloc HB.out.size (.cells #[.int .u8 (v : Int)] 5))
      clear hx hu hv hd hul hm
      go_wp2_with fail
      generalize (wr.alloc (.cells #[.int .u8 (v : Int)] 5)) = w1 at *
      refine (stepQ x _ _ 1 _ [v] _ HX.out rfl (by omega) (fun y hy => by obtain rfl : y = v := (by simpa using hy); exact HV.out) HBt.out).mono ?_
      rintro e w' ⟨rfl, rfl⟩
      go_wp2
      go_roundg (4 - (q + 1))
      case measure => rw [HR.out]; omega
      case rel => exact ⟨q + 1, by omega, rfl, by go_num, by rw [HT.out, stps_one], by rw [← HD.out], HB2.out⟩
    · obtain rfl : q = 4 := by omega
      have e8 : (bys a).take 4 = bys a := rfl
      have HX := hide (stps_lt (bys a) HH.out)
      rw [e8]
      obtain ⟨x, hx⟩ : ∃ x, x = stps h (bys a) := ⟨_, rfl⟩
      obtain ⟨u, hu⟩ : ∃ u, u = dvs a 4 := ⟨_, rfl⟩
      rw [← hx] at HX HW
      rw [← hx, ← hu]
      clear hc hq hx hu e8
      go_wp2_with fail
      refine (mixQ x _ HX.out).mono ?_
      rintro e w' ⟨rfl, rfl⟩
      rw [← HW.out]
      obtain ⟨g, hg⟩ : ∃ g, g = wgh h m := ⟨_, rfl⟩
      rw [← hg]
      have HG := hide hg
      clear hg
      go_wp2
      go_ret
      exact ⟨by rw [← HG.out]; rfl, HB.out⟩
end Go.Proofs.Ytmpojeehjhpkbaa
