/- Contract of the document's own Told. -/
import Derived.Test.YtijfcfpoimknmaaDoorR6
import Derived.Test.YtijfcfpoimknmaaDoorB1
namespace Go.Proofs.YtijfcfpoimknmaaDoor
open Go.RowKit

set_option maxRecDepth 100000 in
set_option maxHeartbeats 4000000 in
theorem told21_len (ao : Option Addr) (n c : Nat) (w : World) (hn : n ≠ 8) :
    Calls Tryd.prog 21 #[.slice ao n c] w fun x w' => x = .returned (.tuple #[.int .i64 0, .int .i64 0, .bool false, .int .i64 2]) ∧ Below w.heap.size w w' := by
  have h8 : ((n : Int) != 8) = true := by simp; omega
  clear hn
  go_enter Tryd.func21, Tryd.ntmps21
  go_wp2
  exact bodyPost_ret (res_tmp4 rfl) rfl ⟨rfl, Below.refl _ _⟩
set_option maxRecDepth 100000 in
set_option maxHeartbeats 8000000 in
theorem told21_8 (ao : Option Addr) (c : Nat) (b : List Int) (w : World) (hY : Byt w ao 8 c b) :
    Calls Tryd.prog 21 #[.slice ao 8 c] w fun x w' => x = .returned (.tuple #[.int .i64 (te b), .int .i64 (tp b), .bool (tf b), .int .i64 (tc b)]) ∧ Below w.heap.size w w' := by
  obtain ⟨bb, o, rfl, hc, -⟩ := hY.at (by omega)
  have c7 : w.cell? ⟨bb, o + 7, none⟩ = some (.int .u8 (b.getD 7 0)) := hc 7 (by omega)
  have hle := hY.le
  have hle1 : (8 : Int) ≤ c := by omega
  have Y1 := byt_mid hY 1 4 (by omega) (by omega)
  have Y2 := byt_mid hY 5 2 (by omega) (by omega)
  have HQ : Hid ((uok b = true → te b = ue b ∧ tp b = up b ∧ tf b = uf b ∧ tc b = 0) ∧ (uok b = false → te b = 0 ∧ tp b = 0 ∧ tf b = false ∧ tc b = 2)) := hide (by
    obtain ⟨h1, h2⟩ := told_same hY.rng
    rw [h1]
    exact ⟨fun h => by obtain ⟨q1, q2, q3⟩ := h2 h; rw [te, tp, tf, tc, h, ← q1, ← q2, ← q3]; exact ⟨rfl, rfl, rfl, rfl⟩, fun h => by rw [te, tp, tf, tc, h]; exact ⟨rfl, rfl, rfl, rfl⟩⟩)
  have HU : Hid (uok b = (ar (ue b) (up b) && decide (ab (ue b) (up b) (uf b) = b))) := hide (by rw [uok, hY.len]; simp)
  have HF : Hid (uf b = (b.getD 7 0 == 1)) := hide rfl
  have HY := hide hY
  have HY1 := hide Y1
  have HY2 := hide Y2
  clear hc hle hY Y1 Y2
  go_enter Tryd.func21, Tryd.ntmps21
  go_wp2_with fail
  refine (of41 (some ⟨bb, o + 1, none⟩) 4 (c - 1) _ _ HY1.out (by omega) (by omega)).mono ?_
  rintro x w' ⟨rfl, rfl⟩
  rw [show nb ((b.drop 1).take 4) = ue b from rfl]
  clear HY1
  go_wp2_with fail
  refine (of41 (some ⟨bb, o + 5, none⟩) 2 (c - 5) _ _ HY2.out (by omega) (by omega)).mono ?_
  rintro x w1 ⟨rfl, rfl⟩
  rw [show nb ((b.drop 5).take 2) = up b from rfl]
  clear HY2
  generalize b.getD 7 0 = y at *
  have HA := hide (fun W => alive19 (ue b) (up b) (y == 1) W)
  rw [HF.out] at HU HQ
  generalize ue b = X1 at *
  generalize up b = X2 at *
  clear HF
  go_wp2_with fail
  refine (HA.out _).mono ?_
  rintro x w2 ⟨a2, n2, d2, rfl, Z2, hb⟩
  have Y2 := HY.out.on hb
  have c72 : w2.cell? ⟨bb, o + 7, none⟩ = some (.int .u8 y) := (hb.cell (p := ⟨bb, o + 7, none⟩) (World.block_lt_of_cell? _ _ c7)).trans c7
  have L2 := hide hb
  clear hb HA HY c7
  cases har : ar X1 X2
  · have e1 : alc X1 X2 = 1 := by simp [alc, har]
    rw [e1]
    have hu : uok b = false := by rw [HU.out, har]; rfl
    have hq := hide (HQ.out.2 hu)
    clear HU HQ hu e1 har Z2 Y2
    go_wp2
    exact bodyPost_ret (res_tmp4 rfl) rfl ⟨by rw [hq.out.1, hq.out.2.1, hq.out.2.2.1, hq.out.2.2.2]; rfl, L2.out⟩
  · have e1 : alc X1 X2 = 0 := by simp [alc, har]
    have e2 : alb X1 X2 (y == 1) = ab X1 X2 (y == 1) := by simp [alb, har]
    rw [e2] at Z2
    rw [e1]
    have s1 := bytStr Z2
    have s2 := bytStr Y2
    have sb := bs_beq Z2.rng Y2.rng
    have hu : uok b = decide (ab X1 X2 (y == 1) = b) := by rw [HU.out, har, Bool.true_and]
    cases hd : decide (ab X1 X2 (y == 1) = b)
    · have hq := hide (HQ.out.2 (by rw [hu, hd]))
      rw [hd] at sb
      have sb2 : ((bs (ab X1 X2 (y == 1))).toList != (bs b).toList) = true := by rw [bne, sb]; rfl
      clear HU HQ hu e1 e2 har Z2 Y2 hd
      go_wp2
      exact bodyPost_ret (res_tmp4 rfl) rfl ⟨by rw [hq.out.1, hq.out.2.1, hq.out.2.2.1, hq.out.2.2.2]; rfl, L2.out⟩
    · have hq := hide (HQ.out.1 (by rw [hu, hd]))
      rw [hd] at sb
      have sb2 : ((bs (ab X1 X2 (y == 1))).toList != (bs b).toList) = false := by rw [bne, sb]; rfl
      clear HU HQ hu e1 e2 har Z2 Y2 hd
      go_wp2_with fail
      go_quiet (fail)
      go_wp2
      exact bodyPost_ret (res_tmp4 rfl) rfl ⟨by rw [hq.out.1, hq.out.2.1, hq.out.2.2.1, hq.out.2.2.2]; rfl, drewN_below L2.out _⟩
theorem told21 (ao : Option Addr) (n c : Nat) (b : List Int) (w : World) (hY : Byt w ao n c b) :
    Calls Tryd.prog 21 #[.slice ao n c] w fun x w' => x = .returned (.tuple #[.int .i64 (te b), .int .i64 (tp b), .bool (tf b), .int .i64 (tc b)]) ∧ Below w.heap.size w w' := by
  by_cases hn : n = 8
  · subst hn
    exact told21_8 ao c b w hY
  · have ht : tok b = false := by
      cases h : tok b
      · rfl
      · exact absurd ((hY.len).symm.trans (tok_len h)) hn
    rw [te, tp, tf, tc, ht]
    exact told21_len ao n c w hn
end Go.Proofs.YtijfcfpoimknmaaDoor
