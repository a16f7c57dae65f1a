/- Contracts of cmp.Compare, of cmp.Or, and of what Choose compares by. -/
import Derived.Test.YtmpojeehjhpkbaaQc
import Derived.Test.YtmpojeehjhpkbaaCh
namespace Go.Proofs.Ytmpojeehjhpkbaa
open Go.RowKit Go.PlainAid

def cmp3 (x y : Int) : Int := if x < y then -1 else if y < x then 1 else 0
theorem cmp3_lt {x y : Int} (h : x < y) : cmp3 x y = -1 := by simp [cmp3, h]
theorem cmp3_gt {x y : Int} (h : y < x) : cmp3 x y = 1 := by simp [cmp3, h]; omega
theorem cmp3_eq {x y : Int} (h : ¬ x < y) (k : ¬ y < x) : cmp3 x y = 0 := by simp [cmp3, h, k]
set_option maxRecDepth 100000 in
set_option maxHeartbeats 400000 in
theorem nanI (x : Int) (w : World) : Calls Try.prog 33 #[.int .i64 x] w fun e w' => e = .returned (.bool false) ∧ w' = w := by
  have h : (x != x) = false := by simp
  go_enter Try.func33, Try.ntmps33
  go_wp2
  go_ret
  exact ⟨rfl, rfl⟩
set_option maxRecDepth 100000 in
set_option maxHeartbeats 400000 in
theorem nanU (x : Int) (w : World) : Calls Try.prog 32 #[.int .u32 x] w fun e w' => e = .returned (.bool false) ∧ w' = w := by
  have h : (x != x) = false := by simp
  go_enter Try.func32, Try.ntmps32
  go_wp2
  go_ret
  exact ⟨rfl, rfl⟩
set_option maxRecDepth 100000 in
set_option maxHeartbeats 400000 in
theorem cmpI (x y : Int) (w : World) : Calls Try.prog 26 #[.int .i64 x, .int .i64 y] w fun e w' => e = .returned (.int .i64 (cmp3 x y)) ∧ w' = w := by
  go_enter Try.func26, Try.ntmps26
  go_wp2_with (go_at_call 33; refine (nanI _ _).mono ?_; rintro e w' ⟨rfl, rfl⟩)
  · go_ret
    exact ⟨ret_int (cmp3_lt (by assumption)).symm, rfl⟩
  · go_ret
    exact ⟨ret_int (cmp3_gt (by assumption)).symm, rfl⟩
  · go_ret
    exact ⟨ret_int (cmp3_eq (by omega) (by omega)).symm, rfl⟩
set_option maxRecDepth 100000 in
set_option maxHeartbeats 400000 in
theorem cmpU (x y : Int) (w : World) : Calls Try.prog 25 #[.int .u32 x, .int .u32 y] w fun e w' => e = .returned (.int .i64 (cmp3 x y)) ∧ w' = w := by
  go_enter Try.func25, Try.ntmps25
  go_wp2_with (go_at_call 32; refine (nanU _ _).mono ?_; rintro e w' ⟨rfl, rfl⟩)
  · go_ret
    exact ⟨ret_int (cmp3_lt (by assumption)).symm, rfl⟩
  · go_ret
    exact ⟨ret_int (cmp3_gt (by assumption)).symm, rfl⟩
  · go_ret
    exact ⟨ret_int (cmp3_eq (by omega) (by omega)).symm, rfl⟩
set_option maxRecDepth 100000 in
set_option maxHeartbeats 1000000 in
theorem orI (b : Nat) (x y : Int) (w : World) (c0 : w.cell? ⟨b, 0, none⟩ = some (.int .i64 x)) (c1 : w.cell? ⟨b, 1, none⟩ = some (.int .i64 y)) :
    Calls Try.prog 24 #[.slice (some ⟨b, 0, none⟩) 2 2] w fun e w' => e = .returned (.int .i64 (if x = 0 then y else x)) ∧ w' = w := by
  by_cases hx : x = 0
  · subst hx
    rw [if_pos rfl]
    by_cases hy : y = 0
    · subst hy
      go_enter Try.func24, Try.ntmps24
      go_wp2
      go_rounds 3
      go_ret
      exact ⟨rfl, rfl⟩
    · have hy2 : (y != 0) = true := by simp [hy]
      go_enter Try.func24, Try.ntmps24
      go_wp2
      go_rounds 3
      go_ret
      exact ⟨rfl, rfl⟩
  · have hx2 : (x != 0) = true := by simp [hx]
    rw [if_neg hx]
    go_enter Try.func24, Try.ntmps24
    go_wp2
    go_rounds 3
    go_ret
    exact ⟨rfl, rfl⟩
/-- How two members compare. -/
def cfM (h : Nat) (a b : Int) : Int := if cmp3 (wgh h a) (wgh h b) = 0 then cmp3 b a else cmp3 (wgh h a) (wgh h b)
theorem cfM_btr (h : Nat) (a b : Int) : 0 < cfM h a b ↔ btr h a b = true := by
  rw [btr_iff]
  unfold cfM cmp3
  (repeat' split) <;> omega
/-- A captured number, and worlds that keep it. -/
def Cap (w : World) (k : Nat) (h : Nat) : Prop := w.cell? ⟨k, 0, none⟩ = some (.int .u32 h) ∧ k < w.heap.size
theorem Cap.on {w w' : World} {k h : Nat} (c : Cap w k h) (hb : Below w.heap.size w w') : Cap w' k h :=
  ⟨(hb.cell (p := ⟨k, 0, none⟩) c.2).trans c.1, Nat.lt_of_lt_of_le c.2 hb.size⟩
theorem Cap.drew {w : World} {k h : Nat} (c : Cap w k h) : Cap w.drew k h := c
set_option maxRecDepth 100000 in
set_option maxHeartbeats 2000000 in
theorem order (h k : Nat) (a b : Int) (w : World) (hh : h < 4294967296) (hk : Cap w k h) :
    Calls Try.prog 23 #[.int .i64 a, .int .i64 b, .pointer (some ⟨k, 0, none⟩)] w fun e w' => e = .returned (.int .i64 (cfM h a b)) ∧ Below w.heap.size w w' := by
  have HH := hide hh
  have HK := hide hk
  clear hh hk
  go_enter Try.func23, Try.ntmps23
  go_wp2_with fail
  refine wp_region_held_drew (S := fun w' => Cap w' k h) (by kernel_rfl) HK.out.drew (fun hHeld => ?_)
  have W0 : Hid (Below w.heap.size w w.drew) := hide ((Below.refl _ _).drew)
  clear HK
  generalize w.drew = u0 at *
  refine wpAnyH_take (i := 0) (v := .int .u32 h) rfl (by kernel_rfl) (by kernel_rfl) (by kernel_rfl) (fun _ _ _ h => h) (Or.inl ⟨by rfl, ?_⟩) hHeld ?_
  · intro W hW; (try dsimp only at hW); have hc := hW.1; clear hW; go_simp
  change wpAnyH _ _ _ _ _ _ _ ⟨#[.int .i64 a, .int .i64 b, .pointer (some ⟨k, 0, none⟩), _, _, _, .int .u32 h, _, _, _, _, _, _, _, _, _, _, _], []⟩ _
  refine wpAnyH_take (i := 1) (v := .int .i64 a) rfl (by kernel_rfl) (by kernel_rfl) (by kernel_rfl) (fun _ _ _ h => h) (Or.inl ⟨by rfl, ?_⟩) hHeld ?_
  · intro W hW; (try dsimp only at hW); go_simp
  change wpAnyH _ _ _ _ _ _ _ ⟨#[.int .i64 a, .int .i64 b, .pointer (some ⟨k, 0, none⟩), _, _, _, .int .u32 h, .int .i64 a, _, _, _, _, _, _, _, _, _, _], []⟩ _
  refine wpAnyH_take (i := 3) (v := .int .u32 h) rfl (by kernel_rfl) (by kernel_rfl) (by kernel_rfl) (fun _ _ _ h => h) (Or.inl ⟨by rfl, ?_⟩) hHeld ?_
  · intro W hW; (try dsimp only at hW); have hc := hW.1; clear hW; go_simp
  change wpAnyH _ _ _ _ _ _ _ ⟨#[.int .i64 a, .int .i64 b, .pointer (some ⟨k, 0, none⟩), _, _, _, .int .u32 h, .int .i64 a, _, .int .u32 h, _, _, _, _, _, _, _, _], []⟩ _
  refine wpAnyH_take (i := 4) (v := .int .i64 b) rfl (by kernel_rfl) (by kernel_rfl) (by kernel_rfl) (fun _ _ _ h => h) (Or.inl ⟨by rfl, ?_⟩) hHeld ?_
  · intro W hW; (try dsimp only at hW); go_simp
  change wpAnyH _ _ _ _ _ _ _ ⟨#[.int .i64 a, .int .i64 b, .pointer (some ⟨k, 0, none⟩), _, _, _, .int .u32 h, .int .i64 a, _, .int .u32 h, .int .i64 b, _, _, _, _, _, _, _], []⟩ _
  refine wpAnyH_take (i := 7) (v := .int .i64 b) rfl (by kernel_rfl) (by kernel_rfl) (by kernel_rfl) (fun _ _ _ h => h) (Or.inl ⟨by rfl, ?_⟩) hHeld ?_
  · intro W hW; (try dsimp only at hW); go_simp
  change wpAnyH _ _ _ _ _ _ _ ⟨#[.int .i64 a, .int .i64 b, .pointer (some ⟨k, 0, none⟩), _, _, _, .int .u32 h, .int .i64 a, _, .int .u32 h, .int .i64 b, _, _, .int .i64 b, _, _, _, _], []⟩ _
  refine wpAnyH_take (i := 8) (v := .int .i64 a) rfl (by kernel_rfl) (by kernel_rfl) (by kernel_rfl) (fun _ _ _ h => h) (Or.inl ⟨by rfl, ?_⟩) hHeld ?_
  · intro W hW; (try dsimp only at hW); go_simp
  change wpAnyH _ _ _ _ _ _ _ ⟨#[.int .i64 a, .int .i64 b, .pointer (some ⟨k, 0, none⟩), _, _, _, .int .u32 h, .int .i64 a, _, .int .u32 h, .int .i64 b, _, _, .int .i64 b, .int .i64 a, _, _, _], []⟩ _
  refine wpAnyH_ready (rs := [2]) (by kernel_rfl) (by simp) ?_
  refine AllReadyH.cons rfl (fun K hK => ?_) AllReadyH.nil
  go_simp
  refine (weighQ h a _ HH.out).mono ?_
  rintro e u1 ⟨rfl, hg⟩
  replace W0 := hide (belowOn W0.out hg)
  refine hK.out _ _ (hHeld.on hg) (fun hHeld => ?_)
  clear hK K hg
  change wpAnyH _ _ _ _ _ _ _ ⟨#[.int .i64 a, .int .i64 b, .pointer (some ⟨k, 0, none⟩), _, _, _, .int .u32 h, .int .i64 a, .int .u32 (wgh h a), .int .u32 h, .int .i64 b, _, _, .int .i64 b, .int .i64 a, _, _, _], []⟩ _
  refine wpAnyH_ready (rs := [5]) (by kernel_rfl) (by simp) ?_
  refine AllReadyH.cons rfl (fun K hK => ?_) AllReadyH.nil
  go_simp
  refine (weighQ h b _ HH.out).mono ?_
  rintro e u2 ⟨rfl, hg⟩
  replace W0 := hide (belowOn W0.out hg)
  refine hK.out _ _ (hHeld.on hg) (fun hHeld => ?_)
  clear hK K hg
  change wpAnyH _ _ _ _ _ _ _ ⟨#[.int .i64 a, .int .i64 b, .pointer (some ⟨k, 0, none⟩), _, _, _, .int .u32 h, .int .i64 a, .int .u32 (wgh h a), .int .u32 h, .int .i64 b, .int .u32 (wgh h b), _, .int .i64 b, .int .i64 a, _, _, _], []⟩ _
  refine wpAnyH_ready (rs := [6]) (by kernel_rfl) (by simp) ?_
  refine AllReadyH.cons rfl (fun K hK => ?_) AllReadyH.nil
  go_simp
  refine (cmpU (wgh h a) (wgh h b) _).mono ?_
  rintro e w2 ⟨rfl, hw2⟩
  subst hw2
  refine hK.out _ _ hHeld (fun hHeld => ?_)
  clear hK K
  change wpAnyH _ _ _ _ _ _ _ ⟨#[.int .i64 a, .int .i64 b, .pointer (some ⟨k, 0, none⟩), _, _, _, .int .u32 h, .int .i64 a, .int .u32 (wgh h a), .int .u32 h, .int .i64 b, .int .u32 (wgh h b), .int .i64 (cmp3 (wgh h a) (wgh h b)), .int .i64 b, .int .i64 a, _, _, _], []⟩ _
  refine wpAnyH_ready (rs := [9]) (by kernel_rfl) (by simp) ?_
  refine AllReadyH.cons rfl (fun K hK => ?_) AllReadyH.nil
  go_simp
  refine (cmpI b a _).mono ?_
  rintro e w2 ⟨rfl, hw2⟩
  subst hw2
  refine hK.out _ _ hHeld (fun hHeld => ?_)
  clear hK K
  change wpAnyH _ _ _ _ _ _ _ ⟨#[.int .i64 a, .int .i64 b, .pointer (some ⟨k, 0, none⟩), _, _, _, .int .u32 h, .int .i64 a, .int .u32 (wgh h a), .int .u32 h, .int .i64 b, .int .u32 (wgh h b), .int .i64 (cmp3 (wgh h a) (wgh h b)), .int .i64 b, .int .i64 a, .int .i64 (cmp3 b a), _, _], []⟩ _
  refine wpAnyH_ready (rs := [10]) (by kernel_rfl) (by simp) ?_
  refine AllReadyH.cons rfl (fun K hK => ?_) AllReadyH.nil
  go_simp
  have c0 : (w2.alloc (.cells #[.int .i64 (cmp3 (wgh h a) (wgh h b)), .int .i64 (cmp3 b a)] 3)).cell? ⟨w2.heap.size, 0, none⟩ = some (.int .i64 (cmp3 (wgh h a) (wgh h b))) := by rw [World.cell?_alloc_at _ _ _ _ rfl]; rfl
  have c1 : (w2.alloc (.cells #[.int .i64 (cmp3 (wgh h a) (wgh h b)), .int .i64 (cmp3 b a)] 3)).cell? ⟨w2.heap.size, 1, none⟩ = some (.int .i64 (cmp3 b a)) := by rw [World.cell?_alloc_at _ _ _ _ rfl]; rfl
  have hal := below_alloc w2 (.cells #[.int .i64 (cmp3 (wgh h a) (wgh h b)), .int .i64 (cmp3 b a)] 3)
  replace W0 := hide (belowOn W0.out hal)
  refine hK.out _ _ (hHeld.on hal) (fun hHeld => ?_)
  clear hK K hal
  generalize (w2.alloc (.cells #[.int .i64 (cmp3 (wgh h a) (wgh h b)), .int .i64 (cmp3 b a)] 3)) = u3 at *
  generalize w2.heap.size = kb at *
  change wpAnyH _ _ _ _ _ _ _ ⟨#[.int .i64 a, .int .i64 b, .pointer (some ⟨k, 0, none⟩), _, _, _, .int .u32 h, .int .i64 a, .int .u32 (wgh h a), .int .u32 h, .int .i64 b, .int .u32 (wgh h b), .int .i64 (cmp3 (wgh h a) (wgh h b)), .int .i64 b, .int .i64 a, .int .i64 (cmp3 b a), .slice (some ⟨kb, 0, none⟩) 2 2, _], []⟩ _
  refine wpAnyH_ready (rs := [11]) (by kernel_rfl) (by simp) ?_
  refine AllReadyH.cons rfl (fun K hK => ?_) AllReadyH.nil
  go_simp
  refine (orI kb (cmp3 (wgh h a) (wgh h b)) (cmp3 b a) _ c0 c1).mono ?_
  rintro e u4 ⟨rfl, hu4⟩
  subst hu4
  refine hK.out _ _ hHeld (fun hHeld => ?_)
  clear hK K
  change wpAnyH _ _ _ _ _ _ _ ⟨#[.int .i64 a, .int .i64 b, .pointer (some ⟨k, 0, none⟩), _, _, _, .int .u32 h, .int .i64 a, .int .u32 (wgh h a), .int .u32 h, .int .i64 b, .int .u32 (wgh h b), .int .i64 (cmp3 (wgh h a) (wgh h b)), .int .i64 b, .int .i64 a, .int .i64 (cmp3 b a), .slice (some ⟨kb, 0, none⟩) 2 2, .int .i64 (cfM h a b)], []⟩ _
  refine wpAnyH_take (i := 12) (v := .int .i64 (cfM h a b)) rfl (by kernel_rfl) (by kernel_rfl) (by kernel_rfl) (fun _ _ _ h => h) (Or.inl ⟨by rfl, ?_⟩) hHeld ?_
  · intro W hW; (try dsimp only at hW); go_simp
  change wpAnyH _ _ _ _ _ _ _ ⟨#[.int .i64 a, .int .i64 b, .pointer (some ⟨k, 0, none⟩), _, _, .int .i64 (cfM h a b), .int .u32 h, .int .i64 a, .int .u32 (wgh h a), .int .u32 h, .int .i64 b, .int .u32 (wgh h b), .int .i64 (cmp3 (wgh h a) (wgh h b)), .int .i64 b, .int .i64 a, .int .i64 (cmp3 b a), .slice (some ⟨kb, 0, none⟩) 2 2, .int .i64 (cfM h a b)], []⟩ _
  refine wpAnyH_done (by kernel_rfl) ?_ _
  go_wp2
  go_ret
  exact ⟨rfl, W0.out⟩
end Go.Proofs.Ytmpojeehjhpkbaa
