/- VlanVlans: for all steps and every number the law answers true, and both read behind the call as they read before. No condition. -/
import Derived.Test.YtelinahpneikiaaOp
import Derived.Test.YtelinahpneikiaaAw
import Derived.Test.YtelinahpneikiaaD2
import Derived.Test.YtelinahpneikiaaG5
namespace Go.Proofs.Ytelinahpneikiaa
open Go.ChangeShapes Go.WideShapes Go.ChangeAt Go.RowKit

theorem rises {xs : List Int} (h : xs.Pairwise (· < ·)) {j : Nat} (h2 : j + 1 < xs.length) : xs.getD j 0 < xs.getD (j + 1) 0 := by
  have := List.pairwise_iff_getElem.1 h j (j + 1) (by omega) h2 (by omega)
  rw [List.getD_eq_getElem?_getD, List.getD_eq_getElem?_getD, List.getElem?_eq_getElem h2, List.getElem?_eq_getElem (by omega)]
  exact this
theorem mem_getD {xs : List Int} {k : Nat} (h : k < xs.length) : xs.getD k 0 ∈ xs := by
  rw [List.getD_eq_getElem?_getD, List.getElem?_eq_getElem h]
  exact List.getElem_mem h
theorem mem_take_next {xs : List Int} {k : Nat} {v : Int} (h : k < xs.length) : decide (v ∈ xs.take (k + 1)) = (decide (v ∈ xs.take k) || (xs.getD k 0 == v)) := by
  rw [List.take_add_one, List.getD_eq_getElem?_getD, List.getElem?_eq_getElem h]
  simp only [List.mem_append, Option.toList_some, List.mem_singleton, Option.getD_some, Bool.decide_or, eq_comm (a := v)]
  rfl
theorem gt0 {n : Nat} : decide ((0 : Int) < (n : Int)) = decide (0 < n) := by simp
set_option maxRecDepth 100000 in
set_option maxHeartbeats 4000000 in
theorem vlansWalk (ao : Option Addr) (n c : Nat) (ss : List St) (v : Int) (w : World) (hS : Sts w w.heap.size ao n c ss) (hv : I64 v) :
    Calls Try.prog 9 #[.slice ao n c, .int .i64 v] w fun e w' => e = .returned (.bool true) ∧ Below w.heap.size w w' := by
  have HS := hide hS
  have HV := hide hv
  clear hS hv
  go_enter Try.func9, Try.ntmps9
  go_wp2_with fail
  refine (awake10 _).mono ?_
  rintro e w1 ⟨rfl, C1⟩
  have HS1 : Hid (Sts w1 w1.heap.size ao n c ss) := hide ((HS.out.below C1).up C1.size)
  have B1 := hide C1
  clear C1 HS
  go_wp2_with fail
  refine (made11 5 ao n c ss _ (by omega) (by omega) HS1.out).mono ?_
  rintro e w2 ⟨h, g, lv, T, rfl, M⟩
  have hw1 : Hid (w.heap.size ≤ h) := hide (Nat.le_trans B1.out.size M.hw)
  have B2 := hide (B1.out.trans (M.B.mono B1.out.size))
  have P2 := hide M.P
  have lP := M.P.lt
  have hL : Hid (T.l.length ≤ 1000) := hide (by have := M.le; omega)
  clear M B1 HS1
  go_wp2_with fail
  refine (vlans15 h T _ P2.out hL.out).mono ?_
  rintro e w3 ⟨ao3, c3, rfl, I3, C3⟩
  have P3 := hide (P2.out.on C3)
  have B3 := hide (B2.out.trans (C3.mono (by have := hw1.out; omega)))
  have I4 := hide I3
  have il := I3.le
  have im := I3.mx
  have l3 := C3.size
  unfold maxLen at im
  have so := hide (vls_sorted T.l 4094)
  have mv := hide (fun x => mem_vlans P2.out.wf x)
  have bd : Hid (∀ x ∈ vls T.l 4094, 1 ≤ x ∧ x ≤ 4094) := hide (fun x hx => ⟨((mem_vls _ _ _).1 hx).1, ((mem_vls _ _ _).1 hx).2.1⟩)
  clear I3 C3 P2 B2 hL
  generalize vls T.l 4094 = xs at *
  go_wp2
  go_loopw [10, 11] (fun b i wr => ∃ k : Nat, k ≤ xs.length ∧ b = .bool (decide (v ∈ xs.take k)) ∧ i = .int .i64 k ∧ Below w3.heap.size w3 wr) (fun _ i _ => xs.length - (intOf i).toNat)
  case atStart => exact ⟨0, Nat.zero_le _, by simp, rfl, Below.refl _ _⟩
  case round =>
    obtain ⟨k, hk, rfl, rfl, hB⟩ := hrel
    have P4 := (P3.out.on hB).drew
    have lB := hB.size
    by_cases hlt : k < xs.length
    · have hlt' : (k : Int) < xs.length := by omega
      have I5 := (I4.out.on hB).drew
      obtain ⟨b1, o1, rfl, hc1, -⟩ := I5.at (by omega)
      have BD : Hid (Below w3.heap.size w3 wr.drew) := hide (drewB hB 1)
      have HN := hide (mem_take_next (v := v) hlt)
      have hX := mem_getD hlt
      have b2 := bd.out _ hX
      have m2 := (mv.out _).1 hX
      have x1 := hc1 k hlt
      have PX := hide P4
      have IX := hide I5
      generalize decide (v ∈ xs.take k) = bb at *
      by_cases hk0 : k = 0
      · subst hk0
        clear hc1 hB P4 I5 hX
        rw [Nat.add_zero] at x1
        generalize xs.getD 0 0 = X at *
        have hz : (((mbs T.l X T.n).length : Int) == 0) = false := by rw [beq_eq_false_iff_ne]; omega
        generalize hNN : (mbs T.l X T.n).length = NN at *
        have IB : Hid (b1 < wr.drew.heap.size) := hide (World.block_lt_of_cell? _ _ x1)
        have X1 := hide x1
        clear m2
        go_wp2_with fail
        refine wp_region_held_drew (S := fun w' => w'.cell? ⟨b1, o1, none⟩ = some (.int .i64 X)) (by kernel_rfl) x1 (fun hHeld => ?_)
        refine wpAnyH_take (i := 0) (v := .int .i64 ((0 : Nat) : Int)) rfl (by kernel_rfl) (by kernel_rfl) (by kernel_rfl) (fun _ _ _ h => h) (Or.inl ⟨by rfl, ?_⟩) hHeld ?_
        · intro W hW; (try dsimp only at hW); go_simp
        change wpAnyH _ _ _ _ _ _ _ ⟨#[_, _, _, _, _, _, .pointer (some ⟨h + 2, 0, none⟩), _, _, .slice (some ⟨b1, o1, none⟩) xs.length c3, _, .int .i64 ((0 : Nat) : Int), _, _, _, _, _, _, _, _, _, _, _, _, _, _, _, _, _, _, _, _, _, _, _, _, _, _, _, _, _, .int .i64 ((0 : Nat) : Int), _, _, _, _, _, _, _, _, _, _, _, _, _, _, _, _, _, _, _, _, _, _, _, _, _, _, _, _, _, _, _, _, _, _, _, _, _, _, _], []⟩ _
        refine wpAnyH_take (i := 1) (v := .bool false) rfl (by kernel_rfl) (by kernel_rfl) (by kernel_rfl) (fun _ _ _ h => h) (Or.inl ⟨by rfl, ?_⟩) hHeld ?_
        · intro W hW; (try dsimp only at hW); go_simp
        change wpAnyH _ _ _ _ _ _ _ ⟨#[_, _, _, _, _, _, .pointer (some ⟨h + 2, 0, none⟩), _, _, .slice (some ⟨b1, o1, none⟩) xs.length c3, _, .int .i64 ((0 : Nat) : Int), _, _, _, _, _, _, _, _, _, _, _, _, _, _, _, _, _, _, _, _, _, _, _, _, _, _, _, _, _, .int .i64 ((0 : Nat) : Int), .bool false, _, _, _, _, _, _, _, _, _, _, _, _, _, _, _, _, _, _, _, _, _, _, _, _, _, _, _, _, _, _, _, _, _, _, _, _, _, _], []⟩ _
        refine wpAnyH_take (i := 2) (v := .bool false) rfl (by kernel_rfl) (by kernel_rfl) (by kernel_rfl) (fun _ _ _ h => h) (Or.inl ⟨by rfl, ?_⟩) hHeld ?_
        · intro W hW; (try dsimp only at hW); go_simp
        change wpAnyH _ _ _ _ _ _ _ ⟨#[_, _, _, _, _, _, .pointer (some ⟨h + 2, 0, none⟩), _, _, .slice (some ⟨b1, o1, none⟩) xs.length c3, _, .int .i64 ((0 : Nat) : Int), _, _, _, _, _, _, _, _, _, _, _, _, _, _, _, _, _, _, _, _, _, _, _, _, _, _, _, _, _, .int .i64 ((0 : Nat) : Int), .bool false, .bool false, _, _, _, _, _, _, _, _, _, _, _, _, _, _, _, _, _, _, _, _, _, _, _, _, _, _, _, _, _, _, _, _, _, _, _, _, _], []⟩ _
        refine wpAnyH_take (i := 3) (v := undef) rfl (by kernel_rfl) (by kernel_rfl) (by kernel_rfl) (fun _ _ _ h => h) (Or.inr ⟨by rfl, rfl⟩) hHeld ?_
        change wpAnyH _ _ _ _ _ _ _ ⟨#[_, _, _, _, _, _, .pointer (some ⟨h + 2, 0, none⟩), _, _, .slice (some ⟨b1, o1, none⟩) xs.length c3, _, .int .i64 ((0 : Nat) : Int), _, _, _, _, _, _, _, _, _, _, _, _, _, _, _, _, _, _, _, _, _, _, _, _, _, _, _, _, _, .int .i64 ((0 : Nat) : Int), .bool false, .bool false, undef, _, _, _, _, _, _, _, _, _, _, _, _, _, _, _, _, _, _, _, _, _, _, _, _, _, _, _, _, _, _, _, _, _, _, _, _], []⟩ _
        refine wpAnyH_take (i := 4) (v := undef) rfl (by kernel_rfl) (by kernel_rfl) (by kernel_rfl) (fun _ _ _ h => h) (Or.inr ⟨by rfl, rfl⟩) hHeld ?_
        change wpAnyH _ _ _ _ _ _ _ ⟨#[_, _, _, _, _, _, .pointer (some ⟨h + 2, 0, none⟩), _, _, .slice (some ⟨b1, o1, none⟩) xs.length c3, _, .int .i64 ((0 : Nat) : Int), _, _, _, _, _, _, _, _, _, _, _, _, _, _, _, _, _, _, _, _, _, _, _, _, _, _, _, _, _, .int .i64 ((0 : Nat) : Int), .bool false, .bool false, undef, undef, _, _, _, _, _, _, _, _, _, _, _, _, _, _, _, _, _, _, _, _, _, _, _, _, _, _, _, _, _, _, _, _, _, _, _], []⟩ _
        refine wpAnyH_take (i := 5) (v := undef) rfl (by kernel_rfl) (by kernel_rfl) (by kernel_rfl) (fun _ _ _ h => h) (Or.inr ⟨by rfl, rfl⟩) hHeld ?_
        change wpAnyH _ _ _ _ _ _ _ ⟨#[_, _, _, _, _, _, .pointer (some ⟨h + 2, 0, none⟩), _, _, .slice (some ⟨b1, o1, none⟩) xs.length c3, _, .int .i64 ((0 : Nat) : Int), _, _, _, _, _, _, _, _, _, _, _, _, _, _, _, _, _, _, _, _, _, _, _, _, _, _, _, _, _, .int .i64 ((0 : Nat) : Int), .bool false, .bool false, undef, undef, undef, _, _, _, _, _, _, _, _, _, _, _, _, _, _, _, _, _, _, _, _, _, _, _, _, _, _, _, _, _, _, _, _, _, _], []⟩ _
        refine wpAnyH_take (i := 6) (v := undef) rfl (by kernel_rfl) (by kernel_rfl) (by kernel_rfl) (fun _ _ _ h => h) (Or.inr ⟨by rfl, rfl⟩) hHeld ?_
        change wpAnyH _ _ _ _ _ _ _ ⟨#[_, _, _, _, _, _, .pointer (some ⟨h + 2, 0, none⟩), _, _, .slice (some ⟨b1, o1, none⟩) xs.length c3, _, .int .i64 ((0 : Nat) : Int), _, _, _, _, _, _, _, _, _, _, _, _, _, _, _, _, _, _, _, _, _, _, _, _, _, _, _, _, _, .int .i64 ((0 : Nat) : Int), .bool false, .bool false, undef, undef, undef, undef, _, _, _, _, _, _, _, _, _, _, _, _, _, _, _, _, _, _, _, _, _, _, _, _, _, _, _, _, _, _, _, _, _], []⟩ _
        refine wpAnyH_take (i := 7) (v := undef) rfl (by kernel_rfl) (by kernel_rfl) (by kernel_rfl) (fun _ _ _ h => h) (Or.inr ⟨by rfl, rfl⟩) hHeld ?_
        change wpAnyH _ _ _ _ _ _ _ ⟨#[_, _, _, _, _, _, .pointer (some ⟨h + 2, 0, none⟩), _, _, .slice (some ⟨b1, o1, none⟩) xs.length c3, _, .int .i64 ((0 : Nat) : Int), _, _, _, _, _, _, _, _, _, _, _, _, _, _, _, _, _, _, _, _, _, _, _, _, _, _, _, _, _, .int .i64 ((0 : Nat) : Int), .bool false, .bool false, undef, undef, undef, undef, undef, _, _, _, _, _, _, _, _, _, _, _, _, _, _, _, _, _, _, _, _, _, _, _, _, _, _, _, _, _, _, _, _], []⟩ _
        refine wpAnyH_take (i := 8) (v := undef) rfl (by kernel_rfl) (by kernel_rfl) (by kernel_rfl) (fun _ _ _ h => h) (Or.inr ⟨by rfl, rfl⟩) hHeld ?_
        change wpAnyH _ _ _ _ _ _ _ ⟨#[_, _, _, _, _, _, .pointer (some ⟨h + 2, 0, none⟩), _, _, .slice (some ⟨b1, o1, none⟩) xs.length c3, _, .int .i64 ((0 : Nat) : Int), _, _, _, _, _, _, _, _, _, _, _, _, _, _, _, _, _, _, _, _, _, _, _, _, _, _, _, _, _, .int .i64 ((0 : Nat) : Int), .bool false, .bool false, undef, undef, undef, undef, undef, undef, _, _, _, _, _, _, _, _, _, _, _, _, _, _, _, _, _, _, _, _, _, _, _, _, _, _, _, _, _, _, _], []⟩ _
        refine wpAnyH_take (i := 9) (v := undef) rfl (by kernel_rfl) (by kernel_rfl) (by kernel_rfl) (fun _ _ _ h => h) (Or.inr ⟨by rfl, rfl⟩) hHeld ?_
        change wpAnyH _ _ _ _ _ _ _ ⟨#[_, _, _, _, _, _, .pointer (some ⟨h + 2, 0, none⟩), _, _, .slice (some ⟨b1, o1, none⟩) xs.length c3, _, .int .i64 ((0 : Nat) : Int), _, _, _, _, _, _, _, _, _, _, _, _, _, _, _, _, _, _, _, _, _, _, _, _, _, _, _, _, _, .int .i64 ((0 : Nat) : Int), .bool false, .bool false, undef, undef, undef, undef, undef, undef, undef, _, _, _, _, _, _, _, _, _, _, _, _, _, _, _, _, _, _, _, _, _, _, _, _, _, _, _, _, _, _], []⟩ _
        refine wpAnyH_take (i := 10) (v := undef) rfl (by kernel_rfl) (by kernel_rfl) (by kernel_rfl) (fun _ _ _ h => h) (Or.inr ⟨by rfl, rfl⟩) hHeld ?_
        change wpAnyH _ _ _ _ _ _ _ ⟨#[_, _, _, _, _, _, .pointer (some ⟨h + 2, 0, none⟩), _, _, .slice (some ⟨b1, o1, none⟩) xs.length c3, _, .int .i64 ((0 : Nat) : Int), _, _, _, _, _, _, _, _, _, _, _, _, _, _, _, _, _, _, _, _, _, _, _, _, _, _, _, _, _, .int .i64 ((0 : Nat) : Int), .bool false, .bool false, undef, undef, undef, undef, undef, undef, undef, undef, _, _, _, _, _, _, _, _, _, _, _, _, _, _, _, _, _, _, _, _, _, _, _, _, _, _, _, _, _], []⟩ _
        refine wpAnyH_take (i := 11) (v := undef) rfl (by kernel_rfl) (by kernel_rfl) (by kernel_rfl) (fun _ _ _ h => h) (Or.inr ⟨by rfl, rfl⟩) hHeld ?_
        change wpAnyH _ _ _ _ _ _ _ ⟨#[_, _, _, _, _, _, .pointer (some ⟨h + 2, 0, none⟩), _, _, .slice (some ⟨b1, o1, none⟩) xs.length c3, _, .int .i64 ((0 : Nat) : Int), _, _, _, _, _, _, _, _, _, _, _, _, _, _, _, _, _, _, _, _, _, _, _, _, _, _, _, _, _, .int .i64 ((0 : Nat) : Int), .bool false, .bool false, undef, undef, undef, undef, undef, undef, undef, undef, undef, _, _, _, _, _, _, _, _, _, _, _, _, _, _, _, _, _, _, _, _, _, _, _, _, _, _, _, _], []⟩ _
        refine wpAnyH_take (i := 12) (v := undef) rfl (by kernel_rfl) (by kernel_rfl) (by kernel_rfl) (fun _ _ _ h => h) (Or.inr ⟨by rfl, rfl⟩) hHeld ?_
        change wpAnyH _ _ _ _ _ _ _ ⟨#[_, _, _, _, _, _, .pointer (some ⟨h + 2, 0, none⟩), _, _, .slice (some ⟨b1, o1, none⟩) xs.length c3, _, .int .i64 ((0 : Nat) : Int), _, _, _, _, _, _, _, _, _, _, _, _, _, _, _, _, _, _, _, _, _, _, _, _, _, _, _, _, _, .int .i64 ((0 : Nat) : Int), .bool false, .bool false, undef, undef, undef, undef, undef, undef, undef, undef, undef, undef, _, _, _, _, _, _, _, _, _, _, _, _, _, _, _, _, _, _, _, _, _, _, _, _, _, _, _], []⟩ _
        refine wpAnyH_take (i := 13) (v := .bool false) rfl (by kernel_rfl) (by kernel_rfl) (by kernel_rfl) (fun _ _ _ h => h) (Or.inl ⟨by rfl, ?_⟩) hHeld ?_
        · intro W hW; (try dsimp only at hW); go_simp
        change wpAnyH _ _ _ _ _ _ _ ⟨#[_, _, _, _, _, _, .pointer (some ⟨h + 2, 0, none⟩), _, _, .slice (some ⟨b1, o1, none⟩) xs.length c3, _, .int .i64 ((0 : Nat) : Int), _, _, _, _, _, _, _, _, _, _, _, _, _, _, _, _, _, _, _, _, _, _, _, _, _, _, _, _, _, .int .i64 ((0 : Nat) : Int), .bool false, .bool false, undef, undef, undef, undef, undef, undef, undef, undef, undef, undef, .bool false, _, _, _, _, _, _, _, _, _, _, _, _, _, _, _, _, _, _, _, _, _, _, _, _, _, _], []⟩ _
        refine wpAnyH_take (i := 14) (v := .bool false) rfl (by kernel_rfl) (by kernel_rfl) (by kernel_rfl) (fun _ _ _ h => h) (Or.inl ⟨by rfl, ?_⟩) hHeld ?_
        · intro W hW; (try dsimp only at hW); go_simp
        change wpAnyH _ _ _ _ _ _ _ ⟨#[_, _, _, _, _, _, .pointer (some ⟨h + 2, 0, none⟩), _, _, .slice (some ⟨b1, o1, none⟩) xs.length c3, _, .int .i64 ((0 : Nat) : Int), _, _, _, _, _, _, _, _, _, _, _, _, _, _, _, _, _, _, _, _, _, _, _, _, _, _, _, _, _, .int .i64 ((0 : Nat) : Int), .bool false, .bool false, undef, undef, undef, undef, undef, undef, undef, undef, undef, undef, .bool false, .bool false, _, _, _, _, _, _, _, _, _, _, _, _, _, _, _, _, _, _, _, _, _, _, _, _, _], []⟩ _
        refine wpAnyH_take (i := 15) (v := .pointer (some ⟨h + 2, 0, none⟩)) rfl (by kernel_rfl) (by kernel_rfl) (by kernel_rfl) (fun _ _ _ h => h) (Or.inl ⟨by rfl, ?_⟩) hHeld ?_
        · intro W hW; (try dsimp only at hW); go_simp
        change wpAnyH _ _ _ _ _ _ _ ⟨#[_, _, _, _, _, _, .pointer (some ⟨h + 2, 0, none⟩), _, _, .slice (some ⟨b1, o1, none⟩) xs.length c3, _, .int .i64 ((0 : Nat) : Int), _, _, _, _, _, _, _, _, _, _, _, _, _, _, _, _, _, _, _, _, _, _, _, _, _, _, _, _, _, .int .i64 ((0 : Nat) : Int), .bool false, .bool false, undef, undef, undef, undef, undef, undef, undef, undef, undef, undef, .bool false, .bool false, .pointer (some ⟨h + 2, 0, none⟩), _, _, _, _, _, _, _, _, _, _, _, _, _, _, _, _, _, _, _, _, _, _, _, _], []⟩ _
        refine wpAnyH_take (i := 16) (v := .slice (some ⟨b1, o1, none⟩) xs.length c3) rfl (by kernel_rfl) (by kernel_rfl) (by kernel_rfl) (fun _ _ _ h => h) (Or.inl ⟨by rfl, ?_⟩) hHeld ?_
        · intro W hW; (try dsimp only at hW); go_simp
        change wpAnyH _ _ _ _ _ _ _ ⟨#[_, _, _, _, _, _, .pointer (some ⟨h + 2, 0, none⟩), _, _, .slice (some ⟨b1, o1, none⟩) xs.length c3, _, .int .i64 ((0 : Nat) : Int), _, _, _, _, _, _, _, _, _, _, _, _, _, _, _, _, _, _, _, _, _, _, _, _, _, _, _, _, _, .int .i64 ((0 : Nat) : Int), .bool false, .bool false, undef, undef, undef, undef, undef, undef, undef, undef, undef, undef, .bool false, .bool false, .pointer (some ⟨h + 2, 0, none⟩), .slice (some ⟨b1, o1, none⟩) xs.length c3, _, _, _, _, _, _, _, _, _, _, _, _, _, _, _, _, _, _, _, _, _, _, _], []⟩ _
        refine wpAnyH_take (i := 17) (v := .int .i64 ((0 : Nat) : Int)) rfl (by kernel_rfl) (by kernel_rfl) (by kernel_rfl) (fun _ _ _ h => h) (Or.inl ⟨by rfl, ?_⟩) hHeld ?_
        · intro W hW; (try dsimp only at hW); go_simp
        change wpAnyH _ _ _ _ _ _ _ ⟨#[_, _, _, _, _, _, .pointer (some ⟨h + 2, 0, none⟩), _, _, .slice (some ⟨b1, o1, none⟩) xs.length c3, _, .int .i64 ((0 : Nat) : Int), _, _, _, _, _, _, _, _, _, _, _, _, _, _, _, _, _, _, _, _, _, _, _, _, _, _, _, _, _, .int .i64 ((0 : Nat) : Int), .bool false, .bool false, undef, undef, undef, undef, undef, undef, undef, undef, undef, undef, .bool false, .bool false, .pointer (some ⟨h + 2, 0, none⟩), .slice (some ⟨b1, o1, none⟩) xs.length c3, .int .i64 ((0 : Nat) : Int), _, _, _, _, _, _, _, _, _, _, _, _, _, _, _, _, _, _, _, _, _, _], []⟩ _
        refine wpAnyH_take (i := 18) (v := .pointer (some ⟨b1, o1, none⟩)) rfl (by kernel_rfl) (by kernel_rfl) (by kernel_rfl) (fun _ _ _ h => h) (Or.inl ⟨by rfl, ?_⟩) hHeld ?_
        · intro W hW; (try dsimp only at hW); go_simp
        change wpAnyH _ _ _ _ _ _ _ ⟨#[_, _, _, _, _, _, .pointer (some ⟨h + 2, 0, none⟩), _, _, .slice (some ⟨b1, o1, none⟩) xs.length c3, _, .int .i64 ((0 : Nat) : Int), _, _, _, _, _, _, _, _, _, _, _, _, _, _, _, _, _, _, _, _, _, _, _, _, _, _, _, _, _, .int .i64 ((0 : Nat) : Int), .bool false, .bool false, undef, undef, undef, undef, undef, undef, undef, undef, undef, undef, .bool false, .bool false, .pointer (some ⟨h + 2, 0, none⟩), .slice (some ⟨b1, o1, none⟩) xs.length c3, .int .i64 ((0 : Nat) : Int), .pointer (some ⟨b1, o1, none⟩), _, _, _, _, _, _, _, _, _, _, _, _, _, _, _, _, _, _, _, _, _], []⟩ _
        refine wpAnyH_take (i := 19) (v := .int .i64 X) rfl (by kernel_rfl) (by kernel_rfl) (by kernel_rfl) (fun _ _ _ h => h) (Or.inl ⟨by rfl, ?_⟩) hHeld ?_
        · intro W hW; (try dsimp only at hW); go_simp
        change wpAnyH _ _ _ _ _ _ _ ⟨#[_, _, _, _, _, _, .pointer (some ⟨h + 2, 0, none⟩), _, _, .slice (some ⟨b1, o1, none⟩) xs.length c3, _, .int .i64 ((0 : Nat) : Int), _, _, _, _, _, _, _, _, _, _, _, _, _, _, _, _, _, _, _, _, _, _, _, _, _, _, _, _, _, .int .i64 ((0 : Nat) : Int), .bool false, .bool false, undef, undef, undef, undef, undef, undef, undef, undef, undef, undef, .bool false, .bool false, .pointer (some ⟨h + 2, 0, none⟩), .slice (some ⟨b1, o1, none⟩) xs.length c3, .int .i64 ((0 : Nat) : Int), .pointer (some ⟨b1, o1, none⟩), .int .i64 X, _, _, _, _, _, _, _, _, _, _, _, _, _, _, _, _, _, _, _, _], []⟩ _
        refine wpAnyH_ready (rs := [20]) (by kernel_rfl) (by simp) ?_
        refine AllReadyH.cons rfl (fun K hK => ?_) AllReadyH.nil
        go_simp
        refine (members13 h T X _ ⟨by omega, by omega⟩ PX.out).mono ?_
        rintro e w4 ⟨ao4, c4, rfl, -, C4⟩
        have CC := hide C4
        have y1 : w4.cell? ⟨b1, o1, none⟩ = some (.int .i64 X) := (C4.cell (p := ⟨b1, o1, none⟩) IB.out).trans x1
        rw [hNN]
        clear C4
        refine hK.out _ _ y1 (fun hHeld => ?_)
        clear hK K
        change wpAnyH _ _ _ _ _ _ _ ⟨#[_, _, _, _, _, _, .pointer (some ⟨h + 2, 0, none⟩), _, _, .slice (some ⟨b1, o1, none⟩) xs.length c3, _, .int .i64 ((0 : Nat) : Int), _, _, _, _, _, _, _, _, _, _, _, _, _, _, _, _, _, _, _, _, _, _, _, _, _, _, _, _, _, .int .i64 ((0 : Nat) : Int), .bool false, .bool false, undef, undef, undef, undef, undef, undef, undef, undef, undef, undef, .bool false, .bool false, .pointer (some ⟨h + 2, 0, none⟩), .slice (some ⟨b1, o1, none⟩) xs.length c3, .int .i64 ((0 : Nat) : Int), .pointer (some ⟨b1, o1, none⟩), .int .i64 X, .slice ao4 NN c4, _, _, _, _, _, _, _, _, _, _, _, _, _, _, _, _, _, _, _], []⟩ _
        refine wpAnyH_take (i := 21) (v := .int .i64 NN) rfl (by kernel_rfl) (by kernel_rfl) (by kernel_rfl) (fun _ _ _ h => h) (Or.inl ⟨by rfl, ?_⟩) hHeld ?_
        · intro W hW; (try dsimp only at hW); go_simp
        change wpAnyH _ _ _ _ _ _ _ ⟨#[_, _, _, _, _, _, .pointer (some ⟨h + 2, 0, none⟩), _, _, .slice (some ⟨b1, o1, none⟩) xs.length c3, _, .int .i64 ((0 : Nat) : Int), _, _, _, _, _, _, _, _, _, _, _, _, _, _, _, _, _, _, _, _, _, _, _, _, _, _, _, _, _, .int .i64 ((0 : Nat) : Int), .bool false, .bool false, undef, undef, undef, undef, undef, undef, undef, undef, undef, undef, .bool false, .bool false, .pointer (some ⟨h + 2, 0, none⟩), .slice (some ⟨b1, o1, none⟩) xs.length c3, .int .i64 ((0 : Nat) : Int), .pointer (some ⟨b1, o1, none⟩), .int .i64 X, .slice ao4 NN c4, .int .i64 NN, _, _, _, _, _, _, _, _, _, _, _, _, _, _, _, _, _, _], []⟩ _
        refine wpAnyH_take (i := 22) (v := .bool false) rfl (by kernel_rfl) (by kernel_rfl) (by kernel_rfl) (fun _ _ _ h => h) (Or.inl ⟨by rfl, ?_⟩) hHeld ?_
        · intro W hW; (try dsimp only at hW); go_simp
        change wpAnyH _ _ _ _ _ _ _ ⟨#[_, _, _, _, _, _, .pointer (some ⟨h + 2, 0, none⟩), _, _, .slice (some ⟨b1, o1, none⟩) xs.length c3, _, .int .i64 ((0 : Nat) : Int), _, _, _, _, _, _, _, _, _, _, _, _, _, _, _, _, _, _, _, _, _, _, _, _, _, _, _, _, _, .int .i64 ((0 : Nat) : Int), .bool false, .bool false, undef, undef, undef, undef, undef, undef, undef, undef, undef, undef, .bool false, .bool false, .pointer (some ⟨h + 2, 0, none⟩), .slice (some ⟨b1, o1, none⟩) xs.length c3, .int .i64 ((0 : Nat) : Int), .pointer (some ⟨b1, o1, none⟩), .int .i64 X, .slice ao4 NN c4, .int .i64 NN, .bool false, _, _, _, _, _, _, _, _, _, _, _, _, _, _, _, _, _], []⟩ _
        refine wpAnyH_take (i := 23) (v := .bool false) rfl (by kernel_rfl) (by kernel_rfl) (by kernel_rfl) (fun _ _ _ h => h) (Or.inl ⟨by rfl, ?_⟩) hHeld ?_
        · intro W hW; (try dsimp only at hW); go_simp
        change wpAnyH _ _ _ _ _ _ _ ⟨#[_, _, _, _, _, _, .pointer (some ⟨h + 2, 0, none⟩), _, _, .slice (some ⟨b1, o1, none⟩) xs.length c3, _, .int .i64 ((0 : Nat) : Int), _, _, _, _, _, _, _, _, _, _, _, _, _, _, _, _, _, _, _, _, _, _, _, _, _, _, _, _, _, .int .i64 ((0 : Nat) : Int), .bool false, .bool false, undef, undef, undef, undef, undef, undef, undef, undef, undef, undef, .bool false, .bool false, .pointer (some ⟨h + 2, 0, none⟩), .slice (some ⟨b1, o1, none⟩) xs.length c3, .int .i64 ((0 : Nat) : Int), .pointer (some ⟨b1, o1, none⟩), .int .i64 X, .slice ao4 NN c4, .int .i64 NN, .bool false, .bool false, _, _, _, _, _, _, _, _, _, _, _, _, _, _, _, _], []⟩ _
        refine wpAnyH_done (by kernel_rfl) ?_ _
        clear hHeld x1
        cases bb
        · go_wp2
          go_roundw
          case rel => exact ⟨0 + 1, hlt, by rw [HN.out]; rfl, by go_num, belowOn BD.out CC.out⟩
          case measure => simp [intOf]; omega
        · go_wp2
          go_roundw
          case rel => exact ⟨0 + 1, hlt, by rw [HN.out]; rfl, by go_num, belowOn BD.out CC.out⟩
          case measure => simp [intOf]; omega
      · obtain ⟨j, hj⟩ : ∃ j, k = j + 1 := ⟨k - 1, by omega⟩
        have x0 := hc1 j (by omega)
        have hst : xs.getD j 0 < xs.getD k 0 := by
          subst hj
          exact rises so.out hlt
        clear hc1 hB P4 I5 hX
        generalize xs.getD k 0 = X at *
        generalize xs.getD j 0 = Y at *
        have hz : (((mbs T.l X T.n).length : Int) == 0) = false := by rw [beq_eq_false_iff_ne]; omega
        generalize hNN : (mbs T.l X T.n).length = NN at *
        have e9 : ¬ (X ≤ Y) := by omega
        have e8 : decide (X ≤ Y) = false := by simp; omega
        have j0 : decide ((0 : Int) < (k : Int)) = true := by simp; omega
        have j4 : ((0 : Int) < (k : Int)) := by omega
        have j1 : ((j : Int) < xs.length) := by omega
        have w9 : IntKind.i64.wrap ((k : Int) - 1) = (j : Int) := by
          rw [IntWalk.i64_in _ (by omega)]
          omega
        have IB : Hid (b1 < wr.drew.heap.size) := hide (World.block_lt_of_cell? _ _ x1)
        have j2 : (0 : Int) ≤ (j : Int) := by omega
        have j3 : (0 : Int) ≤ (k : Int) := by omega
        have HJ := hide hj
        clear m2 hst hj
        go_wp2_with fail
        refine wp_region_held_drew (S := fun w' => w'.cell? ⟨b1, o1 + k, none⟩ = some (.int .i64 X) ∧ w'.cell? ⟨b1, o1 + j, none⟩ = some (.int .i64 Y)) (by kernel_rfl) ⟨x1, x0⟩ (fun hHeld => ?_)
        refine wpAnyH_take (i := 0) (v := .int .i64 k) rfl (by kernel_rfl) (by kernel_rfl) (by kernel_rfl) (fun _ _ _ h => h) (Or.inl ⟨by rfl, ?_⟩) hHeld ?_
        · intro W hW; (try dsimp only at hW); go_simp
        change wpAnyH _ _ _ _ _ _ _ ⟨#[_, _, _, _, _, _, .pointer (some ⟨h + 2, 0, none⟩), _, _, .slice (some ⟨b1, o1, none⟩) xs.length c3, _, .int .i64 k, _, _, _, _, _, _, _, _, _, _, _, _, _, _, _, _, _, _, _, _, _, _, _, _, _, _, _, _, _, .int .i64 k, _, _, _, _, _, _, _, _, _, _, _, _, _, _, _, _, _, _, _, _, _, _, _, _, _, _, _, _, _, _, _, _, _, _, _, _, _, _, _], []⟩ _
        refine wpAnyH_take (i := 1) (v := .bool true) rfl (by kernel_rfl) (by kernel_rfl) (by kernel_rfl) (fun _ _ _ h => h) (Or.inl ⟨by rfl, ?_⟩) hHeld ?_
        · intro W hW; (try dsimp only at hW); go_simp; omega
        change wpAnyH _ _ _ _ _ _ _ ⟨#[_, _, _, _, _, _, .pointer (some ⟨h + 2, 0, none⟩), _, _, .slice (some ⟨b1, o1, none⟩) xs.length c3, _, .int .i64 k, _, _, _, _, _, _, _, _, _, _, _, _, _, _, _, _, _, _, _, _, _, _, _, _, _, _, _, _, _, .int .i64 k, .bool true, _, _, _, _, _, _, _, _, _, _, _, _, _, _, _, _, _, _, _, _, _, _, _, _, _, _, _, _, _, _, _, _, _, _, _, _, _, _], []⟩ _
        refine wpAnyH_take (i := 2) (v := .bool true) rfl (by kernel_rfl) (by kernel_rfl) (by kernel_rfl) (fun _ _ _ h => h) (Or.inl ⟨by rfl, ?_⟩) hHeld ?_
        · intro W hW; (try dsimp only at hW); go_simp
        change wpAnyH _ _ _ _ _ _ _ ⟨#[_, _, _, _, _, _, .pointer (some ⟨h + 2, 0, none⟩), _, _, .slice (some ⟨b1, o1, none⟩) xs.length c3, _, .int .i64 k, _, _, _, _, _, _, _, _, _, _, _, _, _, _, _, _, _, _, _, _, _, _, _, _, _, _, _, _, _, .int .i64 k, .bool true, .bool true, _, _, _, _, _, _, _, _, _, _, _, _, _, _, _, _, _, _, _, _, _, _, _, _, _, _, _, _, _, _, _, _, _, _, _, _, _], []⟩ _
        refine wpAnyH_take (i := 3) (v := .slice (some ⟨b1, o1, none⟩) xs.length c3) rfl (by kernel_rfl) (by kernel_rfl) (by kernel_rfl) (fun _ _ _ h => h) (Or.inl ⟨by rfl, ?_⟩) hHeld ?_
        · intro W hW; (try dsimp only at hW); go_simp
        change wpAnyH _ _ _ _ _ _ _ ⟨#[_, _, _, _, _, _, .pointer (some ⟨h + 2, 0, none⟩), _, _, .slice (some ⟨b1, o1, none⟩) xs.length c3, _, .int .i64 k, _, _, _, _, _, _, _, _, _, _, _, _, _, _, _, _, _, _, _, _, _, _, _, _, _, _, _, _, _, .int .i64 k, .bool true, .bool true, .slice (some ⟨b1, o1, none⟩) xs.length c3, _, _, _, _, _, _, _, _, _, _, _, _, _, _, _, _, _, _, _, _, _, _, _, _, _, _, _, _, _, _, _, _, _, _, _, _], []⟩ _
        refine wpAnyH_take (i := 4) (v := .int .i64 k) rfl (by kernel_rfl) (by kernel_rfl) (by kernel_rfl) (fun _ _ _ h => h) (Or.inl ⟨by rfl, ?_⟩) hHeld ?_
        · intro W hW; (try dsimp only at hW); go_simp
        change wpAnyH _ _ _ _ _ _ _ ⟨#[_, _, _, _, _, _, .pointer (some ⟨h + 2, 0, none⟩), _, _, .slice (some ⟨b1, o1, none⟩) xs.length c3, _, .int .i64 k, _, _, _, _, _, _, _, _, _, _, _, _, _, _, _, _, _, _, _, _, _, _, _, _, _, _, _, _, _, .int .i64 k, .bool true, .bool true, .slice (some ⟨b1, o1, none⟩) xs.length c3, .int .i64 k, _, _, _, _, _, _, _, _, _, _, _, _, _, _, _, _, _, _, _, _, _, _, _, _, _, _, _, _, _, _, _, _, _, _, _], []⟩ _
        refine wpAnyH_take (i := 5) (v := .pointer (some ⟨b1, o1 + k, none⟩)) rfl (by kernel_rfl) (by kernel_rfl) (by kernel_rfl) (fun _ _ _ h => h) (Or.inl ⟨by rfl, ?_⟩) hHeld ?_
        · intro W hW; (try dsimp only at hW); go_simp
        change wpAnyH _ _ _ _ _ _ _ ⟨#[_, _, _, _, _, _, .pointer (some ⟨h + 2, 0, none⟩), _, _, .slice (some ⟨b1, o1, none⟩) xs.length c3, _, .int .i64 k, _, _, _, _, _, _, _, _, _, _, _, _, _, _, _, _, _, _, _, _, _, _, _, _, _, _, _, _, _, .int .i64 k, .bool true, .bool true, .slice (some ⟨b1, o1, none⟩) xs.length c3, .int .i64 k, .pointer (some ⟨b1, o1 + k, none⟩), _, _, _, _, _, _, _, _, _, _, _, _, _, _, _, _, _, _, _, _, _, _, _, _, _, _, _, _, _, _, _, _, _, _], []⟩ _
        refine wpAnyH_take (i := 6) (v := .int .i64 X) rfl (by kernel_rfl) (by kernel_rfl) (by kernel_rfl) (fun _ _ _ h => h) (Or.inl ⟨by rfl, ?_⟩) hHeld ?_
        · intro W hW; (try dsimp only at hW); obtain ⟨hW, hW2⟩ := hW; go_simp
        change wpAnyH _ _ _ _ _ _ _ ⟨#[_, _, _, _, _, _, .pointer (some ⟨h + 2, 0, none⟩), _, _, .slice (some ⟨b1, o1, none⟩) xs.length c3, _, .int .i64 k, _, _, _, _, _, _, _, _, _, _, _, _, _, _, _, _, _, _, _, _, _, _, _, _, _, _, _, _, _, .int .i64 k, .bool true, .bool true, .slice (some ⟨b1, o1, none⟩) xs.length c3, .int .i64 k, .pointer (some ⟨b1, o1 + k, none⟩), .int .i64 X, _, _, _, _, _, _, _, _, _, _, _, _, _, _, _, _, _, _, _, _, _, _, _, _, _, _, _, _, _, _, _, _, _], []⟩ _
        refine wpAnyH_take (i := 7) (v := .slice (some ⟨b1, o1, none⟩) xs.length c3) rfl (by kernel_rfl) (by kernel_rfl) (by kernel_rfl) (fun _ _ _ h => h) (Or.inl ⟨by rfl, ?_⟩) hHeld ?_
        · intro W hW; (try dsimp only at hW); go_simp
        change wpAnyH _ _ _ _ _ _ _ ⟨#[_, _, _, _, _, _, .pointer (some ⟨h + 2, 0, none⟩), _, _, .slice (some ⟨b1, o1, none⟩) xs.length c3, _, .int .i64 k, _, _, _, _, _, _, _, _, _, _, _, _, _, _, _, _, _, _, _, _, _, _, _, _, _, _, _, _, _, .int .i64 k, .bool true, .bool true, .slice (some ⟨b1, o1, none⟩) xs.length c3, .int .i64 k, .pointer (some ⟨b1, o1 + k, none⟩), .int .i64 X, .slice (some ⟨b1, o1, none⟩) xs.length c3, _, _, _, _, _, _, _, _, _, _, _, _, _, _, _, _, _, _, _, _, _, _, _, _, _, _, _, _, _, _, _, _], []⟩ _
        refine wpAnyH_take (i := 8) (v := .int .i64 k) rfl (by kernel_rfl) (by kernel_rfl) (by kernel_rfl) (fun _ _ _ h => h) (Or.inl ⟨by rfl, ?_⟩) hHeld ?_
        · intro W hW; (try dsimp only at hW); go_simp
        change wpAnyH _ _ _ _ _ _ _ ⟨#[_, _, _, _, _, _, .pointer (some ⟨h + 2, 0, none⟩), _, _, .slice (some ⟨b1, o1, none⟩) xs.length c3, _, .int .i64 k, _, _, _, _, _, _, _, _, _, _, _, _, _, _, _, _, _, _, _, _, _, _, _, _, _, _, _, _, _, .int .i64 k, .bool true, .bool true, .slice (some ⟨b1, o1, none⟩) xs.length c3, .int .i64 k, .pointer (some ⟨b1, o1 + k, none⟩), .int .i64 X, .slice (some ⟨b1, o1, none⟩) xs.length c3, .int .i64 k, _, _, _, _, _, _, _, _, _, _, _, _, _, _, _, _, _, _, _, _, _, _, _, _, _, _, _, _, _, _, _], []⟩ _
        refine wpAnyH_take (i := 9) (v := .int .i64 j) rfl (by kernel_rfl) (by kernel_rfl) (by kernel_rfl) (fun _ _ _ h => h) (Or.inl ⟨by rfl, ?_⟩) hHeld ?_
        · intro W hW; (try dsimp only at hW); go_simp
        change wpAnyH _ _ _ _ _ _ _ ⟨#[_, _, _, _, _, _, .pointer (some ⟨h + 2, 0, none⟩), _, _, .slice (some ⟨b1, o1, none⟩) xs.length c3, _, .int .i64 k, _, _, _, _, _, _, _, _, _, _, _, _, _, _, _, _, _, _, _, _, _, _, _, _, _, _, _, _, _, .int .i64 k, .bool true, .bool true, .slice (some ⟨b1, o1, none⟩) xs.length c3, .int .i64 k, .pointer (some ⟨b1, o1 + k, none⟩), .int .i64 X, .slice (some ⟨b1, o1, none⟩) xs.length c3, .int .i64 k, .int .i64 j, _, _, _, _, _, _, _, _, _, _, _, _, _, _, _, _, _, _, _, _, _, _, _, _, _, _, _, _, _, _], []⟩ _
        refine wpAnyH_take (i := 10) (v := .pointer (some ⟨b1, o1 + j, none⟩)) rfl (by kernel_rfl) (by kernel_rfl) (by kernel_rfl) (fun _ _ _ h => h) (Or.inl ⟨by rfl, ?_⟩) hHeld ?_
        · intro W hW; (try dsimp only at hW); go_simp
        change wpAnyH _ _ _ _ _ _ _ ⟨#[_, _, _, _, _, _, .pointer (some ⟨h + 2, 0, none⟩), _, _, .slice (some ⟨b1, o1, none⟩) xs.length c3, _, .int .i64 k, _, _, _, _, _, _, _, _, _, _, _, _, _, _, _, _, _, _, _, _, _, _, _, _, _, _, _, _, _, .int .i64 k, .bool true, .bool true, .slice (some ⟨b1, o1, none⟩) xs.length c3, .int .i64 k, .pointer (some ⟨b1, o1 + k, none⟩), .int .i64 X, .slice (some ⟨b1, o1, none⟩) xs.length c3, .int .i64 k, .int .i64 j, .pointer (some ⟨b1, o1 + j, none⟩), _, _, _, _, _, _, _, _, _, _, _, _, _, _, _, _, _, _, _, _, _, _, _, _, _, _, _, _, _], []⟩ _
        refine wpAnyH_take (i := 11) (v := .int .i64 Y) rfl (by kernel_rfl) (by kernel_rfl) (by kernel_rfl) (fun _ _ _ h => h) (Or.inl ⟨by rfl, ?_⟩) hHeld ?_
        · intro W hW; (try dsimp only at hW); obtain ⟨hW, hW2⟩ := hW; go_simp
        change wpAnyH _ _ _ _ _ _ _ ⟨#[_, _, _, _, _, _, .pointer (some ⟨h + 2, 0, none⟩), _, _, .slice (some ⟨b1, o1, none⟩) xs.length c3, _, .int .i64 k, _, _, _, _, _, _, _, _, _, _, _, _, _, _, _, _, _, _, _, _, _, _, _, _, _, _, _, _, _, .int .i64 k, .bool true, .bool true, .slice (some ⟨b1, o1, none⟩) xs.length c3, .int .i64 k, .pointer (some ⟨b1, o1 + k, none⟩), .int .i64 X, .slice (some ⟨b1, o1, none⟩) xs.length c3, .int .i64 k, .int .i64 j, .pointer (some ⟨b1, o1 + j, none⟩), .int .i64 Y, _, _, _, _, _, _, _, _, _, _, _, _, _, _, _, _, _, _, _, _, _, _, _, _, _, _, _, _], []⟩ _
        refine wpAnyH_take (i := 12) (v := .bool false) rfl (by kernel_rfl) (by kernel_rfl) (by kernel_rfl) (fun _ _ _ h => h) (Or.inl ⟨by rfl, ?_⟩) hHeld ?_
        · intro W hW; (try dsimp only at hW); go_simp
        change wpAnyH _ _ _ _ _ _ _ ⟨#[_, _, _, _, _, _, .pointer (some ⟨h + 2, 0, none⟩), _, _, .slice (some ⟨b1, o1, none⟩) xs.length c3, _, .int .i64 k, _, _, _, _, _, _, _, _, _, _, _, _, _, _, _, _, _, _, _, _, _, _, _, _, _, _, _, _, _, .int .i64 k, .bool true, .bool true, .slice (some ⟨b1, o1, none⟩) xs.length c3, .int .i64 k, .pointer (some ⟨b1, o1 + k, none⟩), .int .i64 X, .slice (some ⟨b1, o1, none⟩) xs.length c3, .int .i64 k, .int .i64 j, .pointer (some ⟨b1, o1 + j, none⟩), .int .i64 Y, .bool false, _, _, _, _, _, _, _, _, _, _, _, _, _, _, _, _, _, _, _, _, _, _, _, _, _, _, _], []⟩ _
        refine wpAnyH_take (i := 13) (v := .bool false) rfl (by kernel_rfl) (by kernel_rfl) (by kernel_rfl) (fun _ _ _ h => h) (Or.inl ⟨by rfl, ?_⟩) hHeld ?_
        · intro W hW; (try dsimp only at hW); go_simp
        change wpAnyH _ _ _ _ _ _ _ ⟨#[_, _, _, _, _, _, .pointer (some ⟨h + 2, 0, none⟩), _, _, .slice (some ⟨b1, o1, none⟩) xs.length c3, _, .int .i64 k, _, _, _, _, _, _, _, _, _, _, _, _, _, _, _, _, _, _, _, _, _, _, _, _, _, _, _, _, _, .int .i64 k, .bool true, .bool true, .slice (some ⟨b1, o1, none⟩) xs.length c3, .int .i64 k, .pointer (some ⟨b1, o1 + k, none⟩), .int .i64 X, .slice (some ⟨b1, o1, none⟩) xs.length c3, .int .i64 k, .int .i64 j, .pointer (some ⟨b1, o1 + j, none⟩), .int .i64 Y, .bool false, .bool false, _, _, _, _, _, _, _, _, _, _, _, _, _, _, _, _, _, _, _, _, _, _, _, _, _, _], []⟩ _
        refine wpAnyH_take (i := 14) (v := .bool false) rfl (by kernel_rfl) (by kernel_rfl) (by kernel_rfl) (fun _ _ _ h => h) (Or.inl ⟨by rfl, ?_⟩) hHeld ?_
        · intro W hW; (try dsimp only at hW); go_simp
        change wpAnyH _ _ _ _ _ _ _ ⟨#[_, _, _, _, _, _, .pointer (some ⟨h + 2, 0, none⟩), _, _, .slice (some ⟨b1, o1, none⟩) xs.length c3, _, .int .i64 k, _, _, _, _, _, _, _, _, _, _, _, _, _, _, _, _, _, _, _, _, _, _, _, _, _, _, _, _, _, .int .i64 k, .bool true, .bool true, .slice (some ⟨b1, o1, none⟩) xs.length c3, .int .i64 k, .pointer (some ⟨b1, o1 + k, none⟩), .int .i64 X, .slice (some ⟨b1, o1, none⟩) xs.length c3, .int .i64 k, .int .i64 j, .pointer (some ⟨b1, o1 + j, none⟩), .int .i64 Y, .bool false, .bool false, .bool false, _, _, _, _, _, _, _, _, _, _, _, _, _, _, _, _, _, _, _, _, _, _, _, _, _], []⟩ _
        refine wpAnyH_take (i := 15) (v := .pointer (some ⟨h + 2, 0, none⟩)) rfl (by kernel_rfl) (by kernel_rfl) (by kernel_rfl) (fun _ _ _ h => h) (Or.inl ⟨by rfl, ?_⟩) hHeld ?_
        · intro W hW; (try dsimp only at hW); go_simp
        change wpAnyH _ _ _ _ _ _ _ ⟨#[_, _, _, _, _, _, .pointer (some ⟨h + 2, 0, none⟩), _, _, .slice (some ⟨b1, o1, none⟩) xs.length c3, _, .int .i64 k, _, _, _, _, _, _, _, _, _, _, _, _, _, _, _, _, _, _, _, _, _, _, _, _, _, _, _, _, _, .int .i64 k, .bool true, .bool true, .slice (some ⟨b1, o1, none⟩) xs.length c3, .int .i64 k, .pointer (some ⟨b1, o1 + k, none⟩), .int .i64 X, .slice (some ⟨b1, o1, none⟩) xs.length c3, .int .i64 k, .int .i64 j, .pointer (some ⟨b1, o1 + j, none⟩), .int .i64 Y, .bool false, .bool false, .bool false, .pointer (some ⟨h + 2, 0, none⟩), _, _, _, _, _, _, _, _, _, _, _, _, _, _, _, _, _, _, _, _, _, _, _, _], []⟩ _
        refine wpAnyH_take (i := 16) (v := .slice (some ⟨b1, o1, none⟩) xs.length c3) rfl (by kernel_rfl) (by kernel_rfl) (by kernel_rfl) (fun _ _ _ h => h) (Or.inl ⟨by rfl, ?_⟩) hHeld ?_
        · intro W hW; (try dsimp only at hW); go_simp
        change wpAnyH _ _ _ _ _ _ _ ⟨#[_, _, _, _, _, _, .pointer (some ⟨h + 2, 0, none⟩), _, _, .slice (some ⟨b1, o1, none⟩) xs.length c3, _, .int .i64 k, _, _, _, _, _, _, _, _, _, _, _, _, _, _, _, _, _, _, _, _, _, _, _, _, _, _, _, _, _, .int .i64 k, .bool true, .bool true, .slice (some ⟨b1, o1, none⟩) xs.length c3, .int .i64 k, .pointer (some ⟨b1, o1 + k, none⟩), .int .i64 X, .slice (some ⟨b1, o1, none⟩) xs.length c3, .int .i64 k, .int .i64 j, .pointer (some ⟨b1, o1 + j, none⟩), .int .i64 Y, .bool false, .bool false, .bool false, .pointer (some ⟨h + 2, 0, none⟩), .slice (some ⟨b1, o1, none⟩) xs.length c3, _, _, _, _, _, _, _, _, _, _, _, _, _, _, _, _, _, _, _, _, _, _, _], []⟩ _
        refine wpAnyH_take (i := 17) (v := .int .i64 k) rfl (by kernel_rfl) (by kernel_rfl) (by kernel_rfl) (fun _ _ _ h => h) (Or.inl ⟨by rfl, ?_⟩) hHeld ?_
        · intro W hW; (try dsimp only at hW); go_simp
        change wpAnyH _ _ _ _ _ _ _ ⟨#[_, _, _, _, _, _, .pointer (some ⟨h + 2, 0, none⟩), _, _, .slice (some ⟨b1, o1, none⟩) xs.length c3, _, .int .i64 k, _, _, _, _, _, _, _, _, _, _, _, _, _, _, _, _, _, _, _, _, _, _, _, _, _, _, _, _, _, .int .i64 k, .bool true, .bool true, .slice (some ⟨b1, o1, none⟩) xs.length c3, .int .i64 k, .pointer (some ⟨b1, o1 + k, none⟩), .int .i64 X, .slice (some ⟨b1, o1, none⟩) xs.length c3, .int .i64 k, .int .i64 j, .pointer (some ⟨b1, o1 + j, none⟩), .int .i64 Y, .bool false, .bool false, .bool false, .pointer (some ⟨h + 2, 0, none⟩), .slice (some ⟨b1, o1, none⟩) xs.length c3, .int .i64 k, _, _, _, _, _, _, _, _, _, _, _, _, _, _, _, _, _, _, _, _, _, _], []⟩ _
        refine wpAnyH_take (i := 18) (v := .pointer (some ⟨b1, o1 + k, none⟩)) rfl (by kernel_rfl) (by kernel_rfl) (by kernel_rfl) (fun _ _ _ h => h) (Or.inl ⟨by rfl, ?_⟩) hHeld ?_
        · intro W hW; (try dsimp only at hW); go_simp
        change wpAnyH _ _ _ _ _ _ _ ⟨#[_, _, _, _, _, _, .pointer (some ⟨h + 2, 0, none⟩), _, _, .slice (some ⟨b1, o1, none⟩) xs.length c3, _, .int .i64 k, _, _, _, _, _, _, _, _, _, _, _, _, _, _, _, _, _, _, _, _, _, _, _, _, _, _, _, _, _, .int .i64 k, .bool true, .bool true, .slice (some ⟨b1, o1, none⟩) xs.length c3, .int .i64 k, .pointer (some ⟨b1, o1 + k, none⟩), .int .i64 X, .slice (some ⟨b1, o1, none⟩) xs.length c3, .int .i64 k, .int .i64 j, .pointer (some ⟨b1, o1 + j, none⟩), .int .i64 Y, .bool false, .bool false, .bool false, .pointer (some ⟨h + 2, 0, none⟩), .slice (some ⟨b1, o1, none⟩) xs.length c3, .int .i64 k, .pointer (some ⟨b1, o1 + k, none⟩), _, _, _, _, _, _, _, _, _, _, _, _, _, _, _, _, _, _, _, _, _], []⟩ _
        refine wpAnyH_take (i := 19) (v := .int .i64 X) rfl (by kernel_rfl) (by kernel_rfl) (by kernel_rfl) (fun _ _ _ h => h) (Or.inl ⟨by rfl, ?_⟩) hHeld ?_
        · intro W hW; (try dsimp only at hW); obtain ⟨hW, hW2⟩ := hW; go_simp
        change wpAnyH _ _ _ _ _ _ _ ⟨#[_, _, _, _, _, _, .pointer (some ⟨h + 2, 0, none⟩), _, _, .slice (some ⟨b1, o1, none⟩) xs.length c3, _, .int .i64 k, _, _, _, _, _, _, _, _, _, _, _, _, _, _, _, _, _, _, _, _, _, _, _, _, _, _, _, _, _, .int .i64 k, .bool true, .bool true, .slice (some ⟨b1, o1, none⟩) xs.length c3, .int .i64 k, .pointer (some ⟨b1, o1 + k, none⟩), .int .i64 X, .slice (some ⟨b1, o1, none⟩) xs.length c3, .int .i64 k, .int .i64 j, .pointer (some ⟨b1, o1 + j, none⟩), .int .i64 Y, .bool false, .bool false, .bool false, .pointer (some ⟨h + 2, 0, none⟩), .slice (some ⟨b1, o1, none⟩) xs.length c3, .int .i64 k, .pointer (some ⟨b1, o1 + k, none⟩), .int .i64 X, _, _, _, _, _, _, _, _, _, _, _, _, _, _, _, _, _, _, _, _], []⟩ _
        refine wpAnyH_ready (rs := [20]) (by kernel_rfl) (by simp) ?_
        refine AllReadyH.cons rfl (fun K hK => ?_) AllReadyH.nil
        go_simp
        refine (members13 h T X _ ⟨by omega, by omega⟩ PX.out).mono ?_
        rintro e w4 ⟨ao4, c4, rfl, -, C4⟩
        have CC := hide C4
        have y1 : w4.cell? ⟨b1, o1 + k, none⟩ = some (.int .i64 X) := (C4.cell (p := ⟨b1, o1 + k, none⟩) IB.out).trans x1
        have y0 : w4.cell? ⟨b1, o1 + j, none⟩ = some (.int .i64 Y) := (C4.cell (p := ⟨b1, o1 + j, none⟩) IB.out).trans x0
        rw [hNN]
        clear C4
        refine hK.out _ _ ⟨y1, y0⟩ (fun hHeld => ?_)
        clear hK K
        change wpAnyH _ _ _ _ _ _ _ ⟨#[_, _, _, _, _, _, .pointer (some ⟨h + 2, 0, none⟩), _, _, .slice (some ⟨b1, o1, none⟩) xs.length c3, _, .int .i64 k, _, _, _, _, _, _, _, _, _, _, _, _, _, _, _, _, _, _, _, _, _, _, _, _, _, _, _, _, _, .int .i64 k, .bool true, .bool true, .slice (some ⟨b1, o1, none⟩) xs.length c3, .int .i64 k, .pointer (some ⟨b1, o1 + k, none⟩), .int .i64 X, .slice (some ⟨b1, o1, none⟩) xs.length c3, .int .i64 k, .int .i64 j, .pointer (some ⟨b1, o1 + j, none⟩), .int .i64 Y, .bool false, .bool false, .bool false, .pointer (some ⟨h + 2, 0, none⟩), .slice (some ⟨b1, o1, none⟩) xs.length c3, .int .i64 k, .pointer (some ⟨b1, o1 + k, none⟩), .int .i64 X, .slice ao4 NN c4, _, _, _, _, _, _, _, _, _, _, _, _, _, _, _, _, _, _, _], []⟩ _
        refine wpAnyH_take (i := 21) (v := .int .i64 NN) rfl (by kernel_rfl) (by kernel_rfl) (by kernel_rfl) (fun _ _ _ h => h) (Or.inl ⟨by rfl, ?_⟩) hHeld ?_
        · intro W hW; (try dsimp only at hW); go_simp
        change wpAnyH _ _ _ _ _ _ _ ⟨#[_, _, _, _, _, _, .pointer (some ⟨h + 2, 0, none⟩), _, _, .slice (some ⟨b1, o1, none⟩) xs.length c3, _, .int .i64 k, _, _, _, _, _, _, _, _, _, _, _, _, _, _, _, _, _, _, _, _, _, _, _, _, _, _, _, _, _, .int .i64 k, .bool true, .bool true, .slice (some ⟨b1, o1, none⟩) xs.length c3, .int .i64 k, .pointer (some ⟨b1, o1 + k, none⟩), .int .i64 X, .slice (some ⟨b1, o1, none⟩) xs.length c3, .int .i64 k, .int .i64 j, .pointer (some ⟨b1, o1 + j, none⟩), .int .i64 Y, .bool false, .bool false, .bool false, .pointer (some ⟨h + 2, 0, none⟩), .slice (some ⟨b1, o1, none⟩) xs.length c3, .int .i64 k, .pointer (some ⟨b1, o1 + k, none⟩), .int .i64 X, .slice ao4 NN c4, .int .i64 NN, _, _, _, _, _, _, _, _, _, _, _, _, _, _, _, _, _, _], []⟩ _
        refine wpAnyH_take (i := 22) (v := .bool false) rfl (by kernel_rfl) (by kernel_rfl) (by kernel_rfl) (fun _ _ _ h => h) (Or.inl ⟨by rfl, ?_⟩) hHeld ?_
        · intro W hW; (try dsimp only at hW); go_simp
        change wpAnyH _ _ _ _ _ _ _ ⟨#[_, _, _, _, _, _, .pointer (some ⟨h + 2, 0, none⟩), _, _, .slice (some ⟨b1, o1, none⟩) xs.length c3, _, .int .i64 k, _, _, _, _, _, _, _, _, _, _, _, _, _, _, _, _, _, _, _, _, _, _, _, _, _, _, _, _, _, .int .i64 k, .bool true, .bool true, .slice (some ⟨b1, o1, none⟩) xs.length c3, .int .i64 k, .pointer (some ⟨b1, o1 + k, none⟩), .int .i64 X, .slice (some ⟨b1, o1, none⟩) xs.length c3, .int .i64 k, .int .i64 j, .pointer (some ⟨b1, o1 + j, none⟩), .int .i64 Y, .bool false, .bool false, .bool false, .pointer (some ⟨h + 2, 0, none⟩), .slice (some ⟨b1, o1, none⟩) xs.length c3, .int .i64 k, .pointer (some ⟨b1, o1 + k, none⟩), .int .i64 X, .slice ao4 NN c4, .int .i64 NN, .bool false, _, _, _, _, _, _, _, _, _, _, _, _, _, _, _, _, _], []⟩ _
        refine wpAnyH_take (i := 23) (v := .bool false) rfl (by kernel_rfl) (by kernel_rfl) (by kernel_rfl) (fun _ _ _ h => h) (Or.inl ⟨by rfl, ?_⟩) hHeld ?_
        · intro W hW; (try dsimp only at hW); go_simp
        change wpAnyH _ _ _ _ _ _ _ ⟨#[_, _, _, _, _, _, .pointer (some ⟨h + 2, 0, none⟩), _, _, .slice (some ⟨b1, o1, none⟩) xs.length c3, _, .int .i64 k, _, _, _, _, _, _, _, _, _, _, _, _, _, _, _, _, _, _, _, _, _, _, _, _, _, _, _, _, _, .int .i64 k, .bool true, .bool true, .slice (some ⟨b1, o1, none⟩) xs.length c3, .int .i64 k, .pointer (some ⟨b1, o1 + k, none⟩), .int .i64 X, .slice (some ⟨b1, o1, none⟩) xs.length c3, .int .i64 k, .int .i64 j, .pointer (some ⟨b1, o1 + j, none⟩), .int .i64 Y, .bool false, .bool false, .bool false, .pointer (some ⟨h + 2, 0, none⟩), .slice (some ⟨b1, o1, none⟩) xs.length c3, .int .i64 k, .pointer (some ⟨b1, o1 + k, none⟩), .int .i64 X, .slice ao4 NN c4, .int .i64 NN, .bool false, .bool false, _, _, _, _, _, _, _, _, _, _, _, _, _, _, _, _], []⟩ _
        refine wpAnyH_done (by kernel_rfl) ?_ _
        clear hHeld x1 x0
        cases bb
        · go_wp2
          go_roundw
          case rel => exact ⟨k + 1, hlt, by rw [HN.out]; rfl, by go_num, belowOn BD.out CC.out⟩
          case measure => simp [intOf]; omega
        · go_wp2
          go_roundw
          case rel => exact ⟨k + 1, hlt, by rw [HN.out]; rfl, by go_num, belowOn BD.out CC.out⟩
          case measure => simp [intOf]; omega
    · obtain rfl : k = xs.length := by omega
      have HE : Hid (decide (v ∈ xs.take xs.length) = decide (0 < (mbs T.l v T.n).length)) := hide (by rw [List.take_length]; exact decide_eq_decide.2 (mv.out v))
      generalize decide (v ∈ xs.take xs.length) = bb at *
      have PX := hide (P3.out.on hB)
      have BB := hide (B3.out.trans (hB.mono (by have := hw1.out; omega)))
      clear hB P4 P3 B3 mv so bd I4
      go_wp2_with fail
      refine (members13 h T v _ HV.out PX.out).mono ?_
      rintro e w5 ⟨ao5, c5, rfl, -, C5⟩
      have BC := hide (BB.out.trans (C5.mono (by have := hw1.out; omega)))
      clear C5 BB PX
      generalize (mbs T.l v T.n).length = NN at *
      go_wp2
      go_ret
      exact ⟨ret_bool (by rw [HE.out]; simp), BC.out⟩
set_option maxRecDepth 100000 in
set_option maxHeartbeats 2000000 in
theorem vlanVlanslifted (os : Os) (started : os.Started) (H : Type) (enc : TypeId × Value → H) :
    ReturnsInHanded {} Try.checked os 9 .any (Rows.vlanVlansSpec.pre6 enc Try.prog Try.f9 Rows.vlanVlansRow.domain false) (Rows.vlanVlansSpec.post enc Try.prog Try.f9 false true false false) := by
  refine returnsInHanded_of_change (C := Try.checked) own started (by kernel_rfl) Try.func9
    (ChangeSpec.witness6 (enc := enc) (C := Try.checked) false ⟨#[], #[.slice none 0 0, .int .i64 0], []⟩ 8 (by kernel_rfl) (by kernel_rfl) (by kernel_rfl) (by kernel_rfl)) ?_
  intro W base args ds gs before hval0 hW _ _
  have hval : ∀ (j : Nat) t v, Try.f9.params[j]? = some t → args[j]? = some v → Value.okWide Try.prog W .any base t v := hval0
  have hW' := hW
  obtain ⟨p, q, hA0, hV, rfl, _, _⟩ := hW
  have hA : DataW.TrodAll enc Try.prog W 0 (fun _ => true) true Try.f9.params.toList args.toList ds p := hA0
  rw [Try.params9] at hA hval
  obtain ⟨v0, vs0, d0, ds0, p0, q0, hargs, rfl, rfl, h0, r0⟩ := trodAll_cons hA
  obtain ⟨v1, vs1, d1, ds1, p1, q1, rfl, rfl, rfl, h1, r1⟩ := trodAll_cons r0
  obtain ⟨rfl, rfl, rfl⟩ := trodAll_nil r1
  obtain rfl : args = #[v0, v1] := by cases args; simp_all
  obtain ⟨rfl, rfl⟩ := trodVars_none hV
  have h0k := h0
  obtain ⟨ao0, n0, c0, ss0, rfl, hs0⟩ := open_steps (hval 0 22 v0 rfl rfl) h0
  have h1k := h1
  obtain ⟨x1, rfl, hx1⟩ := open_num (hval 1 3 v1 rfl rfl) h1
  clear hA0 hval0
  simp only [List.append_nil] at hW'
  have hlt : ∀ x ∈ p0 ++ p1, x.block < W.heap.size := fun x hx => by simpa using hW'.lt x (by simpa using hx)
  refine (vlansWalk ao0 n0 c0 ss0 x1 W hs0 hx1).mono fun e W' ⟨he, hbl⟩ => ?_
  subst he
  exact ⟨_, rfl, _, _, _, [], _, [], hW', (trodAll_cons_mk (shut_bool Try.underlying4 _) trodAll_mk0), (trodAll_cons_mk (Below.trod Try.laidOut (by kernel_rfl) (of_decide_eq_true (by kernel_rfl)) h0k hbl (fun x hx => hlt x (by simp [hx]))) (trodAll_cons_mk (Below.trod Try.laidOut (by kernel_rfl) (of_decide_eq_true (by kernel_rfl)) h1k hbl (fun x hx => hlt x (by simp [hx]))) trodAll_mk0)), rfl, hbl.frame _, fun h => by cases h⟩

theorem vlanVlans_holds : Rows.VlanVlansSaid :=
  OpenClaim.holds_of_wide 9 Try.f9 rfl rfl rfl rfl rfl rfl rfl ⟨rfl, rfl, rfl, rfl, rfl⟩ rfl rfl rfl rfl rfl (by kernel_rfl) Try.func9 (by kernel_rfl)
    (of_decide_eq_true (by kernel_rfl)) (by unfold Func.isWrapper; first | (rw [if_pos (by decide +kernel)]; kernel_rfl) | (rw [if_neg (by decide +kernel)]; exact ⟨rfl, rfl⟩))
    (fun os started H enc _ => vlanVlanslifted os started H enc)

#print axioms vlanVlans_holds
end Go.Proofs.Ytelinahpneikiaa
