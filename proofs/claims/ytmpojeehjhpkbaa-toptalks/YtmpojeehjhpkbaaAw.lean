/- Contract of awake. -/
import Derived.Test.YtmpojeehjhpkbaaQe
namespace Go.Proofs.Ytmpojeehjhpkbaa
open Go.RowKit Go.PlainAid

theorem its_lit {w : World} {cs : Array Value} {ns : List Int} {n : Nat} (hc : cs.toList = ns.map (Value.int .i64)) (hl : ns.length = n) (hn : n ≤ 100000) : Its (w.alloc (.cells cs 3)) 0 (some ⟨w.heap.size, 0, none⟩) n n ns :=
  ⟨hl, fun e => (by cases e), fun j hj => ⟨w.heap.size, 0, rfl, Nat.zero_le _, by
    rw [Nat.zero_add, World.cell?_alloc_at _ _ _ _ rfl, ← Array.getElem?_toList, hc, List.getElem?_map, List.getElem?_eq_getElem (by omega), List.getD_eq_getElem?_getD, List.getElem?_eq_getElem (by omega)]
    rfl⟩, Nat.le_refl _, by unfold maxLen; omega⟩
theorem hsh_zero : hsh zero ≠ 0 := by decide +kernel
theorem mem_two {h : Nat} {a b : Int} : chs h [a, b] = a ∨ chs h [a, b] = b := by
  rw [chs_two]
  split
  · exact Or.inr (Eq.refl _)
  · exact Or.inl (Eq.refl _)
set_option maxRecDepth 100000 in
set_option maxHeartbeats 4000000 in
theorem awakeC (w : World) : Calls Try.prog 10 #[] w fun e w' => e = .returned (.bool true) ∧ Below w.heap.size w w' := by
  have b1 := below_alloc w (.cells #[.int .i64 3, .int .i64 4] 3)
  have HB := hide b1
  have HI : Hid (Its (w.alloc (.cells #[.int .i64 3, .int .i64 4] 3)) 0 (some ⟨w.heap.size, 0, none⟩) 2 2 [3, 4]) := hide (its_lit rfl rfl (by omega))
  clear b1
  go_enter Try.func10, Try.ntmps10
  go_wp2_with fail
  refine (chooseQ _ 2 2 [3, 4] 7 _ HI.out (by omega) (by omega)).mono ?_
  rintro e w1 ⟨rfl, B1⟩
  replace HB := hide (belowOn HB.out B1)
  clear B1
  go_wp2_with fail
  refine (chooseQ_none none 0 7 _).mono ?_
  rintro e w2 ⟨rfl, B2⟩
  replace HB := hide (belowOn HB.out B2)
  clear B2
  have hm := mem_two (h := 7) (a := 3) (b := 4)
  obtain ⟨m, hmm⟩ : ∃ m, m = chs 7 [3, 4] := ⟨_, rfl⟩
  rw [← hmm] at hm
  rw [← hmm]
  clear hmm HI
  have hz := hsh_zero
  rcases hm with rfl | rfl
  all_goals
    go_wp2_with fail
    refine (hashQ zero (.slice none 0 0) _ (by intro n hn; simp [adL, zero] at hn; omega)).mono ?_
    rintro e w3 ⟨rfl, B3⟩
    replace HB := hide (belowOn HB.out B3)
    clear B3
    obtain ⟨g, hg⟩ : ∃ g, g = hsh zero := ⟨_, rfl⟩
    rw [← hg] at hz
    rw [← hg]
    have hg0 : ¬ (g : Int) = 0 := by omega
    have hg1 : ((g : Int) != 0) = true := by simp; omega
    clear hg hz
    go_wp2
    go_ret
    exact ⟨ret_bool (by first | rfl | simp [hg0]), HB.out⟩
end Go.Proofs.Ytmpojeehjhpkbaa
