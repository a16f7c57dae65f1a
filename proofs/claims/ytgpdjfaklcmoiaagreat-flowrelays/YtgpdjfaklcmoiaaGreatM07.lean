/- Contract of the document's put. -/
import Derived.Test.YtgpdjfaklcmoiaaGreatM03
import Derived.Test.YtgpdjfaklcmoiaaGreatM04
import Derived.Test.YtgpdjfaklcmoiaaGreatM06
namespace Go.Proofs.YtgpdjfaklcmoiaaGreat
open Go.RowKit Go.PlainAid

theorem ers_none (w : World) : Ers w none 0 0 [] := ⟨rfl, fun _ => ⟨rfl, rfl⟩, fun a e => (by cases e)⟩
theorem ers_nil (w : World) (a : Addr) (c : Nat) : Ers w (some a) 0 c [] := ⟨rfl, fun e => (by cases e), fun a e j u hj => (by simp [es] at hj)⟩
theorem ers_one (w : World) (x : En) : Ers (w.alloc (.cells (EC x) 61)) (some ⟨w.heap.size, 0, none⟩) 1 1 [x] := ⟨rfl, fun e => (by cases e), fun a e j u hj => by
  obtain rfl := Option.some.inj e
  rw [Addr.add_lit, Nat.zero_add, World.cell?_alloc_at _ _ _ _ rfl]
  have hj' : (ecl x ++ [])[j]? = some u := hj
  rw [List.append_nil] at hj'
  show (ecl x).toArray[j]? = some u
  rw [List.getElem?_toArray]
  exact hj'⟩
theorem es_take' (l : List En) (k : Nat) (hk : k ≤ l.length) : es (l.take k) = (es l).take (k * 10) := by
  have e := es_append (l.take k) (l.drop k)
  rw [List.take_append_drop] at e
  have h2 : (es (l.take k)).length = k * 10 := by rw [es_length, List.length_take]; omega
  rw [e, ← h2]
  simp
theorem es_drop' (l : List En) (k : Nat) (hk : k ≤ l.length) : es (l.drop k) = (es l).drop (k * 10) := by
  have e := es_append (l.take k) (l.drop k)
  rw [List.take_append_drop] at e
  have h2 : (es (l.take k)).length = k * 10 := by rw [es_length, List.length_take]; omega
  rw [e, ← h2]
  simp
theorem ers_take {w : World} {b : Nat} {l : List En} (h : Box w b (es l)) {k : Nat} (hk : k ≤ l.length) (c : Nat) : Ers w (some ⟨b, 0, none⟩) k c (l.take k) :=
  ⟨by rw [List.length_take]; omega, fun e => (by cases e), fun a e j u hj => by
    obtain rfl := Option.some.inj e
    rw [es_take' l k hk, List.getElem?_take] at hj
    split at hj
    · rw [Addr.add_lit]; exact h.at_ j u hj
    · cases hj⟩
theorem ers_drop {w : World} {b : Nat} {l : List En} (h : Box w b (es l)) {k : Nat} (hk : k ≤ l.length) (cap : Nat) (hc : l.length ≤ cap) : Ers w (if cap = k then some ⟨b, 0, none⟩ else some ⟨b, k * 10, none⟩) (l.length - k) (cap - k) (l.drop k) :=
  ⟨by rw [List.length_drop], fun e => (by split at e <;> cases e), fun a e j u hj => by
    have hlt := (List.getElem?_eq_some_iff.1 hj).1
    rw [es_length, List.length_drop] at hlt
    rw [if_neg (by omega)] at e
    obtain rfl := Option.some.inj e
    rw [es_drop' l k hk, List.getElem?_drop] at hj
    have := h.at_ _ u hj
    rw [Nat.zero_add] at this
    rw [Addr.add_lit]
    exact this⟩
theorem row_mono {w : World} {g g' : Nat} {lv : Value} {n : Nat} {xs : List Value} (hg : g' ≤ g) (hr : w.ownsRow g 61 10 lv n xs) : w.ownsRow g' 61 10 lv n xs := by
  refine ⟨hr.1, ?_⟩
  rcases hr.2 with h | ⟨b, cap, cur, e, hb, r⟩
  · exact Or.inl h
  · exact Or.inr ⟨b, cap, cur, e, by omega, r⟩
set_option maxRecDepth 100000 in
set_option maxHeartbeats 8000000 in
theorem put56_none (g : Nat) (T : FT) (x : En) (w : World) (hx : Gd x) (H : RF w g (.slice none 0 0) T) (hl0 : T.l = []) :
    Calls Tryz.prog 77 #[.pointer (some ⟨g, 0, none⟩), .agg (EC x)] w fun e w' => e = .returned (.tuple #[]) ∧ (∃ lv', RF w' g lv' ⟨T.n, up T.l x⟩ ∧ Fr [g] (.slice none 0 0) lv' w w') ∧ Below g w w' := by
  have n1 := H.wf.n1
  have HRT := hide H
  have HWF : Hid (FW ⟨T.n, up T.l x⟩) := hide (up_wf H.wf hx (by rw [hl0]; simp [up]; omega))
  have HUP : Hid (([] : List En) ++ (x :: []) = up T.l x) := hide (by rw [hl0]; rfl)
  have HW0 := hide (below_alloc w (.cells (EC x) 61))
  have HG := hide (H.bx.alloc (.cells (EC x) 61))
  have HX := hide (box_e w x)
  have HKK : Hid (g < w.heap.size) := hide H.bx.lt
  have HB := hide (Below.refl (w.heap.size + 1) (w.alloc (.cells (EC x) 61)))
  have hsw : (w.alloc (.cells (EC x) 61)).heap.size = w.heap.size + 1 := by simp
  have HSW := hide hsw
  clear H hl0 hsw
  go_enter Tryz.func77, Tryz.ntmps77
  go_wp2
  generalize w.alloc (.cells (EC x) 61) = W0 at *
  generalize hk0 : w.heap.size = k0 at *
  have HK0 := hide hk0
  clear hk0
  go_loopw [4] (fun i wr => i = .int .i64 0 ∧ wr = W0) (fun _ _ => 0)
  case atStart => exact ⟨rfl, rfl⟩
  case round =>
    obtain ⟨rfl, rfl⟩ := hrel
    go_wp2_with fail
    refine wp_region_held_drew (S := fun w' => Box w' g [.int .i64 T.n, .slice none 0 0] ∧ Box w' k0 (ecl x)) (by kernel_rfl) ⟨HG.out.drew, HX.out.drew⟩ (fun hHeld => ?_)
    have B := hide (belowOn' HB.out)
    clear HB HG HX
    generalize World.drew _ = u0 at *
    refine wpAnyH_take (i := 0) (v := .int .i64 0) rfl (by kernel_rfl) (by kernel_rfl) (by kernel_rfl) (fun _ _ _ h => h) (Or.inl ⟨by rfl, ?_⟩) hHeld ?_
    · intro W hW; (try dsimp only at hW); go_simp
    refine wpAnyH_take (i := 1) (v := .pointer (some ⟨g, 0, none⟩)) rfl (by kernel_rfl) (by kernel_rfl) (by kernel_rfl) (fun _ _ _ h => h) (Or.inl ⟨by rfl, ?_⟩) hHeld ?_
    · intro W hW; (try dsimp only at hW); go_simp
    refine wpAnyH_take (i := 2) (v := .pointer (some ⟨g, 0, none⟩)) rfl (by kernel_rfl) (by kernel_rfl) (by kernel_rfl) (fun _ _ _ h => h) (Or.inl ⟨by rfl, ?_⟩) hHeld ?_
    · intro W hW; (try dsimp only at hW); go_simp
    refine wpAnyH_take (i := 3) (v := .pointer (some ⟨g, 1, none⟩)) rfl (by kernel_rfl) (by kernel_rfl) (by kernel_rfl) (fun _ _ _ h => h) (Or.inl ⟨by rfl, ?_⟩) hHeld ?_
    · intro W hW; (try dsimp only at hW); go_simp
    change wpAnyH _ _ _ _ _ _ _ ⟨#[.pointer (some ⟨g, 0, none⟩), _, _, .pointer (some ⟨k0, 0, none⟩), .int .i64 0, _, .int .i64 0, .pointer (some ⟨g, 0, none⟩), .pointer (some ⟨g, 0, none⟩), .pointer (some ⟨g, 1, none⟩), _, _, _, _, _, _, _, _, _, _, _, _, _, _, _, _, _, _, _, _, _, _, _, _, _, _, _, _, _, _, _, _, _, _, _, _, _, _, _, _, _, _, _, _, _, _, _, _, _, _, _, _, _, _, _, _, _, _, _, _, _, _, _, _, _, _, _, _], []⟩ _
    refine wpAnyH_take (i := 4) (v := .slice none 0 0) rfl (by kernel_rfl) (by kernel_rfl) (by kernel_rfl) (fun _ _ _ h => h) (Or.inl ⟨by rfl, ?_⟩) hHeld ?_
    · intro W hW; (try dsimp only at hW); have hc := hW.1.cell 1 _ rfl; clear hW; go_simp
    refine wpAnyH_take (i := 5) (v := .int .i64 0) rfl (by kernel_rfl) (by kernel_rfl) (by kernel_rfl) (fun _ _ _ h => h) (Or.inl ⟨by rfl, ?_⟩) hHeld ?_
    · intro W hW; (try dsimp only at hW); go_simp
    refine wpAnyH_take (i := 6) (v := .bool false) rfl (by kernel_rfl) (by kernel_rfl) (by kernel_rfl) (fun _ _ _ h => h) (Or.inl ⟨by rfl, ?_⟩) hHeld ?_
    · intro W hW; (try dsimp only at hW); go_simp
    refine wpAnyH_take (i := 7) (v := .bool false) rfl (by kernel_rfl) (by kernel_rfl) (by kernel_rfl) (fun _ _ _ h => h) (Or.inl ⟨by rfl, ?_⟩) hHeld ?_
    · intro W hW; (try dsimp only at hW); go_simp
    change wpAnyH _ _ _ _ _ _ _ ⟨#[.pointer (some ⟨g, 0, none⟩), _, _, .pointer (some ⟨k0, 0, none⟩), .int .i64 0, _, .int .i64 0, .pointer (some ⟨g, 0, none⟩), .pointer (some ⟨g, 0, none⟩), .pointer (some ⟨g, 1, none⟩), .slice none 0 0, .int .i64 0, .bool false, .bool false, _, _, _, _, _, _, _, _, _, _, _, _, _, _, _, _, _, _, _, _, _, _, _, _, _, _, _, _, _, _, _, _, _, _, _, _, _, _, _, _, _, _, _, _, _, _, _, _, _, _, _, _, _, _, _, _, _, _, _, _, _, _, _, _], []⟩ _
    refine wpAnyH_take (i := 8) (v := undef) rfl (by kernel_rfl) (by kernel_rfl) (by kernel_rfl) (fun _ _ _ h => h) (Or.inr ⟨by rfl, rfl⟩) hHeld ?_
    refine wpAnyH_take (i := 9) (v := undef) rfl (by kernel_rfl) (by kernel_rfl) (by kernel_rfl) (fun _ _ _ h => h) (Or.inr ⟨by rfl, rfl⟩) hHeld ?_
    refine wpAnyH_take (i := 10) (v := undef) rfl (by kernel_rfl) (by kernel_rfl) (by kernel_rfl) (fun _ _ _ h => h) (Or.inr ⟨by rfl, rfl⟩) hHeld ?_
    refine wpAnyH_take (i := 11) (v := undef) rfl (by kernel_rfl) (by kernel_rfl) (by kernel_rfl) (fun _ _ _ h => h) (Or.inr ⟨by rfl, rfl⟩) hHeld ?_
    change wpAnyH _ _ _ _ _ _ _ ⟨#[.pointer (some ⟨g, 0, none⟩), _, _, .pointer (some ⟨k0, 0, none⟩), .int .i64 0, _, .int .i64 0, .pointer (some ⟨g, 0, none⟩), .pointer (some ⟨g, 0, none⟩), .pointer (some ⟨g, 1, none⟩), .slice none 0 0, .int .i64 0, .bool false, .bool false, undef, undef, undef, undef, _, _, _, _, _, _, _, _, _, _, _, _, _, _, _, _, _, _, _, _, _, _, _, _, _, _, _, _, _, _, _, _, _, _, _, _, _, _, _, _, _, _, _, _, _, _, _, _, _, _, _, _, _, _, _, _, _, _, _, _], []⟩ _
    refine wpAnyH_take (i := 12) (v := undef) rfl (by kernel_rfl) (by kernel_rfl) (by kernel_rfl) (fun _ _ _ h => h) (Or.inr ⟨by rfl, rfl⟩) hHeld ?_
    refine wpAnyH_take (i := 13) (v := undef) rfl (by kernel_rfl) (by kernel_rfl) (by kernel_rfl) (fun _ _ _ h => h) (Or.inr ⟨by rfl, rfl⟩) hHeld ?_
    refine wpAnyH_take (i := 14) (v := undef) rfl (by kernel_rfl) (by kernel_rfl) (by kernel_rfl) (fun _ _ _ h => h) (Or.inr ⟨by rfl, rfl⟩) hHeld ?_
    refine wpAnyH_take (i := 15) (v := undef) rfl (by kernel_rfl) (by kernel_rfl) (by kernel_rfl) (fun _ _ _ h => h) (Or.inr ⟨by rfl, rfl⟩) hHeld ?_
    change wpAnyH _ _ _ _ _ _ _ ⟨#[.pointer (some ⟨g, 0, none⟩), _, _, .pointer (some ⟨k0, 0, none⟩), .int .i64 0, _, .int .i64 0, .pointer (some ⟨g, 0, none⟩), .pointer (some ⟨g, 0, none⟩), .pointer (some ⟨g, 1, none⟩), .slice none 0 0, .int .i64 0, .bool false, .bool false, undef, undef, undef, undef, undef, undef, undef, undef, _, _, _, _, _, _, _, _, _, _, _, _, _, _, _, _, _, _, _, _, _, _, _, _, _, _, _, _, _, _, _, _, _, _, _, _, _, _, _, _, _, _, _, _, _, _, _, _, _, _, _, _, _, _, _, _], []⟩ _
    refine wpAnyH_take (i := 16) (v := undef) rfl (by kernel_rfl) (by kernel_rfl) (by kernel_rfl) (fun _ _ _ h => h) (Or.inr ⟨by rfl, rfl⟩) hHeld ?_
    refine wpAnyH_take (i := 17) (v := undef) rfl (by kernel_rfl) (by kernel_rfl) (by kernel_rfl) (fun _ _ _ h => h) (Or.inr ⟨by rfl, rfl⟩) hHeld ?_
    refine wpAnyH_take (i := 18) (v := undef) rfl (by kernel_rfl) (by kernel_rfl) (by kernel_rfl) (fun _ _ _ h => h) (Or.inr ⟨by rfl, rfl⟩) hHeld ?_
    refine wpAnyH_take (i := 19) (v := undef) rfl (by kernel_rfl) (by kernel_rfl) (by kernel_rfl) (fun _ _ _ h => h) (Or.inr ⟨by rfl, rfl⟩) hHeld ?_
    change wpAnyH _ _ _ _ _ _ _ ⟨#[.pointer (some ⟨g, 0, none⟩), _, _, .pointer (some ⟨k0, 0, none⟩), .int .i64 0, _, .int .i64 0, .pointer (some ⟨g, 0, none⟩), .pointer (some ⟨g, 0, none⟩), .pointer (some ⟨g, 1, none⟩), .slice none 0 0, .int .i64 0, .bool false, .bool false, undef, undef, undef, undef, undef, undef, undef, undef, undef, undef, undef, undef, _, _, _, _, _, _, _, _, _, _, _, _, _, _, _, _, _, _, _, _, _, _, _, _, _, _, _, _, _, _, _, _, _, _, _, _, _, _, _, _, _, _, _, _, _, _, _, _, _, _, _, _], []⟩ _
    refine wpAnyH_take (i := 20) (v := undef) rfl (by kernel_rfl) (by kernel_rfl) (by kernel_rfl) (fun _ _ _ h => h) (Or.inr ⟨by rfl, rfl⟩) hHeld ?_
    refine wpAnyH_take (i := 21) (v := undef) rfl (by kernel_rfl) (by kernel_rfl) (by kernel_rfl) (fun _ _ _ h => h) (Or.inr ⟨by rfl, rfl⟩) hHeld ?_
    refine wpAnyH_take (i := 22) (v := undef) rfl (by kernel_rfl) (by kernel_rfl) (by kernel_rfl) (fun _ _ _ h => h) (Or.inr ⟨by rfl, rfl⟩) hHeld ?_
    refine wpAnyH_take (i := 23) (v := undef) rfl (by kernel_rfl) (by kernel_rfl) (by kernel_rfl) (fun _ _ _ h => h) (Or.inr ⟨by rfl, rfl⟩) hHeld ?_
    change wpAnyH _ _ _ _ _ _ _ ⟨#[.pointer (some ⟨g, 0, none⟩), _, _, .pointer (some ⟨k0, 0, none⟩), .int .i64 0, _, .int .i64 0, .pointer (some ⟨g, 0, none⟩), .pointer (some ⟨g, 0, none⟩), .pointer (some ⟨g, 1, none⟩), .slice none 0 0, .int .i64 0, .bool false, .bool false, undef, undef, undef, undef, undef, undef, undef, undef, undef, undef, undef, undef, undef, undef, undef, undef, _, _, _, _, _, _, _, _, _, _, _, _, _, _, _, _, _, _, _, _, _, _, _, _, _, _, _, _, _, _, _, _, _, _, _, _, _, _, _, _, _, _, _, _, _, _, _, _], []⟩ _
    refine wpAnyH_take (i := 24) (v := undef) rfl (by kernel_rfl) (by kernel_rfl) (by kernel_rfl) (fun _ _ _ h => h) (Or.inr ⟨by rfl, rfl⟩) hHeld ?_
    refine wpAnyH_take (i := 25) (v := undef) rfl (by kernel_rfl) (by kernel_rfl) (by kernel_rfl) (fun _ _ _ h => h) (Or.inr ⟨by rfl, rfl⟩) hHeld ?_
    refine wpAnyH_take (i := 26) (v := undef) rfl (by kernel_rfl) (by kernel_rfl) (by kernel_rfl) (fun _ _ _ h => h) (Or.inr ⟨by rfl, rfl⟩) hHeld ?_
    refine wpAnyH_take (i := 27) (v := undef) rfl (by kernel_rfl) (by kernel_rfl) (by kernel_rfl) (fun _ _ _ h => h) (Or.inr ⟨by rfl, rfl⟩) hHeld ?_
    change wpAnyH _ _ _ _ _ _ _ ⟨#[.pointer (some ⟨g, 0, none⟩), _, _, .pointer (some ⟨k0, 0, none⟩), .int .i64 0, _, .int .i64 0, .pointer (some ⟨g, 0, none⟩), .pointer (some ⟨g, 0, none⟩), .pointer (some ⟨g, 1, none⟩), .slice none 0 0, .int .i64 0, .bool false, .bool false, undef, undef, undef, undef, undef, undef, undef, undef, undef, undef, undef, undef, undef, undef, undef, undef, undef, undef, undef, undef, _, _, _, _, _, _, _, _, _, _, _, _, _, _, _, _, _, _, _, _, _, _, _, _, _, _, _, _, _, _, _, _, _, _, _, _, _, _, _, _, _, _, _, _], []⟩ _
    refine wpAnyH_take (i := 28) (v := undef) rfl (by kernel_rfl) (by kernel_rfl) (by kernel_rfl) (fun _ _ _ h => h) (Or.inr ⟨by rfl, rfl⟩) hHeld ?_
    refine wpAnyH_take (i := 29) (v := undef) rfl (by kernel_rfl) (by kernel_rfl) (by kernel_rfl) (fun _ _ _ h => h) (Or.inr ⟨by rfl, rfl⟩) hHeld ?_
    refine wpAnyH_take (i := 30) (v := undef) rfl (by kernel_rfl) (by kernel_rfl) (by kernel_rfl) (fun _ _ _ h => h) (Or.inr ⟨by rfl, rfl⟩) hHeld ?_
    refine wpAnyH_take (i := 31) (v := undef) rfl (by kernel_rfl) (by kernel_rfl) (by kernel_rfl) (fun _ _ _ h => h) (Or.inr ⟨by rfl, rfl⟩) hHeld ?_
    change wpAnyH _ _ _ _ _ _ _ ⟨#[.pointer (some ⟨g, 0, none⟩), _, _, .pointer (some ⟨k0, 0, none⟩), .int .i64 0, _, .int .i64 0, .pointer (some ⟨g, 0, none⟩), .pointer (some ⟨g, 0, none⟩), .pointer (some ⟨g, 1, none⟩), .slice none 0 0, .int .i64 0, .bool false, .bool false, undef, undef, undef, undef, undef, undef, undef, undef, undef, undef, undef, undef, undef, undef, undef, undef, undef, undef, undef, undef, undef, undef, undef, undef, _, _, _, _, _, _, _, _, _, _, _, _, _, _, _, _, _, _, _, _, _, _, _, _, _, _, _, _, _, _, _, _, _, _, _, _, _, _, _, _], []⟩ _
    refine wpAnyH_take (i := 32) (v := undef) rfl (by kernel_rfl) (by kernel_rfl) (by kernel_rfl) (fun _ _ _ h => h) (Or.inr ⟨by rfl, rfl⟩) hHeld ?_
    refine wpAnyH_take (i := 33) (v := undef) rfl (by kernel_rfl) (by kernel_rfl) (by kernel_rfl) (fun _ _ _ h => h) (Or.inr ⟨by rfl, rfl⟩) hHeld ?_
    refine wpAnyH_take (i := 34) (v := undef) rfl (by kernel_rfl) (by kernel_rfl) (by kernel_rfl) (fun _ _ _ h => h) (Or.inr ⟨by rfl, rfl⟩) hHeld ?_
    refine wpAnyH_take (i := 35) (v := undef) rfl (by kernel_rfl) (by kernel_rfl) (by kernel_rfl) (fun _ _ _ h => h) (Or.inr ⟨by rfl, rfl⟩) hHeld ?_
    change wpAnyH _ _ _ _ _ _ _ ⟨#[.pointer (some ⟨g, 0, none⟩), _, _, .pointer (some ⟨k0, 0, none⟩), .int .i64 0, _, .int .i64 0, .pointer (some ⟨g, 0, none⟩), .pointer (some ⟨g, 0, none⟩), .pointer (some ⟨g, 1, none⟩), .slice none 0 0, .int .i64 0, .bool false, .bool false, undef, undef, undef, undef, undef, undef, undef, undef, undef, undef, undef, undef, undef, undef, undef, undef, undef, undef, undef, undef, undef, undef, undef, undef, undef, undef, undef, undef, _, _, _, _, _, _, _, _, _, _, _, _, _, _, _, _, _, _, _, _, _, _, _, _, _, _, _, _, _, _, _, _, _, _, _, _], []⟩ _
    refine wpAnyH_take (i := 36) (v := undef) rfl (by kernel_rfl) (by kernel_rfl) (by kernel_rfl) (fun _ _ _ h => h) (Or.inr ⟨by rfl, rfl⟩) hHeld ?_
    refine wpAnyH_take (i := 37) (v := undef) rfl (by kernel_rfl) (by kernel_rfl) (by kernel_rfl) (fun _ _ _ h => h) (Or.inr ⟨by rfl, rfl⟩) hHeld ?_
    refine wpAnyH_take (i := 38) (v := undef) rfl (by kernel_rfl) (by kernel_rfl) (by kernel_rfl) (fun _ _ _ h => h) (Or.inr ⟨by rfl, rfl⟩) hHeld ?_
    refine wpAnyH_take (i := 39) (v := undef) rfl (by kernel_rfl) (by kernel_rfl) (by kernel_rfl) (fun _ _ _ h => h) (Or.inr ⟨by rfl, rfl⟩) hHeld ?_
    change wpAnyH _ _ _ _ _ _ _ ⟨#[.pointer (some ⟨g, 0, none⟩), _, _, .pointer (some ⟨k0, 0, none⟩), .int .i64 0, _, .int .i64 0, .pointer (some ⟨g, 0, none⟩), .pointer (some ⟨g, 0, none⟩), .pointer (some ⟨g, 1, none⟩), .slice none 0 0, .int .i64 0, .bool false, .bool false, undef, undef, undef, undef, undef, undef, undef, undef, undef, undef, undef, undef, undef, undef, undef, undef, undef, undef, undef, undef, undef, undef, undef, undef, undef, undef, undef, undef, undef, undef, undef, undef, _, _, _, _, _, _, _, _, _, _, _, _, _, _, _, _, _, _, _, _, _, _, _, _, _, _, _, _, _, _, _, _], []⟩ _
    refine wpAnyH_take (i := 40) (v := undef) rfl (by kernel_rfl) (by kernel_rfl) (by kernel_rfl) (fun _ _ _ h => h) (Or.inr ⟨by rfl, rfl⟩) hHeld ?_
    refine wpAnyH_take (i := 41) (v := undef) rfl (by kernel_rfl) (by kernel_rfl) (by kernel_rfl) (fun _ _ _ h => h) (Or.inr ⟨by rfl, rfl⟩) hHeld ?_
    refine wpAnyH_take (i := 42) (v := undef) rfl (by kernel_rfl) (by kernel_rfl) (by kernel_rfl) (fun _ _ _ h => h) (Or.inr ⟨by rfl, rfl⟩) hHeld ?_
    refine wpAnyH_take (i := 43) (v := undef) rfl (by kernel_rfl) (by kernel_rfl) (by kernel_rfl) (fun _ _ _ h => h) (Or.inr ⟨by rfl, rfl⟩) hHeld ?_
    change wpAnyH _ _ _ _ _ _ _ ⟨#[.pointer (some ⟨g, 0, none⟩), _, _, .pointer (some ⟨k0, 0, none⟩), .int .i64 0, _, .int .i64 0, .pointer (some ⟨g, 0, none⟩), .pointer (some ⟨g, 0, none⟩), .pointer (some ⟨g, 1, none⟩), .slice none 0 0, .int .i64 0, .bool false, .bool false, undef, undef, undef, undef, undef, undef, undef, undef, undef, undef, undef, undef, undef, undef, undef, undef, undef, undef, undef, undef, undef, undef, undef, undef, undef, undef, undef, undef, undef, undef, undef, undef, undef, undef, undef, undef, _, _, _, _, _, _, _, _, _, _, _, _, _, _, _, _, _, _, _, _, _, _, _, _, _, _, _, _], []⟩ _
    refine wpAnyH_take (i := 44) (v := undef) rfl (by kernel_rfl) (by kernel_rfl) (by kernel_rfl) (fun _ _ _ h => h) (Or.inr ⟨by rfl, rfl⟩) hHeld ?_
    refine wpAnyH_take (i := 45) (v := undef) rfl (by kernel_rfl) (by kernel_rfl) (by kernel_rfl) (fun _ _ _ h => h) (Or.inr ⟨by rfl, rfl⟩) hHeld ?_
    refine wpAnyH_take (i := 46) (v := .bool false) rfl (by kernel_rfl) (by kernel_rfl) (by kernel_rfl) (fun _ _ _ h => h) (Or.inl ⟨by rfl, ?_⟩) hHeld ?_
    · intro W hW; (try dsimp only at hW); go_simp
    change wpAnyH _ _ _ _ _ _ _ ⟨#[.pointer (some ⟨g, 0, none⟩), _, _, .pointer (some ⟨k0, 0, none⟩), .int .i64 0, _, .int .i64 0, .pointer (some ⟨g, 0, none⟩), .pointer (some ⟨g, 0, none⟩), .pointer (some ⟨g, 1, none⟩), .slice none 0 0, .int .i64 0, .bool false, .bool false, undef, undef, undef, undef, undef, undef, undef, undef, undef, undef, undef, undef, undef, undef, undef, undef, undef, undef, undef, undef, undef, undef, undef, undef, undef, undef, undef, undef, undef, undef, undef, undef, undef, undef, undef, undef, undef, undef, .bool false, _, _, _, _, _, _, _, _, _, _, _, _, _, _, _, _, _, _, _, _, _, _, _, _, _], []⟩ _
    have HG := hide hHeld.1
    have HX := hide hHeld.2
    clear hHeld
    refine wpAnyH_done (by kernel_rfl) ?_ _
    have hsz := B.out.size
    have hkk := HKK.out
    have hgl := HG.out.lt
    have hxl := HX.out.lt
    obtain ⟨N, hN⟩ : ∃ N, N = (World.heap u0).size := ⟨_, rfl⟩
    rw [← hN] at hgl hxl hsz
    have b0 : Below N u0 (u0.alloc (.cells #[] 61)) := by rw [hN]; exact below_alloc _ _
    have O1 : Hid ((u0.alloc (.cells #[] 61)).ownsRow N 61 10 (.slice (some ⟨u0.heap.size, 0, none⟩) 0 0) 0 (es [])) := hide (World.ownsRow_lit u0 #[] 0 (by omega) (by unfold maxLen; omega) rfl)
    have M1 : Hid (Ers (u0.alloc (.cells #[] 61)) none 0 0 []) := hide (ers_none _)
    have hlt1 : Hid (N ≤ (u0.alloc (.cells #[] 61)).heap.size) := hide (by rw [hN]; simp)
    have c1 := HG.out.cell 1 _ rfl
    have c1a := (HG.out.below hgl b0).cell 1 _ rfl
    have B0 := hide b0
    have HN := hide hN
    have hgl0 := hide hgl
    have hxl0 := hide hxl
    clear b0 hN
    have tk1 : True := trivial
    have tk2 : True := trivial
    have tk3 : True := trivial
    have tk4 : True := trivial
    have tk5 : True := trivial
    go_wp2_with (first | (have _t := tk1; at_builtin; refine wpl_eapp rfl rfl (.tmp 55) (.tmp 61) rfl N _ 0 [] rfl O1.out _ _ _ _ rfl M1.out (by omega) hlt1.out ?_; clear tk1))
    intro v1 w1 R1 G1
    have B1 := hide (B0.out.grown G1 hlt1.out (fun r hr => (O1.out.lt r hr).1))
    have X1 := (HX.out.below hxl0.out B1.out).at_
    have O2 := hide (World.ownsRow.alloc R1 (.cells (EC x) 61))
    have M2 := hide (ers_one w1 x)
    have hlt2 : Hid (N ≤ (w1.alloc (.cells (EC x) 61)).heap.size) := hide (by have := B1.out.size; have := HN.out; simp; omega)
    have c1b := (HG.out.below hgl0.out B1.out).cell 1 _ rfl
    clear R1 G1 B0 O1 M1 c1 c1a
    go_wp2_with (first | (have _t := tk2; refine wpl_ent (.tmp 3) rfl X1 ?_ ?_ ?_; rfl; rfl; clear tk2) | (have _t := tk3; refine wpl_bs rfl (.tmp 64) x rfl rfl ?_; clear tk3) | (have _t := tk4; at_builtin; refine wpl_eapp rfl rfl (.tmp 63) (.tmp 65) rfl N _ _ _ rfl O2.out _ 1 1 _ rfl M2.out (by omega) hlt2.out ?_; clear tk4))
    intro v2 w2 R2 G2
    have B4 := hide ((B1.out.alloc (by have := B1.out.size; have := HN.out; omega) (.cells (EC x) 61)).grown G2 hlt2.out (fun r hr => (O2.out.lt r hr).1))
    have O3 := hide R2
    have M3 : Hid (Ers w2 none 0 0 []) := hide (ers_none _)
    have hlt3 : Hid (N ≤ w2.heap.size) := hide (by have := B4.out.size; have := HN.out; omega)
    have c1c := (HG.out.below hgl0.out B4.out).cell 1 _ rfl
    clear R2 G2 B1 O2 M2 X1 c1b
    go_wp2_with (first | (have _t := tk5; at_builtin; refine wpl_eapp rfl rfl (.tmp 68) (.tmp 74) rfl N _ _ _ rfl O3.out _ _ _ _ rfl M3.out (by omega) hlt3.out ?_; clear tk5))
    intro v3 w3 R3 G3
    have B5 := hide (B4.out.grown G3 hlt3.out (fun r hr => (O3.out.lt r hr).1))
    have c1d := (HG.out.below hgl0.out B5.out).cell 1 _ rfl
    have c1f := (HG.out.below hgl0.out B5.out).free 1 (by simp)
    obtain ⟨ao3, c3, rfl⟩ := own_form R3
    have R4 : w3.ownsRow (g + 1) 61 10 (.slice ao3 (0 + 0 + 1 + 0) c3) (up T.l x).length (es (up T.l x)) := by
      rw [← HUP.out, show (([] : List En) ++ (x :: [])).length = (0 + 0 + 1 + 0) by rfl]
      exact row_mono (show g + 1 ≤ N from hgl0.out) (by simpa using R3)
    have F := hide (HRT.out.fresh (T' := ⟨T.n, up T.l x⟩) (((HW0.out.trans (B.out.mono (Nat.le_succ _))).mono (show g + 1 ≤ k0 from HKK.out)).trans (B5.out.mono (show g + 1 ≤ N from hgl0.out))) rfl HWF.out R4)
    have F2 := hide (fun (lv0 : Value) (q : Value) => Fr.fresh (K := [g]) (lv := lv0) (w := w) (r := g) (show Below w.heap.size w w3 from by rw [HK0.out]; exact (HW0.out.trans (B.out.mono (Nat.le_succ _))).trans (B5.out.mono (show k0 ≤ N from Nat.le_of_lt hxl0.out))) (row_low (show w.heap.size ≤ N from by rw [HK0.out]; exact Nat.le_of_lt hxl0.out) R3) (by simp) 1 q)
    clear R3 G3 B4 O3 M3 c1c R4
    go_wp2
    go_end0
    have F' := F.out
    simp only [Nat.zero_add, Nat.add_zero] at F'
    have F2' := F2.out
    try simp only [Nat.zero_add, Nat.add_zero] at F2'
    exact ⟨rfl, ⟨_, F'.1, F2' _ _⟩, F'.2⟩
set_option maxRecDepth 100000 in
set_option maxHeartbeats 8000000 in
theorem put56_some (g b cap : Nat) (T : FT) (x : En) (w : World) (hx : Gd x) (H : RF w g (.slice (some ⟨b, 0, none⟩) T.l.length cap) T) (hh : fhs T.l x.v x.m = false) (hl : T.l.length < T.n) (hcap : T.l.length ≤ cap) (hmx : cap ≤ maxLen) (hbx : Box w b (es T.l)) :
    Calls Tryz.prog 77 #[.pointer (some ⟨g, 0, none⟩), .agg (EC x)] w fun e w' => e = .returned (.tuple #[]) ∧ (∃ lv', RF w' g lv' ⟨T.n, up T.l x⟩ ∧ Fr [g] (.slice (some ⟨b, 0, none⟩) T.l.length cap) lv' w w') ∧ Below g w w' := by
  have n1 := H.wf.n1
  have n2 := H.wf.n2
  have HRT := hide H
  have hne : ∀ y ∈ T.l, ke y ≠ ke x := fun y hy e => by
    have := hs_no hh y hy
    rw [(ky_ke (H.wf.gd y hy).ok hx.ok).2 e] at this
    cases this
  have HNE := hide hne
  have HWF : Hid (FW ⟨T.n, up T.l x⟩) := hide (up_wf H.wf hx (by rw [up_len hne]; exact hl))
  have HW0 := hide (below_alloc w (.cells (EC x) 61))
  have HG0 := hide (H.bx.alloc (.cells (EC x) 61))
  have HL0 := hide (hbx.alloc (.cells (EC x) 61))
  have HX0 := hide (box_e w x)
  have HKK : Hid (g < w.heap.size) := hide H.bx.lt
  have HBB : Hid (b < w.heap.size) := hide hbx.lt
  have HB0 := hide (Below.refl (w.heap.size + 1) (w.alloc (.cells (EC x) 61)))
  have HSW : Hid ((w.alloc (.cells (EC x) 61)).heap.size = w.heap.size + 1) := hide (by simp)
  have HXO := hide hx.ok
  have HSR := hide H.wf.srt
  have HGD := hide H.wf.gd
  unfold maxLen at hmx
  clear H hbx hne hh
  go_enter Tryz.func77, Tryz.ntmps77
  go_wp2
  generalize w.alloc (.cells (EC x) 61) = W0 at *
  generalize hk0 : w.heap.size = k0 at *
  have HK0 := hide hk0
  clear hk0
  go_loopw [4] (fun i wr => ∃ k : Nat, k ≤ T.l.length ∧ i = .int .i64 k ∧ (∀ (j : Nat) (y : En), j < k → T.l[j]? = some y → ke y < ke x) ∧ Below (k0 + 1) W0 wr) (fun i _ => T.l.length - (intOf i).toNat)
  case atStart => exact ⟨0, Nat.zero_le _, rfl, fun j y hj => by omega, HB0.out⟩
  case round =>
    obtain ⟨k, hk, rfl, hlow, B1⟩ := hrel
    have HG := hide (HG0.out.below (Nat.lt_succ_of_lt HKK.out) B1)
    have HL := hide (HL0.out.below (Nat.lt_succ_of_lt HBB.out) B1)
    have HX := hide (HX0.out.below (Nat.lt_succ_self _) B1)
    have HB := hide B1
    have HLO := hide hlow
    have e1 : IntKind.i64.wrap ((k : Int) + 1) = (k : Int) + 1 := IntWalk.i64_in _ (by omega)
    clear B1 hlow
    by_cases hkl : k < T.l.length
    · obtain ⟨y, hy⟩ : ∃ y, T.l[k]? = some y := ⟨_, List.getElem?_eq_getElem hkl⟩
      have HY := hide hy
      have hk2 : (k : Int) < T.l.length := by omega
      have HYO : Hid (Mok y.m) := hide (HGD.out y (List.mem_of_getElem? hy)).ok
      have hyn := HNE.out y (List.mem_of_getElem? hy)
      have HYN := hide hyn
      have y0 := num_0 HYO.out
      have y1 := num_1 HYO.out
      have x0 := num_0 HXO.out
      have x1 := num_1 HXO.out
      have hup : ke x < ke y → Hid (T.l.take k ++ (x :: T.l.drop k) = up T.l x) := fun h => hide (up_ins HSR.out hk HLO.out (fun z hz => by rw [HY.out] at hz; cases hz; exact h))
      have hnx : ke y < ke x → Hid (∀ (j : Nat) (z : En), j < k + 1 → T.l[j]? = some z → ke z < ke x) := fun h => hide (fun j z hj hz => by
        by_cases c : j < k
        · exact HLO.out j z c hz
        · obtain rfl : j = k := by omega
          rw [HY.out] at hz; cases hz; exact h)
      clear hy hyn
      by_cases c1 : y.v < x.v
      · have HN := hnx (by unfold ke kn; omega)
        clear hup hnx y0 y1 x0 x1
        go_wp2_with fail
        refine wp_region_held_drew (S := fun w' => Box w' g [.int .i64 T.n, .slice (some ⟨b, 0, none⟩) T.l.length cap] ∧ Box w' b (es T.l) ∧ Box w' k0 (ecl x)) (by kernel_rfl) ⟨HG.out.drew, HL.out.drew, HX.out.drew⟩ (fun hHeld => ?_)
        have B := hide (belowOn' HB.out)
        clear HB HG HX HL
        generalize World.drew _ = u0 at *
        refine wpAnyH_take (i := 0) (v := .int .i64 (k : Int)) rfl (by kernel_rfl) (by kernel_rfl) (by kernel_rfl) (fun _ _ _ h => h) (Or.inl ⟨by rfl, ?_⟩) hHeld ?_
        · intro W hW; (try dsimp only at hW); go_simp
        refine wpAnyH_take (i := 1) (v := .pointer (some ⟨g, 0, none⟩)) rfl (by kernel_rfl) (by kernel_rfl) (by kernel_rfl) (fun _ _ _ h => h) (Or.inl ⟨by rfl, ?_⟩) hHeld ?_
        · intro W hW; (try dsimp only at hW); go_simp
        refine wpAnyH_take (i := 2) (v := .pointer (some ⟨g, 0, none⟩)) rfl (by kernel_rfl) (by kernel_rfl) (by kernel_rfl) (fun _ _ _ h => h) (Or.inl ⟨by rfl, ?_⟩) hHeld ?_
        · intro W hW; (try dsimp only at hW); go_simp
        refine wpAnyH_take (i := 3) (v := .pointer (some ⟨g, 1, none⟩)) rfl (by kernel_rfl) (by kernel_rfl) (by kernel_rfl) (fun _ _ _ h => h) (Or.inl ⟨by rfl, ?_⟩) hHeld ?_
        · intro W hW; (try dsimp only at hW); go_simp
        change wpAnyH _ _ _ _ _ _ _ ⟨#[.pointer (some ⟨g, 0, none⟩), _, _, .pointer (some ⟨k0, 0, none⟩), .int .i64 (k : Int), _, .int .i64 (k : Int), .pointer (some ⟨g, 0, none⟩), .pointer (some ⟨g, 0, none⟩), .pointer (some ⟨g, 1, none⟩), _, _, _, _, _, _, _, _, _, _, _, _, _, _, _, _, _, _, _, _, _, _, _, _, _, _, _, _, _, _, _, _, _, _, _, _, _, _, _, _, _, _, _, _, _, _, _, _, _, _, _, _, _, _, _, _, _, _, _, _, _, _, _, _, _, _, _, _], []⟩ _
        refine wpAnyH_take (i := 4) (v := .slice (some ⟨b, 0, none⟩) T.l.length cap) rfl (by kernel_rfl) (by kernel_rfl) (by kernel_rfl) (fun _ _ _ h => h) (Or.inl ⟨by rfl, ?_⟩) hHeld ?_
        · intro W hW; (try dsimp only at hW); have hc := hW.1.cell 1 _ rfl; clear hW; go_simp
        refine wpAnyH_take (i := 5) (v := .int .i64 (T.l.length : Int)) rfl (by kernel_rfl) (by kernel_rfl) (by kernel_rfl) (fun _ _ _ h => h) (Or.inl ⟨by rfl, ?_⟩) hHeld ?_
        · intro W hW; (try dsimp only at hW); go_simp
        refine wpAnyH_take (i := 6) (v := .bool true) rfl (by kernel_rfl) (by kernel_rfl) (by kernel_rfl) (fun _ _ _ h => h) (Or.inl ⟨by rfl, ?_⟩) hHeld ?_
        · intro W hW; (try dsimp only at hW); go_simp
        refine wpAnyH_take (i := 7) (v := .bool true) rfl (by kernel_rfl) (by kernel_rfl) (by kernel_rfl) (fun _ _ _ h => h) (Or.inl ⟨by rfl, ?_⟩) hHeld ?_
        · intro W hW; (try dsimp only at hW); go_simp
        change wpAnyH _ _ _ _ _ _ _ ⟨#[.pointer (some ⟨g, 0, none⟩), _, _, .pointer (some ⟨k0, 0, none⟩), .int .i64 (k : Int), _, .int .i64 (k : Int), .pointer (some ⟨g, 0, none⟩), .pointer (some ⟨g, 0, none⟩), .pointer (some ⟨g, 1, none⟩), .slice (some ⟨b, 0, none⟩) T.l.length cap, .int .i64 (T.l.length : Int), .bool true, .bool true, _, _, _, _, _, _, _, _, _, _, _, _, _, _, _, _, _, _, _, _, _, _, _, _, _, _, _, _, _, _, _, _, _, _, _, _, _, _, _, _, _, _, _, _, _, _, _, _, _, _, _, _, _, _, _, _, _, _, _, _, _, _, _, _], []⟩ _
        refine wpAnyH_take (i := 8) (v := .pointer (some ⟨g, 0, none⟩)) rfl (by kernel_rfl) (by kernel_rfl) (by kernel_rfl) (fun _ _ _ h => h) (Or.inl ⟨by rfl, ?_⟩) hHeld ?_
        · intro W hW; (try dsimp only at hW); go_simp
        refine wpAnyH_take (i := 9) (v := .pointer (some ⟨g, 0, none⟩)) rfl (by kernel_rfl) (by kernel_rfl) (by kernel_rfl) (fun _ _ _ h => h) (Or.inl ⟨by rfl, ?_⟩) hHeld ?_
        · intro W hW; (try dsimp only at hW); go_simp
        refine wpAnyH_take (i := 10) (v := .pointer (some ⟨g, 1, none⟩)) rfl (by kernel_rfl) (by kernel_rfl) (by kernel_rfl) (fun _ _ _ h => h) (Or.inl ⟨by rfl, ?_⟩) hHeld ?_
        · intro W hW; (try dsimp only at hW); go_simp
        refine wpAnyH_take (i := 11) (v := .slice (some ⟨b, 0, none⟩) T.l.length cap) rfl (by kernel_rfl) (by kernel_rfl) (by kernel_rfl) (fun _ _ _ h => h) (Or.inl ⟨by rfl, ?_⟩) hHeld ?_
        · intro W hW; (try dsimp only at hW); have hc := hW.1.cell 1 _ rfl; clear hW; go_simp
        change wpAnyH _ _ _ _ _ _ _ ⟨#[.pointer (some ⟨g, 0, none⟩), _, _, .pointer (some ⟨k0, 0, none⟩), .int .i64 (k : Int), _, .int .i64 (k : Int), .pointer (some ⟨g, 0, none⟩), .pointer (some ⟨g, 0, none⟩), .pointer (some ⟨g, 1, none⟩), .slice (some ⟨b, 0, none⟩) T.l.length cap, .int .i64 (T.l.length : Int), .bool true, .bool true, .pointer (some ⟨g, 0, none⟩), .pointer (some ⟨g, 0, none⟩), .pointer (some ⟨g, 1, none⟩), .slice (some ⟨b, 0, none⟩) T.l.length cap, _, _, _, _, _, _, _, _, _, _, _, _, _, _, _, _, _, _, _, _, _, _, _, _, _, _, _, _, _, _, _, _, _, _, _, _, _, _, _, _, _, _, _, _, _, _, _, _, _, _, _, _, _, _, _, _, _, _, _, _], []⟩ _
        refine wpAnyH_take (i := 12) (v := .int .i64 (k : Int)) rfl (by kernel_rfl) (by kernel_rfl) (by kernel_rfl) (fun _ _ _ h => h) (Or.inl ⟨by rfl, ?_⟩) hHeld ?_
        · intro W hW; (try dsimp only at hW); go_simp
        refine wpAnyH_take (i := 13) (v := .pointer (some ⟨b, k * 10, none⟩)) rfl (by kernel_rfl) (by kernel_rfl) (by kernel_rfl) (fun _ _ _ h => h) (Or.inl ⟨by rfl, ?_⟩) hHeld ?_
        · intro W hW; (try dsimp only at hW); go_simp
        refine wpAnyH_take (i := 14) (v := .pointer (some ⟨b, k * 10, none⟩)) rfl (by kernel_rfl) (by kernel_rfl) (by kernel_rfl) (fun _ _ _ h => h) (Or.inl ⟨by rfl, ?_⟩) hHeld ?_
        · intro W hW; (try dsimp only at hW); go_simp
        refine wpAnyH_take (i := 15) (v := .int .i64 y.v) rfl (by kernel_rfl) (by kernel_rfl) (by kernel_rfl) (fun _ _ _ h => h) (Or.inl ⟨by rfl, ?_⟩) hHeld ?_
        · intro W hW; (try dsimp only at hW); have hc := (range_cells (hW.2.1.ent HY.out)).1; clear hW; go_simp
        change wpAnyH _ _ _ _ _ _ _ ⟨#[.pointer (some ⟨g, 0, none⟩), _, _, .pointer (some ⟨k0, 0, none⟩), .int .i64 (k : Int), _, .int .i64 (k : Int), .pointer (some ⟨g, 0, none⟩), .pointer (some ⟨g, 0, none⟩), .pointer (some ⟨g, 1, none⟩), .slice (some ⟨b, 0, none⟩) T.l.length cap, .int .i64 (T.l.length : Int), .bool true, .bool true, .pointer (some ⟨g, 0, none⟩), .pointer (some ⟨g, 0, none⟩), .pointer (some ⟨g, 1, none⟩), .slice (some ⟨b, 0, none⟩) T.l.length cap, .int .i64 (k : Int), .pointer (some ⟨b, k * 10, none⟩), .pointer (some ⟨b, k * 10, none⟩), .int .i64 y.v, _, _, _, _, _, _, _, _, _, _, _, _, _, _, _, _, _, _, _, _, _, _, _, _, _, _, _, _, _, _, _, _, _, _, _, _, _, _, _, _, _, _, _, _, _, _, _, _, _, _, _, _, _, _, _, _], []⟩ _
        refine wpAnyH_take (i := 16) (v := .pointer (some ⟨k0, 0, none⟩)) rfl (by kernel_rfl) (by kernel_rfl) (by kernel_rfl) (fun _ _ _ h => h) (Or.inl ⟨by rfl, ?_⟩) hHeld ?_
        · intro W hW; (try dsimp only at hW); go_simp
        refine wpAnyH_take (i := 17) (v := .int .i64 x.v) rfl (by kernel_rfl) (by kernel_rfl) (by kernel_rfl) (fun _ _ _ h => h) (Or.inl ⟨by rfl, ?_⟩) hHeld ?_
        · intro W hW; (try dsimp only at hW); have hc := hW.2.2.cell 0 _ rfl; clear hW; go_simp
        refine wpAnyH_take (i := 18) (v := .bool true) rfl (by kernel_rfl) (by kernel_rfl) (by kernel_rfl) (fun _ _ _ h => h) (Or.inl ⟨by rfl, ?_⟩) hHeld ?_
        · intro W hW; (try dsimp only at hW); go_simp
        refine wpAnyH_take (i := 19) (v := .bool true) rfl (by kernel_rfl) (by kernel_rfl) (by kernel_rfl) (fun _ _ _ h => h) (Or.inl ⟨by rfl, ?_⟩) hHeld ?_
        · intro W hW; (try dsimp only at hW); go_simp
        change wpAnyH _ _ _ _ _ _ _ ⟨#[.pointer (some ⟨g, 0, none⟩), _, _, .pointer (some ⟨k0, 0, none⟩), .int .i64 (k : Int), _, .int .i64 (k : Int), .pointer (some ⟨g, 0, none⟩), .pointer (some ⟨g, 0, none⟩), .pointer (some ⟨g, 1, none⟩), .slice (some ⟨b, 0, none⟩) T.l.length cap, .int .i64 (T.l.length : Int), .bool true, .bool true, .pointer (some ⟨g, 0, none⟩), .pointer (some ⟨g, 0, none⟩), .pointer (some ⟨g, 1, none⟩), .slice (some ⟨b, 0, none⟩) T.l.length cap, .int .i64 (k : Int), .pointer (some ⟨b, k * 10, none⟩), .pointer (some ⟨b, k * 10, none⟩), .int .i64 y.v, .pointer (some ⟨k0, 0, none⟩), .int .i64 x.v, .bool true, .bool true, _, _, _, _, _, _, _, _, _, _, _, _, _, _, _, _, _, _, _, _, _, _, _, _, _, _, _, _, _, _, _, _, _, _, _, _, _, _, _, _, _, _, _, _, _, _, _, _, _, _, _, _], []⟩ _
        refine wpAnyH_take (i := 20) (v := undef) rfl (by kernel_rfl) (by kernel_rfl) (by kernel_rfl) (fun _ _ _ h => h) (Or.inr ⟨by rfl, rfl⟩) hHeld ?_
        refine wpAnyH_take (i := 21) (v := undef) rfl (by kernel_rfl) (by kernel_rfl) (by kernel_rfl) (fun _ _ _ h => h) (Or.inr ⟨by rfl, rfl⟩) hHeld ?_
        refine wpAnyH_take (i := 22) (v := undef) rfl (by kernel_rfl) (by kernel_rfl) (by kernel_rfl) (fun _ _ _ h => h) (Or.inr ⟨by rfl, rfl⟩) hHeld ?_
        refine wpAnyH_take (i := 23) (v := undef) rfl (by kernel_rfl) (by kernel_rfl) (by kernel_rfl) (fun _ _ _ h => h) (Or.inr ⟨by rfl, rfl⟩) hHeld ?_
        change wpAnyH _ _ _ _ _ _ _ ⟨#[.pointer (some ⟨g, 0, none⟩), _, _, .pointer (some ⟨k0, 0, none⟩), .int .i64 (k : Int), _, .int .i64 (k : Int), .pointer (some ⟨g, 0, none⟩), .pointer (some ⟨g, 0, none⟩), .pointer (some ⟨g, 1, none⟩), .slice (some ⟨b, 0, none⟩) T.l.length cap, .int .i64 (T.l.length : Int), .bool true, .bool true, .pointer (some ⟨g, 0, none⟩), .pointer (some ⟨g, 0, none⟩), .pointer (some ⟨g, 1, none⟩), .slice (some ⟨b, 0, none⟩) T.l.length cap, .int .i64 (k : Int), .pointer (some ⟨b, k * 10, none⟩), .pointer (some ⟨b, k * 10, none⟩), .int .i64 y.v, .pointer (some ⟨k0, 0, none⟩), .int .i64 x.v, .bool true, .bool true, undef, undef, undef, undef, _, _, _, _, _, _, _, _, _, _, _, _, _, _, _, _, _, _, _, _, _, _, _, _, _, _, _, _, _, _, _, _, _, _, _, _, _, _, _, _, _, _, _, _, _, _, _, _], []⟩ _
        refine wpAnyH_take (i := 24) (v := undef) rfl (by kernel_rfl) (by kernel_rfl) (by kernel_rfl) (fun _ _ _ h => h) (Or.inr ⟨by rfl, rfl⟩) hHeld ?_
        refine wpAnyH_take (i := 25) (v := undef) rfl (by kernel_rfl) (by kernel_rfl) (by kernel_rfl) (fun _ _ _ h => h) (Or.inr ⟨by rfl, rfl⟩) hHeld ?_
        refine wpAnyH_take (i := 26) (v := undef) rfl (by kernel_rfl) (by kernel_rfl) (by kernel_rfl) (fun _ _ _ h => h) (Or.inr ⟨by rfl, rfl⟩) hHeld ?_
        refine wpAnyH_take (i := 27) (v := undef) rfl (by kernel_rfl) (by kernel_rfl) (by kernel_rfl) (fun _ _ _ h => h) (Or.inr ⟨by rfl, rfl⟩) hHeld ?_
        change wpAnyH _ _ _ _ _ _ _ ⟨#[.pointer (some ⟨g, 0, none⟩), _, _, .pointer (some ⟨k0, 0, none⟩), .int .i64 (k : Int), _, .int .i64 (k : Int), .pointer (some ⟨g, 0, none⟩), .pointer (some ⟨g, 0, none⟩), .pointer (some ⟨g, 1, none⟩), .slice (some ⟨b, 0, none⟩) T.l.length cap, .int .i64 (T.l.length : Int), .bool true, .bool true, .pointer (some ⟨g, 0, none⟩), .pointer (some ⟨g, 0, none⟩), .pointer (some ⟨g, 1, none⟩), .slice (some ⟨b, 0, none⟩) T.l.length cap, .int .i64 (k : Int), .pointer (some ⟨b, k * 10, none⟩), .pointer (some ⟨b, k * 10, none⟩), .int .i64 y.v, .pointer (some ⟨k0, 0, none⟩), .int .i64 x.v, .bool true, .bool true, undef, undef, undef, undef, undef, undef, undef, undef, _, _, _, _, _, _, _, _, _, _, _, _, _, _, _, _, _, _, _, _, _, _, _, _, _, _, _, _, _, _, _, _, _, _, _, _, _, _, _, _, _, _, _, _], []⟩ _
        refine wpAnyH_take (i := 28) (v := undef) rfl (by kernel_rfl) (by kernel_rfl) (by kernel_rfl) (fun _ _ _ h => h) (Or.inr ⟨by rfl, rfl⟩) hHeld ?_
        refine wpAnyH_take (i := 29) (v := undef) rfl (by kernel_rfl) (by kernel_rfl) (by kernel_rfl) (fun _ _ _ h => h) (Or.inr ⟨by rfl, rfl⟩) hHeld ?_
        refine wpAnyH_take (i := 30) (v := undef) rfl (by kernel_rfl) (by kernel_rfl) (by kernel_rfl) (fun _ _ _ h => h) (Or.inr ⟨by rfl, rfl⟩) hHeld ?_
        refine wpAnyH_take (i := 31) (v := undef) rfl (by kernel_rfl) (by kernel_rfl) (by kernel_rfl) (fun _ _ _ h => h) (Or.inr ⟨by rfl, rfl⟩) hHeld ?_
        change wpAnyH _ _ _ _ _ _ _ ⟨#[.pointer (some ⟨g, 0, none⟩), _, _, .pointer (some ⟨k0, 0, none⟩), .int .i64 (k : Int), _, .int .i64 (k : Int), .pointer (some ⟨g, 0, none⟩), .pointer (some ⟨g, 0, none⟩), .pointer (some ⟨g, 1, none⟩), .slice (some ⟨b, 0, none⟩) T.l.length cap, .int .i64 (T.l.length : Int), .bool true, .bool true, .pointer (some ⟨g, 0, none⟩), .pointer (some ⟨g, 0, none⟩), .pointer (some ⟨g, 1, none⟩), .slice (some ⟨b, 0, none⟩) T.l.length cap, .int .i64 (k : Int), .pointer (some ⟨b, k * 10, none⟩), .pointer (some ⟨b, k * 10, none⟩), .int .i64 y.v, .pointer (some ⟨k0, 0, none⟩), .int .i64 x.v, .bool true, .bool true, undef, undef, undef, undef, undef, undef, undef, undef, undef, undef, undef, undef, _, _, _, _, _, _, _, _, _, _, _, _, _, _, _, _, _, _, _, _, _, _, _, _, _, _, _, _, _, _, _, _, _, _, _, _, _, _, _, _], []⟩ _
        refine wpAnyH_take (i := 32) (v := undef) rfl (by kernel_rfl) (by kernel_rfl) (by kernel_rfl) (fun _ _ _ h => h) (Or.inr ⟨by rfl, rfl⟩) hHeld ?_
        refine wpAnyH_take (i := 33) (v := undef) rfl (by kernel_rfl) (by kernel_rfl) (by kernel_rfl) (fun _ _ _ h => h) (Or.inr ⟨by rfl, rfl⟩) hHeld ?_
        refine wpAnyH_take (i := 34) (v := undef) rfl (by kernel_rfl) (by kernel_rfl) (by kernel_rfl) (fun _ _ _ h => h) (Or.inr ⟨by rfl, rfl⟩) hHeld ?_
        refine wpAnyH_take (i := 35) (v := undef) rfl (by kernel_rfl) (by kernel_rfl) (by kernel_rfl) (fun _ _ _ h => h) (Or.inr ⟨by rfl, rfl⟩) hHeld ?_
        change wpAnyH _ _ _ _ _ _ _ ⟨#[.pointer (some ⟨g, 0, none⟩), _, _, .pointer (some ⟨k0, 0, none⟩), .int .i64 (k : Int), _, .int .i64 (k : Int), .pointer (some ⟨g, 0, none⟩), .pointer (some ⟨g, 0, none⟩), .pointer (some ⟨g, 1, none⟩), .slice (some ⟨b, 0, none⟩) T.l.length cap, .int .i64 (T.l.length : Int), .bool true, .bool true, .pointer (some ⟨g, 0, none⟩), .pointer (some ⟨g, 0, none⟩), .pointer (some ⟨g, 1, none⟩), .slice (some ⟨b, 0, none⟩) T.l.length cap, .int .i64 (k : Int), .pointer (some ⟨b, k * 10, none⟩), .pointer (some ⟨b, k * 10, none⟩), .int .i64 y.v, .pointer (some ⟨k0, 0, none⟩), .int .i64 x.v, .bool true, .bool true, undef, undef, undef, undef, undef, undef, undef, undef, undef, undef, undef, undef, undef, undef, undef, undef, _, _, _, _, _, _, _, _, _, _, _, _, _, _, _, _, _, _, _, _, _, _, _, _, _, _, _, _, _, _, _, _, _, _, _, _], []⟩ _
        refine wpAnyH_take (i := 36) (v := undef) rfl (by kernel_rfl) (by kernel_rfl) (by kernel_rfl) (fun _ _ _ h => h) (Or.inr ⟨by rfl, rfl⟩) hHeld ?_
        refine wpAnyH_take (i := 37) (v := undef) rfl (by kernel_rfl) (by kernel_rfl) (by kernel_rfl) (fun _ _ _ h => h) (Or.inr ⟨by rfl, rfl⟩) hHeld ?_
        refine wpAnyH_take (i := 38) (v := undef) rfl (by kernel_rfl) (by kernel_rfl) (by kernel_rfl) (fun _ _ _ h => h) (Or.inr ⟨by rfl, rfl⟩) hHeld ?_
        refine wpAnyH_take (i := 39) (v := undef) rfl (by kernel_rfl) (by kernel_rfl) (by kernel_rfl) (fun _ _ _ h => h) (Or.inr ⟨by rfl, rfl⟩) hHeld ?_
        change wpAnyH _ _ _ _ _ _ _ ⟨#[.pointer (some ⟨g, 0, none⟩), _, _, .pointer (some ⟨k0, 0, none⟩), .int .i64 (k : Int), _, .int .i64 (k : Int), .pointer (some ⟨g, 0, none⟩), .pointer (some ⟨g, 0, none⟩), .pointer (some ⟨g, 1, none⟩), .slice (some ⟨b, 0, none⟩) T.l.length cap, .int .i64 (T.l.length : Int), .bool true, .bool true, .pointer (some ⟨g, 0, none⟩), .pointer (some ⟨g, 0, none⟩), .pointer (some ⟨g, 1, none⟩), .slice (some ⟨b, 0, none⟩) T.l.length cap, .int .i64 (k : Int), .pointer (some ⟨b, k * 10, none⟩), .pointer (some ⟨b, k * 10, none⟩), .int .i64 y.v, .pointer (some ⟨k0, 0, none⟩), .int .i64 x.v, .bool true, .bool true, undef, undef, undef, undef, undef, undef, undef, undef, undef, undef, undef, undef, undef, undef, undef, undef, undef, undef, undef, undef, _, _, _, _, _, _, _, _, _, _, _, _, _, _, _, _, _, _, _, _, _, _, _, _, _, _, _, _, _, _, _, _], []⟩ _
        refine wpAnyH_take (i := 40) (v := undef) rfl (by kernel_rfl) (by kernel_rfl) (by kernel_rfl) (fun _ _ _ h => h) (Or.inr ⟨by rfl, rfl⟩) hHeld ?_
        refine wpAnyH_take (i := 41) (v := undef) rfl (by kernel_rfl) (by kernel_rfl) (by kernel_rfl) (fun _ _ _ h => h) (Or.inr ⟨by rfl, rfl⟩) hHeld ?_
        refine wpAnyH_take (i := 42) (v := undef) rfl (by kernel_rfl) (by kernel_rfl) (by kernel_rfl) (fun _ _ _ h => h) (Or.inr ⟨by rfl, rfl⟩) hHeld ?_
        refine wpAnyH_take (i := 43) (v := undef) rfl (by kernel_rfl) (by kernel_rfl) (by kernel_rfl) (fun _ _ _ h => h) (Or.inr ⟨by rfl, rfl⟩) hHeld ?_
        change wpAnyH _ _ _ _ _ _ _ ⟨#[.pointer (some ⟨g, 0, none⟩), _, _, .pointer (some ⟨k0, 0, none⟩), .int .i64 (k : Int), _, .int .i64 (k : Int), .pointer (some ⟨g, 0, none⟩), .pointer (some ⟨g, 0, none⟩), .pointer (some ⟨g, 1, none⟩), .slice (some ⟨b, 0, none⟩) T.l.length cap, .int .i64 (T.l.length : Int), .bool true, .bool true, .pointer (some ⟨g, 0, none⟩), .pointer (some ⟨g, 0, none⟩), .pointer (some ⟨g, 1, none⟩), .slice (some ⟨b, 0, none⟩) T.l.length cap, .int .i64 (k : Int), .pointer (some ⟨b, k * 10, none⟩), .pointer (some ⟨b, k * 10, none⟩), .int .i64 y.v, .pointer (some ⟨k0, 0, none⟩), .int .i64 x.v, .bool true, .bool true, undef, undef, undef, undef, undef, undef, undef, undef, undef, undef, undef, undef, undef, undef, undef, undef, undef, undef, undef, undef, undef, undef, undef, undef, _, _, _, _, _, _, _, _, _, _, _, _, _, _, _, _, _, _, _, _, _, _, _, _, _, _, _, _], []⟩ _
        refine wpAnyH_take (i := 44) (v := undef) rfl (by kernel_rfl) (by kernel_rfl) (by kernel_rfl) (fun _ _ _ h => h) (Or.inr ⟨by rfl, rfl⟩) hHeld ?_
        refine wpAnyH_take (i := 45) (v := .bool true) rfl (by kernel_rfl) (by kernel_rfl) (by kernel_rfl) (fun _ _ _ h => h) (Or.inl ⟨by rfl, ?_⟩) hHeld ?_
        · intro W hW; (try dsimp only at hW); go_simp
        refine wpAnyH_take (i := 46) (v := .bool true) rfl (by kernel_rfl) (by kernel_rfl) (by kernel_rfl) (fun _ _ _ h => h) (Or.inl ⟨by rfl, ?_⟩) hHeld ?_
        · intro W hW; (try dsimp only at hW); go_simp
        change wpAnyH _ _ _ _ _ _ _ ⟨#[.pointer (some ⟨g, 0, none⟩), _, _, .pointer (some ⟨k0, 0, none⟩), .int .i64 (k : Int), _, .int .i64 (k : Int), .pointer (some ⟨g, 0, none⟩), .pointer (some ⟨g, 0, none⟩), .pointer (some ⟨g, 1, none⟩), .slice (some ⟨b, 0, none⟩) T.l.length cap, .int .i64 (T.l.length : Int), .bool true, .bool true, .pointer (some ⟨g, 0, none⟩), .pointer (some ⟨g, 0, none⟩), .pointer (some ⟨g, 1, none⟩), .slice (some ⟨b, 0, none⟩) T.l.length cap, .int .i64 (k : Int), .pointer (some ⟨b, k * 10, none⟩), .pointer (some ⟨b, k * 10, none⟩), .int .i64 y.v, .pointer (some ⟨k0, 0, none⟩), .int .i64 x.v, .bool true, .bool true, undef, undef, undef, undef, undef, undef, undef, undef, undef, undef, undef, undef, undef, undef, undef, undef, undef, undef, undef, undef, undef, undef, undef, undef, undef, .bool true, .bool true, _, _, _, _, _, _, _, _, _, _, _, _, _, _, _, _, _, _, _, _, _, _, _, _, _], []⟩ _
        have HG := hide hHeld.1
        have HL := hide hHeld.2.1
        have HX := hide hHeld.2.2
        clear hHeld
        refine wpAnyH_done (by kernel_rfl) ?_ _
        go_wp2
        go_roundw
        case rel => exact ⟨k + 1, by omega, by go_num, HN.out, B.out⟩
        case measure => simp [intOf]; omega
      · by_cases c2 : y.v = x.v
        · obtain ⟨cc, hcc⟩ : ∃ cc, cc = decide (cmp3 (num y.m) (num x.m) < 0) := ⟨_, rfl⟩
          have hlt : ¬ y.v < x.v := c1
          have heq : (y.v == x.v) = true := by simp [c2]
          have hc3 : (cmp3 (num y.m) (num x.m) < 0) ↔ num y.m < num x.m := by unfold cmp3; split <;> (try split) <;> omega
          have hcase : (cc = true ∧ ke y < ke x) ∨ (cc = false ∧ ke x < ke y) := by
            have := HYN.out
            by_cases c : num y.m < num x.m
            · exact Or.inl ⟨by rw [hcc]; simp [hc3, c], by unfold ke kn; omega⟩
            · exact Or.inr ⟨by rw [hcc]; simp [hc3]; omega, by unfold ke kn at *; omega⟩
          have HC := hide hcase
          have HNX := hide hnx
          have HPU := hide hup
          clear hc3 hcase hnx hup y0 y1 x0 x1 c2
          go_wp2_with fail
          refine wp_region_held_drew (S := fun w' => Box w' g [.int .i64 T.n, .slice (some ⟨b, 0, none⟩) T.l.length cap] ∧ Box w' b (es T.l) ∧ Box w' k0 (ecl x)) (by kernel_rfl) ⟨HG.out.drew, HL.out.drew, HX.out.drew⟩ (fun hHeld => ?_)
          have B := hide (belowOn' HB.out)
          clear HB HG HX HL
          generalize World.drew _ = u0 at *
          refine wpAnyH_take (i := 0) (v := .int .i64 (k : Int)) rfl (by kernel_rfl) (by kernel_rfl) (by kernel_rfl) (fun _ _ _ h => h) (Or.inl ⟨by rfl, ?_⟩) hHeld ?_
          · intro W hW; (try dsimp only at hW); go_simp
          refine wpAnyH_take (i := 1) (v := .pointer (some ⟨g, 0, none⟩)) rfl (by kernel_rfl) (by kernel_rfl) (by kernel_rfl) (fun _ _ _ h => h) (Or.inl ⟨by rfl, ?_⟩) hHeld ?_
          · intro W hW; (try dsimp only at hW); go_simp
          refine wpAnyH_take (i := 2) (v := .pointer (some ⟨g, 0, none⟩)) rfl (by kernel_rfl) (by kernel_rfl) (by kernel_rfl) (fun _ _ _ h => h) (Or.inl ⟨by rfl, ?_⟩) hHeld ?_
          · intro W hW; (try dsimp only at hW); go_simp
          refine wpAnyH_take (i := 3) (v := .pointer (some ⟨g, 1, none⟩)) rfl (by kernel_rfl) (by kernel_rfl) (by kernel_rfl) (fun _ _ _ h => h) (Or.inl ⟨by rfl, ?_⟩) hHeld ?_
          · intro W hW; (try dsimp only at hW); go_simp
          change wpAnyH _ _ _ _ _ _ _ ⟨#[.pointer (some ⟨g, 0, none⟩), _, _, .pointer (some ⟨k0, 0, none⟩), .int .i64 (k : Int), _, .int .i64 (k : Int), .pointer (some ⟨g, 0, none⟩), .pointer (some ⟨g, 0, none⟩), .pointer (some ⟨g, 1, none⟩), _, _, _, _, _, _, _, _, _, _, _, _, _, _, _, _, _, _, _, _, _, _, _, _, _, _, _, _, _, _, _, _, _, _, _, _, _, _, _, _, _, _, _, _, _, _, _, _, _, _, _, _, _, _, _, _, _, _, _, _, _, _, _, _, _, _, _, _], []⟩ _
          refine wpAnyH_take (i := 4) (v := .slice (some ⟨b, 0, none⟩) T.l.length cap) rfl (by kernel_rfl) (by kernel_rfl) (by kernel_rfl) (fun _ _ _ h => h) (Or.inl ⟨by rfl, ?_⟩) hHeld ?_
          · intro W hW; (try dsimp only at hW); have hc := hW.1.cell 1 _ rfl; clear hW; go_simp
          refine wpAnyH_take (i := 5) (v := .int .i64 (T.l.length : Int)) rfl (by kernel_rfl) (by kernel_rfl) (by kernel_rfl) (fun _ _ _ h => h) (Or.inl ⟨by rfl, ?_⟩) hHeld ?_
          · intro W hW; (try dsimp only at hW); go_simp
          refine wpAnyH_take (i := 6) (v := .bool true) rfl (by kernel_rfl) (by kernel_rfl) (by kernel_rfl) (fun _ _ _ h => h) (Or.inl ⟨by rfl, ?_⟩) hHeld ?_
          · intro W hW; (try dsimp only at hW); go_simp
          refine wpAnyH_take (i := 7) (v := .bool true) rfl (by kernel_rfl) (by kernel_rfl) (by kernel_rfl) (fun _ _ _ h => h) (Or.inl ⟨by rfl, ?_⟩) hHeld ?_
          · intro W hW; (try dsimp only at hW); go_simp
          change wpAnyH _ _ _ _ _ _ _ ⟨#[.pointer (some ⟨g, 0, none⟩), _, _, .pointer (some ⟨k0, 0, none⟩), .int .i64 (k : Int), _, .int .i64 (k : Int), .pointer (some ⟨g, 0, none⟩), .pointer (some ⟨g, 0, none⟩), .pointer (some ⟨g, 1, none⟩), .slice (some ⟨b, 0, none⟩) T.l.length cap, .int .i64 (T.l.length : Int), .bool true, .bool true, _, _, _, _, _, _, _, _, _, _, _, _, _, _, _, _, _, _, _, _, _, _, _, _, _, _, _, _, _, _, _, _, _, _, _, _, _, _, _, _, _, _, _, _, _, _, _, _, _, _, _, _, _, _, _, _, _, _, _, _, _, _, _, _], []⟩ _
          refine wpAnyH_take (i := 8) (v := .pointer (some ⟨g, 0, none⟩)) rfl (by kernel_rfl) (by kernel_rfl) (by kernel_rfl) (fun _ _ _ h => h) (Or.inl ⟨by rfl, ?_⟩) hHeld ?_
          · intro W hW; (try dsimp only at hW); go_simp
          refine wpAnyH_take (i := 9) (v := .pointer (some ⟨g, 0, none⟩)) rfl (by kernel_rfl) (by kernel_rfl) (by kernel_rfl) (fun _ _ _ h => h) (Or.inl ⟨by rfl, ?_⟩) hHeld ?_
          · intro W hW; (try dsimp only at hW); go_simp
          refine wpAnyH_take (i := 10) (v := .pointer (some ⟨g, 1, none⟩)) rfl (by kernel_rfl) (by kernel_rfl) (by kernel_rfl) (fun _ _ _ h => h) (Or.inl ⟨by rfl, ?_⟩) hHeld ?_
          · intro W hW; (try dsimp only at hW); go_simp
          refine wpAnyH_take (i := 11) (v := .slice (some ⟨b, 0, none⟩) T.l.length cap) rfl (by kernel_rfl) (by kernel_rfl) (by kernel_rfl) (fun _ _ _ h => h) (Or.inl ⟨by rfl, ?_⟩) hHeld ?_
          · intro W hW; (try dsimp only at hW); have hc := hW.1.cell 1 _ rfl; clear hW; go_simp
          change wpAnyH _ _ _ _ _ _ _ ⟨#[.pointer (some ⟨g, 0, none⟩), _, _, .pointer (some ⟨k0, 0, none⟩), .int .i64 (k : Int), _, .int .i64 (k : Int), .pointer (some ⟨g, 0, none⟩), .pointer (some ⟨g, 0, none⟩), .pointer (some ⟨g, 1, none⟩), .slice (some ⟨b, 0, none⟩) T.l.length cap, .int .i64 (T.l.length : Int), .bool true, .bool true, .pointer (some ⟨g, 0, none⟩), .pointer (some ⟨g, 0, none⟩), .pointer (some ⟨g, 1, none⟩), .slice (some ⟨b, 0, none⟩) T.l.length cap, _, _, _, _, _, _, _, _, _, _, _, _, _, _, _, _, _, _, _, _, _, _, _, _, _, _, _, _, _, _, _, _, _, _, _, _, _, _, _, _, _, _, _, _, _, _, _, _, _, _, _, _, _, _, _, _, _, _, _, _], []⟩ _
          refine wpAnyH_take (i := 12) (v := .int .i64 (k : Int)) rfl (by kernel_rfl) (by kernel_rfl) (by kernel_rfl) (fun _ _ _ h => h) (Or.inl ⟨by rfl, ?_⟩) hHeld ?_
          · intro W hW; (try dsimp only at hW); go_simp
          refine wpAnyH_take (i := 13) (v := .pointer (some ⟨b, k * 10, none⟩)) rfl (by kernel_rfl) (by kernel_rfl) (by kernel_rfl) (fun _ _ _ h => h) (Or.inl ⟨by rfl, ?_⟩) hHeld ?_
          · intro W hW; (try dsimp only at hW); go_simp
          refine wpAnyH_take (i := 14) (v := .pointer (some ⟨b, k * 10, none⟩)) rfl (by kernel_rfl) (by kernel_rfl) (by kernel_rfl) (fun _ _ _ h => h) (Or.inl ⟨by rfl, ?_⟩) hHeld ?_
          · intro W hW; (try dsimp only at hW); go_simp
          refine wpAnyH_take (i := 15) (v := .int .i64 y.v) rfl (by kernel_rfl) (by kernel_rfl) (by kernel_rfl) (fun _ _ _ h => h) (Or.inl ⟨by rfl, ?_⟩) hHeld ?_
          · intro W hW; (try dsimp only at hW); have hc := (range_cells (hW.2.1.ent HY.out)).1; clear hW; go_simp
          change wpAnyH _ _ _ _ _ _ _ ⟨#[.pointer (some ⟨g, 0, none⟩), _, _, .pointer (some ⟨k0, 0, none⟩), .int .i64 (k : Int), _, .int .i64 (k : Int), .pointer (some ⟨g, 0, none⟩), .pointer (some ⟨g, 0, none⟩), .pointer (some ⟨g, 1, none⟩), .slice (some ⟨b, 0, none⟩) T.l.length cap, .int .i64 (T.l.length : Int), .bool true, .bool true, .pointer (some ⟨g, 0, none⟩), .pointer (some ⟨g, 0, none⟩), .pointer (some ⟨g, 1, none⟩), .slice (some ⟨b, 0, none⟩) T.l.length cap, .int .i64 (k : Int), .pointer (some ⟨b, k * 10, none⟩), .pointer (some ⟨b, k * 10, none⟩), .int .i64 y.v, _, _, _, _, _, _, _, _, _, _, _, _, _, _, _, _, _, _, _, _, _, _, _, _, _, _, _, _, _, _, _, _, _, _, _, _, _, _, _, _, _, _, _, _, _, _, _, _, _, _, _, _, _, _, _, _], []⟩ _
          refine wpAnyH_take (i := 16) (v := .pointer (some ⟨k0, 0, none⟩)) rfl (by kernel_rfl) (by kernel_rfl) (by kernel_rfl) (fun _ _ _ h => h) (Or.inl ⟨by rfl, ?_⟩) hHeld ?_
          · intro W hW; (try dsimp only at hW); go_simp
          refine wpAnyH_take (i := 17) (v := .int .i64 x.v) rfl (by kernel_rfl) (by kernel_rfl) (by kernel_rfl) (fun _ _ _ h => h) (Or.inl ⟨by rfl, ?_⟩) hHeld ?_
          · intro W hW; (try dsimp only at hW); have hc := hW.2.2.cell 0 _ rfl; clear hW; go_simp
          refine wpAnyH_take (i := 18) (v := .bool false) rfl (by kernel_rfl) (by kernel_rfl) (by kernel_rfl) (fun _ _ _ h => h) (Or.inl ⟨by rfl, ?_⟩) hHeld ?_
          · intro W hW; (try dsimp only at hW); go_simp
          refine wpAnyH_take (i := 19) (v := .bool false) rfl (by kernel_rfl) (by kernel_rfl) (by kernel_rfl) (fun _ _ _ h => h) (Or.inl ⟨by rfl, ?_⟩) hHeld ?_
          · intro W hW; (try dsimp only at hW); go_simp
          change wpAnyH _ _ _ _ _ _ _ ⟨#[.pointer (some ⟨g, 0, none⟩), _, _, .pointer (some ⟨k0, 0, none⟩), .int .i64 (k : Int), _, .int .i64 (k : Int), .pointer (some ⟨g, 0, none⟩), .pointer (some ⟨g, 0, none⟩), .pointer (some ⟨g, 1, none⟩), .slice (some ⟨b, 0, none⟩) T.l.length cap, .int .i64 (T.l.length : Int), .bool true, .bool true, .pointer (some ⟨g, 0, none⟩), .pointer (some ⟨g, 0, none⟩), .pointer (some ⟨g, 1, none⟩), .slice (some ⟨b, 0, none⟩) T.l.length cap, .int .i64 (k : Int), .pointer (some ⟨b, k * 10, none⟩), .pointer (some ⟨b, k * 10, none⟩), .int .i64 y.v, .pointer (some ⟨k0, 0, none⟩), .int .i64 x.v, .bool false, .bool false, _, _, _, _, _, _, _, _, _, _, _, _, _, _, _, _, _, _, _, _, _, _, _, _, _, _, _, _, _, _, _, _, _, _, _, _, _, _, _, _, _, _, _, _, _, _, _, _, _, _, _, _], []⟩ _
          refine wpAnyH_take (i := 20) (v := .pointer (some ⟨g, 0, none⟩)) rfl (by kernel_rfl) (by kernel_rfl) (by kernel_rfl) (fun _ _ _ h => h) (Or.inl ⟨by rfl, ?_⟩) hHeld ?_
          · intro W hW; (try dsimp only at hW); go_simp
          refine wpAnyH_take (i := 21) (v := .pointer (some ⟨g, 0, none⟩)) rfl (by kernel_rfl) (by kernel_rfl) (by kernel_rfl) (fun _ _ _ h => h) (Or.inl ⟨by rfl, ?_⟩) hHeld ?_
          · intro W hW; (try dsimp only at hW); go_simp
          refine wpAnyH_take (i := 22) (v := .pointer (some ⟨g, 1, none⟩)) rfl (by kernel_rfl) (by kernel_rfl) (by kernel_rfl) (fun _ _ _ h => h) (Or.inl ⟨by rfl, ?_⟩) hHeld ?_
          · intro W hW; (try dsimp only at hW); go_simp
          refine wpAnyH_take (i := 23) (v := .slice (some ⟨b, 0, none⟩) T.l.length cap) rfl (by kernel_rfl) (by kernel_rfl) (by kernel_rfl) (fun _ _ _ h => h) (Or.inl ⟨by rfl, ?_⟩) hHeld ?_
          · intro W hW; (try dsimp only at hW); have hc := hW.1.cell 1 _ rfl; clear hW; go_simp
          change wpAnyH _ _ _ _ _ _ _ ⟨#[.pointer (some ⟨g, 0, none⟩), _, _, .pointer (some ⟨k0, 0, none⟩), .int .i64 (k : Int), _, .int .i64 (k : Int), .pointer (some ⟨g, 0, none⟩), .pointer (some ⟨g, 0, none⟩), .pointer (some ⟨g, 1, none⟩), .slice (some ⟨b, 0, none⟩) T.l.length cap, .int .i64 (T.l.length : Int), .bool true, .bool true, .pointer (some ⟨g, 0, none⟩), .pointer (some ⟨g, 0, none⟩), .pointer (some ⟨g, 1, none⟩), .slice (some ⟨b, 0, none⟩) T.l.length cap, .int .i64 (k : Int), .pointer (some ⟨b, k * 10, none⟩), .pointer (some ⟨b, k * 10, none⟩), .int .i64 y.v, .pointer (some ⟨k0, 0, none⟩), .int .i64 x.v, .bool false, .bool false, .pointer (some ⟨g, 0, none⟩), .pointer (some ⟨g, 0, none⟩), .pointer (some ⟨g, 1, none⟩), .slice (some ⟨b, 0, none⟩) T.l.length cap, _, _, _, _, _, _, _, _, _, _, _, _, _, _, _, _, _, _, _, _, _, _, _, _, _, _, _, _, _, _, _, _, _, _, _, _, _, _, _, _, _, _, _, _, _, _, _, _], []⟩ _
          refine wpAnyH_take (i := 24) (v := .int .i64 (k : Int)) rfl (by kernel_rfl) (by kernel_rfl) (by kernel_rfl) (fun _ _ _ h => h) (Or.inl ⟨by rfl, ?_⟩) hHeld ?_
          · intro W hW; (try dsimp only at hW); go_simp
          refine wpAnyH_take (i := 25) (v := .pointer (some ⟨b, k * 10, none⟩)) rfl (by kernel_rfl) (by kernel_rfl) (by kernel_rfl) (fun _ _ _ h => h) (Or.inl ⟨by rfl, ?_⟩) hHeld ?_
          · intro W hW; (try dsimp only at hW); go_simp
          refine wpAnyH_take (i := 26) (v := .pointer (some ⟨b, k * 10, none⟩)) rfl (by kernel_rfl) (by kernel_rfl) (by kernel_rfl) (fun _ _ _ h => h) (Or.inl ⟨by rfl, ?_⟩) hHeld ?_
          · intro W hW; (try dsimp only at hW); go_simp
          refine wpAnyH_take (i := 27) (v := .int .i64 y.v) rfl (by kernel_rfl) (by kernel_rfl) (by kernel_rfl) (fun _ _ _ h => h) (Or.inl ⟨by rfl, ?_⟩) hHeld ?_
          · intro W hW; (try dsimp only at hW); have hc := (range_cells (hW.2.1.ent HY.out)).1; clear hW; go_simp
          change wpAnyH _ _ _ _ _ _ _ ⟨#[.pointer (some ⟨g, 0, none⟩), _, _, .pointer (some ⟨k0, 0, none⟩), .int .i64 (k : Int), _, .int .i64 (k : Int), .pointer (some ⟨g, 0, none⟩), .pointer (some ⟨g, 0, none⟩), .pointer (some ⟨g, 1, none⟩), .slice (some ⟨b, 0, none⟩) T.l.length cap, .int .i64 (T.l.length : Int), .bool true, .bool true, .pointer (some ⟨g, 0, none⟩), .pointer (some ⟨g, 0, none⟩), .pointer (some ⟨g, 1, none⟩), .slice (some ⟨b, 0, none⟩) T.l.length cap, .int .i64 (k : Int), .pointer (some ⟨b, k * 10, none⟩), .pointer (some ⟨b, k * 10, none⟩), .int .i64 y.v, .pointer (some ⟨k0, 0, none⟩), .int .i64 x.v, .bool false, .bool false, .pointer (some ⟨g, 0, none⟩), .pointer (some ⟨g, 0, none⟩), .pointer (some ⟨g, 1, none⟩), .slice (some ⟨b, 0, none⟩) T.l.length cap, .int .i64 (k : Int), .pointer (some ⟨b, k * 10, none⟩), .pointer (some ⟨b, k * 10, none⟩), .int .i64 y.v, _, _, _, _, _, _, _, _, _, _, _, _, _, _, _, _, _, _, _, _, _, _, _, _, _, _, _, _, _, _, _, _, _, _, _, _, _, _, _, _, _, _, _, _], []⟩ _
          refine wpAnyH_take (i := 28) (v := .pointer (some ⟨k0, 0, none⟩)) rfl (by kernel_rfl) (by kernel_rfl) (by kernel_rfl) (fun _ _ _ h => h) (Or.inl ⟨by rfl, ?_⟩) hHeld ?_
          · intro W hW; (try dsimp only at hW); go_simp
          refine wpAnyH_take (i := 29) (v := .int .i64 x.v) rfl (by kernel_rfl) (by kernel_rfl) (by kernel_rfl) (fun _ _ _ h => h) (Or.inl ⟨by rfl, ?_⟩) hHeld ?_
          · intro W hW; (try dsimp only at hW); have hc := hW.2.2.cell 0 _ rfl; clear hW; go_simp
          refine wpAnyH_take (i := 30) (v := .bool true) rfl (by kernel_rfl) (by kernel_rfl) (by kernel_rfl) (fun _ _ _ h => h) (Or.inl ⟨by rfl, ?_⟩) hHeld ?_
          · intro W hW; (try dsimp only at hW); go_simp
          refine wpAnyH_take (i := 31) (v := .bool true) rfl (by kernel_rfl) (by kernel_rfl) (by kernel_rfl) (fun _ _ _ h => h) (Or.inl ⟨by rfl, ?_⟩) hHeld ?_
          · intro W hW; (try dsimp only at hW); go_simp
          change wpAnyH _ _ _ _ _ _ _ ⟨#[.pointer (some ⟨g, 0, none⟩), _, _, .pointer (some ⟨k0, 0, none⟩), .int .i64 (k : Int), _, .int .i64 (k : Int), .pointer (some ⟨g, 0, none⟩), .pointer (some ⟨g, 0, none⟩), .pointer (some ⟨g, 1, none⟩), .slice (some ⟨b, 0, none⟩) T.l.length cap, .int .i64 (T.l.length : Int), .bool true, .bool true, .pointer (some ⟨g, 0, none⟩), .pointer (some ⟨g, 0, none⟩), .pointer (some ⟨g, 1, none⟩), .slice (some ⟨b, 0, none⟩) T.l.length cap, .int .i64 (k : Int), .pointer (some ⟨b, k * 10, none⟩), .pointer (some ⟨b, k * 10, none⟩), .int .i64 y.v, .pointer (some ⟨k0, 0, none⟩), .int .i64 x.v, .bool false, .bool false, .pointer (some ⟨g, 0, none⟩), .pointer (some ⟨g, 0, none⟩), .pointer (some ⟨g, 1, none⟩), .slice (some ⟨b, 0, none⟩) T.l.length cap, .int .i64 (k : Int), .pointer (some ⟨b, k * 10, none⟩), .pointer (some ⟨b, k * 10, none⟩), .int .i64 y.v, .pointer (some ⟨k0, 0, none⟩), .int .i64 x.v, .bool true, .bool true, _, _, _, _, _, _, _, _, _, _, _, _, _, _, _, _, _, _, _, _, _, _, _, _, _, _, _, _, _, _, _, _, _, _, _, _, _, _, _, _], []⟩ _
          refine wpAnyH_take (i := 32) (v := .pointer (some ⟨g, 0, none⟩)) rfl (by kernel_rfl) (by kernel_rfl) (by kernel_rfl) (fun _ _ _ h => h) (Or.inl ⟨by rfl, ?_⟩) hHeld ?_
          · intro W hW; (try dsimp only at hW); go_simp
          refine wpAnyH_take (i := 33) (v := .pointer (some ⟨g, 0, none⟩)) rfl (by kernel_rfl) (by kernel_rfl) (by kernel_rfl) (fun _ _ _ h => h) (Or.inl ⟨by rfl, ?_⟩) hHeld ?_
          · intro W hW; (try dsimp only at hW); go_simp
          refine wpAnyH_take (i := 34) (v := .pointer (some ⟨g, 1, none⟩)) rfl (by kernel_rfl) (by kernel_rfl) (by kernel_rfl) (fun _ _ _ h => h) (Or.inl ⟨by rfl, ?_⟩) hHeld ?_
          · intro W hW; (try dsimp only at hW); go_simp
          refine wpAnyH_take (i := 35) (v := .slice (some ⟨b, 0, none⟩) T.l.length cap) rfl (by kernel_rfl) (by kernel_rfl) (by kernel_rfl) (fun _ _ _ h => h) (Or.inl ⟨by rfl, ?_⟩) hHeld ?_
          · intro W hW; (try dsimp only at hW); have hc := hW.1.cell 1 _ rfl; clear hW; go_simp
          change wpAnyH _ _ _ _ _ _ _ ⟨#[.pointer (some ⟨g, 0, none⟩), _, _, .pointer (some ⟨k0, 0, none⟩), .int .i64 (k : Int), _, .int .i64 (k : Int), .pointer (some ⟨g, 0, none⟩), .pointer (some ⟨g, 0, none⟩), .pointer (some ⟨g, 1, none⟩), .slice (some ⟨b, 0, none⟩) T.l.length cap, .int .i64 (T.l.length : Int), .bool true, .bool true, .pointer (some ⟨g, 0, none⟩), .pointer (some ⟨g, 0, none⟩), .pointer (some ⟨g, 1, none⟩), .slice (some ⟨b, 0, none⟩) T.l.length cap, .int .i64 (k : Int), .pointer (some ⟨b, k * 10, none⟩), .pointer (some ⟨b, k * 10, none⟩), .int .i64 y.v, .pointer (some ⟨k0, 0, none⟩), .int .i64 x.v, .bool false, .bool false, .pointer (some ⟨g, 0, none⟩), .pointer (some ⟨g, 0, none⟩), .pointer (some ⟨g, 1, none⟩), .slice (some ⟨b, 0, none⟩) T.l.length cap, .int .i64 (k : Int), .pointer (some ⟨b, k * 10, none⟩), .pointer (some ⟨b, k * 10, none⟩), .int .i64 y.v, .pointer (some ⟨k0, 0, none⟩), .int .i64 x.v, .bool true, .bool true, .pointer (some ⟨g, 0, none⟩), .pointer (some ⟨g, 0, none⟩), .pointer (some ⟨g, 1, none⟩), .slice (some ⟨b, 0, none⟩) T.l.length cap, _, _, _, _, _, _, _, _, _, _, _, _, _, _, _, _, _, _, _, _, _, _, _, _, _, _, _, _, _, _, _, _, _, _, _, _], []⟩ _
          refine wpAnyH_take (i := 36) (v := .int .i64 (k : Int)) rfl (by kernel_rfl) (by kernel_rfl) (by kernel_rfl) (fun _ _ _ h => h) (Or.inl ⟨by rfl, ?_⟩) hHeld ?_
          · intro W hW; (try dsimp only at hW); go_simp
          refine wpAnyH_take (i := 37) (v := .pointer (some ⟨b, k * 10, none⟩)) rfl (by kernel_rfl) (by kernel_rfl) (by kernel_rfl) (fun _ _ _ h => h) (Or.inl ⟨by rfl, ?_⟩) hHeld ?_
          · intro W hW; (try dsimp only at hW); go_simp
          refine wpAnyH_take (i := 38) (v := .pointer (some ⟨b, k * 10 + 1, none⟩)) rfl (by kernel_rfl) (by kernel_rfl) (by kernel_rfl) (fun _ _ _ h => h) (Or.inl ⟨by rfl, ?_⟩) hHeld ?_
          · intro W hW; (try dsimp only at hW); go_simp
          refine wpAnyH_take (i := 39) (v := .agg (MC y.m)) rfl (by kernel_rfl) (by kernel_rfl) (by kernel_rfl) (fun _ _ _ h => h) (yieldsIf_load_mid (by rfl) 35 (.tmp 44) rfl b (k * 10 + 1) rfl (mcl y.m) _ (fun W hW => ent_mac (hW.2.1.ent HY.out)) Tryz.underlying35 rfl Tryz.size35) hHeld ?_
          change wpAnyH _ _ _ _ _ _ _ ⟨#[.pointer (some ⟨g, 0, none⟩), _, _, .pointer (some ⟨k0, 0, none⟩), .int .i64 (k : Int), _, .int .i64 (k : Int), .pointer (some ⟨g, 0, none⟩), .pointer (some ⟨g, 0, none⟩), .pointer (some ⟨g, 1, none⟩), .slice (some ⟨b, 0, none⟩) T.l.length cap, .int .i64 (T.l.length : Int), .bool true, .bool true, .pointer (some ⟨g, 0, none⟩), .pointer (some ⟨g, 0, none⟩), .pointer (some ⟨g, 1, none⟩), .slice (some ⟨b, 0, none⟩) T.l.length cap, .int .i64 (k : Int), .pointer (some ⟨b, k * 10, none⟩), .pointer (some ⟨b, k * 10, none⟩), .int .i64 y.v, .pointer (some ⟨k0, 0, none⟩), .int .i64 x.v, .bool false, .bool false, .pointer (some ⟨g, 0, none⟩), .pointer (some ⟨g, 0, none⟩), .pointer (some ⟨g, 1, none⟩), .slice (some ⟨b, 0, none⟩) T.l.length cap, .int .i64 (k : Int), .pointer (some ⟨b, k * 10, none⟩), .pointer (some ⟨b, k * 10, none⟩), .int .i64 y.v, .pointer (some ⟨k0, 0, none⟩), .int .i64 x.v, .bool true, .bool true, .pointer (some ⟨g, 0, none⟩), .pointer (some ⟨g, 0, none⟩), .pointer (some ⟨g, 1, none⟩), .slice (some ⟨b, 0, none⟩) T.l.length cap, .int .i64 (k : Int), .pointer (some ⟨b, k * 10, none⟩), .pointer (some ⟨b, k * 10 + 1, none⟩), .agg (MC y.m), _, _, _, _, _, _, _, _, _, _, _, _, _, _, _, _, _, _, _, _, _, _, _, _, _, _, _, _, _, _, _, _], []⟩ _
          refine wpAnyH_take (i := 40) (v := .pointer (some ⟨k0, 1, none⟩)) rfl (by kernel_rfl) (by kernel_rfl) (by kernel_rfl) (fun _ _ _ h => h) (Or.inl ⟨by rfl, ?_⟩) hHeld ?_
          · intro W hW; (try dsimp only at hW); go_simp
          refine wpAnyH_take (i := 41) (v := .agg (MC x.m)) rfl (by kernel_rfl) (by kernel_rfl) (by kernel_rfl) (fun _ _ _ h => h) (yieldsIf_load_mid (by rfl) 35 (.tmp 46) rfl k0 1 rfl (mcl x.m) _ (fun W hW => mac_of hW.2.2) Tryz.underlying35 rfl Tryz.size35) hHeld ?_
          change wpAnyH _ _ _ _ _ _ _ ⟨#[.pointer (some ⟨g, 0, none⟩), _, _, .pointer (some ⟨k0, 0, none⟩), .int .i64 (k : Int), _, .int .i64 (k : Int), .pointer (some ⟨g, 0, none⟩), .pointer (some ⟨g, 0, none⟩), .pointer (some ⟨g, 1, none⟩), .slice (some ⟨b, 0, none⟩) T.l.length cap, .int .i64 (T.l.length : Int), .bool true, .bool true, .pointer (some ⟨g, 0, none⟩), .pointer (some ⟨g, 0, none⟩), .pointer (some ⟨g, 1, none⟩), .slice (some ⟨b, 0, none⟩) T.l.length cap, .int .i64 (k : Int), .pointer (some ⟨b, k * 10, none⟩), .pointer (some ⟨b, k * 10, none⟩), .int .i64 y.v, .pointer (some ⟨k0, 0, none⟩), .int .i64 x.v, .bool false, .bool false, .pointer (some ⟨g, 0, none⟩), .pointer (some ⟨g, 0, none⟩), .pointer (some ⟨g, 1, none⟩), .slice (some ⟨b, 0, none⟩) T.l.length cap, .int .i64 (k : Int), .pointer (some ⟨b, k * 10, none⟩), .pointer (some ⟨b, k * 10, none⟩), .int .i64 y.v, .pointer (some ⟨k0, 0, none⟩), .int .i64 x.v, .bool true, .bool true, .pointer (some ⟨g, 0, none⟩), .pointer (some ⟨g, 0, none⟩), .pointer (some ⟨g, 1, none⟩), .slice (some ⟨b, 0, none⟩) T.l.length cap, .int .i64 (k : Int), .pointer (some ⟨b, k * 10, none⟩), .pointer (some ⟨b, k * 10 + 1, none⟩), .agg (MC y.m), .pointer (some ⟨k0, 1, none⟩), .agg (MC x.m), _, _, _, _, _, _, _, _, _, _, _, _, _, _, _, _, _, _, _, _, _, _, _, _, _, _, _, _, _, _], []⟩ _
          refine wpAnyH_ready (rs := [42]) (by kernel_rfl) (by simp) ?_
          refine AllReadyH.cons rfl (fun K hK => ?_) AllReadyH.nil
          go_simp
          refine (compare23 y.m x.m _ HYO.out HXO.out).mono ?_
          rintro e u2 ⟨rfl, hb⟩
          replace B := hide (below_more B.out hb (by have := B.out.size; have := HSW.out; omega))
          refine hK.out _ _ ⟨hHeld.1.on hb, hHeld.2.1.on hb, hHeld.2.2.on hb⟩ (fun hHeld => ?_)
          clear hK K hb
          refine wpAnyH_take (i := 43) (v := .bool cc) rfl (by kernel_rfl) (by kernel_rfl) (by kernel_rfl) (fun _ _ _ h => h) (Or.inl ⟨by rfl, ?_⟩) hHeld ?_
          · intro W hW; (try dsimp only at hW); go_simp
          refine wpAnyH_take (i := 44) (v := .bool cc) rfl (by kernel_rfl) (by kernel_rfl) (by kernel_rfl) (fun _ _ _ h => h) (Or.inl ⟨by rfl, ?_⟩) hHeld ?_
          · intro W hW; (try dsimp only at hW); go_simp
          refine wpAnyH_take (i := 45) (v := .bool cc) rfl (by kernel_rfl) (by kernel_rfl) (by kernel_rfl) (fun _ _ _ h => h) (Or.inl ⟨by rfl, ?_⟩) hHeld ?_
          · intro W hW; (try dsimp only at hW); go_simp
          change wpAnyH _ _ _ _ _ _ _ ⟨#[.pointer (some ⟨g, 0, none⟩), _, _, .pointer (some ⟨k0, 0, none⟩), .int .i64 (k : Int), _, .int .i64 (k : Int), .pointer (some ⟨g, 0, none⟩), .pointer (some ⟨g, 0, none⟩), .pointer (some ⟨g, 1, none⟩), .slice (some ⟨b, 0, none⟩) T.l.length cap, .int .i64 (T.l.length : Int), .bool true, .bool true, .pointer (some ⟨g, 0, none⟩), .pointer (some ⟨g, 0, none⟩), .pointer (some ⟨g, 1, none⟩), .slice (some ⟨b, 0, none⟩) T.l.length cap, .int .i64 (k : Int), .pointer (some ⟨b, k * 10, none⟩), .pointer (some ⟨b, k * 10, none⟩), .int .i64 y.v, .pointer (some ⟨k0, 0, none⟩), .int .i64 x.v, .bool false, .bool false, .pointer (some ⟨g, 0, none⟩), .pointer (some ⟨g, 0, none⟩), .pointer (some ⟨g, 1, none⟩), .slice (some ⟨b, 0, none⟩) T.l.length cap, .int .i64 (k : Int), .pointer (some ⟨b, k * 10, none⟩), .pointer (some ⟨b, k * 10, none⟩), .int .i64 y.v, .pointer (some ⟨k0, 0, none⟩), .int .i64 x.v, .bool true, .bool true, .pointer (some ⟨g, 0, none⟩), .pointer (some ⟨g, 0, none⟩), .pointer (some ⟨g, 1, none⟩), .slice (some ⟨b, 0, none⟩) T.l.length cap, .int .i64 (k : Int), .pointer (some ⟨b, k * 10, none⟩), .pointer (some ⟨b, k * 10 + 1, none⟩), .agg (MC y.m), .pointer (some ⟨k0, 1, none⟩), .agg (MC x.m), .int .i64 (cmp3 (num y.m) (num x.m)), .bool cc, .bool cc, .bool cc, _, _, _, _, _, _, _, _, _, _, _, _, _, _, _, _, _, _, _, _, _, _, _, _, _, _], []⟩ _
          refine wpAnyH_take (i := 46) (v := .bool cc) rfl (by kernel_rfl) (by kernel_rfl) (by kernel_rfl) (fun _ _ _ h => h) (Or.inl ⟨by rfl, ?_⟩) hHeld ?_
          · intro W hW; (try dsimp only at hW); go_simp
          change wpAnyH _ _ _ _ _ _ _ ⟨#[.pointer (some ⟨g, 0, none⟩), _, _, .pointer (some ⟨k0, 0, none⟩), .int .i64 (k : Int), _, .int .i64 (k : Int), .pointer (some ⟨g, 0, none⟩), .pointer (some ⟨g, 0, none⟩), .pointer (some ⟨g, 1, none⟩), .slice (some ⟨b, 0, none⟩) T.l.length cap, .int .i64 (T.l.length : Int), .bool true, .bool true, .pointer (some ⟨g, 0, none⟩), .pointer (some ⟨g, 0, none⟩), .pointer (some ⟨g, 1, none⟩), .slice (some ⟨b, 0, none⟩) T.l.length cap, .int .i64 (k : Int), .pointer (some ⟨b, k * 10, none⟩), .pointer (some ⟨b, k * 10, none⟩), .int .i64 y.v, .pointer (some ⟨k0, 0, none⟩), .int .i64 x.v, .bool false, .bool false, .pointer (some ⟨g, 0, none⟩), .pointer (some ⟨g, 0, none⟩), .pointer (some ⟨g, 1, none⟩), .slice (some ⟨b, 0, none⟩) T.l.length cap, .int .i64 (k : Int), .pointer (some ⟨b, k * 10, none⟩), .pointer (some ⟨b, k * 10, none⟩), .int .i64 y.v, .pointer (some ⟨k0, 0, none⟩), .int .i64 x.v, .bool true, .bool true, .pointer (some ⟨g, 0, none⟩), .pointer (some ⟨g, 0, none⟩), .pointer (some ⟨g, 1, none⟩), .slice (some ⟨b, 0, none⟩) T.l.length cap, .int .i64 (k : Int), .pointer (some ⟨b, k * 10, none⟩), .pointer (some ⟨b, k * 10 + 1, none⟩), .agg (MC y.m), .pointer (some ⟨k0, 1, none⟩), .agg (MC x.m), .int .i64 (cmp3 (num y.m) (num x.m)), .bool cc, .bool cc, .bool cc, .bool cc, _, _, _, _, _, _, _, _, _, _, _, _, _, _, _, _, _, _, _, _, _, _, _, _, _], []⟩ _
          have HG := hide hHeld.1
          have HL := hide hHeld.2.1
          have HX := hide hHeld.2.2
          clear hHeld
          refine wpAnyH_done (by kernel_rfl) ?_ _
          clear hcc
          rcases HC.out with ⟨rfl, hlo⟩ | ⟨rfl, hhi⟩
          · have HN := HNX.out hlo
            clear hlo HNX HPU
            go_wp2
            go_roundw
            case rel => exact ⟨k + 1, by omega, by go_num, HN.out, B.out⟩
            case measure => simp [intOf]; omega
          · have HUP := HPU.out hhi
            clear hhi HNX HPU
            have hsz := B.out.size
            have hkk := HKK.out
            have hgl := HG.out.lt
            have hxl := HX.out.lt
            have hbl := HL.out.lt
            obtain ⟨N, hN⟩ : ∃ N, N = (World.heap u2).size := ⟨_, rfl⟩
            rw [← hN] at hgl hxl hsz hbl
            have b0 : Below N u2 (u2.alloc (.cells #[] 61)) := by rw [hN]; exact below_alloc _ _
            have O1 : Hid ((u2.alloc (.cells #[] 61)).ownsRow N 61 10 (.slice (some ⟨u2.heap.size, 0, none⟩) 0 0) 0 (es [])) := hide (World.ownsRow_lit u2 #[] 0 (by omega) (by unfold maxLen; omega) rfl)
            have M1 : Hid (Ers (u2.alloc (.cells #[] 61)) (some ⟨b, 0, none⟩) k cap (T.l.take k)) := hide (ers_take (HL.out.below hbl (b0)) (k := k) (by omega) cap)
            have hlt1 : Hid (N ≤ (u2.alloc (.cells #[] 61)).heap.size) := hide (by rw [hN]; simp)
            have c1 := HG.out.cell 1 _ rfl
            have c1a := (HG.out.below hgl b0).cell 1 _ rfl
            have B0 := hide b0
            have HN := hide hN
            have hgl0 := hide hgl
            have hxl0 := hide hxl
            have hbl0 := hide hbl
            clear b0 hN
            have tk1 : True := trivial
            have tk2 : True := trivial
            have tk3 : True := trivial
            have tk4 : True := trivial
            have tk5 : True := trivial
            go_wp2_with (first | (have _t := tk1; at_builtin; refine wpl_eapp rfl rfl (.tmp 55) (.tmp 61) rfl N _ 0 [] rfl O1.out _ _ _ _ rfl M1.out (by omega) hlt1.out ?_; clear tk1))
            intro v1 w1 R1 G1
            have B1 := hide (B0.out.grown G1 hlt1.out (fun r hr => (O1.out.lt r hr).1))
            have X1 := (HX.out.below hxl0.out B1.out).at_
            have O2 := hide (World.ownsRow.alloc R1 (.cells (EC x) 61))
            have M2 := hide (ers_one w1 x)
            have hlt2 : Hid (N ≤ (w1.alloc (.cells (EC x) 61)).heap.size) := hide (by have := B1.out.size; have := HN.out; simp; omega)
            have c1b := (HG.out.below hgl0.out B1.out).cell 1 _ rfl
            clear R1 G1 B0 O1 M1 c1 c1a
            go_wp2_with (first | (have _t := tk2; refine wpl_ent (.tmp 3) rfl X1 ?_ ?_ ?_; rfl; rfl; clear tk2) | (have _t := tk3; refine wpl_bs rfl (.tmp 64) x rfl rfl ?_; clear tk3) | (have _t := tk4; at_builtin; refine wpl_eapp rfl rfl (.tmp 63) (.tmp 65) rfl N _ _ _ rfl O2.out _ 1 1 _ rfl M2.out (by omega) hlt2.out ?_; clear tk4))
            intro v2 w2 R2 G2
            have B4 := hide ((B1.out.alloc (by have := B1.out.size; have := HN.out; omega) (.cells (EC x) 61)).grown G2 hlt2.out (fun r hr => (O2.out.lt r hr).1))
            have O3 := hide R2
            have M3 : Hid (Ers w2 (some ⟨b, k * 10, none⟩) (T.l.length - k) (cap - k) (T.l.drop k)) := hide (by have h9 := ers_drop (HL.out.below hbl0.out B4.out) (k := k) (by omega) cap (by omega); rw [if_neg (by omega)] at h9; exact h9)
            have hlt3 : Hid (N ≤ w2.heap.size) := hide (by have := B4.out.size; have := HN.out; omega)
            have c1c := (HG.out.below hgl0.out B4.out).cell 1 _ rfl
            clear R2 G2 B1 O2 M2 X1 c1b
            go_wp2_with (first | (have _t := tk5; at_builtin; refine wpl_eapp rfl rfl (.tmp 68) (.tmp 74) rfl N _ _ _ rfl O3.out _ _ _ _ rfl M3.out (by omega) hlt3.out ?_; clear tk5))
            intro v3 w3 R3 G3
            have B5 := hide (B4.out.grown G3 hlt3.out (fun r hr => (O3.out.lt r hr).1))
            have c1d := (HG.out.below hgl0.out B5.out).cell 1 _ rfl
            have c1f := (HG.out.below hgl0.out B5.out).free 1 (by simp)
            obtain ⟨ao3, c3, rfl⟩ := own_form R3
            have R4 : w3.ownsRow (g + 1) 61 10 (.slice ao3 (0 + k + 1 + (T.l.length - k)) c3) (up T.l x).length (es (up T.l x)) := by
              rw [← HUP.out, show (T.l.take k ++ (x :: T.l.drop k)).length = (0 + k + 1 + (T.l.length - k)) by (simp; omega)]
              exact row_mono (show g + 1 ≤ N from hgl0.out) (by simpa using R3)
            have F := hide (HRT.out.fresh (T' := ⟨T.n, up T.l x⟩) (((HW0.out.trans (B.out.mono (Nat.le_succ _))).mono (show g + 1 ≤ k0 from HKK.out)).trans (B5.out.mono (show g + 1 ≤ N from hgl0.out))) rfl HWF.out R4)
            have F2 := hide (fun (lv0 : Value) (q : Value) => Fr.fresh (K := [g]) (lv := lv0) (w := w) (r := g) (show Below w.heap.size w w3 from by rw [HK0.out]; exact (HW0.out.trans (B.out.mono (Nat.le_succ _))).trans (B5.out.mono (show k0 ≤ N from Nat.le_of_lt hxl0.out))) (row_low (show w.heap.size ≤ N from by rw [HK0.out]; exact Nat.le_of_lt hxl0.out) R3) (by simp) 1 q)
            clear R3 G3 B4 O3 M3 c1c R4
            go_wp2
            go_end0
            have F' := F.out
            simp only [Nat.zero_add] at F'
            have F2' := F2.out
            try simp only [Nat.zero_add, Nat.add_zero] at F2'
            exact ⟨rfl, ⟨_, F'.1, F2' _ _⟩, F'.2⟩
        · have HUP := hup (by unfold ke kn; omega)
          have heq : (y.v == x.v) = false := by simp [c2]
          clear hup hnx y0 y1 x0 x1
          go_wp2_with fail
          refine wp_region_held_drew (S := fun w' => Box w' g [.int .i64 T.n, .slice (some ⟨b, 0, none⟩) T.l.length cap] ∧ Box w' b (es T.l) ∧ Box w' k0 (ecl x)) (by kernel_rfl) ⟨HG.out.drew, HL.out.drew, HX.out.drew⟩ (fun hHeld => ?_)
          have B := hide (belowOn' HB.out)
          clear HB HG HX HL
          generalize World.drew _ = u0 at *
          refine wpAnyH_take (i := 0) (v := .int .i64 (k : Int)) rfl (by kernel_rfl) (by kernel_rfl) (by kernel_rfl) (fun _ _ _ h => h) (Or.inl ⟨by rfl, ?_⟩) hHeld ?_
          · intro W hW; (try dsimp only at hW); go_simp
          refine wpAnyH_take (i := 1) (v := .pointer (some ⟨g, 0, none⟩)) rfl (by kernel_rfl) (by kernel_rfl) (by kernel_rfl) (fun _ _ _ h => h) (Or.inl ⟨by rfl, ?_⟩) hHeld ?_
          · intro W hW; (try dsimp only at hW); go_simp
          refine wpAnyH_take (i := 2) (v := .pointer (some ⟨g, 0, none⟩)) rfl (by kernel_rfl) (by kernel_rfl) (by kernel_rfl) (fun _ _ _ h => h) (Or.inl ⟨by rfl, ?_⟩) hHeld ?_
          · intro W hW; (try dsimp only at hW); go_simp
          refine wpAnyH_take (i := 3) (v := .pointer (some ⟨g, 1, none⟩)) rfl (by kernel_rfl) (by kernel_rfl) (by kernel_rfl) (fun _ _ _ h => h) (Or.inl ⟨by rfl, ?_⟩) hHeld ?_
          · intro W hW; (try dsimp only at hW); go_simp
          change wpAnyH _ _ _ _ _ _ _ ⟨#[.pointer (some ⟨g, 0, none⟩), _, _, .pointer (some ⟨k0, 0, none⟩), .int .i64 (k : Int), _, .int .i64 (k : Int), .pointer (some ⟨g, 0, none⟩), .pointer (some ⟨g, 0, none⟩), .pointer (some ⟨g, 1, none⟩), _, _, _, _, _, _, _, _, _, _, _, _, _, _, _, _, _, _, _, _, _, _, _, _, _, _, _, _, _, _, _, _, _, _, _, _, _, _, _, _, _, _, _, _, _, _, _, _, _, _, _, _, _, _, _, _, _, _, _, _, _, _, _, _, _, _, _, _], []⟩ _
          refine wpAnyH_take (i := 4) (v := .slice (some ⟨b, 0, none⟩) T.l.length cap) rfl (by kernel_rfl) (by kernel_rfl) (by kernel_rfl) (fun _ _ _ h => h) (Or.inl ⟨by rfl, ?_⟩) hHeld ?_
          · intro W hW; (try dsimp only at hW); have hc := hW.1.cell 1 _ rfl; clear hW; go_simp
          refine wpAnyH_take (i := 5) (v := .int .i64 (T.l.length : Int)) rfl (by kernel_rfl) (by kernel_rfl) (by kernel_rfl) (fun _ _ _ h => h) (Or.inl ⟨by rfl, ?_⟩) hHeld ?_
          · intro W hW; (try dsimp only at hW); go_simp
          refine wpAnyH_take (i := 6) (v := .bool true) rfl (by kernel_rfl) (by kernel_rfl) (by kernel_rfl) (fun _ _ _ h => h) (Or.inl ⟨by rfl, ?_⟩) hHeld ?_
          · intro W hW; (try dsimp only at hW); go_simp
          refine wpAnyH_take (i := 7) (v := .bool true) rfl (by kernel_rfl) (by kernel_rfl) (by kernel_rfl) (fun _ _ _ h => h) (Or.inl ⟨by rfl, ?_⟩) hHeld ?_
          · intro W hW; (try dsimp only at hW); go_simp
          change wpAnyH _ _ _ _ _ _ _ ⟨#[.pointer (some ⟨g, 0, none⟩), _, _, .pointer (some ⟨k0, 0, none⟩), .int .i64 (k : Int), _, .int .i64 (k : Int), .pointer (some ⟨g, 0, none⟩), .pointer (some ⟨g, 0, none⟩), .pointer (some ⟨g, 1, none⟩), .slice (some ⟨b, 0, none⟩) T.l.length cap, .int .i64 (T.l.length : Int), .bool true, .bool true, _, _, _, _, _, _, _, _, _, _, _, _, _, _, _, _, _, _, _, _, _, _, _, _, _, _, _, _, _, _, _, _, _, _, _, _, _, _, _, _, _, _, _, _, _, _, _, _, _, _, _, _, _, _, _, _, _, _, _, _, _, _, _, _], []⟩ _
          refine wpAnyH_take (i := 8) (v := .pointer (some ⟨g, 0, none⟩)) rfl (by kernel_rfl) (by kernel_rfl) (by kernel_rfl) (fun _ _ _ h => h) (Or.inl ⟨by rfl, ?_⟩) hHeld ?_
          · intro W hW; (try dsimp only at hW); go_simp
          refine wpAnyH_take (i := 9) (v := .pointer (some ⟨g, 0, none⟩)) rfl (by kernel_rfl) (by kernel_rfl) (by kernel_rfl) (fun _ _ _ h => h) (Or.inl ⟨by rfl, ?_⟩) hHeld ?_
          · intro W hW; (try dsimp only at hW); go_simp
          refine wpAnyH_take (i := 10) (v := .pointer (some ⟨g, 1, none⟩)) rfl (by kernel_rfl) (by kernel_rfl) (by kernel_rfl) (fun _ _ _ h => h) (Or.inl ⟨by rfl, ?_⟩) hHeld ?_
          · intro W hW; (try dsimp only at hW); go_simp
          refine wpAnyH_take (i := 11) (v := .slice (some ⟨b, 0, none⟩) T.l.length cap) rfl (by kernel_rfl) (by kernel_rfl) (by kernel_rfl) (fun _ _ _ h => h) (Or.inl ⟨by rfl, ?_⟩) hHeld ?_
          · intro W hW; (try dsimp only at hW); have hc := hW.1.cell 1 _ rfl; clear hW; go_simp
          change wpAnyH _ _ _ _ _ _ _ ⟨#[.pointer (some ⟨g, 0, none⟩), _, _, .pointer (some ⟨k0, 0, none⟩), .int .i64 (k : Int), _, .int .i64 (k : Int), .pointer (some ⟨g, 0, none⟩), .pointer (some ⟨g, 0, none⟩), .pointer (some ⟨g, 1, none⟩), .slice (some ⟨b, 0, none⟩) T.l.length cap, .int .i64 (T.l.length : Int), .bool true, .bool true, .pointer (some ⟨g, 0, none⟩), .pointer (some ⟨g, 0, none⟩), .pointer (some ⟨g, 1, none⟩), .slice (some ⟨b, 0, none⟩) T.l.length cap, _, _, _, _, _, _, _, _, _, _, _, _, _, _, _, _, _, _, _, _, _, _, _, _, _, _, _, _, _, _, _, _, _, _, _, _, _, _, _, _, _, _, _, _, _, _, _, _, _, _, _, _, _, _, _, _, _, _, _, _], []⟩ _
          refine wpAnyH_take (i := 12) (v := .int .i64 (k : Int)) rfl (by kernel_rfl) (by kernel_rfl) (by kernel_rfl) (fun _ _ _ h => h) (Or.inl ⟨by rfl, ?_⟩) hHeld ?_
          · intro W hW; (try dsimp only at hW); go_simp
          refine wpAnyH_take (i := 13) (v := .pointer (some ⟨b, k * 10, none⟩)) rfl (by kernel_rfl) (by kernel_rfl) (by kernel_rfl) (fun _ _ _ h => h) (Or.inl ⟨by rfl, ?_⟩) hHeld ?_
          · intro W hW; (try dsimp only at hW); go_simp
          refine wpAnyH_take (i := 14) (v := .pointer (some ⟨b, k * 10, none⟩)) rfl (by kernel_rfl) (by kernel_rfl) (by kernel_rfl) (fun _ _ _ h => h) (Or.inl ⟨by rfl, ?_⟩) hHeld ?_
          · intro W hW; (try dsimp only at hW); go_simp
          refine wpAnyH_take (i := 15) (v := .int .i64 y.v) rfl (by kernel_rfl) (by kernel_rfl) (by kernel_rfl) (fun _ _ _ h => h) (Or.inl ⟨by rfl, ?_⟩) hHeld ?_
          · intro W hW; (try dsimp only at hW); have hc := (range_cells (hW.2.1.ent HY.out)).1; clear hW; go_simp
          change wpAnyH _ _ _ _ _ _ _ ⟨#[.pointer (some ⟨g, 0, none⟩), _, _, .pointer (some ⟨k0, 0, none⟩), .int .i64 (k : Int), _, .int .i64 (k : Int), .pointer (some ⟨g, 0, none⟩), .pointer (some ⟨g, 0, none⟩), .pointer (some ⟨g, 1, none⟩), .slice (some ⟨b, 0, none⟩) T.l.length cap, .int .i64 (T.l.length : Int), .bool true, .bool true, .pointer (some ⟨g, 0, none⟩), .pointer (some ⟨g, 0, none⟩), .pointer (some ⟨g, 1, none⟩), .slice (some ⟨b, 0, none⟩) T.l.length cap, .int .i64 (k : Int), .pointer (some ⟨b, k * 10, none⟩), .pointer (some ⟨b, k * 10, none⟩), .int .i64 y.v, _, _, _, _, _, _, _, _, _, _, _, _, _, _, _, _, _, _, _, _, _, _, _, _, _, _, _, _, _, _, _, _, _, _, _, _, _, _, _, _, _, _, _, _, _, _, _, _, _, _, _, _, _, _, _, _], []⟩ _
          refine wpAnyH_take (i := 16) (v := .pointer (some ⟨k0, 0, none⟩)) rfl (by kernel_rfl) (by kernel_rfl) (by kernel_rfl) (fun _ _ _ h => h) (Or.inl ⟨by rfl, ?_⟩) hHeld ?_
          · intro W hW; (try dsimp only at hW); go_simp
          refine wpAnyH_take (i := 17) (v := .int .i64 x.v) rfl (by kernel_rfl) (by kernel_rfl) (by kernel_rfl) (fun _ _ _ h => h) (Or.inl ⟨by rfl, ?_⟩) hHeld ?_
          · intro W hW; (try dsimp only at hW); have hc := hW.2.2.cell 0 _ rfl; clear hW; go_simp
          refine wpAnyH_take (i := 18) (v := .bool false) rfl (by kernel_rfl) (by kernel_rfl) (by kernel_rfl) (fun _ _ _ h => h) (Or.inl ⟨by rfl, ?_⟩) hHeld ?_
          · intro W hW; (try dsimp only at hW); go_simp
          refine wpAnyH_take (i := 19) (v := .bool false) rfl (by kernel_rfl) (by kernel_rfl) (by kernel_rfl) (fun _ _ _ h => h) (Or.inl ⟨by rfl, ?_⟩) hHeld ?_
          · intro W hW; (try dsimp only at hW); go_simp
          change wpAnyH _ _ _ _ _ _ _ ⟨#[.pointer (some ⟨g, 0, none⟩), _, _, .pointer (some ⟨k0, 0, none⟩), .int .i64 (k : Int), _, .int .i64 (k : Int), .pointer (some ⟨g, 0, none⟩), .pointer (some ⟨g, 0, none⟩), .pointer (some ⟨g, 1, none⟩), .slice (some ⟨b, 0, none⟩) T.l.length cap, .int .i64 (T.l.length : Int), .bool true, .bool true, .pointer (some ⟨g, 0, none⟩), .pointer (some ⟨g, 0, none⟩), .pointer (some ⟨g, 1, none⟩), .slice (some ⟨b, 0, none⟩) T.l.length cap, .int .i64 (k : Int), .pointer (some ⟨b, k * 10, none⟩), .pointer (some ⟨b, k * 10, none⟩), .int .i64 y.v, .pointer (some ⟨k0, 0, none⟩), .int .i64 x.v, .bool false, .bool false, _, _, _, _, _, _, _, _, _, _, _, _, _, _, _, _, _, _, _, _, _, _, _, _, _, _, _, _, _, _, _, _, _, _, _, _, _, _, _, _, _, _, _, _, _, _, _, _, _, _, _, _], []⟩ _
          refine wpAnyH_take (i := 20) (v := .pointer (some ⟨g, 0, none⟩)) rfl (by kernel_rfl) (by kernel_rfl) (by kernel_rfl) (fun _ _ _ h => h) (Or.inl ⟨by rfl, ?_⟩) hHeld ?_
          · intro W hW; (try dsimp only at hW); go_simp
          refine wpAnyH_take (i := 21) (v := .pointer (some ⟨g, 0, none⟩)) rfl (by kernel_rfl) (by kernel_rfl) (by kernel_rfl) (fun _ _ _ h => h) (Or.inl ⟨by rfl, ?_⟩) hHeld ?_
          · intro W hW; (try dsimp only at hW); go_simp
          refine wpAnyH_take (i := 22) (v := .pointer (some ⟨g, 1, none⟩)) rfl (by kernel_rfl) (by kernel_rfl) (by kernel_rfl) (fun _ _ _ h => h) (Or.inl ⟨by rfl, ?_⟩) hHeld ?_
          · intro W hW; (try dsimp only at hW); go_simp
          refine wpAnyH_take (i := 23) (v := .slice (some ⟨b, 0, none⟩) T.l.length cap) rfl (by kernel_rfl) (by kernel_rfl) (by kernel_rfl) (fun _ _ _ h => h) (Or.inl ⟨by rfl, ?_⟩) hHeld ?_
          · intro W hW; (try dsimp only at hW); have hc := hW.1.cell 1 _ rfl; clear hW; go_simp
          change wpAnyH _ _ _ _ _ _ _ ⟨#[.pointer (some ⟨g, 0, none⟩), _, _, .pointer (some ⟨k0, 0, none⟩), .int .i64 (k : Int), _, .int .i64 (k : Int), .pointer (some ⟨g, 0, none⟩), .pointer (some ⟨g, 0, none⟩), .pointer (some ⟨g, 1, none⟩), .slice (some ⟨b, 0, none⟩) T.l.length cap, .int .i64 (T.l.length : Int), .bool true, .bool true, .pointer (some ⟨g, 0, none⟩), .pointer (some ⟨g, 0, none⟩), .pointer (some ⟨g, 1, none⟩), .slice (some ⟨b, 0, none⟩) T.l.length cap, .int .i64 (k : Int), .pointer (some ⟨b, k * 10, none⟩), .pointer (some ⟨b, k * 10, none⟩), .int .i64 y.v, .pointer (some ⟨k0, 0, none⟩), .int .i64 x.v, .bool false, .bool false, .pointer (some ⟨g, 0, none⟩), .pointer (some ⟨g, 0, none⟩), .pointer (some ⟨g, 1, none⟩), .slice (some ⟨b, 0, none⟩) T.l.length cap, _, _, _, _, _, _, _, _, _, _, _, _, _, _, _, _, _, _, _, _, _, _, _, _, _, _, _, _, _, _, _, _, _, _, _, _, _, _, _, _, _, _, _, _, _, _, _, _], []⟩ _
          refine wpAnyH_take (i := 24) (v := .int .i64 (k : Int)) rfl (by kernel_rfl) (by kernel_rfl) (by kernel_rfl) (fun _ _ _ h => h) (Or.inl ⟨by rfl, ?_⟩) hHeld ?_
          · intro W hW; (try dsimp only at hW); go_simp
          refine wpAnyH_take (i := 25) (v := .pointer (some ⟨b, k * 10, none⟩)) rfl (by kernel_rfl) (by kernel_rfl) (by kernel_rfl) (fun _ _ _ h => h) (Or.inl ⟨by rfl, ?_⟩) hHeld ?_
          · intro W hW; (try dsimp only at hW); go_simp
          refine wpAnyH_take (i := 26) (v := .pointer (some ⟨b, k * 10, none⟩)) rfl (by kernel_rfl) (by kernel_rfl) (by kernel_rfl) (fun _ _ _ h => h) (Or.inl ⟨by rfl, ?_⟩) hHeld ?_
          · intro W hW; (try dsimp only at hW); go_simp
          refine wpAnyH_take (i := 27) (v := .int .i64 y.v) rfl (by kernel_rfl) (by kernel_rfl) (by kernel_rfl) (fun _ _ _ h => h) (Or.inl ⟨by rfl, ?_⟩) hHeld ?_
          · intro W hW; (try dsimp only at hW); have hc := (range_cells (hW.2.1.ent HY.out)).1; clear hW; go_simp
          change wpAnyH _ _ _ _ _ _ _ ⟨#[.pointer (some ⟨g, 0, none⟩), _, _, .pointer (some ⟨k0, 0, none⟩), .int .i64 (k : Int), _, .int .i64 (k : Int), .pointer (some ⟨g, 0, none⟩), .pointer (some ⟨g, 0, none⟩), .pointer (some ⟨g, 1, none⟩), .slice (some ⟨b, 0, none⟩) T.l.length cap, .int .i64 (T.l.length : Int), .bool true, .bool true, .pointer (some ⟨g, 0, none⟩), .pointer (some ⟨g, 0, none⟩), .pointer (some ⟨g, 1, none⟩), .slice (some ⟨b, 0, none⟩) T.l.length cap, .int .i64 (k : Int), .pointer (some ⟨b, k * 10, none⟩), .pointer (some ⟨b, k * 10, none⟩), .int .i64 y.v, .pointer (some ⟨k0, 0, none⟩), .int .i64 x.v, .bool false, .bool false, .pointer (some ⟨g, 0, none⟩), .pointer (some ⟨g, 0, none⟩), .pointer (some ⟨g, 1, none⟩), .slice (some ⟨b, 0, none⟩) T.l.length cap, .int .i64 (k : Int), .pointer (some ⟨b, k * 10, none⟩), .pointer (some ⟨b, k * 10, none⟩), .int .i64 y.v, _, _, _, _, _, _, _, _, _, _, _, _, _, _, _, _, _, _, _, _, _, _, _, _, _, _, _, _, _, _, _, _, _, _, _, _, _, _, _, _, _, _, _, _], []⟩ _
          refine wpAnyH_take (i := 28) (v := .pointer (some ⟨k0, 0, none⟩)) rfl (by kernel_rfl) (by kernel_rfl) (by kernel_rfl) (fun _ _ _ h => h) (Or.inl ⟨by rfl, ?_⟩) hHeld ?_
          · intro W hW; (try dsimp only at hW); go_simp
          refine wpAnyH_take (i := 29) (v := .int .i64 x.v) rfl (by kernel_rfl) (by kernel_rfl) (by kernel_rfl) (fun _ _ _ h => h) (Or.inl ⟨by rfl, ?_⟩) hHeld ?_
          · intro W hW; (try dsimp only at hW); have hc := hW.2.2.cell 0 _ rfl; clear hW; go_simp
          refine wpAnyH_take (i := 30) (v := .bool false) rfl (by kernel_rfl) (by kernel_rfl) (by kernel_rfl) (fun _ _ _ h => h) (Or.inl ⟨by rfl, ?_⟩) hHeld ?_
          · intro W hW; (try dsimp only at hW); go_simp
          refine wpAnyH_take (i := 31) (v := .bool false) rfl (by kernel_rfl) (by kernel_rfl) (by kernel_rfl) (fun _ _ _ h => h) (Or.inl ⟨by rfl, ?_⟩) hHeld ?_
          · intro W hW; (try dsimp only at hW); go_simp
          change wpAnyH _ _ _ _ _ _ _ ⟨#[.pointer (some ⟨g, 0, none⟩), _, _, .pointer (some ⟨k0, 0, none⟩), .int .i64 (k : Int), _, .int .i64 (k : Int), .pointer (some ⟨g, 0, none⟩), .pointer (some ⟨g, 0, none⟩), .pointer (some ⟨g, 1, none⟩), .slice (some ⟨b, 0, none⟩) T.l.length cap, .int .i64 (T.l.length : Int), .bool true, .bool true, .pointer (some ⟨g, 0, none⟩), .pointer (some ⟨g, 0, none⟩), .pointer (some ⟨g, 1, none⟩), .slice (some ⟨b, 0, none⟩) T.l.length cap, .int .i64 (k : Int), .pointer (some ⟨b, k * 10, none⟩), .pointer (some ⟨b, k * 10, none⟩), .int .i64 y.v, .pointer (some ⟨k0, 0, none⟩), .int .i64 x.v, .bool false, .bool false, .pointer (some ⟨g, 0, none⟩), .pointer (some ⟨g, 0, none⟩), .pointer (some ⟨g, 1, none⟩), .slice (some ⟨b, 0, none⟩) T.l.length cap, .int .i64 (k : Int), .pointer (some ⟨b, k * 10, none⟩), .pointer (some ⟨b, k * 10, none⟩), .int .i64 y.v, .pointer (some ⟨k0, 0, none⟩), .int .i64 x.v, .bool false, .bool false, _, _, _, _, _, _, _, _, _, _, _, _, _, _, _, _, _, _, _, _, _, _, _, _, _, _, _, _, _, _, _, _, _, _, _, _, _, _, _, _], []⟩ _
          refine wpAnyH_take (i := 32) (v := undef) rfl (by kernel_rfl) (by kernel_rfl) (by kernel_rfl) (fun _ _ _ h => h) (Or.inr ⟨by rfl, rfl⟩) hHeld ?_
          refine wpAnyH_take (i := 33) (v := undef) rfl (by kernel_rfl) (by kernel_rfl) (by kernel_rfl) (fun _ _ _ h => h) (Or.inr ⟨by rfl, rfl⟩) hHeld ?_
          refine wpAnyH_take (i := 34) (v := undef) rfl (by kernel_rfl) (by kernel_rfl) (by kernel_rfl) (fun _ _ _ h => h) (Or.inr ⟨by rfl, rfl⟩) hHeld ?_
          refine wpAnyH_take (i := 35) (v := undef) rfl (by kernel_rfl) (by kernel_rfl) (by kernel_rfl) (fun _ _ _ h => h) (Or.inr ⟨by rfl, rfl⟩) hHeld ?_
          change wpAnyH _ _ _ _ _ _ _ ⟨#[.pointer (some ⟨g, 0, none⟩), _, _, .pointer (some ⟨k0, 0, none⟩), .int .i64 (k : Int), _, .int .i64 (k : Int), .pointer (some ⟨g, 0, none⟩), .pointer (some ⟨g, 0, none⟩), .pointer (some ⟨g, 1, none⟩), .slice (some ⟨b, 0, none⟩) T.l.length cap, .int .i64 (T.l.length : Int), .bool true, .bool true, .pointer (some ⟨g, 0, none⟩), .pointer (some ⟨g, 0, none⟩), .pointer (some ⟨g, 1, none⟩), .slice (some ⟨b, 0, none⟩) T.l.length cap, .int .i64 (k : Int), .pointer (some ⟨b, k * 10, none⟩), .pointer (some ⟨b, k * 10, none⟩), .int .i64 y.v, .pointer (some ⟨k0, 0, none⟩), .int .i64 x.v, .bool false, .bool false, .pointer (some ⟨g, 0, none⟩), .pointer (some ⟨g, 0, none⟩), .pointer (some ⟨g, 1, none⟩), .slice (some ⟨b, 0, none⟩) T.l.length cap, .int .i64 (k : Int), .pointer (some ⟨b, k * 10, none⟩), .pointer (some ⟨b, k * 10, none⟩), .int .i64 y.v, .pointer (some ⟨k0, 0, none⟩), .int .i64 x.v, .bool false, .bool false, undef, undef, undef, undef, _, _, _, _, _, _, _, _, _, _, _, _, _, _, _, _, _, _, _, _, _, _, _, _, _, _, _, _, _, _, _, _, _, _, _, _], []⟩ _
          refine wpAnyH_take (i := 36) (v := undef) rfl (by kernel_rfl) (by kernel_rfl) (by kernel_rfl) (fun _ _ _ h => h) (Or.inr ⟨by rfl, rfl⟩) hHeld ?_
          refine wpAnyH_take (i := 37) (v := undef) rfl (by kernel_rfl) (by kernel_rfl) (by kernel_rfl) (fun _ _ _ h => h) (Or.inr ⟨by rfl, rfl⟩) hHeld ?_
          refine wpAnyH_take (i := 38) (v := undef) rfl (by kernel_rfl) (by kernel_rfl) (by kernel_rfl) (fun _ _ _ h => h) (Or.inr ⟨by rfl, rfl⟩) hHeld ?_
          refine wpAnyH_take (i := 39) (v := undef) rfl (by kernel_rfl) (by kernel_rfl) (by kernel_rfl) (fun _ _ _ h => h) (Or.inr ⟨by rfl, rfl⟩) hHeld ?_
          change wpAnyH _ _ _ _ _ _ _ ⟨#[.pointer (some ⟨g, 0, none⟩), _, _, .pointer (some ⟨k0, 0, none⟩), .int .i64 (k : Int), _, .int .i64 (k : Int), .pointer (some ⟨g, 0, none⟩), .pointer (some ⟨g, 0, none⟩), .pointer (some ⟨g, 1, none⟩), .slice (some ⟨b, 0, none⟩) T.l.length cap, .int .i64 (T.l.length : Int), .bool true, .bool true, .pointer (some ⟨g, 0, none⟩), .pointer (some ⟨g, 0, none⟩), .pointer (some ⟨g, 1, none⟩), .slice (some ⟨b, 0, none⟩) T.l.length cap, .int .i64 (k : Int), .pointer (some ⟨b, k * 10, none⟩), .pointer (some ⟨b, k * 10, none⟩), .int .i64 y.v, .pointer (some ⟨k0, 0, none⟩), .int .i64 x.v, .bool false, .bool false, .pointer (some ⟨g, 0, none⟩), .pointer (some ⟨g, 0, none⟩), .pointer (some ⟨g, 1, none⟩), .slice (some ⟨b, 0, none⟩) T.l.length cap, .int .i64 (k : Int), .pointer (some ⟨b, k * 10, none⟩), .pointer (some ⟨b, k * 10, none⟩), .int .i64 y.v, .pointer (some ⟨k0, 0, none⟩), .int .i64 x.v, .bool false, .bool false, undef, undef, undef, undef, undef, undef, undef, undef, _, _, _, _, _, _, _, _, _, _, _, _, _, _, _, _, _, _, _, _, _, _, _, _, _, _, _, _, _, _, _, _], []⟩ _
          refine wpAnyH_take (i := 40) (v := undef) rfl (by kernel_rfl) (by kernel_rfl) (by kernel_rfl) (fun _ _ _ h => h) (Or.inr ⟨by rfl, rfl⟩) hHeld ?_
          refine wpAnyH_take (i := 41) (v := undef) rfl (by kernel_rfl) (by kernel_rfl) (by kernel_rfl) (fun _ _ _ h => h) (Or.inr ⟨by rfl, rfl⟩) hHeld ?_
          refine wpAnyH_take (i := 42) (v := undef) rfl (by kernel_rfl) (by kernel_rfl) (by kernel_rfl) (fun _ _ _ h => h) (Or.inr ⟨by rfl, rfl⟩) hHeld ?_
          refine wpAnyH_take (i := 43) (v := undef) rfl (by kernel_rfl) (by kernel_rfl) (by kernel_rfl) (fun _ _ _ h => h) (Or.inr ⟨by rfl, rfl⟩) hHeld ?_
          change wpAnyH _ _ _ _ _ _ _ ⟨#[.pointer (some ⟨g, 0, none⟩), _, _, .pointer (some ⟨k0, 0, none⟩), .int .i64 (k : Int), _, .int .i64 (k : Int), .pointer (some ⟨g, 0, none⟩), .pointer (some ⟨g, 0, none⟩), .pointer (some ⟨g, 1, none⟩), .slice (some ⟨b, 0, none⟩) T.l.length cap, .int .i64 (T.l.length : Int), .bool true, .bool true, .pointer (some ⟨g, 0, none⟩), .pointer (some ⟨g, 0, none⟩), .pointer (some ⟨g, 1, none⟩), .slice (some ⟨b, 0, none⟩) T.l.length cap, .int .i64 (k : Int), .pointer (some ⟨b, k * 10, none⟩), .pointer (some ⟨b, k * 10, none⟩), .int .i64 y.v, .pointer (some ⟨k0, 0, none⟩), .int .i64 x.v, .bool false, .bool false, .pointer (some ⟨g, 0, none⟩), .pointer (some ⟨g, 0, none⟩), .pointer (some ⟨g, 1, none⟩), .slice (some ⟨b, 0, none⟩) T.l.length cap, .int .i64 (k : Int), .pointer (some ⟨b, k * 10, none⟩), .pointer (some ⟨b, k * 10, none⟩), .int .i64 y.v, .pointer (some ⟨k0, 0, none⟩), .int .i64 x.v, .bool false, .bool false, undef, undef, undef, undef, undef, undef, undef, undef, undef, undef, undef, undef, _, _, _, _, _, _, _, _, _, _, _, _, _, _, _, _, _, _, _, _, _, _, _, _, _, _, _, _], []⟩ _
          refine wpAnyH_take (i := 44) (v := .bool false) rfl (by kernel_rfl) (by kernel_rfl) (by kernel_rfl) (fun _ _ _ h => h) (Or.inl ⟨by rfl, ?_⟩) hHeld ?_
          · intro W hW; (try dsimp only at hW); go_simp
          refine wpAnyH_take (i := 45) (v := .bool false) rfl (by kernel_rfl) (by kernel_rfl) (by kernel_rfl) (fun _ _ _ h => h) (Or.inl ⟨by rfl, ?_⟩) hHeld ?_
          · intro W hW; (try dsimp only at hW); go_simp
          refine wpAnyH_take (i := 46) (v := .bool false) rfl (by kernel_rfl) (by kernel_rfl) (by kernel_rfl) (fun _ _ _ h => h) (Or.inl ⟨by rfl, ?_⟩) hHeld ?_
          · intro W hW; (try dsimp only at hW); go_simp
          change wpAnyH _ _ _ _ _ _ _ ⟨#[.pointer (some ⟨g, 0, none⟩), _, _, .pointer (some ⟨k0, 0, none⟩), .int .i64 (k : Int), _, .int .i64 (k : Int), .pointer (some ⟨g, 0, none⟩), .pointer (some ⟨g, 0, none⟩), .pointer (some ⟨g, 1, none⟩), .slice (some ⟨b, 0, none⟩) T.l.length cap, .int .i64 (T.l.length : Int), .bool true, .bool true, .pointer (some ⟨g, 0, none⟩), .pointer (some ⟨g, 0, none⟩), .pointer (some ⟨g, 1, none⟩), .slice (some ⟨b, 0, none⟩) T.l.length cap, .int .i64 (k : Int), .pointer (some ⟨b, k * 10, none⟩), .pointer (some ⟨b, k * 10, none⟩), .int .i64 y.v, .pointer (some ⟨k0, 0, none⟩), .int .i64 x.v, .bool false, .bool false, .pointer (some ⟨g, 0, none⟩), .pointer (some ⟨g, 0, none⟩), .pointer (some ⟨g, 1, none⟩), .slice (some ⟨b, 0, none⟩) T.l.length cap, .int .i64 (k : Int), .pointer (some ⟨b, k * 10, none⟩), .pointer (some ⟨b, k * 10, none⟩), .int .i64 y.v, .pointer (some ⟨k0, 0, none⟩), .int .i64 x.v, .bool false, .bool false, undef, undef, undef, undef, undef, undef, undef, undef, undef, undef, undef, undef, .bool false, .bool false, .bool false, _, _, _, _, _, _, _, _, _, _, _, _, _, _, _, _, _, _, _, _, _, _, _, _, _], []⟩ _
          have HG := hide hHeld.1
          have HL := hide hHeld.2.1
          have HX := hide hHeld.2.2
          clear hHeld
          refine wpAnyH_done (by kernel_rfl) ?_ _
          have hsz := B.out.size
          have hkk := HKK.out
          have hgl := HG.out.lt
          have hxl := HX.out.lt
          have hbl := HL.out.lt
          obtain ⟨N, hN⟩ : ∃ N, N = (World.heap u0).size := ⟨_, rfl⟩
          rw [← hN] at hgl hxl hsz hbl
          have b0 : Below N u0 (u0.alloc (.cells #[] 61)) := by rw [hN]; exact below_alloc _ _
          have O1 : Hid ((u0.alloc (.cells #[] 61)).ownsRow N 61 10 (.slice (some ⟨u0.heap.size, 0, none⟩) 0 0) 0 (es [])) := hide (World.ownsRow_lit u0 #[] 0 (by omega) (by unfold maxLen; omega) rfl)
          have M1 : Hid (Ers (u0.alloc (.cells #[] 61)) (some ⟨b, 0, none⟩) k cap (T.l.take k)) := hide (ers_take (HL.out.below hbl (b0)) (k := k) (by omega) cap)
          have hlt1 : Hid (N ≤ (u0.alloc (.cells #[] 61)).heap.size) := hide (by rw [hN]; simp)
          have c1 := HG.out.cell 1 _ rfl
          have c1a := (HG.out.below hgl b0).cell 1 _ rfl
          have B0 := hide b0
          have HN := hide hN
          have hgl0 := hide hgl
          have hxl0 := hide hxl
          have hbl0 := hide hbl
          clear b0 hN
          have tk1 : True := trivial
          have tk2 : True := trivial
          have tk3 : True := trivial
          have tk4 : True := trivial
          have tk5 : True := trivial
          go_wp2_with (first | (have _t := tk1; at_builtin; refine wpl_eapp rfl rfl (.tmp 55) (.tmp 61) rfl N _ 0 [] rfl O1.out _ _ _ _ rfl M1.out (by omega) hlt1.out ?_; clear tk1))
          intro v1 w1 R1 G1
          have B1 := hide (B0.out.grown G1 hlt1.out (fun r hr => (O1.out.lt r hr).1))
          have X1 := (HX.out.below hxl0.out B1.out).at_
          have O2 := hide (World.ownsRow.alloc R1 (.cells (EC x) 61))
          have M2 := hide (ers_one w1 x)
          have hlt2 : Hid (N ≤ (w1.alloc (.cells (EC x) 61)).heap.size) := hide (by have := B1.out.size; have := HN.out; simp; omega)
          have c1b := (HG.out.below hgl0.out B1.out).cell 1 _ rfl
          clear R1 G1 B0 O1 M1 c1 c1a
          go_wp2_with (first | (have _t := tk2; refine wpl_ent (.tmp 3) rfl X1 ?_ ?_ ?_; rfl; rfl; clear tk2) | (have _t := tk3; refine wpl_bs rfl (.tmp 64) x rfl rfl ?_; clear tk3) | (have _t := tk4; at_builtin; refine wpl_eapp rfl rfl (.tmp 63) (.tmp 65) rfl N _ _ _ rfl O2.out _ 1 1 _ rfl M2.out (by omega) hlt2.out ?_; clear tk4))
          intro v2 w2 R2 G2
          have B4 := hide ((B1.out.alloc (by have := B1.out.size; have := HN.out; omega) (.cells (EC x) 61)).grown G2 hlt2.out (fun r hr => (O2.out.lt r hr).1))
          have O3 := hide R2
          have M3 : Hid (Ers w2 (some ⟨b, k * 10, none⟩) (T.l.length - k) (cap - k) (T.l.drop k)) := hide (by have h9 := ers_drop (HL.out.below hbl0.out B4.out) (k := k) (by omega) cap (by omega); rw [if_neg (by omega)] at h9; exact h9)
          have hlt3 : Hid (N ≤ w2.heap.size) := hide (by have := B4.out.size; have := HN.out; omega)
          have c1c := (HG.out.below hgl0.out B4.out).cell 1 _ rfl
          clear R2 G2 B1 O2 M2 X1 c1b
          go_wp2_with (first | (have _t := tk5; at_builtin; refine wpl_eapp rfl rfl (.tmp 68) (.tmp 74) rfl N _ _ _ rfl O3.out _ _ _ _ rfl M3.out (by omega) hlt3.out ?_; clear tk5))
          intro v3 w3 R3 G3
          have B5 := hide (B4.out.grown G3 hlt3.out (fun r hr => (O3.out.lt r hr).1))
          have c1d := (HG.out.below hgl0.out B5.out).cell 1 _ rfl
          have c1f := (HG.out.below hgl0.out B5.out).free 1 (by simp)
          obtain ⟨ao3, c3, rfl⟩ := own_form R3
          have R4 : w3.ownsRow (g + 1) 61 10 (.slice ao3 (0 + k + 1 + (T.l.length - k)) c3) (up T.l x).length (es (up T.l x)) := by
            rw [← HUP.out, show (T.l.take k ++ (x :: T.l.drop k)).length = (0 + k + 1 + (T.l.length - k)) by (simp; omega)]
            exact row_mono (show g + 1 ≤ N from hgl0.out) (by simpa using R3)
          have F := hide (HRT.out.fresh (T' := ⟨T.n, up T.l x⟩) (((HW0.out.trans (B.out.mono (Nat.le_succ _))).mono (show g + 1 ≤ k0 from HKK.out)).trans (B5.out.mono (show g + 1 ≤ N from hgl0.out))) rfl HWF.out R4)
          have F2 := hide (fun (lv0 : Value) (q : Value) => Fr.fresh (K := [g]) (lv := lv0) (w := w) (r := g) (show Below w.heap.size w w3 from by rw [HK0.out]; exact (HW0.out.trans (B.out.mono (Nat.le_succ _))).trans (B5.out.mono (show k0 ≤ N from Nat.le_of_lt hxl0.out))) (row_low (show w.heap.size ≤ N from by rw [HK0.out]; exact Nat.le_of_lt hxl0.out) R3) (by simp) 1 q)
          clear R3 G3 B4 O3 M3 c1c R4
          go_wp2
          go_end0
          have F' := F.out
          simp only [Nat.zero_add] at F'
          have F2' := F2.out
          try simp only [Nat.zero_add, Nat.add_zero] at F2'
          exact ⟨rfl, ⟨_, F'.1, F2' _ _⟩, F'.2⟩
    · have hk2 : ¬ (k : Int) < T.l.length := by omega
      have HUP : Hid (T.l.take k ++ (x :: T.l.drop k) = up T.l x) := hide (up_ins HSR.out hk HLO.out (fun z hz => by have := (List.getElem?_eq_some_iff.1 hz).1; omega))
      go_wp2_with fail
      refine wp_region_held_drew (S := fun w' => Box w' g [.int .i64 T.n, .slice (some ⟨b, 0, none⟩) T.l.length cap] ∧ Box w' b (es T.l) ∧ Box w' k0 (ecl x)) (by kernel_rfl) ⟨HG.out.drew, HL.out.drew, HX.out.drew⟩ (fun hHeld => ?_)
      have B := hide (belowOn' HB.out)
      clear HB HG HX HL
      generalize World.drew _ = u0 at *
      refine wpAnyH_take (i := 0) (v := .int .i64 (k : Int)) rfl (by kernel_rfl) (by kernel_rfl) (by kernel_rfl) (fun _ _ _ h => h) (Or.inl ⟨by rfl, ?_⟩) hHeld ?_
      · intro W hW; (try dsimp only at hW); go_simp
      refine wpAnyH_take (i := 1) (v := .pointer (some ⟨g, 0, none⟩)) rfl (by kernel_rfl) (by kernel_rfl) (by kernel_rfl) (fun _ _ _ h => h) (Or.inl ⟨by rfl, ?_⟩) hHeld ?_
      · intro W hW; (try dsimp only at hW); go_simp
      refine wpAnyH_take (i := 2) (v := .pointer (some ⟨g, 0, none⟩)) rfl (by kernel_rfl) (by kernel_rfl) (by kernel_rfl) (fun _ _ _ h => h) (Or.inl ⟨by rfl, ?_⟩) hHeld ?_
      · intro W hW; (try dsimp only at hW); go_simp
      refine wpAnyH_take (i := 3) (v := .pointer (some ⟨g, 1, none⟩)) rfl (by kernel_rfl) (by kernel_rfl) (by kernel_rfl) (fun _ _ _ h => h) (Or.inl ⟨by rfl, ?_⟩) hHeld ?_
      · intro W hW; (try dsimp only at hW); go_simp
      change wpAnyH _ _ _ _ _ _ _ ⟨#[.pointer (some ⟨g, 0, none⟩), _, _, .pointer (some ⟨k0, 0, none⟩), .int .i64 (k : Int), _, .int .i64 (k : Int), .pointer (some ⟨g, 0, none⟩), .pointer (some ⟨g, 0, none⟩), .pointer (some ⟨g, 1, none⟩), _, _, _, _, _, _, _, _, _, _, _, _, _, _, _, _, _, _, _, _, _, _, _, _, _, _, _, _, _, _, _, _, _, _, _, _, _, _, _, _, _, _, _, _, _, _, _, _, _, _, _, _, _, _, _, _, _, _, _, _, _, _, _, _, _, _, _, _], []⟩ _
      refine wpAnyH_take (i := 4) (v := .slice (some ⟨b, 0, none⟩) T.l.length cap) rfl (by kernel_rfl) (by kernel_rfl) (by kernel_rfl) (fun _ _ _ h => h) (Or.inl ⟨by rfl, ?_⟩) hHeld ?_
      · intro W hW; (try dsimp only at hW); have hc := hW.1.cell 1 _ rfl; clear hW; go_simp
      refine wpAnyH_take (i := 5) (v := .int .i64 (T.l.length : Int)) rfl (by kernel_rfl) (by kernel_rfl) (by kernel_rfl) (fun _ _ _ h => h) (Or.inl ⟨by rfl, ?_⟩) hHeld ?_
      · intro W hW; (try dsimp only at hW); go_simp
      refine wpAnyH_take (i := 6) (v := .bool false) rfl (by kernel_rfl) (by kernel_rfl) (by kernel_rfl) (fun _ _ _ h => h) (Or.inl ⟨by rfl, ?_⟩) hHeld ?_
      · intro W hW; (try dsimp only at hW); go_simp
      refine wpAnyH_take (i := 7) (v := .bool false) rfl (by kernel_rfl) (by kernel_rfl) (by kernel_rfl) (fun _ _ _ h => h) (Or.inl ⟨by rfl, ?_⟩) hHeld ?_
      · intro W hW; (try dsimp only at hW); go_simp
      change wpAnyH _ _ _ _ _ _ _ ⟨#[.pointer (some ⟨g, 0, none⟩), _, _, .pointer (some ⟨k0, 0, none⟩), .int .i64 (k : Int), _, .int .i64 (k : Int), .pointer (some ⟨g, 0, none⟩), .pointer (some ⟨g, 0, none⟩), .pointer (some ⟨g, 1, none⟩), .slice (some ⟨b, 0, none⟩) T.l.length cap, .int .i64 (T.l.length : Int), .bool false, .bool false, _, _, _, _, _, _, _, _, _, _, _, _, _, _, _, _, _, _, _, _, _, _, _, _, _, _, _, _, _, _, _, _, _, _, _, _, _, _, _, _, _, _, _, _, _, _, _, _, _, _, _, _, _, _, _, _, _, _, _, _, _, _, _, _], []⟩ _
      refine wpAnyH_take (i := 8) (v := undef) rfl (by kernel_rfl) (by kernel_rfl) (by kernel_rfl) (fun _ _ _ h => h) (Or.inr ⟨by rfl, rfl⟩) hHeld ?_
      refine wpAnyH_take (i := 9) (v := undef) rfl (by kernel_rfl) (by kernel_rfl) (by kernel_rfl) (fun _ _ _ h => h) (Or.inr ⟨by rfl, rfl⟩) hHeld ?_
      refine wpAnyH_take (i := 10) (v := undef) rfl (by kernel_rfl) (by kernel_rfl) (by kernel_rfl) (fun _ _ _ h => h) (Or.inr ⟨by rfl, rfl⟩) hHeld ?_
      refine wpAnyH_take (i := 11) (v := undef) rfl (by kernel_rfl) (by kernel_rfl) (by kernel_rfl) (fun _ _ _ h => h) (Or.inr ⟨by rfl, rfl⟩) hHeld ?_
      change wpAnyH _ _ _ _ _ _ _ ⟨#[.pointer (some ⟨g, 0, none⟩), _, _, .pointer (some ⟨k0, 0, none⟩), .int .i64 (k : Int), _, .int .i64 (k : Int), .pointer (some ⟨g, 0, none⟩), .pointer (some ⟨g, 0, none⟩), .pointer (some ⟨g, 1, none⟩), .slice (some ⟨b, 0, none⟩) T.l.length cap, .int .i64 (T.l.length : Int), .bool false, .bool false, undef, undef, undef, undef, _, _, _, _, _, _, _, _, _, _, _, _, _, _, _, _, _, _, _, _, _, _, _, _, _, _, _, _, _, _, _, _, _, _, _, _, _, _, _, _, _, _, _, _, _, _, _, _, _, _, _, _, _, _, _, _, _, _, _, _], []⟩ _
      refine wpAnyH_take (i := 12) (v := undef) rfl (by kernel_rfl) (by kernel_rfl) (by kernel_rfl) (fun _ _ _ h => h) (Or.inr ⟨by rfl, rfl⟩) hHeld ?_
      refine wpAnyH_take (i := 13) (v := undef) rfl (by kernel_rfl) (by kernel_rfl) (by kernel_rfl) (fun _ _ _ h => h) (Or.inr ⟨by rfl, rfl⟩) hHeld ?_
      refine wpAnyH_take (i := 14) (v := undef) rfl (by kernel_rfl) (by kernel_rfl) (by kernel_rfl) (fun _ _ _ h => h) (Or.inr ⟨by rfl, rfl⟩) hHeld ?_
      refine wpAnyH_take (i := 15) (v := undef) rfl (by kernel_rfl) (by kernel_rfl) (by kernel_rfl) (fun _ _ _ h => h) (Or.inr ⟨by rfl, rfl⟩) hHeld ?_
      change wpAnyH _ _ _ _ _ _ _ ⟨#[.pointer (some ⟨g, 0, none⟩), _, _, .pointer (some ⟨k0, 0, none⟩), .int .i64 (k : Int), _, .int .i64 (k : Int), .pointer (some ⟨g, 0, none⟩), .pointer (some ⟨g, 0, none⟩), .pointer (some ⟨g, 1, none⟩), .slice (some ⟨b, 0, none⟩) T.l.length cap, .int .i64 (T.l.length : Int), .bool false, .bool false, undef, undef, undef, undef, undef, undef, undef, undef, _, _, _, _, _, _, _, _, _, _, _, _, _, _, _, _, _, _, _, _, _, _, _, _, _, _, _, _, _, _, _, _, _, _, _, _, _, _, _, _, _, _, _, _, _, _, _, _, _, _, _, _, _, _, _, _], []⟩ _
      refine wpAnyH_take (i := 16) (v := undef) rfl (by kernel_rfl) (by kernel_rfl) (by kernel_rfl) (fun _ _ _ h => h) (Or.inr ⟨by rfl, rfl⟩) hHeld ?_
      refine wpAnyH_take (i := 17) (v := undef) rfl (by kernel_rfl) (by kernel_rfl) (by kernel_rfl) (fun _ _ _ h => h) (Or.inr ⟨by rfl, rfl⟩) hHeld ?_
      refine wpAnyH_take (i := 18) (v := undef) rfl (by kernel_rfl) (by kernel_rfl) (by kernel_rfl) (fun _ _ _ h => h) (Or.inr ⟨by rfl, rfl⟩) hHeld ?_
      refine wpAnyH_take (i := 19) (v := undef) rfl (by kernel_rfl) (by kernel_rfl) (by kernel_rfl) (fun _ _ _ h => h) (Or.inr ⟨by rfl, rfl⟩) hHeld ?_
      change wpAnyH _ _ _ _ _ _ _ ⟨#[.pointer (some ⟨g, 0, none⟩), _, _, .pointer (some ⟨k0, 0, none⟩), .int .i64 (k : Int), _, .int .i64 (k : Int), .pointer (some ⟨g, 0, none⟩), .pointer (some ⟨g, 0, none⟩), .pointer (some ⟨g, 1, none⟩), .slice (some ⟨b, 0, none⟩) T.l.length cap, .int .i64 (T.l.length : Int), .bool false, .bool false, undef, undef, undef, undef, undef, undef, undef, undef, undef, undef, undef, undef, _, _, _, _, _, _, _, _, _, _, _, _, _, _, _, _, _, _, _, _, _, _, _, _, _, _, _, _, _, _, _, _, _, _, _, _, _, _, _, _, _, _, _, _, _, _, _, _, _, _, _, _], []⟩ _
      refine wpAnyH_take (i := 20) (v := undef) rfl (by kernel_rfl) (by kernel_rfl) (by kernel_rfl) (fun _ _ _ h => h) (Or.inr ⟨by rfl, rfl⟩) hHeld ?_
      refine wpAnyH_take (i := 21) (v := undef) rfl (by kernel_rfl) (by kernel_rfl) (by kernel_rfl) (fun _ _ _ h => h) (Or.inr ⟨by rfl, rfl⟩) hHeld ?_
      refine wpAnyH_take (i := 22) (v := undef) rfl (by kernel_rfl) (by kernel_rfl) (by kernel_rfl) (fun _ _ _ h => h) (Or.inr ⟨by rfl, rfl⟩) hHeld ?_
      refine wpAnyH_take (i := 23) (v := undef) rfl (by kernel_rfl) (by kernel_rfl) (by kernel_rfl) (fun _ _ _ h => h) (Or.inr ⟨by rfl, rfl⟩) hHeld ?_
      change wpAnyH _ _ _ _ _ _ _ ⟨#[.pointer (some ⟨g, 0, none⟩), _, _, .pointer (some ⟨k0, 0, none⟩), .int .i64 (k : Int), _, .int .i64 (k : Int), .pointer (some ⟨g, 0, none⟩), .pointer (some ⟨g, 0, none⟩), .pointer (some ⟨g, 1, none⟩), .slice (some ⟨b, 0, none⟩) T.l.length cap, .int .i64 (T.l.length : Int), .bool false, .bool false, undef, undef, undef, undef, undef, undef, undef, undef, undef, undef, undef, undef, undef, undef, undef, undef, _, _, _, _, _, _, _, _, _, _, _, _, _, _, _, _, _, _, _, _, _, _, _, _, _, _, _, _, _, _, _, _, _, _, _, _, _, _, _, _, _, _, _, _, _, _, _, _], []⟩ _
      refine wpAnyH_take (i := 24) (v := undef) rfl (by kernel_rfl) (by kernel_rfl) (by kernel_rfl) (fun _ _ _ h => h) (Or.inr ⟨by rfl, rfl⟩) hHeld ?_
      refine wpAnyH_take (i := 25) (v := undef) rfl (by kernel_rfl) (by kernel_rfl) (by kernel_rfl) (fun _ _ _ h => h) (Or.inr ⟨by rfl, rfl⟩) hHeld ?_
      refine wpAnyH_take (i := 26) (v := undef) rfl (by kernel_rfl) (by kernel_rfl) (by kernel_rfl) (fun _ _ _ h => h) (Or.inr ⟨by rfl, rfl⟩) hHeld ?_
      refine wpAnyH_take (i := 27) (v := undef) rfl (by kernel_rfl) (by kernel_rfl) (by kernel_rfl) (fun _ _ _ h => h) (Or.inr ⟨by rfl, rfl⟩) hHeld ?_
      change wpAnyH _ _ _ _ _ _ _ ⟨#[.pointer (some ⟨g, 0, none⟩), _, _, .pointer (some ⟨k0, 0, none⟩), .int .i64 (k : Int), _, .int .i64 (k : Int), .pointer (some ⟨g, 0, none⟩), .pointer (some ⟨g, 0, none⟩), .pointer (some ⟨g, 1, none⟩), .slice (some ⟨b, 0, none⟩) T.l.length cap, .int .i64 (T.l.length : Int), .bool false, .bool false, undef, undef, undef, undef, undef, undef, undef, undef, undef, undef, undef, undef, undef, undef, undef, undef, undef, undef, undef, undef, _, _, _, _, _, _, _, _, _, _, _, _, _, _, _, _, _, _, _, _, _, _, _, _, _, _, _, _, _, _, _, _, _, _, _, _, _, _, _, _, _, _, _, _], []⟩ _
      refine wpAnyH_take (i := 28) (v := undef) rfl (by kernel_rfl) (by kernel_rfl) (by kernel_rfl) (fun _ _ _ h => h) (Or.inr ⟨by rfl, rfl⟩) hHeld ?_
      refine wpAnyH_take (i := 29) (v := undef) rfl (by kernel_rfl) (by kernel_rfl) (by kernel_rfl) (fun _ _ _ h => h) (Or.inr ⟨by rfl, rfl⟩) hHeld ?_
      refine wpAnyH_take (i := 30) (v := undef) rfl (by kernel_rfl) (by kernel_rfl) (by kernel_rfl) (fun _ _ _ h => h) (Or.inr ⟨by rfl, rfl⟩) hHeld ?_
      refine wpAnyH_take (i := 31) (v := undef) rfl (by kernel_rfl) (by kernel_rfl) (by kernel_rfl) (fun _ _ _ h => h) (Or.inr ⟨by rfl, rfl⟩) hHeld ?_
      change wpAnyH _ _ _ _ _ _ _ ⟨#[.pointer (some ⟨g, 0, none⟩), _, _, .pointer (some ⟨k0, 0, none⟩), .int .i64 (k : Int), _, .int .i64 (k : Int), .pointer (some ⟨g, 0, none⟩), .pointer (some ⟨g, 0, none⟩), .pointer (some ⟨g, 1, none⟩), .slice (some ⟨b, 0, none⟩) T.l.length cap, .int .i64 (T.l.length : Int), .bool false, .bool false, undef, undef, undef, undef, undef, undef, undef, undef, undef, undef, undef, undef, undef, undef, undef, undef, undef, undef, undef, undef, undef, undef, undef, undef, _, _, _, _, _, _, _, _, _, _, _, _, _, _, _, _, _, _, _, _, _, _, _, _, _, _, _, _, _, _, _, _, _, _, _, _, _, _, _, _], []⟩ _
      refine wpAnyH_take (i := 32) (v := undef) rfl (by kernel_rfl) (by kernel_rfl) (by kernel_rfl) (fun _ _ _ h => h) (Or.inr ⟨by rfl, rfl⟩) hHeld ?_
      refine wpAnyH_take (i := 33) (v := undef) rfl (by kernel_rfl) (by kernel_rfl) (by kernel_rfl) (fun _ _ _ h => h) (Or.inr ⟨by rfl, rfl⟩) hHeld ?_
      refine wpAnyH_take (i := 34) (v := undef) rfl (by kernel_rfl) (by kernel_rfl) (by kernel_rfl) (fun _ _ _ h => h) (Or.inr ⟨by rfl, rfl⟩) hHeld ?_
      refine wpAnyH_take (i := 35) (v := undef) rfl (by kernel_rfl) (by kernel_rfl) (by kernel_rfl) (fun _ _ _ h => h) (Or.inr ⟨by rfl, rfl⟩) hHeld ?_
      change wpAnyH _ _ _ _ _ _ _ ⟨#[.pointer (some ⟨g, 0, none⟩), _, _, .pointer (some ⟨k0, 0, none⟩), .int .i64 (k : Int), _, .int .i64 (k : Int), .pointer (some ⟨g, 0, none⟩), .pointer (some ⟨g, 0, none⟩), .pointer (some ⟨g, 1, none⟩), .slice (some ⟨b, 0, none⟩) T.l.length cap, .int .i64 (T.l.length : Int), .bool false, .bool false, undef, undef, undef, undef, undef, undef, undef, undef, undef, undef, undef, undef, undef, undef, undef, undef, undef, undef, undef, undef, undef, undef, undef, undef, undef, undef, undef, undef, _, _, _, _, _, _, _, _, _, _, _, _, _, _, _, _, _, _, _, _, _, _, _, _, _, _, _, _, _, _, _, _, _, _, _, _], []⟩ _
      refine wpAnyH_take (i := 36) (v := undef) rfl (by kernel_rfl) (by kernel_rfl) (by kernel_rfl) (fun _ _ _ h => h) (Or.inr ⟨by rfl, rfl⟩) hHeld ?_
      refine wpAnyH_take (i := 37) (v := undef) rfl (by kernel_rfl) (by kernel_rfl) (by kernel_rfl) (fun _ _ _ h => h) (Or.inr ⟨by rfl, rfl⟩) hHeld ?_
      refine wpAnyH_take (i := 38) (v := undef) rfl (by kernel_rfl) (by kernel_rfl) (by kernel_rfl) (fun _ _ _ h => h) (Or.inr ⟨by rfl, rfl⟩) hHeld ?_
      refine wpAnyH_take (i := 39) (v := undef) rfl (by kernel_rfl) (by kernel_rfl) (by kernel_rfl) (fun _ _ _ h => h) (Or.inr ⟨by rfl, rfl⟩) hHeld ?_
      change wpAnyH _ _ _ _ _ _ _ ⟨#[.pointer (some ⟨g, 0, none⟩), _, _, .pointer (some ⟨k0, 0, none⟩), .int .i64 (k : Int), _, .int .i64 (k : Int), .pointer (some ⟨g, 0, none⟩), .pointer (some ⟨g, 0, none⟩), .pointer (some ⟨g, 1, none⟩), .slice (some ⟨b, 0, none⟩) T.l.length cap, .int .i64 (T.l.length : Int), .bool false, .bool false, undef, undef, undef, undef, undef, undef, undef, undef, undef, undef, undef, undef, undef, undef, undef, undef, undef, undef, undef, undef, undef, undef, undef, undef, undef, undef, undef, undef, undef, undef, undef, undef, _, _, _, _, _, _, _, _, _, _, _, _, _, _, _, _, _, _, _, _, _, _, _, _, _, _, _, _, _, _, _, _], []⟩ _
      refine wpAnyH_take (i := 40) (v := undef) rfl (by kernel_rfl) (by kernel_rfl) (by kernel_rfl) (fun _ _ _ h => h) (Or.inr ⟨by rfl, rfl⟩) hHeld ?_
      refine wpAnyH_take (i := 41) (v := undef) rfl (by kernel_rfl) (by kernel_rfl) (by kernel_rfl) (fun _ _ _ h => h) (Or.inr ⟨by rfl, rfl⟩) hHeld ?_
      refine wpAnyH_take (i := 42) (v := undef) rfl (by kernel_rfl) (by kernel_rfl) (by kernel_rfl) (fun _ _ _ h => h) (Or.inr ⟨by rfl, rfl⟩) hHeld ?_
      refine wpAnyH_take (i := 43) (v := undef) rfl (by kernel_rfl) (by kernel_rfl) (by kernel_rfl) (fun _ _ _ h => h) (Or.inr ⟨by rfl, rfl⟩) hHeld ?_
      change wpAnyH _ _ _ _ _ _ _ ⟨#[.pointer (some ⟨g, 0, none⟩), _, _, .pointer (some ⟨k0, 0, none⟩), .int .i64 (k : Int), _, .int .i64 (k : Int), .pointer (some ⟨g, 0, none⟩), .pointer (some ⟨g, 0, none⟩), .pointer (some ⟨g, 1, none⟩), .slice (some ⟨b, 0, none⟩) T.l.length cap, .int .i64 (T.l.length : Int), .bool false, .bool false, undef, undef, undef, undef, undef, undef, undef, undef, undef, undef, undef, undef, undef, undef, undef, undef, undef, undef, undef, undef, undef, undef, undef, undef, undef, undef, undef, undef, undef, undef, undef, undef, undef, undef, undef, undef, _, _, _, _, _, _, _, _, _, _, _, _, _, _, _, _, _, _, _, _, _, _, _, _, _, _, _, _], []⟩ _
      refine wpAnyH_take (i := 44) (v := undef) rfl (by kernel_rfl) (by kernel_rfl) (by kernel_rfl) (fun _ _ _ h => h) (Or.inr ⟨by rfl, rfl⟩) hHeld ?_
      refine wpAnyH_take (i := 45) (v := undef) rfl (by kernel_rfl) (by kernel_rfl) (by kernel_rfl) (fun _ _ _ h => h) (Or.inr ⟨by rfl, rfl⟩) hHeld ?_
      refine wpAnyH_take (i := 46) (v := .bool false) rfl (by kernel_rfl) (by kernel_rfl) (by kernel_rfl) (fun _ _ _ h => h) (Or.inl ⟨by rfl, ?_⟩) hHeld ?_
      · intro W hW; (try dsimp only at hW); go_simp
      change wpAnyH _ _ _ _ _ _ _ ⟨#[.pointer (some ⟨g, 0, none⟩), _, _, .pointer (some ⟨k0, 0, none⟩), .int .i64 (k : Int), _, .int .i64 (k : Int), .pointer (some ⟨g, 0, none⟩), .pointer (some ⟨g, 0, none⟩), .pointer (some ⟨g, 1, none⟩), .slice (some ⟨b, 0, none⟩) T.l.length cap, .int .i64 (T.l.length : Int), .bool false, .bool false, undef, undef, undef, undef, undef, undef, undef, undef, undef, undef, undef, undef, undef, undef, undef, undef, undef, undef, undef, undef, undef, undef, undef, undef, undef, undef, undef, undef, undef, undef, undef, undef, undef, undef, undef, undef, undef, undef, .bool false, _, _, _, _, _, _, _, _, _, _, _, _, _, _, _, _, _, _, _, _, _, _, _, _, _], []⟩ _
      have HG := hide hHeld.1
      have HL := hide hHeld.2.1
      have HX := hide hHeld.2.2
      clear hHeld
      refine wpAnyH_done (by kernel_rfl) ?_ _
      by_cases hck : k = cap
      · subst hck
        have hsz := B.out.size
        have hkk := HKK.out
        have hgl := HG.out.lt
        have hxl := HX.out.lt
        have hbl := HL.out.lt
        obtain ⟨N, hN⟩ : ∃ N, N = (World.heap u0).size := ⟨_, rfl⟩
        rw [← hN] at hgl hxl hsz hbl
        have b0 : Below N u0 (u0.alloc (.cells #[] 61)) := by rw [hN]; exact below_alloc _ _
        have O1 : Hid ((u0.alloc (.cells #[] 61)).ownsRow N 61 10 (.slice (some ⟨u0.heap.size, 0, none⟩) 0 0) 0 (es [])) := hide (World.ownsRow_lit u0 #[] 0 (by omega) (by unfold maxLen; omega) rfl)
        have M1 : Hid (Ers (u0.alloc (.cells #[] 61)) (some ⟨b, 0, none⟩) k k (T.l.take k)) := hide (ers_take (HL.out.below hbl (b0)) (k := k) (by omega) k)
        have hlt1 : Hid (N ≤ (u0.alloc (.cells #[] 61)).heap.size) := hide (by rw [hN]; simp)
        have c1 := HG.out.cell 1 _ rfl
        have c1a := (HG.out.below hgl b0).cell 1 _ rfl
        have B0 := hide b0
        have HN := hide hN
        have hgl0 := hide hgl
        have hxl0 := hide hxl
        have hbl0 := hide hbl
        clear b0 hN
        have tk1 : True := trivial
        have tk2 : True := trivial
        have tk3 : True := trivial
        have tk4 : True := trivial
        have tk5 : True := trivial
        go_wp2_with (first | (have _t := tk1; at_builtin; refine wpl_eapp rfl rfl (.tmp 55) (.tmp 61) rfl N _ 0 [] rfl O1.out _ _ _ _ rfl M1.out (by omega) hlt1.out ?_; clear tk1))
        intro v1 w1 R1 G1
        have B1 := hide (B0.out.grown G1 hlt1.out (fun r hr => (O1.out.lt r hr).1))
        have X1 := (HX.out.below hxl0.out B1.out).at_
        have O2 := hide (World.ownsRow.alloc R1 (.cells (EC x) 61))
        have M2 := hide (ers_one w1 x)
        have hlt2 : Hid (N ≤ (w1.alloc (.cells (EC x) 61)).heap.size) := hide (by have := B1.out.size; have := HN.out; simp; omega)
        have c1b := (HG.out.below hgl0.out B1.out).cell 1 _ rfl
        clear R1 G1 B0 O1 M1 c1 c1a
        go_wp2_with (first | (have _t := tk2; refine wpl_ent (.tmp 3) rfl X1 ?_ ?_ ?_; rfl; rfl; clear tk2) | (have _t := tk3; refine wpl_bs rfl (.tmp 64) x rfl rfl ?_; clear tk3) | (have _t := tk4; at_builtin; refine wpl_eapp rfl rfl (.tmp 63) (.tmp 65) rfl N _ _ _ rfl O2.out _ 1 1 _ rfl M2.out (by omega) hlt2.out ?_; clear tk4))
        intro v2 w2 R2 G2
        have B4 := hide ((B1.out.alloc (by have := B1.out.size; have := HN.out; omega) (.cells (EC x) 61)).grown G2 hlt2.out (fun r hr => (O2.out.lt r hr).1))
        have O3 := hide R2
        have M3 : Hid (Ers w2 (some ⟨b, 0, none⟩) 0 0 []) := hide (ers_nil _ _ _)
        have hlt3 : Hid (N ≤ w2.heap.size) := hide (by have := B4.out.size; have := HN.out; omega)
        have c1c := (HG.out.below hgl0.out B4.out).cell 1 _ rfl
        clear R2 G2 B1 O2 M2 X1 c1b
        go_wp2_with (first | (have _t := tk5; at_builtin; refine wpl_eapp rfl rfl (.tmp 68) (.tmp 74) rfl N _ _ _ rfl O3.out _ _ _ _ rfl M3.out (by omega) hlt3.out ?_; clear tk5))
        intro v3 w3 R3 G3
        have B5 := hide (B4.out.grown G3 hlt3.out (fun r hr => (O3.out.lt r hr).1))
        have c1d := (HG.out.below hgl0.out B5.out).cell 1 _ rfl
        have c1f := (HG.out.below hgl0.out B5.out).free 1 (by simp)
        obtain ⟨ao3, c3, rfl⟩ := own_form R3
        have R4 : w3.ownsRow (g + 1) 61 10 (.slice ao3 (0 + k + 1 + 0) c3) (up T.l x).length (es (up T.l x)) := by
          rw [← HUP.out, show (T.l.take k ++ (x :: T.l.drop k)).length = (0 + k + 1 + 0) by (simp; omega)]
          exact row_mono (show g + 1 ≤ N from hgl0.out) (by rw [show T.l.drop k = [] from List.drop_eq_nil_of_le (by omega)]; simpa using R3)
        have F := hide (HRT.out.fresh (T' := ⟨T.n, up T.l x⟩) (((HW0.out.trans (B.out.mono (Nat.le_succ _))).mono (show g + 1 ≤ k0 from HKK.out)).trans (B5.out.mono (show g + 1 ≤ N from hgl0.out))) rfl HWF.out R4)
        have F2 := hide (fun (lv0 : Value) (q : Value) => Fr.fresh (K := [g]) (lv := lv0) (w := w) (r := g) (show Below w.heap.size w w3 from by rw [HK0.out]; exact (HW0.out.trans (B.out.mono (Nat.le_succ _))).trans (B5.out.mono (show k0 ≤ N from Nat.le_of_lt hxl0.out))) (row_low (show w.heap.size ≤ N from by rw [HK0.out]; exact Nat.le_of_lt hxl0.out) R3) (by simp) 1 q)
        clear R3 G3 B4 O3 M3 c1c R4
        go_wp2
        go_end0
        have F' := F.out
        simp only [Nat.zero_add, Nat.add_zero] at F'
        have F2' := F2.out
        try simp only [Nat.zero_add, Nat.add_zero] at F2'
        exact ⟨rfl, ⟨_, F'.1, F2' _ _⟩, F'.2⟩
      · skip
        have hsz := B.out.size
        have hkk := HKK.out
        have hgl := HG.out.lt
        have hxl := HX.out.lt
        have hbl := HL.out.lt
        obtain ⟨N, hN⟩ : ∃ N, N = (World.heap u0).size := ⟨_, rfl⟩
        rw [← hN] at hgl hxl hsz hbl
        have b0 : Below N u0 (u0.alloc (.cells #[] 61)) := by rw [hN]; exact below_alloc _ _
        have O1 : Hid ((u0.alloc (.cells #[] 61)).ownsRow N 61 10 (.slice (some ⟨u0.heap.size, 0, none⟩) 0 0) 0 (es [])) := hide (World.ownsRow_lit u0 #[] 0 (by omega) (by unfold maxLen; omega) rfl)
        have M1 : Hid (Ers (u0.alloc (.cells #[] 61)) (some ⟨b, 0, none⟩) k cap (T.l.take k)) := hide (ers_take (HL.out.below hbl (b0)) (k := k) (by omega) cap)
        have hlt1 : Hid (N ≤ (u0.alloc (.cells #[] 61)).heap.size) := hide (by rw [hN]; simp)
        have c1 := HG.out.cell 1 _ rfl
        have c1a := (HG.out.below hgl b0).cell 1 _ rfl
        have B0 := hide b0
        have HN := hide hN
        have hgl0 := hide hgl
        have hxl0 := hide hxl
        have hbl0 := hide hbl
        clear b0 hN
        have tk1 : True := trivial
        have tk2 : True := trivial
        have tk3 : True := trivial
        have tk4 : True := trivial
        have tk5 : True := trivial
        go_wp2_with (first | (have _t := tk1; at_builtin; refine wpl_eapp rfl rfl (.tmp 55) (.tmp 61) rfl N _ 0 [] rfl O1.out _ _ _ _ rfl M1.out (by omega) hlt1.out ?_; clear tk1))
        intro v1 w1 R1 G1
        have B1 := hide (B0.out.grown G1 hlt1.out (fun r hr => (O1.out.lt r hr).1))
        have X1 := (HX.out.below hxl0.out B1.out).at_
        have O2 := hide (World.ownsRow.alloc R1 (.cells (EC x) 61))
        have M2 := hide (ers_one w1 x)
        have hlt2 : Hid (N ≤ (w1.alloc (.cells (EC x) 61)).heap.size) := hide (by have := B1.out.size; have := HN.out; simp; omega)
        have c1b := (HG.out.below hgl0.out B1.out).cell 1 _ rfl
        clear R1 G1 B0 O1 M1 c1 c1a
        go_wp2_with (first | (have _t := tk2; refine wpl_ent (.tmp 3) rfl X1 ?_ ?_ ?_; rfl; rfl; clear tk2) | (have _t := tk3; refine wpl_bs rfl (.tmp 64) x rfl rfl ?_; clear tk3) | (have _t := tk4; at_builtin; refine wpl_eapp rfl rfl (.tmp 63) (.tmp 65) rfl N _ _ _ rfl O2.out _ 1 1 _ rfl M2.out (by omega) hlt2.out ?_; clear tk4))
        intro v2 w2 R2 G2
        have B4 := hide ((B1.out.alloc (by have := B1.out.size; have := HN.out; omega) (.cells (EC x) 61)).grown G2 hlt2.out (fun r hr => (O2.out.lt r hr).1))
        have O3 := hide R2
        have M3 : Hid (Ers w2 (some ⟨b, k * 10, none⟩) (T.l.length - k) (cap - k) (T.l.drop k)) := hide (by have h9 := ers_drop (HL.out.below hbl0.out B4.out) (k := k) (by omega) cap (by omega); rw [if_neg (by omega)] at h9; exact h9)
        have hlt3 : Hid (N ≤ w2.heap.size) := hide (by have := B4.out.size; have := HN.out; omega)
        have c1c := (HG.out.below hgl0.out B4.out).cell 1 _ rfl
        clear R2 G2 B1 O2 M2 X1 c1b
        go_wp2_with (first | (have _t := tk5; at_builtin; refine wpl_eapp rfl rfl (.tmp 68) (.tmp 74) rfl N _ _ _ rfl O3.out _ _ _ _ rfl M3.out (by omega) hlt3.out ?_; clear tk5))
        intro v3 w3 R3 G3
        have B5 := hide (B4.out.grown G3 hlt3.out (fun r hr => (O3.out.lt r hr).1))
        have c1d := (HG.out.below hgl0.out B5.out).cell 1 _ rfl
        have c1f := (HG.out.below hgl0.out B5.out).free 1 (by simp)
        obtain ⟨ao3, c3, rfl⟩ := own_form R3
        have R4 : w3.ownsRow (g + 1) 61 10 (.slice ao3 (0 + k + 1 + (T.l.length - k)) c3) (up T.l x).length (es (up T.l x)) := by
          rw [← HUP.out, show (T.l.take k ++ (x :: T.l.drop k)).length = (0 + k + 1 + (T.l.length - k)) by (simp; omega)]
          exact row_mono (show g + 1 ≤ N from hgl0.out) (by simpa using R3)
        have F := hide (HRT.out.fresh (T' := ⟨T.n, up T.l x⟩) (((HW0.out.trans (B.out.mono (Nat.le_succ _))).mono (show g + 1 ≤ k0 from HKK.out)).trans (B5.out.mono (show g + 1 ≤ N from hgl0.out))) rfl HWF.out R4)
        have F2 := hide (fun (lv0 : Value) (q : Value) => Fr.fresh (K := [g]) (lv := lv0) (w := w) (r := g) (show Below w.heap.size w w3 from by rw [HK0.out]; exact (HW0.out.trans (B.out.mono (Nat.le_succ _))).trans (B5.out.mono (show k0 ≤ N from Nat.le_of_lt hxl0.out))) (row_low (show w.heap.size ≤ N from by rw [HK0.out]; exact Nat.le_of_lt hxl0.out) R3) (by simp) 1 q)
        clear R3 G3 B4 O3 M3 c1c R4
        go_wp2
        go_end0
        have F' := F.out
        simp only [Nat.zero_add] at F'
        have F2' := F2.out
        try simp only [Nat.zero_add, Nat.add_zero] at F2'
        exact ⟨rfl, ⟨_, F'.1, F2' _ _⟩, F'.2⟩
end Go.Proofs.YtgpdjfaklcmoiaaGreat
