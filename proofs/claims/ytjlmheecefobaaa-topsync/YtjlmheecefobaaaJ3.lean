/- Contract of Put of the program's journal. -/
import Derived.Test.YtjlmheecefobaaaJ2
namespace Go.Proofs.Ytjlmheecefobaaa
open Go.RowKit Go.PlainAid

theorem mid_grown {w w1 : World} {h k N M : Nat} (g : w.grownBy w1 (some k)) (h1 : N ≤ k) (h2 : k < M) (_ : h = h) : Mid N M w w1 :=
  ⟨g.os, g.tape, g.output, g.size, fun i hi ho => g.block i hi (fun e => by have := Option.some.inj e; omega)⟩
theorem mid_of {w w1 : World} {N M : Nat} (g : Below w.heap.size w w1) : Mid N M w w1 := ⟨g.os, g.tape, g.output, g.size, fun i hi _ => g.block i hi⟩
theorem mid_drew {w w1 : World} {N M : Nat} (g : Mid N M w w1) : Mid N M w w1.drew := ⟨g.os, g.tape, g.output, g.size, g.block⟩
/-- A change's cells are written one after the other. -/
theorem chg_q {w : World} {k : Nat} {l : List Ch} (h : Box w k (chs l)) {j : Nat} {c : Ch} (hj : l[j]? = some c) (q : Int) : Box (w.setCell ⟨k, j * 12, none⟩ (.int .i64 q)) k (chs (l.set j ⟨q, c.x, c.g⟩)) := by
  rw [chs_parts hj] at h
  rw [chs_set ⟨q, c.x, c.g⟩ hj]
  exact Box.set (A := chs (l.take j)) (v := .int .i64 c.q) (v' := .int .i64 q) (C := (ecl c.x ++ [.bool c.g]) ++ chs (l.drop (j + 1))) h (chs_take_len hj)
theorem chg_x {w : World} {k : Nat} {l : List Ch} (h : Box w k (chs l)) {j : Nat} {c : Ch} (hj : l[j]? = some c) (x : En) : Box (w.setCells k (j * 12 + 1) (ecl x)) k (chs (l.set j ⟨c.q, x, c.g⟩)) := by
  rw [chs_parts hj] at h
  rw [chs_set ⟨c.q, x, c.g⟩ hj]
  have h2 : Box w k ((chs (l.take j) ++ [.int .i64 c.q]) ++ (ecl c.x ++ ([.bool c.g] ++ chs (l.drop (j + 1))))) := by simpa [ccl] using h
  have h3 := Box.put (B' := ecl x) (o := j * 12 + 1) h2 (by rw [ecl_length, ecl_length]) (by rw [List.length_append, chs_take_len hj]; rfl)
  simpa [ccl] using h3
theorem chg_g {w : World} {k : Nat} {l : List Ch} (h : Box w k (chs l)) {j : Nat} {c : Ch} (hj : l[j]? = some c) (g : Bool) : Box (w.setCell ⟨k, j * 12 + 11, none⟩ (.bool g)) k (chs (l.set j ⟨c.q, c.x, g⟩)) := by
  rw [chs_parts hj] at h
  rw [chs_set ⟨c.q, c.x, g⟩ hj]
  have h2 : Box w k ((chs (l.take j) ++ (.int .i64 c.q :: ecl c.x)) ++ (.bool c.g :: chs (l.drop (j + 1)))) := by simpa [ccl] using h
  have h3 := Box.set (v' := .bool g) (o := j * 12 + 11) h2 (by rw [List.length_append, chs_take_len hj]; rfl)
  simpa [ccl] using h3
theorem chg_at {w : World} {k : Nat} {l : List Ch} (h : Box w k (chs l)) {j i : Nat} {c : Ch} {v : Value} (hj : l[j]? = some c) (hv : (ccl c)[i]? = some v) : w.cell? ⟨k, j * 12 + i, none⟩ = some v ∧ w.frozen? ⟨k, j * 12 + i, none⟩ = false :=
  ⟨h.chg hj i v hv, by
    have := (List.getElem?_eq_some_iff.1 hv).1
    rw [ccl_length] at this
    have hl := (List.getElem?_eq_some_iff.1 hj).1
    exact h.free _ (by rw [chs_length]; omega)⟩
theorem set_get {α : Type} {l : List α} {j : Nat} {x : α} (y : α) (h : l[j]? = some x) : (l.set j y)[j]? = some y := by
  have := (List.getElem?_eq_some_iff.1 h).1
  simp [this]
set_option maxRecDepth 100000 in
set_option maxHeartbeats 4000000 in
theorem put13 (h n : Nat) (pl cs : List Ch) (x : En) (g : Bool) (w : World) (H : PJ w h n pl cs) (hL : cs.length < 1073741824) :
    Calls Try.prog 13 #[.pointer (some ⟨h + 1, 0, none⟩), .agg (EC x), .bool g] w fun e w' => e = .returned (.tuple #[.int .i64 ((cs.length + 1 : Nat) : Int), .int .i64 0]) ∧ (∃ pl', PJ w' h n pl' (cs ++ [⟨((cs.length + 1 : Nat) : Int), x, g⟩])) ∧ Mid h (h + 2) w w' := by
  have n1 := H.wf.n1
  have n2 := H.wf.n2
  have HW := hide (jw_put H.wf x g)
  have hlt : (cs.length + 1) % n < n := Nat.mod_lt _ (by omega)
  obtain ⟨c, hc⟩ : ∃ c, pl[(cs.length + 1) % n]? = some c := ⟨_, List.getElem?_eq_getElem (by rw [H.wf.len]; exact hlt)⟩
  have HC := hide hc
  have HPB := hide (H.pb.alloc (.cells (EC x) 36))
  have HBX := H.bx.alloc (.cells (EC x) 36)
  have HX := hide (box_e w x)
  have HM : Hid (Mid h (h + 2) w (w.alloc (.cells (EC x) 36))) := hide (mid_of (below_alloc w _))
  have HLT := hide H.lt
  have HLS : Hid ((cs ++ [(⟨((cs.length + 1 : Nat) : Int), x, g⟩ : Ch)]).length = cs.length + 1) := hide (by simp)
  clear H hc hlt
  obtain ⟨j, hj⟩ : ∃ j, j = (cs.length + 1) % n := ⟨_, rfl⟩
  have HJ := hide hj
  rw [← hj] at HW HC
  clear hj
  obtain ⟨s, hs⟩ : ∃ s, s = cs.length := ⟨_, rfl⟩
  obtain ⟨s1, hs1⟩ : ∃ s1, s1 = cs.length + 1 := ⟨_, rfl⟩
  rw [← hs1] at HW HJ HLS ⊢
  rw [← hs] at HBX hL
  have e1 : IntKind.i64.wrap ((s : Int) + 1) = (s1 : Int) := by
    have : (s1 : Int) = (s : Int) + 1 := by omega
    rw [this]; exact IntWalk.i64_in _ (by omega)
  have hne : ¬ (s : Int) = 1073741824 := by omega
  have hs1b : s1 ≤ 1073741824 := by omega
  clear hs hs1
  have c1 := HBX.cell 1 _ rfl
  have f1 := HBX.free 1 (by simp [jcl])
  have HB1 := hide HBX
  clear HBX
  obtain ⟨k0, hk0⟩ : ∃ k0, k0 = w.heap.size := ⟨_, rfl⟩
  have HK0 : Hid (h + 2 ≤ k0 ∧ k0 = w.heap.size) := hide ⟨by rw [hk0]; exact HLT.out, hk0⟩
  go_enter Try.func13, Try.ntmps13
  go_wp2_with fail
  rw [← hk0] at HX ⊢
  clear hk0
  generalize w.alloc (.cells (EC x) 36) = W1 at *
  have B2 : Hid (Box (W1.setCell ⟨h + 1, 1, none⟩ (.int .i64 s1)) (h + 1) (jcl h n s1)) := hide (Box.set (A := [.slice (some ⟨h, 0, none⟩) n n]) (C := []) HB1.out rfl)
  have g2 := setCell_grown W1 (h + 1) 1 (.int .i64 s1)
  have X2 : Hid (Box (W1.setCell ⟨h + 1, 1, none⟩ (.int .i64 s1)) k0 (ecl x)) := hide (HX.out.kept (by have := HK0.out; omega) g2)
  have P2 : Hid (Box (W1.setCell ⟨h + 1, 1, none⟩ (.int .i64 s1)) h (chs pl)) := hide (HPB.out.kept (by omega) g2)
  have M2 : Hid (Mid h (h + 2) w (W1.setCell ⟨h + 1, 1, none⟩ (.int .i64 s1))) := hide (HM.out.trans (mid_grown (h := h) g2 (by omega) (by omega) rfl))
  clear g2 HB1 HX HPB HM c1 f1
  generalize W1.setCell ⟨h + 1, 1, none⟩ (.int .i64 s1) = W2 at *
  have c1 := B2.out.cell 1 _ rfl
  go_wp2_with fail
  refine (place31 h n s1 s1 _ B2.out n1 n2 hs1b).mono ?_
  rintro e W3 ⟨rfl, hb⟩
  rw [← HJ.out]
  replace B2 := hide (B2.out.on hb)
  replace X2 := hide (X2.out.on hb)
  replace P2 := hide (P2.out.on hb)
  replace M2 := hide (M2.out.trans (mid_of hb))
  clear c1 hb
  go_wp2_with fail
  refine wp_region_held_drew (S := fun w' => Box w' (h + 1) (jcl h n s1) ∧ Box w' k0 (ecl x)) (by kernel_rfl) ⟨B2.out.drew, X2.out.drew⟩ (fun hHeld => ?_)
  replace P2 := hide P2.out.drew
  replace M2 := hide (mid_drew M2.out)
  clear B2 X2
  generalize W3.drew = u0 at *
  refine wpAnyH_take (i := 0) (v := .pointer (some ⟨h, j * 12, none⟩)) rfl (by kernel_rfl) (by kernel_rfl) (by kernel_rfl) (fun _ _ _ h => h) (Or.inl ⟨by rfl, ?_⟩) hHeld ?_
  · intro W hW; (try dsimp only at hW); go_simp
  change wpAnyH _ _ _ _ _ _ _ ⟨#[.pointer (some ⟨h + 1, 0, none⟩),_,.bool g,_,.pointer (some ⟨k0, 0, none⟩),_,_,_,.pointer (some ⟨h, j * 12, none⟩),_,_,_,_,_,_,_,_,_,_,_,_,_,_,_,_,_,_,.pointer (some ⟨h, j * 12, none⟩),_,_,_,_,_,_,_,_,_,_,_,_,_,_,_,_,_,_], []⟩ _
  refine wpAnyH_take (i := 1) (v := .pointer (some ⟨h, j * 12, none⟩)) rfl (by kernel_rfl) (by kernel_rfl) (by kernel_rfl) (fun _ _ _ h => h) (Or.inl ⟨by rfl, ?_⟩) hHeld ?_
  · intro W hW; (try dsimp only at hW); go_simp
  change wpAnyH _ _ _ _ _ _ _ ⟨#[.pointer (some ⟨h + 1, 0, none⟩),_,.bool g,_,.pointer (some ⟨k0, 0, none⟩),_,_,_,.pointer (some ⟨h, j * 12, none⟩),_,_,_,_,_,_,_,_,_,_,_,_,_,_,_,_,_,_,.pointer (some ⟨h, j * 12, none⟩),.pointer (some ⟨h, j * 12, none⟩),_,_,_,_,_,_,_,_,_,_,_,_,_,_,_,_,_], []⟩ _
  refine wpAnyH_take (i := 2) (v := .pointer (some ⟨h, j * 12, none⟩)) rfl (by kernel_rfl) (by kernel_rfl) (by kernel_rfl) (fun _ _ _ h => h) (Or.inl ⟨by rfl, ?_⟩) hHeld ?_
  · intro W hW; (try dsimp only at hW); go_simp
  change wpAnyH _ _ _ _ _ _ _ ⟨#[.pointer (some ⟨h + 1, 0, none⟩),_,.bool g,_,.pointer (some ⟨k0, 0, none⟩),_,_,_,.pointer (some ⟨h, j * 12, none⟩),_,_,_,_,_,_,_,_,_,_,_,_,_,_,_,_,_,_,.pointer (some ⟨h, j * 12, none⟩),.pointer (some ⟨h, j * 12, none⟩),.pointer (some ⟨h, j * 12, none⟩),_,_,_,_,_,_,_,_,_,_,_,_,_,_,_,_], []⟩ _
  refine wpAnyH_take (i := 3) (v := .pointer (some ⟨h + 1, 0, none⟩)) rfl (by kernel_rfl) (by kernel_rfl) (by kernel_rfl) (fun _ _ _ h => h) (Or.inl ⟨by rfl, ?_⟩) hHeld ?_
  · intro W hW; (try dsimp only at hW); go_simp
  change wpAnyH _ _ _ _ _ _ _ ⟨#[.pointer (some ⟨h + 1, 0, none⟩),_,.bool g,_,.pointer (some ⟨k0, 0, none⟩),_,_,_,.pointer (some ⟨h, j * 12, none⟩),_,_,_,_,_,_,_,_,_,_,_,_,_,_,_,_,_,_,.pointer (some ⟨h, j * 12, none⟩),.pointer (some ⟨h, j * 12, none⟩),.pointer (some ⟨h, j * 12, none⟩),.pointer (some ⟨h + 1, 0, none⟩),_,_,_,_,_,_,_,_,_,_,_,_,_,_,_], []⟩ _
  refine wpAnyH_take (i := 4) (v := .pointer (some ⟨h + 1, 0, none⟩)) rfl (by kernel_rfl) (by kernel_rfl) (by kernel_rfl) (fun _ _ _ h => h) (Or.inl ⟨by rfl, ?_⟩) hHeld ?_
  · intro W hW; (try dsimp only at hW); go_simp
  change wpAnyH _ _ _ _ _ _ _ ⟨#[.pointer (some ⟨h + 1, 0, none⟩),_,.bool g,_,.pointer (some ⟨k0, 0, none⟩),_,_,_,.pointer (some ⟨h, j * 12, none⟩),_,_,_,_,_,_,_,_,_,_,_,_,_,_,_,_,_,_,.pointer (some ⟨h, j * 12, none⟩),.pointer (some ⟨h, j * 12, none⟩),.pointer (some ⟨h, j * 12, none⟩),.pointer (some ⟨h + 1, 0, none⟩),.pointer (some ⟨h + 1, 0, none⟩),_,_,_,_,_,_,_,_,_,_,_,_,_,_], []⟩ _
  refine wpAnyH_take (i := 5) (v := .pointer (some ⟨h + 1, 1, none⟩)) rfl (by kernel_rfl) (by kernel_rfl) (by kernel_rfl) (fun _ _ _ h => h) (Or.inl ⟨by rfl, ?_⟩) hHeld ?_
  · intro W hW; (try dsimp only at hW); go_simp
  change wpAnyH _ _ _ _ _ _ _ ⟨#[.pointer (some ⟨h + 1, 0, none⟩),_,.bool g,_,.pointer (some ⟨k0, 0, none⟩),_,_,_,.pointer (some ⟨h, j * 12, none⟩),_,_,_,_,_,_,_,_,_,_,_,_,_,_,_,_,_,_,.pointer (some ⟨h, j * 12, none⟩),.pointer (some ⟨h, j * 12, none⟩),.pointer (some ⟨h, j * 12, none⟩),.pointer (some ⟨h + 1, 0, none⟩),.pointer (some ⟨h + 1, 0, none⟩),.pointer (some ⟨h + 1, 1, none⟩),_,_,_,_,_,_,_,_,_,_,_,_,_], []⟩ _
  refine wpAnyH_take (i := 6) (v := .int .i64 (s1 : Int)) rfl (by kernel_rfl) (by kernel_rfl) (by kernel_rfl) (fun _ _ _ h => h) (Or.inl ⟨by rfl, ?_⟩) hHeld ?_
  · intro W hW; (try dsimp only at hW); have hc := hW.1.cell 1 _ rfl; clear hW; go_simp
  change wpAnyH _ _ _ _ _ _ _ ⟨#[.pointer (some ⟨h + 1, 0, none⟩),_,.bool g,_,.pointer (some ⟨k0, 0, none⟩),_,_,_,.pointer (some ⟨h, j * 12, none⟩),_,_,_,_,_,_,_,_,_,_,_,_,_,_,_,_,_,_,.pointer (some ⟨h, j * 12, none⟩),.pointer (some ⟨h, j * 12, none⟩),.pointer (some ⟨h, j * 12, none⟩),.pointer (some ⟨h + 1, 0, none⟩),.pointer (some ⟨h + 1, 0, none⟩),.pointer (some ⟨h + 1, 1, none⟩),.int .i64 (s1 : Int),_,_,_,_,_,_,_,_,_,_,_,_], []⟩ _
  refine wpAnyH_take (i := 7) (v := .agg (EC x)) rfl (by kernel_rfl) (by kernel_rfl) (by kernel_rfl) (fun _ _ _ h => h) (yieldsIf_load_mid (by rfl) 36 (.tmp 4) rfl k0 0 rfl (ecl x) _ (fun W hW => hW.2.at_) Try.underlying36 rfl Try.size36) hHeld ?_
  change wpAnyH _ _ _ _ _ _ _ ⟨#[.pointer (some ⟨h + 1, 0, none⟩),_,.bool g,_,.pointer (some ⟨k0, 0, none⟩),_,_,_,.pointer (some ⟨h, j * 12, none⟩),_,_,_,_,_,_,_,_,_,_,_,_,_,_,_,_,_,_,.pointer (some ⟨h, j * 12, none⟩),.pointer (some ⟨h, j * 12, none⟩),.pointer (some ⟨h, j * 12, none⟩),.pointer (some ⟨h + 1, 0, none⟩),.pointer (some ⟨h + 1, 0, none⟩),.pointer (some ⟨h + 1, 1, none⟩),.int .i64 (s1 : Int),.agg (EC x),_,_,_,_,_,_,_,_,_,_,_], []⟩ _
  refine wpAnyH_take (i := 8) (v := .bool g) rfl (by kernel_rfl) (by kernel_rfl) (by kernel_rfl) (fun _ _ _ h => h) (Or.inl ⟨by rfl, ?_⟩) hHeld ?_
  · intro W hW; (try dsimp only at hW); go_simp
  change wpAnyH _ _ _ _ _ _ _ ⟨#[.pointer (some ⟨h + 1, 0, none⟩),_,.bool g,_,.pointer (some ⟨k0, 0, none⟩),_,_,_,.pointer (some ⟨h, j * 12, none⟩),_,_,_,_,_,_,_,_,_,_,_,_,_,_,_,_,_,_,.pointer (some ⟨h, j * 12, none⟩),.pointer (some ⟨h, j * 12, none⟩),.pointer (some ⟨h, j * 12, none⟩),.pointer (some ⟨h + 1, 0, none⟩),.pointer (some ⟨h + 1, 0, none⟩),.pointer (some ⟨h + 1, 1, none⟩),.int .i64 (s1 : Int),.agg (EC x),.bool g,_,_,_,_,_,_,_,_,_,_], []⟩ _
  refine wpAnyH_take (i := 9) (v := .pointer (some ⟨h, j * 12, none⟩)) rfl (by kernel_rfl) (by kernel_rfl) (by kernel_rfl) (fun _ _ _ h => h) (Or.inl ⟨by rfl, ?_⟩) hHeld ?_
  · intro W hW; (try dsimp only at hW); go_simp
  change wpAnyH _ _ _ _ _ _ _ ⟨#[.pointer (some ⟨h + 1, 0, none⟩),_,.bool g,_,.pointer (some ⟨k0, 0, none⟩),_,_,_,.pointer (some ⟨h, j * 12, none⟩),_,_,_,_,_,_,_,_,_,_,_,_,_,_,_,_,_,_,.pointer (some ⟨h, j * 12, none⟩),.pointer (some ⟨h, j * 12, none⟩),.pointer (some ⟨h, j * 12, none⟩),.pointer (some ⟨h + 1, 0, none⟩),.pointer (some ⟨h + 1, 0, none⟩),.pointer (some ⟨h + 1, 1, none⟩),.int .i64 (s1 : Int),.agg (EC x),.bool g,.pointer (some ⟨h, j * 12, none⟩),_,_,_,_,_,_,_,_,_], []⟩ _
  refine wpAnyH_take (i := 10) (v := .pointer (some ⟨h, j * 12, none⟩)) rfl (by kernel_rfl) (by kernel_rfl) (by kernel_rfl) (fun _ _ _ h => h) (Or.inl ⟨by rfl, ?_⟩) hHeld ?_
  · intro W hW; (try dsimp only at hW); go_simp
  change wpAnyH _ _ _ _ _ _ _ ⟨#[.pointer (some ⟨h + 1, 0, none⟩),_,.bool g,_,.pointer (some ⟨k0, 0, none⟩),_,_,_,.pointer (some ⟨h, j * 12, none⟩),_,_,_,_,_,_,_,_,_,_,_,_,_,_,_,_,_,_,.pointer (some ⟨h, j * 12, none⟩),.pointer (some ⟨h, j * 12, none⟩),.pointer (some ⟨h, j * 12, none⟩),.pointer (some ⟨h + 1, 0, none⟩),.pointer (some ⟨h + 1, 0, none⟩),.pointer (some ⟨h + 1, 1, none⟩),.int .i64 (s1 : Int),.agg (EC x),.bool g,.pointer (some ⟨h, j * 12, none⟩),.pointer (some ⟨h, j * 12, none⟩),_,_,_,_,_,_,_,_], []⟩ _
  refine wpAnyH_ready (rs := [11]) (by kernel_rfl) (by simp) ?_
  refine AllReadyH.cons rfl (fun K hK => ?_) AllReadyH.nil
  obtain ⟨cc, ff⟩ := chg_at P2.out HC.out (i := 0) (v := .int .i64 c.q) rfl
  rw [Nat.add_zero] at cc ff
  have P3 := chg_q P2.out HC.out (s1 : Int)
  have g3 := setCell_grown u0 h (j * 12) (.int .i64 (s1 : Int))
  have C3 := set_get (⟨(s1 : Int), c.x, c.g⟩ : Ch) HC.out
  have M3 := M2.out.trans (mid_grown (N := h) (M := h + 2) (h := h) g3 (by omega) (by omega) rfl)
  go_simp
  refine hK.out _ _ ⟨hHeld.1.kept (by omega) g3, hHeld.2.kept (by have := HK0.out; omega) g3⟩ (fun hHeld => ?_)
  replace P2 := hide P3
  have C3' := hide C3
  replace M2 := hide M3
  clear hK K P3 g3 C3 M3 cc ff
  generalize u0.setCell ⟨h, j * 12, none⟩ (.int .i64 (s1 : Int)) = u1 at *
  change wpAnyH _ _ _ _ _ _ _ ⟨#[.pointer (some ⟨h + 1, 0, none⟩),_,.bool g,_,.pointer (some ⟨k0, 0, none⟩),_,_,_,.pointer (some ⟨h, j * 12, none⟩),_,_,_,_,_,_,_,_,_,_,_,_,_,_,_,_,_,_,.pointer (some ⟨h, j * 12, none⟩),.pointer (some ⟨h, j * 12, none⟩),.pointer (some ⟨h, j * 12, none⟩),.pointer (some ⟨h + 1, 0, none⟩),.pointer (some ⟨h + 1, 0, none⟩),.pointer (some ⟨h + 1, 1, none⟩),.int .i64 (s1 : Int),.agg (EC x),.bool g,.pointer (some ⟨h, j * 12, none⟩),.pointer (some ⟨h, j * 12, none⟩),_,_,_,_,_,_,_,_], []⟩ _
  refine wpAnyH_take (i := 12) (v := .pointer (some ⟨h, j * 12, none⟩)) rfl (by kernel_rfl) (by kernel_rfl) (by kernel_rfl) (fun _ _ _ h => h) (Or.inl ⟨by rfl, ?_⟩) hHeld ?_
  · intro W hW; (try dsimp only at hW); go_simp
  change wpAnyH _ _ _ _ _ _ _ ⟨#[.pointer (some ⟨h + 1, 0, none⟩),_,.bool g,_,.pointer (some ⟨k0, 0, none⟩),_,_,_,.pointer (some ⟨h, j * 12, none⟩),_,_,_,_,_,_,_,_,_,_,_,_,_,_,_,_,_,_,.pointer (some ⟨h, j * 12, none⟩),.pointer (some ⟨h, j * 12, none⟩),.pointer (some ⟨h, j * 12, none⟩),.pointer (some ⟨h + 1, 0, none⟩),.pointer (some ⟨h + 1, 0, none⟩),.pointer (some ⟨h + 1, 1, none⟩),.int .i64 (s1 : Int),.agg (EC x),.bool g,.pointer (some ⟨h, j * 12, none⟩),.pointer (some ⟨h, j * 12, none⟩),.pointer (some ⟨h, j * 12, none⟩),_,_,_,_,_,_,_], []⟩ _
  refine wpAnyH_take (i := 13) (v := .pointer (some ⟨h, j * 12 + 1, none⟩)) rfl (by kernel_rfl) (by kernel_rfl) (by kernel_rfl) (fun _ _ _ h => h) (Or.inl ⟨by rfl, ?_⟩) hHeld ?_
  · intro W hW; (try dsimp only at hW); go_simp
  change wpAnyH _ _ _ _ _ _ _ ⟨#[.pointer (some ⟨h + 1, 0, none⟩),_,.bool g,_,.pointer (some ⟨k0, 0, none⟩),_,_,_,.pointer (some ⟨h, j * 12, none⟩),_,_,_,_,_,_,_,_,_,_,_,_,_,_,_,_,_,_,.pointer (some ⟨h, j * 12, none⟩),.pointer (some ⟨h, j * 12, none⟩),.pointer (some ⟨h, j * 12, none⟩),.pointer (some ⟨h + 1, 0, none⟩),.pointer (some ⟨h + 1, 0, none⟩),.pointer (some ⟨h + 1, 1, none⟩),.int .i64 (s1 : Int),.agg (EC x),.bool g,.pointer (some ⟨h, j * 12, none⟩),.pointer (some ⟨h, j * 12, none⟩),.pointer (some ⟨h, j * 12, none⟩),.pointer (some ⟨h, j * 12 + 1, none⟩),_,_,_,_,_,_], []⟩ _
  refine wpAnyH_ready (rs := [14]) (by kernel_rfl) (by simp) ?_
  refine AllReadyH.cons rfl (fun K hK => ?_) AllReadyH.nil
  rw [if_pos (by rfl)]
  have P3 := chg_x P2.out C3'.out x
  have g3 := setCells_grown h (ecl x) (j * 12 + 1) u1
  have C3 := set_get (⟨(s1 : Int), x, c.g⟩ : Ch) C3'.out
  have M3 := M2.out.trans (mid_grown (N := h) (M := h + 2) (h := h) g3 (by omega) (by omega) rfl)
  have th : u1.there h (j * 12 + 1) 10 := fun i hi => by
    have h1 := P2.out.th (j * 12 + 1 + i) (by rw [chs_length]; have := (List.getElem?_eq_some_iff.1 C3'.out).1; omega)
    rw [Nat.zero_add] at h1
    exact h1
  refine wp_store_mid 36 (.tmp 39) (.tmp 34) rfl h (j * 12 + 1) (EC x) rfl rfl th Try.size36 (one_EC x) ?_
  refine hK.out _ _ ⟨hHeld.1.kept (by omega) g3, hHeld.2.kept (by have := HK0.out; omega) g3⟩ (fun hHeld => ?_)
  replace P2 := hide P3
  have C4' := hide C3
  replace M2 := hide M3
  clear hK K P3 g3 C3 M3 th
  obtain ⟨u2, hu2⟩ : ∃ u2, u2 = World.setCells u1 h (j * 12 + 1) (ecl x) := ⟨_, rfl⟩
  have e7 : World.setCells u1 h (j * 12 + 1) (EC x).toList = u2 := by rw [hu2]; rfl
  rw [e7] at hHeld ⊢
  rw [← hu2] at P2 M2
  clear e7 hu2
  change wpAnyH _ _ _ _ _ _ _ ⟨#[.pointer (some ⟨h + 1, 0, none⟩),_,.bool g,_,.pointer (some ⟨k0, 0, none⟩),_,_,_,.pointer (some ⟨h, j * 12, none⟩),_,_,_,_,_,_,_,_,_,_,_,_,_,_,_,_,_,_,.pointer (some ⟨h, j * 12, none⟩),.pointer (some ⟨h, j * 12, none⟩),.pointer (some ⟨h, j * 12, none⟩),.pointer (some ⟨h + 1, 0, none⟩),.pointer (some ⟨h + 1, 0, none⟩),.pointer (some ⟨h + 1, 1, none⟩),.int .i64 (s1 : Int),.agg (EC x),.bool g,.pointer (some ⟨h, j * 12, none⟩),.pointer (some ⟨h, j * 12, none⟩),.pointer (some ⟨h, j * 12, none⟩),.pointer (some ⟨h, j * 12 + 1, none⟩),_,_,_,_,_,_], []⟩ _
  refine wpAnyH_take (i := 15) (v := .pointer (some ⟨h, j * 12, none⟩)) rfl (by kernel_rfl) (by kernel_rfl) (by kernel_rfl) (fun _ _ _ h => h) (Or.inl ⟨by rfl, ?_⟩) hHeld ?_
  · intro W hW; (try dsimp only at hW); go_simp
  change wpAnyH _ _ _ _ _ _ _ ⟨#[.pointer (some ⟨h + 1, 0, none⟩),_,.bool g,_,.pointer (some ⟨k0, 0, none⟩),_,_,_,.pointer (some ⟨h, j * 12, none⟩),_,_,_,_,_,_,_,_,_,_,_,_,_,_,_,_,_,_,.pointer (some ⟨h, j * 12, none⟩),.pointer (some ⟨h, j * 12, none⟩),.pointer (some ⟨h, j * 12, none⟩),.pointer (some ⟨h + 1, 0, none⟩),.pointer (some ⟨h + 1, 0, none⟩),.pointer (some ⟨h + 1, 1, none⟩),.int .i64 (s1 : Int),.agg (EC x),.bool g,.pointer (some ⟨h, j * 12, none⟩),.pointer (some ⟨h, j * 12, none⟩),.pointer (some ⟨h, j * 12, none⟩),.pointer (some ⟨h, j * 12 + 1, none⟩),.pointer (some ⟨h, j * 12, none⟩),_,_,_,_,_], []⟩ _
  refine wpAnyH_take (i := 16) (v := .pointer (some ⟨h, j * 12 + 11, none⟩)) rfl (by kernel_rfl) (by kernel_rfl) (by kernel_rfl) (fun _ _ _ h => h) (Or.inl ⟨by rfl, ?_⟩) hHeld ?_
  · intro W hW; (try dsimp only at hW); go_simp
  change wpAnyH _ _ _ _ _ _ _ ⟨#[.pointer (some ⟨h + 1, 0, none⟩),_,.bool g,_,.pointer (some ⟨k0, 0, none⟩),_,_,_,.pointer (some ⟨h, j * 12, none⟩),_,_,_,_,_,_,_,_,_,_,_,_,_,_,_,_,_,_,.pointer (some ⟨h, j * 12, none⟩),.pointer (some ⟨h, j * 12, none⟩),.pointer (some ⟨h, j * 12, none⟩),.pointer (some ⟨h + 1, 0, none⟩),.pointer (some ⟨h + 1, 0, none⟩),.pointer (some ⟨h + 1, 1, none⟩),.int .i64 (s1 : Int),.agg (EC x),.bool g,.pointer (some ⟨h, j * 12, none⟩),.pointer (some ⟨h, j * 12, none⟩),.pointer (some ⟨h, j * 12, none⟩),.pointer (some ⟨h, j * 12 + 1, none⟩),.pointer (some ⟨h, j * 12, none⟩),.pointer (some ⟨h, j * 12 + 11, none⟩),_,_,_,_], []⟩ _
  refine wpAnyH_ready (rs := [17]) (by kernel_rfl) (by simp) ?_
  refine AllReadyH.cons rfl (fun K hK => ?_) AllReadyH.nil
  obtain ⟨cc, ff⟩ := chg_at P2.out C4'.out (i := 11) (v := .bool c.g) rfl
  have P3 := chg_g P2.out C4'.out g
  have g3 := setCell_grown u2 h (j * 12 + 11) (.bool g)
  have M3 := M2.out.trans (mid_grown (N := h) (M := h + 2) (h := h) g3 (by omega) (by omega) rfl)
  go_simp
  refine hK.out _ _ ⟨hHeld.1.kept (by omega) g3, hHeld.2.kept (by have := HK0.out; omega) g3⟩ (fun hHeld => ?_)
  replace P2 := hide P3
  replace M2 := hide M3
  clear hK K P3 g3 M3 cc ff
  generalize u2.setCell ⟨h, j * 12 + 11, none⟩ (.bool g) = u3 at *
  have B3 := hide hHeld.1
  clear hHeld
  change wpAnyH _ _ _ _ _ _ _ ⟨#[.pointer (some ⟨h + 1, 0, none⟩),_,.bool g,_,.pointer (some ⟨k0, 0, none⟩),_,_,_,.pointer (some ⟨h, j * 12, none⟩),_,_,_,_,_,_,_,_,_,_,_,_,_,_,_,_,_,_,.pointer (some ⟨h, j * 12, none⟩),.pointer (some ⟨h, j * 12, none⟩),.pointer (some ⟨h, j * 12, none⟩),.pointer (some ⟨h + 1, 0, none⟩),.pointer (some ⟨h + 1, 0, none⟩),.pointer (some ⟨h + 1, 1, none⟩),.int .i64 (s1 : Int),.agg (EC x),.bool g,.pointer (some ⟨h, j * 12, none⟩),.pointer (some ⟨h, j * 12, none⟩),.pointer (some ⟨h, j * 12, none⟩),.pointer (some ⟨h, j * 12 + 1, none⟩),.pointer (some ⟨h, j * 12, none⟩),.pointer (some ⟨h, j * 12 + 11, none⟩),_,_,_,_], []⟩ _
  refine wpAnyH_done (by kernel_rfl) ?_ _
  have c1 := B3.out.cell 1 _ rfl
  go_wp2
  go_ret2
  refine ⟨rfl, ⟨_, by rw [HLS.out]; exact B3.out, ?_, HW.out⟩, M2.out⟩
  have e := P2.out
  simp only [List.set_set] at e
  exact e
end Go.Proofs.Ytjlmheecefobaaa
