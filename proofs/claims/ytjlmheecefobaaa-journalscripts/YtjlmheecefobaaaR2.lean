/- Contract of Since of the document's journal: the changes. -/
import Derived.Test.YtjlmheecefobaaaR1
namespace Go.Proofs.Ytjlmheecefobaaa
open Go.RowKit Go.PlainAid

theorem chs_drop2 (l : List Ch) (k : Nat) (hk : k ≤ l.length) : chs (l.drop k) = (chs l).drop (k * 12) := chs_drop' l k hk
theorem Cta.crs0 {w : World} {B : Nat} {n c : Nat} {l : List Ch} (h : Cta w B none n c l) : n = 0 ∧ c = 0 ∧ l = [] := by
  have := h.nil rfl
  exact ⟨this.1, this.2, List.eq_nil_of_length_eq_zero (by rw [h.len]; exact this.1)⟩
theorem Cta.crsD {w : World} {B b o n c : Nat} {l : List Ch} (h : Cta w B (some ⟨b, o, none⟩) n c l) {i : Nat} (hi : i ≤ n) (c' : Nat) : Crs w (some ⟨b, o + i * 12, none⟩) (n - i) c' (l.drop i) :=
  ⟨by rw [List.length_drop, h.len], fun e => (by cases e), fun a e j u hj => by
    obtain rfl := Option.some.inj e
    obtain ⟨b', o', e1, _, _, hr⟩ := h.bx _ rfl
    injection e1 with e2 e3
    subst e2 e3
    rw [chs_drop' l i (by rw [h.len]; exact hi), List.getElem?_drop] at hj
    rw [Addr.add_lit, Nat.add_assoc]
    exact hr _ u hj⟩
theorem Cta.crsE {w : World} {B b o n c : Nat} {l : List Ch} (h : Cta w B (some ⟨b, o, none⟩) n c l) (a : Addr) (c' : Nat) : Crs w (some a) (n - n) c' (l.drop n) :=
  ⟨by rw [List.length_drop, h.len], fun e => (by cases e), fun a e j u hj => by rw [List.drop_eq_nil_of_le (by rw [h.len]; exact Nat.le_refl _)] at hj; simp [chs] at hj⟩
theorem Cta.on {w w1 : World} {B : Nat} {ao : Option Addr} {n c : Nat} {l : List Ch} (h : Cta w B ao n c l) (hb : Below w.heap.size w w1) : Cta w1 B ao n c l := h.keep (fun b _ h2 => hb.block b h2) hb.size
theorem wp_bs0 {o : Oper} {a : Act} {w : World} {C : Act → World → Prop} {Q : Exit → Act → World → Prop} (ho : o.op = .buildSlice 40 0 #[])
    (h : C (a.put o.dst (.slice (some ⟨w.heap.size, 0, none⟩) 0 0)) (w.alloc (.cells #[] 54))) : Oper.wp Try.prog o a w C Q := by
  have hr : (Instr.buildSlice 40 0 #[]).run Try.prog w = .ok (.slice (some ⟨w.heap.size, 0, none⟩) 0 0) (w.alloc (.cells #[] 54)) := by kernel_rfl
  unfold Oper.wp execOp
  simp only [ho, List.map_toArray, List.map_nil, hr, Sem.run_bind, Sem.run_pure, Result.andThen_ok]
  exact h
set_option maxRecDepth 100000 in
set_option maxHeartbeats 8000000 in
theorem sincer17 (g n m c : Nat) (ao : Option Addr) (cs : List Ch) (q : Nat) (w : World) (H : RJ w g n ao m c cs) (hL : cs.length ≤ 50000) (hq : q ≤ cs.length) (hn : cs.length ≤ q + n) :
    Calls Try.prog 17 #[.pointer (some ⟨g, 0, none⟩), .int .i64 q] w fun e w' => ∃ ao' c', e = .returned (.tuple #[.slice ao' (cs.length - q) c', .bool true]) ∧ Cts w' w.heap.size ao' (cs.length - q) c' (cs.drop q) ∧ Below w.heap.size w w' := by
  have c1 := H.bx.cell 1 _ rfl
  have c2 := H.bx.cell 2 _ rfl
  have HBX0 := hide H.bx
  have HSL := hide H.sl
  have n2 := H.n2
  have hm := H.sl.len
  have hmc := H.sl.le
  have hmx := H.sl.mx
  unfold maxLen at hmx
  have htl := tl_length n cs
  have hmn : m ≤ 1000 := by split at htl <;> omega
  have HGU : Hid (g < w.heap.size) := hide H.bx.lt
  obtain ⟨s, hs⟩ : ∃ s, s = cs.length := ⟨_, rfl⟩
  obtain ⟨d, hd⟩ : ∃ d, d = cs.length - q := ⟨_, rfl⟩
  obtain ⟨i, hi⟩ : ∃ i, i = m - d := ⟨_, rfl⟩
  have hdm : d ≤ m := by split at htl <;> omega
  have HTD : Hid ((tl n cs).drop i = cs.drop q) := hide (by rw [hi, hd, ← hm]; exact tl_drop hq hn)
  have HLEN0 : Hid (cs.length - q = m - i) := hide (by omega)
  have HIM : Hid (i ≤ m) := hide (by omega)
  rw [← hs] at c1 HBX0
  obtain ⟨z, hz⟩ : ∃ z : Int, z = (q : Int) := ⟨_, rfl⟩
  rw [← hz]
  have d1 : decide (z < 0) = false := by simp; omega
  have d2 : decide ((s : Int) < z) = false := by simp; omega
  have d3 : decide ((m : Int) < (s : Int) - z) = false := by simp; omega
  have e0 : IntKind.i64.wrap ((s : Int) - z) = (s : Int) - z := IntWalk.i64_in _ (by omega)
  have e1 : IntKind.i64.wrap ((s : Int) - z) = (d : Int) := by rw [e0]; omega
  have e2 : IntKind.i64.wrap ((m : Int) - (d : Int)) = (i : Int) := by rw [show (m : Int) - (d : Int) = (i : Int) by omega]; exact IntWalk.i64_in _ (by omega)
  have E1 := hide e1
  have hi0 : 0 ≤ (i : Int) := by omega
  have him2 : (i : Int) ≤ (m : Int) := by omega
  clear H hm htl hz hs hd hi e1
  go_enter Try.func17, Try.ntmps17
  go_wp2_with fail
  go_quiet (fail)
  clear c1 c2 d1 d2 d3 e0
  have e1 := E1.out
  have HBX : Hid (Box (w.drewN nq) g (rcl n s (.slice ao m c))) := hide (boxN HBX0.out nq)
  replace HSL : Hid (Cta (w.drewN nq) (g + 1) ao m c (tl n cs)) := hide (HSL.out.on (belowN (Below.refl _ _) nq))
  have HB : Hid (Below w.heap.size w (w.drewN nq)) := hide (belowN (Below.refl _ _) nq)
  clear HBX0
  generalize w.drewN nq = w1 at *
  go_wp2_with fail
  cases ao with
  | none =>
    obtain ⟨rfl, rfl, ht0⟩ := HSL.out.crs0
    obtain rfl : i = 0 := by have := HIM.out; omega
    have HLEN : Hid (cs.length - q = 0) := HLEN0
    replace HTD : Hid (([] : List Ch) = cs.drop q) := hide (by rw [← HTD.out, ht0]; rfl)
    clear ht0
    obtain rfl : d = 0 := by omega
    replace e1 : IntKind.i64.wrap ((s : Int) - z) = 0 := by have := E1.out; simpa using this
    clear e2 E1
    refine wp_region_held_drew (S := fun w' => Box w' g (rcl n s (.slice none 0 0))) (by kernel_rfl) HBX.out.drew (fun hHeld => ?_)
    replace HSL : Hid (Cta w1.drew (g + 1) none 0 0 (tl n cs)) := hide (HSL.out.on (belowOn' (Below.refl _ _)))
    replace HB := hide (belowOn' HB.out)
    clear HBX
    generalize w1.drew = u0 at *
    refine wpAnyH_take (i := 1) (v := .pointer (some ⟨g, 0, none⟩)) rfl (by kernel_rfl) (by kernel_rfl) (by kernel_rfl) (fun _ _ _ h => h) (Or.inl ⟨by rfl, ?_⟩) hHeld ?_
    · intro W hW; (try dsimp only at hW); go_simp
    change wpAnyH _ _ _ _ _ _ _ ⟨#[.pointer (some ⟨g, 0, none⟩),.int .i64 z,_,_,_,_,_,_,_,_,_,_,_,_,_,_,_,_,_,_,_,_,_,_,_,_,_,_,_,_,_,.pointer (some ⟨g, 0, none⟩),_,_,_,_,_,_,_,_,_,_,_,_,_,_,_,_,_], []⟩ _
    refine wpAnyH_take (i := 2) (v := .pointer (some ⟨g, 0, none⟩)) rfl (by kernel_rfl) (by kernel_rfl) (by kernel_rfl) (fun _ _ _ h => h) (Or.inl ⟨by rfl, ?_⟩) hHeld ?_
    · intro W hW; (try dsimp only at hW); go_simp
    change wpAnyH _ _ _ _ _ _ _ ⟨#[.pointer (some ⟨g, 0, none⟩),.int .i64 z,_,_,_,_,_,_,_,_,_,_,_,_,_,_,_,_,_,_,_,_,_,_,_,_,_,_,_,_,_,.pointer (some ⟨g, 0, none⟩),.pointer (some ⟨g, 0, none⟩),_,_,_,_,_,_,_,_,_,_,_,_,_,_,_,_], []⟩ _
    refine wpAnyH_take (i := 3) (v := .pointer (some ⟨g, 2, none⟩)) rfl (by kernel_rfl) (by kernel_rfl) (by kernel_rfl) (fun _ _ _ h => h) (Or.inl ⟨by rfl, ?_⟩) hHeld ?_
    · intro W hW; (try dsimp only at hW); go_simp
    change wpAnyH _ _ _ _ _ _ _ ⟨#[.pointer (some ⟨g, 0, none⟩),.int .i64 z,_,_,_,_,_,_,_,_,_,_,_,_,_,_,_,_,_,_,_,_,_,_,_,_,_,_,_,_,_,.pointer (some ⟨g, 0, none⟩),.pointer (some ⟨g, 0, none⟩),.pointer (some ⟨g, 2, none⟩),_,_,_,_,_,_,_,_,_,_,_,_,_,_,_], []⟩ _
    refine wpAnyH_take (i := 4) (v := .slice none 0 0) rfl (by kernel_rfl) (by kernel_rfl) (by kernel_rfl) (fun _ _ _ h => h) (Or.inl ⟨by rfl, ?_⟩) hHeld ?_
    · intro W hW; (try dsimp only at hW); have hc := hW.cell 2 _ rfl; clear hW; go_simp
    change wpAnyH _ _ _ _ _ _ _ ⟨#[.pointer (some ⟨g, 0, none⟩),.int .i64 z,_,_,_,_,_,_,_,_,_,_,_,_,_,_,_,_,_,_,_,_,_,_,_,_,_,_,_,_,_,.pointer (some ⟨g, 0, none⟩),.pointer (some ⟨g, 0, none⟩),.pointer (some ⟨g, 2, none⟩),.slice none 0 0,_,_,_,_,_,_,_,_,_,_,_,_,_,_], []⟩ _
    refine wpAnyH_take (i := 5) (v := .pointer (some ⟨g, 0, none⟩)) rfl (by kernel_rfl) (by kernel_rfl) (by kernel_rfl) (fun _ _ _ h => h) (Or.inl ⟨by rfl, ?_⟩) hHeld ?_
    · intro W hW; (try dsimp only at hW); go_simp
    change wpAnyH _ _ _ _ _ _ _ ⟨#[.pointer (some ⟨g, 0, none⟩),.int .i64 z,_,_,_,_,_,_,_,_,_,_,_,_,_,_,_,_,_,_,_,_,_,_,_,_,_,_,_,_,_,.pointer (some ⟨g, 0, none⟩),.pointer (some ⟨g, 0, none⟩),.pointer (some ⟨g, 2, none⟩),.slice none 0 0,.pointer (some ⟨g, 0, none⟩),_,_,_,_,_,_,_,_,_,_,_,_,_], []⟩ _
    refine wpAnyH_take (i := 6) (v := .pointer (some ⟨g, 0, none⟩)) rfl (by kernel_rfl) (by kernel_rfl) (by kernel_rfl) (fun _ _ _ h => h) (Or.inl ⟨by rfl, ?_⟩) hHeld ?_
    · intro W hW; (try dsimp only at hW); go_simp
    change wpAnyH _ _ _ _ _ _ _ ⟨#[.pointer (some ⟨g, 0, none⟩),.int .i64 z,_,_,_,_,_,_,_,_,_,_,_,_,_,_,_,_,_,_,_,_,_,_,_,_,_,_,_,_,_,.pointer (some ⟨g, 0, none⟩),.pointer (some ⟨g, 0, none⟩),.pointer (some ⟨g, 2, none⟩),.slice none 0 0,.pointer (some ⟨g, 0, none⟩),.pointer (some ⟨g, 0, none⟩),_,_,_,_,_,_,_,_,_,_,_,_], []⟩ _
    refine wpAnyH_take (i := 7) (v := .pointer (some ⟨g, 2, none⟩)) rfl (by kernel_rfl) (by kernel_rfl) (by kernel_rfl) (fun _ _ _ h => h) (Or.inl ⟨by rfl, ?_⟩) hHeld ?_
    · intro W hW; (try dsimp only at hW); go_simp
    change wpAnyH _ _ _ _ _ _ _ ⟨#[.pointer (some ⟨g, 0, none⟩),.int .i64 z,_,_,_,_,_,_,_,_,_,_,_,_,_,_,_,_,_,_,_,_,_,_,_,_,_,_,_,_,_,.pointer (some ⟨g, 0, none⟩),.pointer (some ⟨g, 0, none⟩),.pointer (some ⟨g, 2, none⟩),.slice none 0 0,.pointer (some ⟨g, 0, none⟩),.pointer (some ⟨g, 0, none⟩),.pointer (some ⟨g, 2, none⟩),_,_,_,_,_,_,_,_,_,_,_], []⟩ _
    refine wpAnyH_take (i := 8) (v := .slice none 0 0) rfl (by kernel_rfl) (by kernel_rfl) (by kernel_rfl) (fun _ _ _ h => h) (Or.inl ⟨by rfl, ?_⟩) hHeld ?_
    · intro W hW; (try dsimp only at hW); have hc := hW.cell 2 _ rfl; clear hW; go_simp
    change wpAnyH _ _ _ _ _ _ _ ⟨#[.pointer (some ⟨g, 0, none⟩),.int .i64 z,_,_,_,_,_,_,_,_,_,_,_,_,_,_,_,_,_,_,_,_,_,_,_,_,_,_,_,_,_,.pointer (some ⟨g, 0, none⟩),.pointer (some ⟨g, 0, none⟩),.pointer (some ⟨g, 2, none⟩),.slice none 0 0,.pointer (some ⟨g, 0, none⟩),.pointer (some ⟨g, 0, none⟩),.pointer (some ⟨g, 2, none⟩),.slice none 0 0,_,_,_,_,_,_,_,_,_,_], []⟩ _
    refine wpAnyH_take (i := 9) (v := .int .i64 0) rfl (by kernel_rfl) (by kernel_rfl) (by kernel_rfl) (fun _ _ _ h => h) (Or.inl ⟨by rfl, ?_⟩) hHeld ?_
    · intro W hW; (try dsimp only at hW); go_simp
    change wpAnyH _ _ _ _ _ _ _ ⟨#[.pointer (some ⟨g, 0, none⟩),.int .i64 z,_,_,_,_,_,_,_,_,_,_,_,_,_,_,_,_,_,_,_,_,_,_,_,_,_,_,_,_,_,.pointer (some ⟨g, 0, none⟩),.pointer (some ⟨g, 0, none⟩),.pointer (some ⟨g, 2, none⟩),.slice none 0 0,.pointer (some ⟨g, 0, none⟩),.pointer (some ⟨g, 0, none⟩),.pointer (some ⟨g, 2, none⟩),.slice none 0 0,.int .i64 0,_,_,_,_,_,_,_,_,_], []⟩ _
    refine wpAnyH_take (i := 10) (v := .pointer (some ⟨g, 0, none⟩)) rfl (by kernel_rfl) (by kernel_rfl) (by kernel_rfl) (fun _ _ _ h => h) (Or.inl ⟨by rfl, ?_⟩) hHeld ?_
    · intro W hW; (try dsimp only at hW); go_simp
    change wpAnyH _ _ _ _ _ _ _ ⟨#[.pointer (some ⟨g, 0, none⟩),.int .i64 z,_,_,_,_,_,_,_,_,_,_,_,_,_,_,_,_,_,_,_,_,_,_,_,_,_,_,_,_,_,.pointer (some ⟨g, 0, none⟩),.pointer (some ⟨g, 0, none⟩),.pointer (some ⟨g, 2, none⟩),.slice none 0 0,.pointer (some ⟨g, 0, none⟩),.pointer (some ⟨g, 0, none⟩),.pointer (some ⟨g, 2, none⟩),.slice none 0 0,.int .i64 0,.pointer (some ⟨g, 0, none⟩),_,_,_,_,_,_,_,_], []⟩ _
    refine wpAnyH_take (i := 11) (v := .pointer (some ⟨g, 0, none⟩)) rfl (by kernel_rfl) (by kernel_rfl) (by kernel_rfl) (fun _ _ _ h => h) (Or.inl ⟨by rfl, ?_⟩) hHeld ?_
    · intro W hW; (try dsimp only at hW); go_simp
    change wpAnyH _ _ _ _ _ _ _ ⟨#[.pointer (some ⟨g, 0, none⟩),.int .i64 z,_,_,_,_,_,_,_,_,_,_,_,_,_,_,_,_,_,_,_,_,_,_,_,_,_,_,_,_,_,.pointer (some ⟨g, 0, none⟩),.pointer (some ⟨g, 0, none⟩),.pointer (some ⟨g, 2, none⟩),.slice none 0 0,.pointer (some ⟨g, 0, none⟩),.pointer (some ⟨g, 0, none⟩),.pointer (some ⟨g, 2, none⟩),.slice none 0 0,.int .i64 0,.pointer (some ⟨g, 0, none⟩),.pointer (some ⟨g, 0, none⟩),_,_,_,_,_,_,_], []⟩ _
    refine wpAnyH_take (i := 12) (v := .pointer (some ⟨g, 1, none⟩)) rfl (by kernel_rfl) (by kernel_rfl) (by kernel_rfl) (fun _ _ _ h => h) (Or.inl ⟨by rfl, ?_⟩) hHeld ?_
    · intro W hW; (try dsimp only at hW); go_simp
    change wpAnyH _ _ _ _ _ _ _ ⟨#[.pointer (some ⟨g, 0, none⟩),.int .i64 z,_,_,_,_,_,_,_,_,_,_,_,_,_,_,_,_,_,_,_,_,_,_,_,_,_,_,_,_,_,.pointer (some ⟨g, 0, none⟩),.pointer (some ⟨g, 0, none⟩),.pointer (some ⟨g, 2, none⟩),.slice none 0 0,.pointer (some ⟨g, 0, none⟩),.pointer (some ⟨g, 0, none⟩),.pointer (some ⟨g, 2, none⟩),.slice none 0 0,.int .i64 0,.pointer (some ⟨g, 0, none⟩),.pointer (some ⟨g, 0, none⟩),.pointer (some ⟨g, 1, none⟩),_,_,_,_,_,_], []⟩ _
    refine wpAnyH_take (i := 13) (v := .int .i64 (s : Int)) rfl (by kernel_rfl) (by kernel_rfl) (by kernel_rfl) (fun _ _ _ h => h) (Or.inl ⟨by rfl, ?_⟩) hHeld ?_
    · intro W hW; (try dsimp only at hW); have hc := hW.cell 1 _ rfl; clear hW; go_simp
    change wpAnyH _ _ _ _ _ _ _ ⟨#[.pointer (some ⟨g, 0, none⟩),.int .i64 z,_,_,_,_,_,_,_,_,_,_,_,_,_,_,_,_,_,_,_,_,_,_,_,_,_,_,_,_,_,.pointer (some ⟨g, 0, none⟩),.pointer (some ⟨g, 0, none⟩),.pointer (some ⟨g, 2, none⟩),.slice none 0 0,.pointer (some ⟨g, 0, none⟩),.pointer (some ⟨g, 0, none⟩),.pointer (some ⟨g, 2, none⟩),.slice none 0 0,.int .i64 0,.pointer (some ⟨g, 0, none⟩),.pointer (some ⟨g, 0, none⟩),.pointer (some ⟨g, 1, none⟩),.int .i64 (s : Int),_,_,_,_,_], []⟩ _
    refine wpAnyH_take (i := 14) (v := .int .i64 z) rfl (by kernel_rfl) (by kernel_rfl) (by kernel_rfl) (fun _ _ _ h => h) (Or.inl ⟨by rfl, ?_⟩) hHeld ?_
    · intro W hW; (try dsimp only at hW); go_simp
    change wpAnyH _ _ _ _ _ _ _ ⟨#[.pointer (some ⟨g, 0, none⟩),.int .i64 z,_,_,_,_,_,_,_,_,_,_,_,_,_,_,_,_,_,_,_,_,_,_,_,_,_,_,_,_,_,.pointer (some ⟨g, 0, none⟩),.pointer (some ⟨g, 0, none⟩),.pointer (some ⟨g, 2, none⟩),.slice none 0 0,.pointer (some ⟨g, 0, none⟩),.pointer (some ⟨g, 0, none⟩),.pointer (some ⟨g, 2, none⟩),.slice none 0 0,.int .i64 0,.pointer (some ⟨g, 0, none⟩),.pointer (some ⟨g, 0, none⟩),.pointer (some ⟨g, 1, none⟩),.int .i64 (s : Int),.int .i64 z,_,_,_,_], []⟩ _
    refine wpAnyH_take (i := 15) (v := .int .i64 0) rfl (by kernel_rfl) (by kernel_rfl) (by kernel_rfl) (fun _ _ _ h => h) (Or.inl ⟨by rfl, ?_⟩) hHeld ?_
    · intro W hW; (try dsimp only at hW); go_simp
    change wpAnyH _ _ _ _ _ _ _ ⟨#[.pointer (some ⟨g, 0, none⟩),.int .i64 z,_,_,_,_,_,_,_,_,_,_,_,_,_,_,_,_,_,_,_,_,_,_,_,_,_,_,_,_,_,.pointer (some ⟨g, 0, none⟩),.pointer (some ⟨g, 0, none⟩),.pointer (some ⟨g, 2, none⟩),.slice none 0 0,.pointer (some ⟨g, 0, none⟩),.pointer (some ⟨g, 0, none⟩),.pointer (some ⟨g, 2, none⟩),.slice none 0 0,.int .i64 0,.pointer (some ⟨g, 0, none⟩),.pointer (some ⟨g, 0, none⟩),.pointer (some ⟨g, 1, none⟩),.int .i64 (s : Int),.int .i64 z,.int .i64 0,_,_,_], []⟩ _
    refine wpAnyH_take (i := 16) (v := .int .i64 0) rfl (by kernel_rfl) (by kernel_rfl) (by kernel_rfl) (fun _ _ _ h => h) (Or.inl ⟨by rfl, ?_⟩) hHeld ?_
    · intro W hW; (try dsimp only at hW); have ez : IntKind.i64.wrap 0 = 0 := (by decide); go_simp
    change wpAnyH _ _ _ _ _ _ _ ⟨#[.pointer (some ⟨g, 0, none⟩),.int .i64 z,_,_,_,_,_,_,_,_,_,_,_,_,_,_,_,_,_,_,_,_,_,_,_,_,_,_,_,_,_,.pointer (some ⟨g, 0, none⟩),.pointer (some ⟨g, 0, none⟩),.pointer (some ⟨g, 2, none⟩),.slice none 0 0,.pointer (some ⟨g, 0, none⟩),.pointer (some ⟨g, 0, none⟩),.pointer (some ⟨g, 2, none⟩),.slice none 0 0,.int .i64 0,.pointer (some ⟨g, 0, none⟩),.pointer (some ⟨g, 0, none⟩),.pointer (some ⟨g, 1, none⟩),.int .i64 (s : Int),.int .i64 z,.int .i64 0,.int .i64 0,_,_], []⟩ _
    refine wpAnyH_take (i := 17) (v := .slice none 0 0) rfl (by kernel_rfl) (by kernel_rfl) (by kernel_rfl) (fun _ _ _ h => h) (Or.inl ⟨by rfl, ?_⟩) hHeld ?_
    · intro W hW; (try dsimp only at hW); go_simp
    change wpAnyH _ _ _ _ _ _ _ ⟨#[.pointer (some ⟨g, 0, none⟩),.int .i64 z,_,_,_,_,_,_,_,_,_,_,_,_,_,_,_,_,_,_,_,_,_,_,_,_,_,_,_,_,_,.pointer (some ⟨g, 0, none⟩),.pointer (some ⟨g, 0, none⟩),.pointer (some ⟨g, 2, none⟩),.slice none 0 0,.pointer (some ⟨g, 0, none⟩),.pointer (some ⟨g, 0, none⟩),.pointer (some ⟨g, 2, none⟩),.slice none 0 0,.int .i64 0,.pointer (some ⟨g, 0, none⟩),.pointer (some ⟨g, 0, none⟩),.pointer (some ⟨g, 1, none⟩),.int .i64 (s : Int),.int .i64 z,.int .i64 0,.int .i64 0,.slice none 0 0,_], []⟩ _
    refine wpAnyH_ready (rs := [0]) (by kernel_rfl) (by simp) ?_
    refine AllReadyH.cons rfl (fun K hK => ?_) AllReadyH.nil
    rw [if_pos (by rfl)]
    refine wp_bs0 rfl ?_
    have ba := below_alloc u0 (.cells #[] 54)
    have O1 : Hid ((u0.alloc (.cells #[] 54)).ownsRow u0.heap.size 54 12 (.slice (some ⟨u0.heap.size, 0, none⟩) 0 0) 0 (chs [])) := hide (World.ownsRow_lit u0 #[] 0 (by omega) (by unfold maxLen; omega) rfl)
    have s1 : Hid (u0.heap.size ≤ (u0.alloc (.cells #[] 54)).heap.size) := hide (by simp)
    refine hK.out _ _ (hHeld.on ba) (fun hHeld => ?_)
    clear hK K
    replace HSL := hide (HSL.out.on ba)
    have B1 := hide ba
    clear ba
    change wpAnyH _ _ _ _ _ _ _ ⟨#[.pointer (some ⟨g, 0, none⟩),.int .i64 z,_,_,_,_,_,_,_,_,_,_,_,_,_,_,_,_,_,_,_,_,_,_,_,_,_,_,_,_,.slice (some ⟨u0.heap.size, 0, none⟩) 0 0,.pointer (some ⟨g, 0, none⟩),.pointer (some ⟨g, 0, none⟩),.pointer (some ⟨g, 2, none⟩),.slice none 0 0,.pointer (some ⟨g, 0, none⟩),.pointer (some ⟨g, 0, none⟩),.pointer (some ⟨g, 2, none⟩),.slice none 0 0,.int .i64 0,.pointer (some ⟨g, 0, none⟩),.pointer (some ⟨g, 0, none⟩),.pointer (some ⟨g, 1, none⟩),.int .i64 (s : Int),.int .i64 z,.int .i64 0,.int .i64 0,.slice none 0 0,_], []⟩ _
    have M1 : Hid (Crs (u0.alloc (.cells #[] 54)) none 0 0 []) := hide (crs_none _)
    refine wpAnyH_ready (rs := [18]) (by kernel_rfl) (by simp) ?_
    refine AllReadyH.cons rfl (fun K hK => ?_) AllReadyH.nil
    rw [if_pos (by rfl)]
    refine wp_capp rfl (.tmp 30) (.tmp 47) rfl u0.heap.size (.slice (some ⟨u0.heap.size, 0, none⟩) 0 0) 0 [] rfl O1.out none 0 0 [] rfl M1.out (by omega) s1.out ?_
    intro v6 w6 O6 G6
    have B6 := hide (B1.out.grown G6 s1.out (fun r hr => (O1.out.lt r hr).1))
    have hh : Box w6 g (rcl n s (.slice none 0 0)) := hHeld.block (G6.block g hHeld.lt (fun e => by
      have h2 := (O1.out.lt g e.symm).1
      have h3 := HGU.out
      have h4 := HB.out.size
      omega))
    refine hK.out _ _ hh (fun hHeld => ?_)
    clear hK K hh G6
    change wpAnyH _ _ _ _ _ _ _ ⟨#[.pointer (some ⟨g, 0, none⟩),.int .i64 z,_,_,_,_,_,_,_,_,_,_,_,_,_,_,_,_,_,_,_,_,_,_,_,_,_,_,_,_,.slice (some ⟨u0.heap.size, 0, none⟩) 0 0,.pointer (some ⟨g, 0, none⟩),.pointer (some ⟨g, 0, none⟩),.pointer (some ⟨g, 2, none⟩),.slice none 0 0,.pointer (some ⟨g, 0, none⟩),.pointer (some ⟨g, 0, none⟩),.pointer (some ⟨g, 2, none⟩),.slice none 0 0,.int .i64 0,.pointer (some ⟨g, 0, none⟩),.pointer (some ⟨g, 0, none⟩),.pointer (some ⟨g, 1, none⟩),.int .i64 (s : Int),.int .i64 z,.int .i64 0,.int .i64 0,.slice none 0 0,v6], []⟩ _
    refine wpAnyH_take (i := 19) (v := v6) rfl (by kernel_rfl) (by kernel_rfl) (by kernel_rfl) (fun _ _ _ h => h) (Or.inl ⟨by rfl, ?_⟩) hHeld ?_
    · intro W hW; (try dsimp only at hW); go_simp
    change wpAnyH _ _ _ _ _ _ _ ⟨#[.pointer (some ⟨g, 0, none⟩),.int .i64 z,_,_,v6,_,_,_,_,_,_,_,_,_,_,_,_,_,_,_,_,_,_,_,_,_,_,_,_,_,.slice (some ⟨u0.heap.size, 0, none⟩) 0 0,.pointer (some ⟨g, 0, none⟩),.pointer (some ⟨g, 0, none⟩),.pointer (some ⟨g, 2, none⟩),.slice none 0 0,.pointer (some ⟨g, 0, none⟩),.pointer (some ⟨g, 0, none⟩),.pointer (some ⟨g, 2, none⟩),.slice none 0 0,.int .i64 0,.pointer (some ⟨g, 0, none⟩),.pointer (some ⟨g, 0, none⟩),.pointer (some ⟨g, 1, none⟩),.int .i64 (s : Int),.int .i64 z,.int .i64 0,.int .i64 0,.slice none 0 0,v6], []⟩ _
    refine wpAnyH_take (i := 20) (v := .bool true) rfl (by kernel_rfl) (by kernel_rfl) (by kernel_rfl) (fun _ _ _ h => h) (Or.inl ⟨by rfl, ?_⟩) hHeld ?_
    · intro W hW; (try dsimp only at hW); go_simp
    change wpAnyH _ _ _ _ _ _ _ ⟨#[.pointer (some ⟨g, 0, none⟩),.int .i64 z,_,_,v6,.bool true,_,_,_,_,_,_,_,_,_,_,_,_,_,_,_,_,_,_,_,_,_,_,_,_,.slice (some ⟨u0.heap.size, 0, none⟩) 0 0,.pointer (some ⟨g, 0, none⟩),.pointer (some ⟨g, 0, none⟩),.pointer (some ⟨g, 2, none⟩),.slice none 0 0,.pointer (some ⟨g, 0, none⟩),.pointer (some ⟨g, 0, none⟩),.pointer (some ⟨g, 2, none⟩),.slice none 0 0,.int .i64 0,.pointer (some ⟨g, 0, none⟩),.pointer (some ⟨g, 0, none⟩),.pointer (some ⟨g, 1, none⟩),.int .i64 (s : Int),.int .i64 z,.int .i64 0,.int .i64 0,.slice none 0 0,v6], []⟩ _
    clear hHeld
    refine wpAnyH_done (by kernel_rfl) ?_ _
    have HO6 : Hid (w6.ownsRow u0.heap.size 54 12 v6 (cs.length - q) (chs (cs.drop q))) := hide (by
      rw [← HTD.out]
      have h9 := O6
      rw [List.nil_append, Nat.zero_add] at h9
      rw [HLEN.out]
      exact h9)
    clear O6
    obtain ⟨ao6, c6, e6, E6⟩ := row_cts (B := u0.heap.size) (v := v6) (l := cs.drop q) (by rw [List.length_drop]; exact HO6.out)
    subst e6
    rw [List.length_drop] at E6 ⊢
    have HE := hide E6
    have HB6 := hide (below_more HB.out B6.out HB.out.size)
    clear E6 HO6
    go_wp2
    go_ret2
    exact ⟨ao6, c6, rfl, HE.out.mono HB.out.size, HB6.out⟩
  | some a =>
    obtain ⟨b, o, ea, -, -, -⟩ := HSL.out.bx a rfl
    subst ea
    by_cases hci : c = i
    · obtain rfl : c = m := by have := HIM.out; omega
      subst hci
      have HLEN := HLEN0
      refine wp_region_held_drew (S := fun w' => Box w' g (rcl n s (.slice (some ⟨b, o, none⟩) c c))) (by kernel_rfl) HBX.out.drew (fun hHeld => ?_)
      replace HSL : Hid (Cta w1.drew (g + 1) (some ⟨b, o, none⟩) c c (tl n cs)) := hide (HSL.out.on (belowOn' (Below.refl _ _)))
      replace HB := hide (belowOn' HB.out)
      clear HBX
      generalize w1.drew = u0 at *
      refine wpAnyH_take (i := 1) (v := .pointer (some ⟨g, 0, none⟩)) rfl (by kernel_rfl) (by kernel_rfl) (by kernel_rfl) (fun _ _ _ h => h) (Or.inl ⟨by rfl, ?_⟩) hHeld ?_
      · intro W hW; (try dsimp only at hW); go_simp
      change wpAnyH _ _ _ _ _ _ _ ⟨#[.pointer (some ⟨g, 0, none⟩),.int .i64 z,_,_,_,_,_,_,_,_,_,_,_,_,_,_,_,_,_,_,_,_,_,_,_,_,_,_,_,_,_,.pointer (some ⟨g, 0, none⟩),_,_,_,_,_,_,_,_,_,_,_,_,_,_,_,_,_], []⟩ _
      refine wpAnyH_take (i := 2) (v := .pointer (some ⟨g, 0, none⟩)) rfl (by kernel_rfl) (by kernel_rfl) (by kernel_rfl) (fun _ _ _ h => h) (Or.inl ⟨by rfl, ?_⟩) hHeld ?_
      · intro W hW; (try dsimp only at hW); go_simp
      change wpAnyH _ _ _ _ _ _ _ ⟨#[.pointer (some ⟨g, 0, none⟩),.int .i64 z,_,_,_,_,_,_,_,_,_,_,_,_,_,_,_,_,_,_,_,_,_,_,_,_,_,_,_,_,_,.pointer (some ⟨g, 0, none⟩),.pointer (some ⟨g, 0, none⟩),_,_,_,_,_,_,_,_,_,_,_,_,_,_,_,_], []⟩ _
      refine wpAnyH_take (i := 3) (v := .pointer (some ⟨g, 2, none⟩)) rfl (by kernel_rfl) (by kernel_rfl) (by kernel_rfl) (fun _ _ _ h => h) (Or.inl ⟨by rfl, ?_⟩) hHeld ?_
      · intro W hW; (try dsimp only at hW); go_simp
      change wpAnyH _ _ _ _ _ _ _ ⟨#[.pointer (some ⟨g, 0, none⟩),.int .i64 z,_,_,_,_,_,_,_,_,_,_,_,_,_,_,_,_,_,_,_,_,_,_,_,_,_,_,_,_,_,.pointer (some ⟨g, 0, none⟩),.pointer (some ⟨g, 0, none⟩),.pointer (some ⟨g, 2, none⟩),_,_,_,_,_,_,_,_,_,_,_,_,_,_,_], []⟩ _
      refine wpAnyH_take (i := 4) (v := .slice (some ⟨b, o, none⟩) c c) rfl (by kernel_rfl) (by kernel_rfl) (by kernel_rfl) (fun _ _ _ h => h) (Or.inl ⟨by rfl, ?_⟩) hHeld ?_
      · intro W hW; (try dsimp only at hW); have hc := hW.cell 2 _ rfl; clear hW; go_simp
      change wpAnyH _ _ _ _ _ _ _ ⟨#[.pointer (some ⟨g, 0, none⟩),.int .i64 z,_,_,_,_,_,_,_,_,_,_,_,_,_,_,_,_,_,_,_,_,_,_,_,_,_,_,_,_,_,.pointer (some ⟨g, 0, none⟩),.pointer (some ⟨g, 0, none⟩),.pointer (some ⟨g, 2, none⟩),.slice (some ⟨b, o, none⟩) c c,_,_,_,_,_,_,_,_,_,_,_,_,_,_], []⟩ _
      refine wpAnyH_take (i := 5) (v := .pointer (some ⟨g, 0, none⟩)) rfl (by kernel_rfl) (by kernel_rfl) (by kernel_rfl) (fun _ _ _ h => h) (Or.inl ⟨by rfl, ?_⟩) hHeld ?_
      · intro W hW; (try dsimp only at hW); go_simp
      change wpAnyH _ _ _ _ _ _ _ ⟨#[.pointer (some ⟨g, 0, none⟩),.int .i64 z,_,_,_,_,_,_,_,_,_,_,_,_,_,_,_,_,_,_,_,_,_,_,_,_,_,_,_,_,_,.pointer (some ⟨g, 0, none⟩),.pointer (some ⟨g, 0, none⟩),.pointer (some ⟨g, 2, none⟩),.slice (some ⟨b, o, none⟩) c c,.pointer (some ⟨g, 0, none⟩),_,_,_,_,_,_,_,_,_,_,_,_,_], []⟩ _
      refine wpAnyH_take (i := 6) (v := .pointer (some ⟨g, 0, none⟩)) rfl (by kernel_rfl) (by kernel_rfl) (by kernel_rfl) (fun _ _ _ h => h) (Or.inl ⟨by rfl, ?_⟩) hHeld ?_
      · intro W hW; (try dsimp only at hW); go_simp
      change wpAnyH _ _ _ _ _ _ _ ⟨#[.pointer (some ⟨g, 0, none⟩),.int .i64 z,_,_,_,_,_,_,_,_,_,_,_,_,_,_,_,_,_,_,_,_,_,_,_,_,_,_,_,_,_,.pointer (some ⟨g, 0, none⟩),.pointer (some ⟨g, 0, none⟩),.pointer (some ⟨g, 2, none⟩),.slice (some ⟨b, o, none⟩) c c,.pointer (some ⟨g, 0, none⟩),.pointer (some ⟨g, 0, none⟩),_,_,_,_,_,_,_,_,_,_,_,_], []⟩ _
      refine wpAnyH_take (i := 7) (v := .pointer (some ⟨g, 2, none⟩)) rfl (by kernel_rfl) (by kernel_rfl) (by kernel_rfl) (fun _ _ _ h => h) (Or.inl ⟨by rfl, ?_⟩) hHeld ?_
      · intro W hW; (try dsimp only at hW); go_simp
      change wpAnyH _ _ _ _ _ _ _ ⟨#[.pointer (some ⟨g, 0, none⟩),.int .i64 z,_,_,_,_,_,_,_,_,_,_,_,_,_,_,_,_,_,_,_,_,_,_,_,_,_,_,_,_,_,.pointer (some ⟨g, 0, none⟩),.pointer (some ⟨g, 0, none⟩),.pointer (some ⟨g, 2, none⟩),.slice (some ⟨b, o, none⟩) c c,.pointer (some ⟨g, 0, none⟩),.pointer (some ⟨g, 0, none⟩),.pointer (some ⟨g, 2, none⟩),_,_,_,_,_,_,_,_,_,_,_], []⟩ _
      refine wpAnyH_take (i := 8) (v := .slice (some ⟨b, o, none⟩) c c) rfl (by kernel_rfl) (by kernel_rfl) (by kernel_rfl) (fun _ _ _ h => h) (Or.inl ⟨by rfl, ?_⟩) hHeld ?_
      · intro W hW; (try dsimp only at hW); have hc := hW.cell 2 _ rfl; clear hW; go_simp
      change wpAnyH _ _ _ _ _ _ _ ⟨#[.pointer (some ⟨g, 0, none⟩),.int .i64 z,_,_,_,_,_,_,_,_,_,_,_,_,_,_,_,_,_,_,_,_,_,_,_,_,_,_,_,_,_,.pointer (some ⟨g, 0, none⟩),.pointer (some ⟨g, 0, none⟩),.pointer (some ⟨g, 2, none⟩),.slice (some ⟨b, o, none⟩) c c,.pointer (some ⟨g, 0, none⟩),.pointer (some ⟨g, 0, none⟩),.pointer (some ⟨g, 2, none⟩),.slice (some ⟨b, o, none⟩) c c,_,_,_,_,_,_,_,_,_,_], []⟩ _
      refine wpAnyH_take (i := 9) (v := .int .i64 (c : Int)) rfl (by kernel_rfl) (by kernel_rfl) (by kernel_rfl) (fun _ _ _ h => h) (Or.inl ⟨by rfl, ?_⟩) hHeld ?_
      · intro W hW; (try dsimp only at hW); go_simp
      change wpAnyH _ _ _ _ _ _ _ ⟨#[.pointer (some ⟨g, 0, none⟩),.int .i64 z,_,_,_,_,_,_,_,_,_,_,_,_,_,_,_,_,_,_,_,_,_,_,_,_,_,_,_,_,_,.pointer (some ⟨g, 0, none⟩),.pointer (some ⟨g, 0, none⟩),.pointer (some ⟨g, 2, none⟩),.slice (some ⟨b, o, none⟩) c c,.pointer (some ⟨g, 0, none⟩),.pointer (some ⟨g, 0, none⟩),.pointer (some ⟨g, 2, none⟩),.slice (some ⟨b, o, none⟩) c c,.int .i64 (c : Int),_,_,_,_,_,_,_,_,_], []⟩ _
      refine wpAnyH_take (i := 10) (v := .pointer (some ⟨g, 0, none⟩)) rfl (by kernel_rfl) (by kernel_rfl) (by kernel_rfl) (fun _ _ _ h => h) (Or.inl ⟨by rfl, ?_⟩) hHeld ?_
      · intro W hW; (try dsimp only at hW); go_simp
      change wpAnyH _ _ _ _ _ _ _ ⟨#[.pointer (some ⟨g, 0, none⟩),.int .i64 z,_,_,_,_,_,_,_,_,_,_,_,_,_,_,_,_,_,_,_,_,_,_,_,_,_,_,_,_,_,.pointer (some ⟨g, 0, none⟩),.pointer (some ⟨g, 0, none⟩),.pointer (some ⟨g, 2, none⟩),.slice (some ⟨b, o, none⟩) c c,.pointer (some ⟨g, 0, none⟩),.pointer (some ⟨g, 0, none⟩),.pointer (some ⟨g, 2, none⟩),.slice (some ⟨b, o, none⟩) c c,.int .i64 (c : Int),.pointer (some ⟨g, 0, none⟩),_,_,_,_,_,_,_,_], []⟩ _
      refine wpAnyH_take (i := 11) (v := .pointer (some ⟨g, 0, none⟩)) rfl (by kernel_rfl) (by kernel_rfl) (by kernel_rfl) (fun _ _ _ h => h) (Or.inl ⟨by rfl, ?_⟩) hHeld ?_
      · intro W hW; (try dsimp only at hW); go_simp
      change wpAnyH _ _ _ _ _ _ _ ⟨#[.pointer (some ⟨g, 0, none⟩),.int .i64 z,_,_,_,_,_,_,_,_,_,_,_,_,_,_,_,_,_,_,_,_,_,_,_,_,_,_,_,_,_,.pointer (some ⟨g, 0, none⟩),.pointer (some ⟨g, 0, none⟩),.pointer (some ⟨g, 2, none⟩),.slice (some ⟨b, o, none⟩) c c,.pointer (some ⟨g, 0, none⟩),.pointer (some ⟨g, 0, none⟩),.pointer (some ⟨g, 2, none⟩),.slice (some ⟨b, o, none⟩) c c,.int .i64 (c : Int),.pointer (some ⟨g, 0, none⟩),.pointer (some ⟨g, 0, none⟩),_,_,_,_,_,_,_], []⟩ _
      refine wpAnyH_take (i := 12) (v := .pointer (some ⟨g, 1, none⟩)) rfl (by kernel_rfl) (by kernel_rfl) (by kernel_rfl) (fun _ _ _ h => h) (Or.inl ⟨by rfl, ?_⟩) hHeld ?_
      · intro W hW; (try dsimp only at hW); go_simp
      change wpAnyH _ _ _ _ _ _ _ ⟨#[.pointer (some ⟨g, 0, none⟩),.int .i64 z,_,_,_,_,_,_,_,_,_,_,_,_,_,_,_,_,_,_,_,_,_,_,_,_,_,_,_,_,_,.pointer (some ⟨g, 0, none⟩),.pointer (some ⟨g, 0, none⟩),.pointer (some ⟨g, 2, none⟩),.slice (some ⟨b, o, none⟩) c c,.pointer (some ⟨g, 0, none⟩),.pointer (some ⟨g, 0, none⟩),.pointer (some ⟨g, 2, none⟩),.slice (some ⟨b, o, none⟩) c c,.int .i64 (c : Int),.pointer (some ⟨g, 0, none⟩),.pointer (some ⟨g, 0, none⟩),.pointer (some ⟨g, 1, none⟩),_,_,_,_,_,_], []⟩ _
      refine wpAnyH_take (i := 13) (v := .int .i64 (s : Int)) rfl (by kernel_rfl) (by kernel_rfl) (by kernel_rfl) (fun _ _ _ h => h) (Or.inl ⟨by rfl, ?_⟩) hHeld ?_
      · intro W hW; (try dsimp only at hW); have hc := hW.cell 1 _ rfl; clear hW; go_simp
      change wpAnyH _ _ _ _ _ _ _ ⟨#[.pointer (some ⟨g, 0, none⟩),.int .i64 z,_,_,_,_,_,_,_,_,_,_,_,_,_,_,_,_,_,_,_,_,_,_,_,_,_,_,_,_,_,.pointer (some ⟨g, 0, none⟩),.pointer (some ⟨g, 0, none⟩),.pointer (some ⟨g, 2, none⟩),.slice (some ⟨b, o, none⟩) c c,.pointer (some ⟨g, 0, none⟩),.pointer (some ⟨g, 0, none⟩),.pointer (some ⟨g, 2, none⟩),.slice (some ⟨b, o, none⟩) c c,.int .i64 (c : Int),.pointer (some ⟨g, 0, none⟩),.pointer (some ⟨g, 0, none⟩),.pointer (some ⟨g, 1, none⟩),.int .i64 (s : Int),_,_,_,_,_], []⟩ _
      refine wpAnyH_take (i := 14) (v := .int .i64 z) rfl (by kernel_rfl) (by kernel_rfl) (by kernel_rfl) (fun _ _ _ h => h) (Or.inl ⟨by rfl, ?_⟩) hHeld ?_
      · intro W hW; (try dsimp only at hW); go_simp
      change wpAnyH _ _ _ _ _ _ _ ⟨#[.pointer (some ⟨g, 0, none⟩),.int .i64 z,_,_,_,_,_,_,_,_,_,_,_,_,_,_,_,_,_,_,_,_,_,_,_,_,_,_,_,_,_,.pointer (some ⟨g, 0, none⟩),.pointer (some ⟨g, 0, none⟩),.pointer (some ⟨g, 2, none⟩),.slice (some ⟨b, o, none⟩) c c,.pointer (some ⟨g, 0, none⟩),.pointer (some ⟨g, 0, none⟩),.pointer (some ⟨g, 2, none⟩),.slice (some ⟨b, o, none⟩) c c,.int .i64 (c : Int),.pointer (some ⟨g, 0, none⟩),.pointer (some ⟨g, 0, none⟩),.pointer (some ⟨g, 1, none⟩),.int .i64 (s : Int),.int .i64 z,_,_,_,_], []⟩ _
      refine wpAnyH_take (i := 15) (v := .int .i64 (d : Int)) rfl (by kernel_rfl) (by kernel_rfl) (by kernel_rfl) (fun _ _ _ h => h) (Or.inl ⟨by rfl, ?_⟩) hHeld ?_
      · intro W hW; (try dsimp only at hW); go_simp
      change wpAnyH _ _ _ _ _ _ _ ⟨#[.pointer (some ⟨g, 0, none⟩),.int .i64 z,_,_,_,_,_,_,_,_,_,_,_,_,_,_,_,_,_,_,_,_,_,_,_,_,_,_,_,_,_,.pointer (some ⟨g, 0, none⟩),.pointer (some ⟨g, 0, none⟩),.pointer (some ⟨g, 2, none⟩),.slice (some ⟨b, o, none⟩) c c,.pointer (some ⟨g, 0, none⟩),.pointer (some ⟨g, 0, none⟩),.pointer (some ⟨g, 2, none⟩),.slice (some ⟨b, o, none⟩) c c,.int .i64 (c : Int),.pointer (some ⟨g, 0, none⟩),.pointer (some ⟨g, 0, none⟩),.pointer (some ⟨g, 1, none⟩),.int .i64 (s : Int),.int .i64 z,.int .i64 (d : Int),_,_,_], []⟩ _
      refine wpAnyH_take (i := 16) (v := .int .i64 (c : Int)) rfl (by kernel_rfl) (by kernel_rfl) (by kernel_rfl) (fun _ _ _ h => h) (Or.inl ⟨by rfl, ?_⟩) hHeld ?_
      · intro W hW; (try dsimp only at hW); go_simp
      change wpAnyH _ _ _ _ _ _ _ ⟨#[.pointer (some ⟨g, 0, none⟩),.int .i64 z,_,_,_,_,_,_,_,_,_,_,_,_,_,_,_,_,_,_,_,_,_,_,_,_,_,_,_,_,_,.pointer (some ⟨g, 0, none⟩),.pointer (some ⟨g, 0, none⟩),.pointer (some ⟨g, 2, none⟩),.slice (some ⟨b, o, none⟩) c c,.pointer (some ⟨g, 0, none⟩),.pointer (some ⟨g, 0, none⟩),.pointer (some ⟨g, 2, none⟩),.slice (some ⟨b, o, none⟩) c c,.int .i64 (c : Int),.pointer (some ⟨g, 0, none⟩),.pointer (some ⟨g, 0, none⟩),.pointer (some ⟨g, 1, none⟩),.int .i64 (s : Int),.int .i64 z,.int .i64 (d : Int),.int .i64 (c : Int),_,_], []⟩ _
      refine wpAnyH_take (i := 17) (v := .slice (some ⟨b, o, none⟩) (c - c) (c - c)) rfl (by kernel_rfl) (by kernel_rfl) (by kernel_rfl) (fun _ _ _ h => h) (Or.inl ⟨by rfl, ?_⟩) hHeld ?_
      · intro W hW; (try dsimp only at hW); go_simp
      change wpAnyH _ _ _ _ _ _ _ ⟨#[.pointer (some ⟨g, 0, none⟩),.int .i64 z,_,_,_,_,_,_,_,_,_,_,_,_,_,_,_,_,_,_,_,_,_,_,_,_,_,_,_,_,_,.pointer (some ⟨g, 0, none⟩),.pointer (some ⟨g, 0, none⟩),.pointer (some ⟨g, 2, none⟩),.slice (some ⟨b, o, none⟩) c c,.pointer (some ⟨g, 0, none⟩),.pointer (some ⟨g, 0, none⟩),.pointer (some ⟨g, 2, none⟩),.slice (some ⟨b, o, none⟩) c c,.int .i64 (c : Int),.pointer (some ⟨g, 0, none⟩),.pointer (some ⟨g, 0, none⟩),.pointer (some ⟨g, 1, none⟩),.int .i64 (s : Int),.int .i64 z,.int .i64 (d : Int),.int .i64 (c : Int),.slice (some ⟨b, o, none⟩) (c - c) (c - c),_], []⟩ _
      refine wpAnyH_ready (rs := [0]) (by kernel_rfl) (by simp) ?_
      refine AllReadyH.cons rfl (fun K hK => ?_) AllReadyH.nil
      rw [if_pos (by rfl)]
      refine wp_bs0 rfl ?_
      have ba := below_alloc u0 (.cells #[] 54)
      have O1 : Hid ((u0.alloc (.cells #[] 54)).ownsRow u0.heap.size 54 12 (.slice (some ⟨u0.heap.size, 0, none⟩) 0 0) 0 (chs [])) := hide (World.ownsRow_lit u0 #[] 0 (by omega) (by unfold maxLen; omega) rfl)
      have s1 : Hid (u0.heap.size ≤ (u0.alloc (.cells #[] 54)).heap.size) := hide (by simp)
      refine hK.out _ _ (hHeld.on ba) (fun hHeld => ?_)
      clear hK K
      replace HSL := hide (HSL.out.on ba)
      have B1 := hide ba
      clear ba
      change wpAnyH _ _ _ _ _ _ _ ⟨#[.pointer (some ⟨g, 0, none⟩),.int .i64 z,_,_,_,_,_,_,_,_,_,_,_,_,_,_,_,_,_,_,_,_,_,_,_,_,_,_,_,_,.slice (some ⟨u0.heap.size, 0, none⟩) 0 0,.pointer (some ⟨g, 0, none⟩),.pointer (some ⟨g, 0, none⟩),.pointer (some ⟨g, 2, none⟩),.slice (some ⟨b, o, none⟩) c c,.pointer (some ⟨g, 0, none⟩),.pointer (some ⟨g, 0, none⟩),.pointer (some ⟨g, 2, none⟩),.slice (some ⟨b, o, none⟩) c c,.int .i64 (c : Int),.pointer (some ⟨g, 0, none⟩),.pointer (some ⟨g, 0, none⟩),.pointer (some ⟨g, 1, none⟩),.int .i64 (s : Int),.int .i64 z,.int .i64 (d : Int),.int .i64 (c : Int),.slice (some ⟨b, o, none⟩) (c - c) (c - c),_], []⟩ _
      have M1 : Hid (Crs (u0.alloc (.cells #[] 54)) (some ⟨b, o, none⟩) (c - c) (c - c) ((tl n cs).drop c)) := hide (HSL.out.crsE ⟨b, o, none⟩ (c - c))
      refine wpAnyH_ready (rs := [18]) (by kernel_rfl) (by simp) ?_
      refine AllReadyH.cons rfl (fun K hK => ?_) AllReadyH.nil
      rw [if_pos (by rfl)]
      refine wp_capp rfl (.tmp 30) (.tmp 47) rfl u0.heap.size (.slice (some ⟨u0.heap.size, 0, none⟩) 0 0) 0 [] rfl O1.out (some ⟨b, o, none⟩) (c - c) (c - c) ((tl n cs).drop c) rfl M1.out (by omega) s1.out ?_
      intro v6 w6 O6 G6
      have B6 := hide (B1.out.grown G6 s1.out (fun r hr => (O1.out.lt r hr).1))
      have hh : Box w6 g (rcl n s (.slice (some ⟨b, o, none⟩) c c)) := hHeld.block (G6.block g hHeld.lt (fun e => by
        have h2 := (O1.out.lt g e.symm).1
        have h3 := HGU.out
        have h4 := HB.out.size
        omega))
      refine hK.out _ _ hh (fun hHeld => ?_)
      clear hK K hh G6
      change wpAnyH _ _ _ _ _ _ _ ⟨#[.pointer (some ⟨g, 0, none⟩),.int .i64 z,_,_,_,_,_,_,_,_,_,_,_,_,_,_,_,_,_,_,_,_,_,_,_,_,_,_,_,_,.slice (some ⟨u0.heap.size, 0, none⟩) 0 0,.pointer (some ⟨g, 0, none⟩),.pointer (some ⟨g, 0, none⟩),.pointer (some ⟨g, 2, none⟩),.slice (some ⟨b, o, none⟩) c c,.pointer (some ⟨g, 0, none⟩),.pointer (some ⟨g, 0, none⟩),.pointer (some ⟨g, 2, none⟩),.slice (some ⟨b, o, none⟩) c c,.int .i64 (c : Int),.pointer (some ⟨g, 0, none⟩),.pointer (some ⟨g, 0, none⟩),.pointer (some ⟨g, 1, none⟩),.int .i64 (s : Int),.int .i64 z,.int .i64 (d : Int),.int .i64 (c : Int),.slice (some ⟨b, o, none⟩) (c - c) (c - c),v6], []⟩ _
      refine wpAnyH_take (i := 19) (v := v6) rfl (by kernel_rfl) (by kernel_rfl) (by kernel_rfl) (fun _ _ _ h => h) (Or.inl ⟨by rfl, ?_⟩) hHeld ?_
      · intro W hW; (try dsimp only at hW); go_simp
      change wpAnyH _ _ _ _ _ _ _ ⟨#[.pointer (some ⟨g, 0, none⟩),.int .i64 z,_,_,v6,_,_,_,_,_,_,_,_,_,_,_,_,_,_,_,_,_,_,_,_,_,_,_,_,_,.slice (some ⟨u0.heap.size, 0, none⟩) 0 0,.pointer (some ⟨g, 0, none⟩),.pointer (some ⟨g, 0, none⟩),.pointer (some ⟨g, 2, none⟩),.slice (some ⟨b, o, none⟩) c c,.pointer (some ⟨g, 0, none⟩),.pointer (some ⟨g, 0, none⟩),.pointer (some ⟨g, 2, none⟩),.slice (some ⟨b, o, none⟩) c c,.int .i64 (c : Int),.pointer (some ⟨g, 0, none⟩),.pointer (some ⟨g, 0, none⟩),.pointer (some ⟨g, 1, none⟩),.int .i64 (s : Int),.int .i64 z,.int .i64 (d : Int),.int .i64 (c : Int),.slice (some ⟨b, o, none⟩) (c - c) (c - c),v6], []⟩ _
      refine wpAnyH_take (i := 20) (v := .bool true) rfl (by kernel_rfl) (by kernel_rfl) (by kernel_rfl) (fun _ _ _ h => h) (Or.inl ⟨by rfl, ?_⟩) hHeld ?_
      · intro W hW; (try dsimp only at hW); go_simp
      change wpAnyH _ _ _ _ _ _ _ ⟨#[.pointer (some ⟨g, 0, none⟩),.int .i64 z,_,_,v6,.bool true,_,_,_,_,_,_,_,_,_,_,_,_,_,_,_,_,_,_,_,_,_,_,_,_,.slice (some ⟨u0.heap.size, 0, none⟩) 0 0,.pointer (some ⟨g, 0, none⟩),.pointer (some ⟨g, 0, none⟩),.pointer (some ⟨g, 2, none⟩),.slice (some ⟨b, o, none⟩) c c,.pointer (some ⟨g, 0, none⟩),.pointer (some ⟨g, 0, none⟩),.pointer (some ⟨g, 2, none⟩),.slice (some ⟨b, o, none⟩) c c,.int .i64 (c : Int),.pointer (some ⟨g, 0, none⟩),.pointer (some ⟨g, 0, none⟩),.pointer (some ⟨g, 1, none⟩),.int .i64 (s : Int),.int .i64 z,.int .i64 (d : Int),.int .i64 (c : Int),.slice (some ⟨b, o, none⟩) (c - c) (c - c),v6], []⟩ _
      clear hHeld
      refine wpAnyH_done (by kernel_rfl) ?_ _
      have HO6 : Hid (w6.ownsRow u0.heap.size 54 12 v6 (cs.length - q) (chs (cs.drop q))) := hide (by
        rw [← HTD.out]
        have h9 := O6
        rw [List.nil_append, Nat.zero_add] at h9
        rw [HLEN.out]
        exact h9)
      clear O6
      obtain ⟨ao6, c6, e6, E6⟩ := row_cts (B := u0.heap.size) (v := v6) (l := cs.drop q) (by rw [List.length_drop]; exact HO6.out)
      subst e6
      rw [List.length_drop] at E6 ⊢
      have HE := hide E6
      have HB6 := hide (below_more HB.out B6.out HB.out.size)
      clear E6 HO6
      go_wp2
      go_ret2
      exact ⟨ao6, c6, rfl, HE.out.mono HB.out.size, HB6.out⟩
    · have HLEN := HLEN0
      refine wp_region_held_drew (S := fun w' => Box w' g (rcl n s (.slice (some ⟨b, o, none⟩) m c))) (by kernel_rfl) HBX.out.drew (fun hHeld => ?_)
      replace HSL : Hid (Cta w1.drew (g + 1) (some ⟨b, o, none⟩) m c (tl n cs)) := hide (HSL.out.on (belowOn' (Below.refl _ _)))
      replace HB := hide (belowOn' HB.out)
      clear HBX
      generalize w1.drew = u0 at *
      refine wpAnyH_take (i := 1) (v := .pointer (some ⟨g, 0, none⟩)) rfl (by kernel_rfl) (by kernel_rfl) (by kernel_rfl) (fun _ _ _ h => h) (Or.inl ⟨by rfl, ?_⟩) hHeld ?_
      · intro W hW; (try dsimp only at hW); go_simp
      change wpAnyH _ _ _ _ _ _ _ ⟨#[.pointer (some ⟨g, 0, none⟩),.int .i64 z,_,_,_,_,_,_,_,_,_,_,_,_,_,_,_,_,_,_,_,_,_,_,_,_,_,_,_,_,_,.pointer (some ⟨g, 0, none⟩),_,_,_,_,_,_,_,_,_,_,_,_,_,_,_,_,_], []⟩ _
      refine wpAnyH_take (i := 2) (v := .pointer (some ⟨g, 0, none⟩)) rfl (by kernel_rfl) (by kernel_rfl) (by kernel_rfl) (fun _ _ _ h => h) (Or.inl ⟨by rfl, ?_⟩) hHeld ?_
      · intro W hW; (try dsimp only at hW); go_simp
      change wpAnyH _ _ _ _ _ _ _ ⟨#[.pointer (some ⟨g, 0, none⟩),.int .i64 z,_,_,_,_,_,_,_,_,_,_,_,_,_,_,_,_,_,_,_,_,_,_,_,_,_,_,_,_,_,.pointer (some ⟨g, 0, none⟩),.pointer (some ⟨g, 0, none⟩),_,_,_,_,_,_,_,_,_,_,_,_,_,_,_,_], []⟩ _
      refine wpAnyH_take (i := 3) (v := .pointer (some ⟨g, 2, none⟩)) rfl (by kernel_rfl) (by kernel_rfl) (by kernel_rfl) (fun _ _ _ h => h) (Or.inl ⟨by rfl, ?_⟩) hHeld ?_
      · intro W hW; (try dsimp only at hW); go_simp
      change wpAnyH _ _ _ _ _ _ _ ⟨#[.pointer (some ⟨g, 0, none⟩),.int .i64 z,_,_,_,_,_,_,_,_,_,_,_,_,_,_,_,_,_,_,_,_,_,_,_,_,_,_,_,_,_,.pointer (some ⟨g, 0, none⟩),.pointer (some ⟨g, 0, none⟩),.pointer (some ⟨g, 2, none⟩),_,_,_,_,_,_,_,_,_,_,_,_,_,_,_], []⟩ _
      refine wpAnyH_take (i := 4) (v := .slice (some ⟨b, o, none⟩) m c) rfl (by kernel_rfl) (by kernel_rfl) (by kernel_rfl) (fun _ _ _ h => h) (Or.inl ⟨by rfl, ?_⟩) hHeld ?_
      · intro W hW; (try dsimp only at hW); have hc := hW.cell 2 _ rfl; clear hW; go_simp
      change wpAnyH _ _ _ _ _ _ _ ⟨#[.pointer (some ⟨g, 0, none⟩),.int .i64 z,_,_,_,_,_,_,_,_,_,_,_,_,_,_,_,_,_,_,_,_,_,_,_,_,_,_,_,_,_,.pointer (some ⟨g, 0, none⟩),.pointer (some ⟨g, 0, none⟩),.pointer (some ⟨g, 2, none⟩),.slice (some ⟨b, o, none⟩) m c,_,_,_,_,_,_,_,_,_,_,_,_,_,_], []⟩ _
      refine wpAnyH_take (i := 5) (v := .pointer (some ⟨g, 0, none⟩)) rfl (by kernel_rfl) (by kernel_rfl) (by kernel_rfl) (fun _ _ _ h => h) (Or.inl ⟨by rfl, ?_⟩) hHeld ?_
      · intro W hW; (try dsimp only at hW); go_simp
      change wpAnyH _ _ _ _ _ _ _ ⟨#[.pointer (some ⟨g, 0, none⟩),.int .i64 z,_,_,_,_,_,_,_,_,_,_,_,_,_,_,_,_,_,_,_,_,_,_,_,_,_,_,_,_,_,.pointer (some ⟨g, 0, none⟩),.pointer (some ⟨g, 0, none⟩),.pointer (some ⟨g, 2, none⟩),.slice (some ⟨b, o, none⟩) m c,.pointer (some ⟨g, 0, none⟩),_,_,_,_,_,_,_,_,_,_,_,_,_], []⟩ _
      refine wpAnyH_take (i := 6) (v := .pointer (some ⟨g, 0, none⟩)) rfl (by kernel_rfl) (by kernel_rfl) (by kernel_rfl) (fun _ _ _ h => h) (Or.inl ⟨by rfl, ?_⟩) hHeld ?_
      · intro W hW; (try dsimp only at hW); go_simp
      change wpAnyH _ _ _ _ _ _ _ ⟨#[.pointer (some ⟨g, 0, none⟩),.int .i64 z,_,_,_,_,_,_,_,_,_,_,_,_,_,_,_,_,_,_,_,_,_,_,_,_,_,_,_,_,_,.pointer (some ⟨g, 0, none⟩),.pointer (some ⟨g, 0, none⟩),.pointer (some ⟨g, 2, none⟩),.slice (some ⟨b, o, none⟩) m c,.pointer (some ⟨g, 0, none⟩),.pointer (some ⟨g, 0, none⟩),_,_,_,_,_,_,_,_,_,_,_,_], []⟩ _
      refine wpAnyH_take (i := 7) (v := .pointer (some ⟨g, 2, none⟩)) rfl (by kernel_rfl) (by kernel_rfl) (by kernel_rfl) (fun _ _ _ h => h) (Or.inl ⟨by rfl, ?_⟩) hHeld ?_
      · intro W hW; (try dsimp only at hW); go_simp
      change wpAnyH _ _ _ _ _ _ _ ⟨#[.pointer (some ⟨g, 0, none⟩),.int .i64 z,_,_,_,_,_,_,_,_,_,_,_,_,_,_,_,_,_,_,_,_,_,_,_,_,_,_,_,_,_,.pointer (some ⟨g, 0, none⟩),.pointer (some ⟨g, 0, none⟩),.pointer (some ⟨g, 2, none⟩),.slice (some ⟨b, o, none⟩) m c,.pointer (some ⟨g, 0, none⟩),.pointer (some ⟨g, 0, none⟩),.pointer (some ⟨g, 2, none⟩),_,_,_,_,_,_,_,_,_,_,_], []⟩ _
      refine wpAnyH_take (i := 8) (v := .slice (some ⟨b, o, none⟩) m c) rfl (by kernel_rfl) (by kernel_rfl) (by kernel_rfl) (fun _ _ _ h => h) (Or.inl ⟨by rfl, ?_⟩) hHeld ?_
      · intro W hW; (try dsimp only at hW); have hc := hW.cell 2 _ rfl; clear hW; go_simp
      change wpAnyH _ _ _ _ _ _ _ ⟨#[.pointer (some ⟨g, 0, none⟩),.int .i64 z,_,_,_,_,_,_,_,_,_,_,_,_,_,_,_,_,_,_,_,_,_,_,_,_,_,_,_,_,_,.pointer (some ⟨g, 0, none⟩),.pointer (some ⟨g, 0, none⟩),.pointer (some ⟨g, 2, none⟩),.slice (some ⟨b, o, none⟩) m c,.pointer (some ⟨g, 0, none⟩),.pointer (some ⟨g, 0, none⟩),.pointer (some ⟨g, 2, none⟩),.slice (some ⟨b, o, none⟩) m c,_,_,_,_,_,_,_,_,_,_], []⟩ _
      refine wpAnyH_take (i := 9) (v := .int .i64 (m : Int)) rfl (by kernel_rfl) (by kernel_rfl) (by kernel_rfl) (fun _ _ _ h => h) (Or.inl ⟨by rfl, ?_⟩) hHeld ?_
      · intro W hW; (try dsimp only at hW); go_simp
      change wpAnyH _ _ _ _ _ _ _ ⟨#[.pointer (some ⟨g, 0, none⟩),.int .i64 z,_,_,_,_,_,_,_,_,_,_,_,_,_,_,_,_,_,_,_,_,_,_,_,_,_,_,_,_,_,.pointer (some ⟨g, 0, none⟩),.pointer (some ⟨g, 0, none⟩),.pointer (some ⟨g, 2, none⟩),.slice (some ⟨b, o, none⟩) m c,.pointer (some ⟨g, 0, none⟩),.pointer (some ⟨g, 0, none⟩),.pointer (some ⟨g, 2, none⟩),.slice (some ⟨b, o, none⟩) m c,.int .i64 (m : Int),_,_,_,_,_,_,_,_,_], []⟩ _
      refine wpAnyH_take (i := 10) (v := .pointer (some ⟨g, 0, none⟩)) rfl (by kernel_rfl) (by kernel_rfl) (by kernel_rfl) (fun _ _ _ h => h) (Or.inl ⟨by rfl, ?_⟩) hHeld ?_
      · intro W hW; (try dsimp only at hW); go_simp
      change wpAnyH _ _ _ _ _ _ _ ⟨#[.pointer (some ⟨g, 0, none⟩),.int .i64 z,_,_,_,_,_,_,_,_,_,_,_,_,_,_,_,_,_,_,_,_,_,_,_,_,_,_,_,_,_,.pointer (some ⟨g, 0, none⟩),.pointer (some ⟨g, 0, none⟩),.pointer (some ⟨g, 2, none⟩),.slice (some ⟨b, o, none⟩) m c,.pointer (some ⟨g, 0, none⟩),.pointer (some ⟨g, 0, none⟩),.pointer (some ⟨g, 2, none⟩),.slice (some ⟨b, o, none⟩) m c,.int .i64 (m : Int),.pointer (some ⟨g, 0, none⟩),_,_,_,_,_,_,_,_], []⟩ _
      refine wpAnyH_take (i := 11) (v := .pointer (some ⟨g, 0, none⟩)) rfl (by kernel_rfl) (by kernel_rfl) (by kernel_rfl) (fun _ _ _ h => h) (Or.inl ⟨by rfl, ?_⟩) hHeld ?_
      · intro W hW; (try dsimp only at hW); go_simp
      change wpAnyH _ _ _ _ _ _ _ ⟨#[.pointer (some ⟨g, 0, none⟩),.int .i64 z,_,_,_,_,_,_,_,_,_,_,_,_,_,_,_,_,_,_,_,_,_,_,_,_,_,_,_,_,_,.pointer (some ⟨g, 0, none⟩),.pointer (some ⟨g, 0, none⟩),.pointer (some ⟨g, 2, none⟩),.slice (some ⟨b, o, none⟩) m c,.pointer (some ⟨g, 0, none⟩),.pointer (some ⟨g, 0, none⟩),.pointer (some ⟨g, 2, none⟩),.slice (some ⟨b, o, none⟩) m c,.int .i64 (m : Int),.pointer (some ⟨g, 0, none⟩),.pointer (some ⟨g, 0, none⟩),_,_,_,_,_,_,_], []⟩ _
      refine wpAnyH_take (i := 12) (v := .pointer (some ⟨g, 1, none⟩)) rfl (by kernel_rfl) (by kernel_rfl) (by kernel_rfl) (fun _ _ _ h => h) (Or.inl ⟨by rfl, ?_⟩) hHeld ?_
      · intro W hW; (try dsimp only at hW); go_simp
      change wpAnyH _ _ _ _ _ _ _ ⟨#[.pointer (some ⟨g, 0, none⟩),.int .i64 z,_,_,_,_,_,_,_,_,_,_,_,_,_,_,_,_,_,_,_,_,_,_,_,_,_,_,_,_,_,.pointer (some ⟨g, 0, none⟩),.pointer (some ⟨g, 0, none⟩),.pointer (some ⟨g, 2, none⟩),.slice (some ⟨b, o, none⟩) m c,.pointer (some ⟨g, 0, none⟩),.pointer (some ⟨g, 0, none⟩),.pointer (some ⟨g, 2, none⟩),.slice (some ⟨b, o, none⟩) m c,.int .i64 (m : Int),.pointer (some ⟨g, 0, none⟩),.pointer (some ⟨g, 0, none⟩),.pointer (some ⟨g, 1, none⟩),_,_,_,_,_,_], []⟩ _
      refine wpAnyH_take (i := 13) (v := .int .i64 (s : Int)) rfl (by kernel_rfl) (by kernel_rfl) (by kernel_rfl) (fun _ _ _ h => h) (Or.inl ⟨by rfl, ?_⟩) hHeld ?_
      · intro W hW; (try dsimp only at hW); have hc := hW.cell 1 _ rfl; clear hW; go_simp
      change wpAnyH _ _ _ _ _ _ _ ⟨#[.pointer (some ⟨g, 0, none⟩),.int .i64 z,_,_,_,_,_,_,_,_,_,_,_,_,_,_,_,_,_,_,_,_,_,_,_,_,_,_,_,_,_,.pointer (some ⟨g, 0, none⟩),.pointer (some ⟨g, 0, none⟩),.pointer (some ⟨g, 2, none⟩),.slice (some ⟨b, o, none⟩) m c,.pointer (some ⟨g, 0, none⟩),.pointer (some ⟨g, 0, none⟩),.pointer (some ⟨g, 2, none⟩),.slice (some ⟨b, o, none⟩) m c,.int .i64 (m : Int),.pointer (some ⟨g, 0, none⟩),.pointer (some ⟨g, 0, none⟩),.pointer (some ⟨g, 1, none⟩),.int .i64 (s : Int),_,_,_,_,_], []⟩ _
      refine wpAnyH_take (i := 14) (v := .int .i64 z) rfl (by kernel_rfl) (by kernel_rfl) (by kernel_rfl) (fun _ _ _ h => h) (Or.inl ⟨by rfl, ?_⟩) hHeld ?_
      · intro W hW; (try dsimp only at hW); go_simp
      change wpAnyH _ _ _ _ _ _ _ ⟨#[.pointer (some ⟨g, 0, none⟩),.int .i64 z,_,_,_,_,_,_,_,_,_,_,_,_,_,_,_,_,_,_,_,_,_,_,_,_,_,_,_,_,_,.pointer (some ⟨g, 0, none⟩),.pointer (some ⟨g, 0, none⟩),.pointer (some ⟨g, 2, none⟩),.slice (some ⟨b, o, none⟩) m c,.pointer (some ⟨g, 0, none⟩),.pointer (some ⟨g, 0, none⟩),.pointer (some ⟨g, 2, none⟩),.slice (some ⟨b, o, none⟩) m c,.int .i64 (m : Int),.pointer (some ⟨g, 0, none⟩),.pointer (some ⟨g, 0, none⟩),.pointer (some ⟨g, 1, none⟩),.int .i64 (s : Int),.int .i64 z,_,_,_,_], []⟩ _
      refine wpAnyH_take (i := 15) (v := .int .i64 (d : Int)) rfl (by kernel_rfl) (by kernel_rfl) (by kernel_rfl) (fun _ _ _ h => h) (Or.inl ⟨by rfl, ?_⟩) hHeld ?_
      · intro W hW; (try dsimp only at hW); go_simp
      change wpAnyH _ _ _ _ _ _ _ ⟨#[.pointer (some ⟨g, 0, none⟩),.int .i64 z,_,_,_,_,_,_,_,_,_,_,_,_,_,_,_,_,_,_,_,_,_,_,_,_,_,_,_,_,_,.pointer (some ⟨g, 0, none⟩),.pointer (some ⟨g, 0, none⟩),.pointer (some ⟨g, 2, none⟩),.slice (some ⟨b, o, none⟩) m c,.pointer (some ⟨g, 0, none⟩),.pointer (some ⟨g, 0, none⟩),.pointer (some ⟨g, 2, none⟩),.slice (some ⟨b, o, none⟩) m c,.int .i64 (m : Int),.pointer (some ⟨g, 0, none⟩),.pointer (some ⟨g, 0, none⟩),.pointer (some ⟨g, 1, none⟩),.int .i64 (s : Int),.int .i64 z,.int .i64 (d : Int),_,_,_], []⟩ _
      refine wpAnyH_take (i := 16) (v := .int .i64 (i : Int)) rfl (by kernel_rfl) (by kernel_rfl) (by kernel_rfl) (fun _ _ _ h => h) (Or.inl ⟨by rfl, ?_⟩) hHeld ?_
      · intro W hW; (try dsimp only at hW); go_simp
      change wpAnyH _ _ _ _ _ _ _ ⟨#[.pointer (some ⟨g, 0, none⟩),.int .i64 z,_,_,_,_,_,_,_,_,_,_,_,_,_,_,_,_,_,_,_,_,_,_,_,_,_,_,_,_,_,.pointer (some ⟨g, 0, none⟩),.pointer (some ⟨g, 0, none⟩),.pointer (some ⟨g, 2, none⟩),.slice (some ⟨b, o, none⟩) m c,.pointer (some ⟨g, 0, none⟩),.pointer (some ⟨g, 0, none⟩),.pointer (some ⟨g, 2, none⟩),.slice (some ⟨b, o, none⟩) m c,.int .i64 (m : Int),.pointer (some ⟨g, 0, none⟩),.pointer (some ⟨g, 0, none⟩),.pointer (some ⟨g, 1, none⟩),.int .i64 (s : Int),.int .i64 z,.int .i64 (d : Int),.int .i64 (i : Int),_,_], []⟩ _
      refine wpAnyH_take (i := 17) (v := .slice (some ⟨b, o + i * 12, none⟩) (m - i) (c - i)) rfl (by kernel_rfl) (by kernel_rfl) (by kernel_rfl) (fun _ _ _ h => h) (Or.inl ⟨by rfl, ?_⟩) hHeld ?_
      · intro W hW; (try dsimp only at hW); go_simp
      change wpAnyH _ _ _ _ _ _ _ ⟨#[.pointer (some ⟨g, 0, none⟩),.int .i64 z,_,_,_,_,_,_,_,_,_,_,_,_,_,_,_,_,_,_,_,_,_,_,_,_,_,_,_,_,_,.pointer (some ⟨g, 0, none⟩),.pointer (some ⟨g, 0, none⟩),.pointer (some ⟨g, 2, none⟩),.slice (some ⟨b, o, none⟩) m c,.pointer (some ⟨g, 0, none⟩),.pointer (some ⟨g, 0, none⟩),.pointer (some ⟨g, 2, none⟩),.slice (some ⟨b, o, none⟩) m c,.int .i64 (m : Int),.pointer (some ⟨g, 0, none⟩),.pointer (some ⟨g, 0, none⟩),.pointer (some ⟨g, 1, none⟩),.int .i64 (s : Int),.int .i64 z,.int .i64 (d : Int),.int .i64 (i : Int),.slice (some ⟨b, o + i * 12, none⟩) (m - i) (c - i),_], []⟩ _
      refine wpAnyH_ready (rs := [0]) (by kernel_rfl) (by simp) ?_
      refine AllReadyH.cons rfl (fun K hK => ?_) AllReadyH.nil
      rw [if_pos (by rfl)]
      refine wp_bs0 rfl ?_
      have ba := below_alloc u0 (.cells #[] 54)
      have O1 : Hid ((u0.alloc (.cells #[] 54)).ownsRow u0.heap.size 54 12 (.slice (some ⟨u0.heap.size, 0, none⟩) 0 0) 0 (chs [])) := hide (World.ownsRow_lit u0 #[] 0 (by omega) (by unfold maxLen; omega) rfl)
      have s1 : Hid (u0.heap.size ≤ (u0.alloc (.cells #[] 54)).heap.size) := hide (by simp)
      refine hK.out _ _ (hHeld.on ba) (fun hHeld => ?_)
      clear hK K
      replace HSL := hide (HSL.out.on ba)
      have B1 := hide ba
      clear ba
      change wpAnyH _ _ _ _ _ _ _ ⟨#[.pointer (some ⟨g, 0, none⟩),.int .i64 z,_,_,_,_,_,_,_,_,_,_,_,_,_,_,_,_,_,_,_,_,_,_,_,_,_,_,_,_,.slice (some ⟨u0.heap.size, 0, none⟩) 0 0,.pointer (some ⟨g, 0, none⟩),.pointer (some ⟨g, 0, none⟩),.pointer (some ⟨g, 2, none⟩),.slice (some ⟨b, o, none⟩) m c,.pointer (some ⟨g, 0, none⟩),.pointer (some ⟨g, 0, none⟩),.pointer (some ⟨g, 2, none⟩),.slice (some ⟨b, o, none⟩) m c,.int .i64 (m : Int),.pointer (some ⟨g, 0, none⟩),.pointer (some ⟨g, 0, none⟩),.pointer (some ⟨g, 1, none⟩),.int .i64 (s : Int),.int .i64 z,.int .i64 (d : Int),.int .i64 (i : Int),.slice (some ⟨b, o + i * 12, none⟩) (m - i) (c - i),_], []⟩ _
      have M1 : Hid (Crs (u0.alloc (.cells #[] 54)) (some ⟨b, o + i * 12, none⟩) (m - i) (c - i) ((tl n cs).drop i)) := hide (HSL.out.crsD HIM.out (c - i))
      refine wpAnyH_ready (rs := [18]) (by kernel_rfl) (by simp) ?_
      refine AllReadyH.cons rfl (fun K hK => ?_) AllReadyH.nil
      rw [if_pos (by rfl)]
      refine wp_capp rfl (.tmp 30) (.tmp 47) rfl u0.heap.size (.slice (some ⟨u0.heap.size, 0, none⟩) 0 0) 0 [] rfl O1.out (some ⟨b, o + i * 12, none⟩) (m - i) (c - i) ((tl n cs).drop i) rfl M1.out (by omega) s1.out ?_
      intro v6 w6 O6 G6
      have B6 := hide (B1.out.grown G6 s1.out (fun r hr => (O1.out.lt r hr).1))
      have hh : Box w6 g (rcl n s (.slice (some ⟨b, o, none⟩) m c)) := hHeld.block (G6.block g hHeld.lt (fun e => by
        have h2 := (O1.out.lt g e.symm).1
        have h3 := HGU.out
        have h4 := HB.out.size
        omega))
      refine hK.out _ _ hh (fun hHeld => ?_)
      clear hK K hh G6
      change wpAnyH _ _ _ _ _ _ _ ⟨#[.pointer (some ⟨g, 0, none⟩),.int .i64 z,_,_,_,_,_,_,_,_,_,_,_,_,_,_,_,_,_,_,_,_,_,_,_,_,_,_,_,_,.slice (some ⟨u0.heap.size, 0, none⟩) 0 0,.pointer (some ⟨g, 0, none⟩),.pointer (some ⟨g, 0, none⟩),.pointer (some ⟨g, 2, none⟩),.slice (some ⟨b, o, none⟩) m c,.pointer (some ⟨g, 0, none⟩),.pointer (some ⟨g, 0, none⟩),.pointer (some ⟨g, 2, none⟩),.slice (some ⟨b, o, none⟩) m c,.int .i64 (m : Int),.pointer (some ⟨g, 0, none⟩),.pointer (some ⟨g, 0, none⟩),.pointer (some ⟨g, 1, none⟩),.int .i64 (s : Int),.int .i64 z,.int .i64 (d : Int),.int .i64 (i : Int),.slice (some ⟨b, o + i * 12, none⟩) (m - i) (c - i),v6], []⟩ _
      refine wpAnyH_take (i := 19) (v := v6) rfl (by kernel_rfl) (by kernel_rfl) (by kernel_rfl) (fun _ _ _ h => h) (Or.inl ⟨by rfl, ?_⟩) hHeld ?_
      · intro W hW; (try dsimp only at hW); go_simp
      change wpAnyH _ _ _ _ _ _ _ ⟨#[.pointer (some ⟨g, 0, none⟩),.int .i64 z,_,_,v6,_,_,_,_,_,_,_,_,_,_,_,_,_,_,_,_,_,_,_,_,_,_,_,_,_,.slice (some ⟨u0.heap.size, 0, none⟩) 0 0,.pointer (some ⟨g, 0, none⟩),.pointer (some ⟨g, 0, none⟩),.pointer (some ⟨g, 2, none⟩),.slice (some ⟨b, o, none⟩) m c,.pointer (some ⟨g, 0, none⟩),.pointer (some ⟨g, 0, none⟩),.pointer (some ⟨g, 2, none⟩),.slice (some ⟨b, o, none⟩) m c,.int .i64 (m : Int),.pointer (some ⟨g, 0, none⟩),.pointer (some ⟨g, 0, none⟩),.pointer (some ⟨g, 1, none⟩),.int .i64 (s : Int),.int .i64 z,.int .i64 (d : Int),.int .i64 (i : Int),.slice (some ⟨b, o + i * 12, none⟩) (m - i) (c - i),v6], []⟩ _
      refine wpAnyH_take (i := 20) (v := .bool true) rfl (by kernel_rfl) (by kernel_rfl) (by kernel_rfl) (fun _ _ _ h => h) (Or.inl ⟨by rfl, ?_⟩) hHeld ?_
      · intro W hW; (try dsimp only at hW); go_simp
      change wpAnyH _ _ _ _ _ _ _ ⟨#[.pointer (some ⟨g, 0, none⟩),.int .i64 z,_,_,v6,.bool true,_,_,_,_,_,_,_,_,_,_,_,_,_,_,_,_,_,_,_,_,_,_,_,_,.slice (some ⟨u0.heap.size, 0, none⟩) 0 0,.pointer (some ⟨g, 0, none⟩),.pointer (some ⟨g, 0, none⟩),.pointer (some ⟨g, 2, none⟩),.slice (some ⟨b, o, none⟩) m c,.pointer (some ⟨g, 0, none⟩),.pointer (some ⟨g, 0, none⟩),.pointer (some ⟨g, 2, none⟩),.slice (some ⟨b, o, none⟩) m c,.int .i64 (m : Int),.pointer (some ⟨g, 0, none⟩),.pointer (some ⟨g, 0, none⟩),.pointer (some ⟨g, 1, none⟩),.int .i64 (s : Int),.int .i64 z,.int .i64 (d : Int),.int .i64 (i : Int),.slice (some ⟨b, o + i * 12, none⟩) (m - i) (c - i),v6], []⟩ _
      clear hHeld
      refine wpAnyH_done (by kernel_rfl) ?_ _
      have HO6 : Hid (w6.ownsRow u0.heap.size 54 12 v6 (cs.length - q) (chs (cs.drop q))) := hide (by
        rw [← HTD.out]
        have h9 := O6
        rw [List.nil_append, Nat.zero_add] at h9
        rw [HLEN.out]
        exact h9)
      clear O6
      obtain ⟨ao6, c6, e6, E6⟩ := row_cts (B := u0.heap.size) (v := v6) (l := cs.drop q) (by rw [List.length_drop]; exact HO6.out)
      subst e6
      rw [List.length_drop] at E6 ⊢
      have HE := hide E6
      have HB6 := hide (below_more HB.out B6.out HB.out.size)
      clear E6 HO6
      go_wp2
      go_ret2
      exact ⟨ao6, c6, rfl, HE.out.mono HB.out.size, HB6.out⟩
end Go.Proofs.Ytjlmheecefobaaa
