/- PickTurned: for every list and hash the law answers true, and both read behind the call as they read before. No condition. -/
import Derived.Test.YtmpojeehjhpkbaaQo
import Derived.Test.YtmpojeehjhpkbaaSt
import Derived.Deep.DeepCutAuto
import Derived.Deep.CutBlock
import Derived.Deep.LoopGhost
namespace Go.Proofs.Ytmpojeehjhpkbaa
open Go.ChangeShapes Go.WideShapes Go.ChangeAt Go.RowKit Go.PlainAid

theorem two_src (w : World) (x y : Int) : Isr (w.alloc (.cells #[.int .i64 x, .int .i64 y] 3)) (some ⟨w.heap.size, 0, none⟩) 2 2 [x, y] := (its_lit (cs := #[.int .i64 x, .int .i64 y]) (ns := [x, y]) (n := 2) rfl rfl (by omega)).isr
theorem wp_bsI {o : Oper} {a : Act} {w : World} {C : Act → World → Prop} {Q : Exit → Act → World → Prop} (x y : Operand) (d e : Int) (ho : o.op = .buildSlice 32 2 #[(0, x), (1, y)]) (hx : a.eval x = .int .i64 d) (hy : a.eval y = .int .i64 e)
    (h : C (a.put o.dst (.slice (some ⟨w.heap.size, 0, none⟩) 2 2)) (w.alloc (.cells #[.int .i64 d, .int .i64 e] 3))) : Oper.wp Try.prog o a w C Q := by
  have hr : (Instr.buildSlice 32 2 #[(0, .int .i64 d), (1, .int .i64 e)]).run Try.prog w = .ok (.slice (some ⟨w.heap.size, 0, none⟩) 2 2) (w.alloc (.cells #[.int .i64 d, .int .i64 e] 3)) := by kernel_rfl
  unfold Oper.wp execOp
  simp only [ho, List.map_toArray, List.map_cons, List.map_nil, hx, hy, hr, Sem.run_bind, Sem.run_pure, Result.andThen_ok]
  exact h
theorem wp_iapp {o : Oper} {a : Act} {w : World} {C : Act → World → Prop} {Q : Exit → Act → World → Prop} (s x : Operand)
    (ho : o.op = .call { callee := .builtin .append, args := #[s, x], argTypes := #[32, 32] }) (_ : o.type = 32)
    (base : Nat) (v : Value) (n : Nat) (xs : List Int) (hs : a.eval s = v) (hown : IRow w base v n xs) (ad : Addr) (m c : Nat) (ns : List Int) (hx : a.eval x = .slice (some ad) m c) (hB : Isr w (some ad) m c ns)
    (h1 : n + m ≤ 1000000) (hbase : base ≤ w.heap.size)
    (h : ∀ v' w', IRow w' base v' (n + m) (xs ++ ns) → Below base w w' → C (a.put o.dst v') w') : Oper.wp Try.prog o a w C Q := by
  obtain ⟨i0, hi, hz0, hz1, hz2⟩ := info_parts Try.infoI
  refine wp_append_own _ s x 32 ho base 3 i0 (.int .i64 0) 1 8 Try.underlying32 hi hz0 hz1 hz2 rfl (by decide) v n (xs.map (Value.int .i64)) hs hown ad m c (ns.map (Value.int .i64)) hx (by simp [hB.len]) (hB.src ad rfl) (one_i64 ns) (by unfold maxLen; omega) (by omega) hbase ?_
  intro v' w' h2 h3 _
  refine h v' w' ?_ ((Below.refl _ _).grown h3 hbase (fun k hk => (hown.lt k hk).1))
  unfold IRow
  rw [List.map_append]
  exact h2
/-- What is put behind one another, from the last on. -/
structure Bk (l : List Int) (p : Nat) (s : List Int) : Prop where
  sub : ∀ x ∈ s, x ∈ l
  all : ∀ (i : Nat) (x : Int), p ≤ i → l[i]? = some x → x ∈ s
  len : s.length = 2 * (l.length - p)
theorem bk_start (l : List Int) : Bk l l.length [] := ⟨fun x h => (by cases h), fun i x hi hx => (by have := (List.getElem?_eq_some_iff.1 hx).1; omega), by simp⟩
theorem bk_next {l s : List Int} {j : Nat} {x y : Int} (h : Bk l (j + 1) s) (hx : l[j]? = some x) (hy : l[j / 2]? = some y) : Bk l j (s ++ [x, y]) := by
  have hl := (List.getElem?_eq_some_iff.1 hx).1
  refine ⟨fun z hz => ?_, fun i z hi hz => ?_, by rw [List.length_append, h.len]; simp; omega⟩
  · rcases List.mem_append.1 hz with h1 | h1
    · exact h.sub z h1
    · have : z = x ∨ z = y := by simpa using h1
      rcases this with rfl | rfl
      · exact List.mem_of_getElem? hx
      · exact List.mem_of_getElem? hy
  · by_cases e : i = j
    · subst e
      rw [hx] at hz
      obtain rfl := Option.some.inj hz
      simp
    · exact List.mem_append.2 (Or.inl (h.all i z (by omega) hz))
theorem bk_end {l s : List Int} (h : Bk l 0 s) : ∀ x, x ∈ l ↔ x ∈ s := fun x => ⟨fun hx => by
  obtain ⟨i, hi⟩ := List.getElem?_of_mem hx
  exact h.all i x (Nat.zero_le _) hi, h.sub x⟩
/-- What Choose answers, of an empty list too. -/
def chA (h : Nat) (l : List Int) : Int := if l = [] then 0 else chs h l
theorem chA_mem (h : Nat) (l : List Int) {n : Nat} (hn : l.length = n) : decide (chA h l ∈ l) = decide (0 < n) := by
  subst hn
  cases l with
  | nil => rfl
  | cons a t =>
    rw [decide_eq_true (show 0 < (a :: t).length by simp)]
    unfold chA
    rw [if_neg (by simp)]
    exact decide_eq_true (chs_spec h (by simp)).1
theorem chA_same {h : Nat} {l s : List Int} (e : ∀ x, x ∈ l ↔ x ∈ s) (hs : s.length = 2 * l.length) : chA h s = chA h l := by
  unfold chA
  by_cases hl : l = []
  · subst hl
    rw [if_pos rfl, if_pos (List.length_eq_zero_iff.1 (by simpa using hs))]
  · have : 0 < l.length := List.length_pos_iff.2 hl
    rw [if_neg hl, if_neg (fun e0 => by rw [e0] at hs; simp at hs; omega)]
    exact chs_same e hl
theorem chooseA (ao : Option Addr) (n c : Nat) (l : List Int) (h : Nat) (w : World) (hl : Its w 0 ao n c l) (hh : h < 4294967296) :
    Calls Try.prog 15 #[.slice ao n c, .int .u32 h] w fun e w' => e = .returned (.tuple #[.int .i64 (chA h l), .bool (decide (0 < n))]) ∧ Below w.heap.size w w' := by
  have hz := hl.len
  by_cases hn : 0 < n
  · unfold chA
    rw [if_neg (fun e0 => by rw [e0] at hz; simp at hz; omega), decide_eq_true hn]
    exact chooseQ ao n c l h w hl hh hn
  · obtain rfl : n = 0 := by omega
    obtain rfl : l = [] := List.length_eq_zero_iff.1 hz
    exact chooseQ_none ao c h w
theorem mem_take {m : Int} {l : List Int} {q : Nat} {y : Int} (hy : l[q]? = some y) : decide (m ∈ l.take (q + 1)) = (decide (m ∈ l.take q) || (y == m)) := by
  rw [List.take_add_one, hy, Option.toList_some]
  by_cases h : m ∈ l.take q
  · simp [h]
  · by_cases e : y = m
    · simp [e]
    · have e2 : ¬ m = y := fun e' => e (Eq.symm e')
      simp [h, e, e2]
set_option maxRecDepth 100000 in
set_option maxHeartbeats 4000000 in
theorem turnedOut (ao : Option Addr) (n c : Nat) (h : Nat) (w : World) (hn : 500 < n) :
    Calls Try.prog 5 #[.slice ao n c, .int .u32 h] w fun e w' => e = .returned (.bool true) ∧ Below w.heap.size w w' := by
  have h1 : (500 : Int) < (n : Int) := by omega
  clear hn
  go_enter Try.func5, Try.ntmps5
  go_wp2_with fail
  refine (awakeC _).mono ?_
  rintro e w1 ⟨rfl, B1⟩
  have HB := hide B1
  clear B1
  go_wp2
  go_ret
  exact ⟨rfl, HB.out⟩
set_option maxRecDepth 100000 in
set_option maxHeartbeats 8000000 in
theorem turnedIn (ao : Option Addr) (n c : Nat) (l : List Int) (h : Nat) (w : World) (hl : Its w 0 ao n c l) (hh : h < 4294967296) (hn : n ≤ 500) :
    Calls Try.prog 5 #[.slice ao n c, .int .u32 h] w fun e w' => e = .returned (.bool true) ∧ Below w.heap.size w w' := by
  have HI := hide hl
  have HH := hide hh
  have HN := hide hn
  have HLL : Hid (l.length = n) := hide hl.len
  have HBL := hide hl.blk
  have hnc := hl.le
  have hcm := hl.mx
  unfold maxLen at hcm
  have g1 : ¬ (500 : Int) < (n : Int) := by omega
  have e0 : IntKind.i64.wrap ((n : Int) - 1) = (n : Int) - 1 := IntWalk.i64_in _ (by omega)
  clear hl hh hn
  go_enter Try.func5, Try.ntmps5
  go_wp2_with fail
  refine (awakeC _).mono ?_
  rintro e w1 ⟨rfl, B1⟩
  have HB := hide B1
  replace HI := hide (HI.out.on B1)
  obtain ⟨G, hG⟩ : ∃ G, G = w1.heap.size := ⟨_, rfl⟩
  have HGG := hide hG
  have HWG : Hid (w.heap.size ≤ G) := hide (by rw [hG]; exact B1.size)
  clear B1 hG
  go_wp2
  clear e0 g1
  go_loopg [6, 7] n (fun r v i wr => ∃ (p : Nat) (s : List Int), p ≤ n ∧ r = p ∧ i = .int .i64 ((p : Int) - 1) ∧ IRow wr G v s.length s ∧ Bk l p s ∧ Below w.heap.size w wr ∧ Its wr 0 ao n c l ∧ G ≤ wr.heap.size)
  case atStart => exact ⟨n, [], Nat.le_refl _, rfl, rfl, IRow.nil _ _, by rw [← HLL.out]; exact bk_start l, HB.out, HI.out, by rw [HGG.out]; exact Nat.le_refl _⟩
  case round =>
    obtain ⟨p, s, hp, hr, rfl, hR, hK, hB, hI, hg⟩ := hrel
    clear HB HI
    have HR := hide hR
    have HK := hide hK
    have HB := hide hB
    have HI := hide hI
    have HGR := hide hg
    have HRK := hide hr
    clear hR hB hI hg hr hK
    by_cases hc : 0 < p
    · obtain ⟨j, rfl⟩ : ∃ j, p = j + 1 := ⟨p - 1, by omega⟩
      obtain ⟨x, hx⟩ : ∃ x, l[j]? = some x := ⟨_, List.getElem?_eq_getElem (by rw [HLL.out]; omega)⟩
      obtain ⟨y, hy⟩ : ∃ y, l[j / 2]? = some y := ⟨_, List.getElem?_eq_getElem (by rw [HLL.out]; omega)⟩
      obtain ⟨b, oo, rfl, hcell, -⟩ := HI.out.at (show 0 < n by omega)
      have cx := hcell j (by omega)
      rw [List.getD_eq_getElem?_getD, hx] at cx
      have cy := hcell (j / 2) (by omega)
      rw [List.getD_eq_getElem?_getD, hy] at cy
      have cx2 : wr.cell? ⟨b, oo + j, none⟩ = some (.int .i64 x) := cx
      have cy2 : wr.cell? ⟨b, oo + j / 2, none⟩ = some (.int .i64 y) := cy
      have HKN := hide (bk_next HK.out hx hy)
      rw [show (((j + 1 : Nat) : Int)) - 1 = (j : Int) by omega]
      have n0 : (0 : Int) ≤ (j : Int) := by omega
      have n1 : (j : Int) < (n : Int) := by omega
      have e1 : IntKind.i64.wrap ((j : Int) - 1) = (j : Int) - 1 := IntWalk.i64_in _ (by have := HN.out; omega)
      obtain ⟨d, hd⟩ : ∃ d, d = j / 2 := ⟨_, rfl⟩
      rw [← hd] at cy2
      have e2 : (j : Int).tdiv 2 = (d : Int) := by rw [Int.tdiv_eq_ediv_of_nonneg (by omega)]; omega
      have e2' : (j : Int) / 2 = (d : Int) := by omega
      have e3 : IntKind.i64.wrap (d : Int) = (d : Int) := IntWalk.i64_in _ (by have := HN.out; omega)
      have n2 : (0 : Int) ≤ (d : Int) := by omega
      have n3 : (d : Int) < (n : Int) := by omega
      have HCX := hide (And.intro cx2 cy2)
      clear hx hy hcell cx cy hd cx2 cy2
      go_wp2_with fail
      refine wp_region_held_drew (S := fun w' => w'.cell? ⟨b, oo + j, none⟩ = some (.int .i64 x) ∧ w'.cell? ⟨b, oo + d, none⟩ = some (.int .i64 y)) (by kernel_rfl) ⟨HCX.out.1, HCX.out.2⟩ (fun hHeld => ?_)
      have bd : Below wr.heap.size wr wr.drew := ⟨rfl, rfl, rfl, Nat.le_refl _, fun _ _ => rfl⟩
      replace HR := hide (HR.out.on bd)
      replace HB := hide (HB.out.trans (bd.mono (Nat.le_trans HWG.out HGR.out)))
      replace HI := hide (HI.out.on bd)
      replace HGR : Hid (G ≤ wr.drew.heap.size) := hide HGR.out
      clear bd HCX
      generalize wr.drew = u0 at *
      refine wpAnyH_take (i := 0) (v := u6) rfl (by kernel_rfl) (by kernel_rfl) (by kernel_rfl) (fun _ _ _ h => h) (Or.inl ⟨by rfl, ?_⟩) hHeld ?_
      · intro W hW; (try dsimp only at hW); clear hW; go_simp
      change wpAnyH _ _ _ _ _ _ _ ⟨#[.slice (some ⟨b, oo, none⟩) n c,_,_,_,_,_,u6,.int .i64 (j : Int),_,_,_,_,_,_,_,_,_,_,_,_,_,_,_,_,_,_,_,_,_,_,u6,_,_,_,_,_,_,_,_,_,_,_,_,_,_,_,_,_,_,_,_,_,_,_,_,_,_,_,_,_,_,_,_,_,_,_,_,_,_,_,_,_,_,_,_,_,_,_,_,_,_,_], []⟩ _
      refine wpAnyH_take (i := 1) (v := .slice (some ⟨b, oo, none⟩) n c) rfl (by kernel_rfl) (by kernel_rfl) (by kernel_rfl) (fun _ _ _ h => h) (Or.inl ⟨by rfl, ?_⟩) hHeld ?_
      · intro W hW; (try dsimp only at hW); clear hW; go_simp
      change wpAnyH _ _ _ _ _ _ _ ⟨#[.slice (some ⟨b, oo, none⟩) n c,_,_,_,_,_,u6,.int .i64 (j : Int),_,_,_,_,_,_,_,_,_,_,_,_,_,_,_,_,_,_,_,_,_,_,u6,.slice (some ⟨b, oo, none⟩) n c,_,_,_,_,_,_,_,_,_,_,_,_,_,_,_,_,_,_,_,_,_,_,_,_,_,_,_,_,_,_,_,_,_,_,_,_,_,_,_,_,_,_,_,_,_,_,_,_,_,_], []⟩ _
      refine wpAnyH_take (i := 2) (v := .int .i64 (j : Int)) rfl (by kernel_rfl) (by kernel_rfl) (by kernel_rfl) (fun _ _ _ h => h) (Or.inl ⟨by rfl, ?_⟩) hHeld ?_
      · intro W hW; (try dsimp only at hW); clear hW; go_simp
      change wpAnyH _ _ _ _ _ _ _ ⟨#[.slice (some ⟨b, oo, none⟩) n c,_,_,_,_,_,u6,.int .i64 (j : Int),_,_,_,_,_,_,_,_,_,_,_,_,_,_,_,_,_,_,_,_,_,_,u6,.slice (some ⟨b, oo, none⟩) n c,.int .i64 (j : Int),_,_,_,_,_,_,_,_,_,_,_,_,_,_,_,_,_,_,_,_,_,_,_,_,_,_,_,_,_,_,_,_,_,_,_,_,_,_,_,_,_,_,_,_,_,_,_,_,_], []⟩ _
      refine wpAnyH_take (i := 3) (v := .pointer (some ⟨b, oo + j, none⟩)) rfl (by kernel_rfl) (by kernel_rfl) (by kernel_rfl) (fun _ _ _ h => h) (Or.inl ⟨by rfl, ?_⟩) hHeld ?_
      · intro W hW; (try dsimp only at hW); clear hW; go_simp
      change wpAnyH _ _ _ _ _ _ _ ⟨#[.slice (some ⟨b, oo, none⟩) n c,_,_,_,_,_,u6,.int .i64 (j : Int),_,_,_,_,_,_,_,_,_,_,_,_,_,_,_,_,_,_,_,_,_,_,u6,.slice (some ⟨b, oo, none⟩) n c,.int .i64 (j : Int),.pointer (some ⟨b, oo + j, none⟩),_,_,_,_,_,_,_,_,_,_,_,_,_,_,_,_,_,_,_,_,_,_,_,_,_,_,_,_,_,_,_,_,_,_,_,_,_,_,_,_,_,_,_,_,_,_,_,_], []⟩ _
      refine wpAnyH_take (i := 4) (v := .int .i64 x) rfl (by kernel_rfl) (by kernel_rfl) (by kernel_rfl) (fun _ _ _ h => h) (Or.inl ⟨by rfl, ?_⟩) hHeld ?_
      · intro W hW; (try dsimp only at hW); have hc := hW.1; clear hW; go_simp
      change wpAnyH _ _ _ _ _ _ _ ⟨#[.slice (some ⟨b, oo, none⟩) n c,_,_,_,_,_,u6,.int .i64 (j : Int),_,_,_,_,_,_,_,_,_,_,_,_,_,_,_,_,_,_,_,_,_,_,u6,.slice (some ⟨b, oo, none⟩) n c,.int .i64 (j : Int),.pointer (some ⟨b, oo + j, none⟩),.int .i64 x,_,_,_,_,_,_,_,_,_,_,_,_,_,_,_,_,_,_,_,_,_,_,_,_,_,_,_,_,_,_,_,_,_,_,_,_,_,_,_,_,_,_,_,_,_,_,_], []⟩ _
      refine wpAnyH_take (i := 5) (v := .slice (some ⟨b, oo, none⟩) n c) rfl (by kernel_rfl) (by kernel_rfl) (by kernel_rfl) (fun _ _ _ h => h) (Or.inl ⟨by rfl, ?_⟩) hHeld ?_
      · intro W hW; (try dsimp only at hW); clear hW; go_simp
      change wpAnyH _ _ _ _ _ _ _ ⟨#[.slice (some ⟨b, oo, none⟩) n c,_,_,_,_,_,u6,.int .i64 (j : Int),_,_,_,_,_,_,_,_,_,_,_,_,_,_,_,_,_,_,_,_,_,_,u6,.slice (some ⟨b, oo, none⟩) n c,.int .i64 (j : Int),.pointer (some ⟨b, oo + j, none⟩),.int .i64 x,.slice (some ⟨b, oo, none⟩) n c,_,_,_,_,_,_,_,_,_,_,_,_,_,_,_,_,_,_,_,_,_,_,_,_,_,_,_,_,_,_,_,_,_,_,_,_,_,_,_,_,_,_,_,_,_,_], []⟩ _
      refine wpAnyH_take (i := 6) (v := .int .i64 (j : Int)) rfl (by kernel_rfl) (by kernel_rfl) (by kernel_rfl) (fun _ _ _ h => h) (Or.inl ⟨by rfl, ?_⟩) hHeld ?_
      · intro W hW; (try dsimp only at hW); clear hW; go_simp
      change wpAnyH _ _ _ _ _ _ _ ⟨#[.slice (some ⟨b, oo, none⟩) n c,_,_,_,_,_,u6,.int .i64 (j : Int),_,_,_,_,_,_,_,_,_,_,_,_,_,_,_,_,_,_,_,_,_,_,u6,.slice (some ⟨b, oo, none⟩) n c,.int .i64 (j : Int),.pointer (some ⟨b, oo + j, none⟩),.int .i64 x,.slice (some ⟨b, oo, none⟩) n c,.int .i64 (j : Int),_,_,_,_,_,_,_,_,_,_,_,_,_,_,_,_,_,_,_,_,_,_,_,_,_,_,_,_,_,_,_,_,_,_,_,_,_,_,_,_,_,_,_,_,_], []⟩ _
      refine wpAnyH_take (i := 7) (v := .int .i64 (d : Int)) rfl (by kernel_rfl) (by kernel_rfl) (by kernel_rfl) (fun _ _ _ h => h) (Or.inl ⟨by rfl, ?_⟩) hHeld ?_
      · intro W hW; (try dsimp only at hW); clear hW; go_simp
      change wpAnyH _ _ _ _ _ _ _ ⟨#[.slice (some ⟨b, oo, none⟩) n c,_,_,_,_,_,u6,.int .i64 (j : Int),_,_,_,_,_,_,_,_,_,_,_,_,_,_,_,_,_,_,_,_,_,_,u6,.slice (some ⟨b, oo, none⟩) n c,.int .i64 (j : Int),.pointer (some ⟨b, oo + j, none⟩),.int .i64 x,.slice (some ⟨b, oo, none⟩) n c,.int .i64 (j : Int),.int .i64 (d : Int),_,_,_,_,_,_,_,_,_,_,_,_,_,_,_,_,_,_,_,_,_,_,_,_,_,_,_,_,_,_,_,_,_,_,_,_,_,_,_,_,_,_,_,_], []⟩ _
      refine wpAnyH_take (i := 8) (v := .pointer (some ⟨b, oo + d, none⟩)) rfl (by kernel_rfl) (by kernel_rfl) (by kernel_rfl) (fun _ _ _ h => h) (Or.inl ⟨by rfl, ?_⟩) hHeld ?_
      · intro W hW; (try dsimp only at hW); clear hW; go_simp
      change wpAnyH _ _ _ _ _ _ _ ⟨#[.slice (some ⟨b, oo, none⟩) n c,_,_,_,_,_,u6,.int .i64 (j : Int),_,_,_,_,_,_,_,_,_,_,_,_,_,_,_,_,_,_,_,_,_,_,u6,.slice (some ⟨b, oo, none⟩) n c,.int .i64 (j : Int),.pointer (some ⟨b, oo + j, none⟩),.int .i64 x,.slice (some ⟨b, oo, none⟩) n c,.int .i64 (j : Int),.int .i64 (d : Int),.pointer (some ⟨b, oo + d, none⟩),_,_,_,_,_,_,_,_,_,_,_,_,_,_,_,_,_,_,_,_,_,_,_,_,_,_,_,_,_,_,_,_,_,_,_,_,_,_,_,_,_,_,_], []⟩ _
      refine wpAnyH_take (i := 9) (v := .int .i64 y) rfl (by kernel_rfl) (by kernel_rfl) (by kernel_rfl) (fun _ _ _ h => h) (Or.inl ⟨by rfl, ?_⟩) hHeld ?_
      · intro W hW; (try dsimp only at hW); have hc := hW.2; clear hW; go_simp
      change wpAnyH _ _ _ _ _ _ _ ⟨#[.slice (some ⟨b, oo, none⟩) n c,_,_,_,_,_,u6,.int .i64 (j : Int),_,_,_,_,_,_,_,_,_,_,_,_,_,_,_,_,_,_,_,_,_,_,u6,.slice (some ⟨b, oo, none⟩) n c,.int .i64 (j : Int),.pointer (some ⟨b, oo + j, none⟩),.int .i64 x,.slice (some ⟨b, oo, none⟩) n c,.int .i64 (j : Int),.int .i64 (d : Int),.pointer (some ⟨b, oo + d, none⟩),.int .i64 y,_,_,_,_,_,_,_,_,_,_,_,_,_,_,_,_,_,_,_,_,_,_,_,_,_,_,_,_,_,_,_,_,_,_,_,_,_,_,_,_,_,_], []⟩ _
      refine wpAnyH_ready (rs := [10]) (by kernel_rfl) (by simp) ?_
      refine AllReadyH.cons rfl (fun K hK => ?_) AllReadyH.nil
      rw [if_pos (by rfl)]
      refine wp_bsI (.tmp 34) (.tmp 39) x y rfl rfl rfl ?_
      have bU := below_alloc u0 (.cells #[.int .i64 x, .int .i64 y] 3)
      have hS1 := hide (two_src u0 x y)
      have hbl := HBL.out b oo rfl (by omega)
      have low : b < u0.heap.size := by have := HWG.out; have := HGR.out; omega
      refine hK.out _ _ ⟨(bU.cell (p := ⟨b, oo + j, none⟩) low).trans hHeld.1, (bU.cell (p := ⟨b, oo + d, none⟩) low).trans hHeld.2⟩ (fun hHeld => ?_)
      clear hK K
      replace HR := hide (HR.out.alloc (.cells #[.int .i64 x, .int .i64 y] 3))
      replace HB := hide (HB.out.trans (bU.mono (Nat.le_trans HWG.out HGR.out)))
      replace HI := hide (HI.out.on bU)
      have hgs : G ≤ (u0.alloc (.cells #[.int .i64 x, .int .i64 y] 3)).heap.size := Nat.le_trans HGR.out bU.size
      replace HGR := hide hgs
      obtain ⟨kS, hkS⟩ : ∃ kS, kS = u0.heap.size := ⟨_, rfl⟩
      rw [← hkS] at hS1 ⊢
      clear bU low hgs hkS
      generalize u0.alloc (.cells #[.int .i64 x, .int .i64 y] 3) = u1 at *
      change wpAnyH _ _ _ _ _ _ _ ⟨#[.slice (some ⟨b, oo, none⟩) n c,_,_,_,_,_,u6,.int .i64 (j : Int),_,_,_,_,_,_,_,_,_,_,_,_,_,_,_,_,_,_,_,_,_,_,u6,.slice (some ⟨b, oo, none⟩) n c,.int .i64 (j : Int),.pointer (some ⟨b, oo + j, none⟩),.int .i64 x,.slice (some ⟨b, oo, none⟩) n c,.int .i64 (j : Int),.int .i64 (d : Int),.pointer (some ⟨b, oo + d, none⟩),.int .i64 y,.slice (some ⟨kS, 0, none⟩) 2 2,_,_,_,_,_,_,_,_,_,_,_,_,_,_,_,_,_,_,_,_,_,_,_,_,_,_,_,_,_,_,_,_,_,_,_,_,_,_,_,_,_], []⟩ _
      refine wpAnyH_ready (rs := [11]) (by kernel_rfl) (by simp) ?_
      refine AllReadyH.cons rfl (fun K hK => ?_) AllReadyH.nil
      rw [if_pos (by rfl)]
      refine wp_iapp (.tmp 30) (.tmp 40) rfl rfl G u6 s.length s rfl HR.out _ 2 2 [x, y] rfl hS1.out (by have := HK.out.len; have := HN.out; have := HLL.out; omega) HGR.out ?_
      intro v9 w9 R9 B9
      refine hK.out _ _ ⟨(B9.cell (p := ⟨b, oo + j, none⟩) (Nat.lt_of_lt_of_le hbl HWG.out)).trans hHeld.1, (B9.cell (p := ⟨b, oo + d, none⟩) (Nat.lt_of_lt_of_le hbl HWG.out)).trans hHeld.2⟩ (fun hHeld => ?_)
      clear hK K
      have HR9 : Hid (IRow w9 G v9 (s ++ [x, y]).length (s ++ [x, y])) := hide (by rw [List.length_append]; exact R9)
      have HB9 := hide (HB.out.trans (B9.mono HWG.out))
      have HI9 := hide (HI.out.low (fun b' o' e hn => Nat.lt_of_lt_of_le (HBL.out b' o' e hn) HWG.out) B9)
      have HG9 : Hid (G ≤ w9.heap.size) := hide (Nat.le_trans HGR.out B9.size)
      clear R9 B9 HR HB HI
      change wpAnyH _ _ _ _ _ _ _ ⟨#[.slice (some ⟨b, oo, none⟩) n c,_,_,_,_,_,u6,.int .i64 (j : Int),_,_,_,_,_,_,_,_,_,_,_,_,_,_,_,_,_,_,_,_,_,_,u6,.slice (some ⟨b, oo, none⟩) n c,.int .i64 (j : Int),.pointer (some ⟨b, oo + j, none⟩),.int .i64 x,.slice (some ⟨b, oo, none⟩) n c,.int .i64 (j : Int),.int .i64 (d : Int),.pointer (some ⟨b, oo + d, none⟩),.int .i64 y,.slice (some ⟨kS, 0, none⟩) 2 2,v9,_,_,_,_,_,_,_,_,_,_,_,_,_,_,_,_,_,_,_,_,_,_,_,_,_,_,_,_,_,_,_,_,_,_,_,_,_,_,_,_], []⟩ _
      refine wpAnyH_take (i := 12) (v := v9) rfl (by kernel_rfl) (by kernel_rfl) (by kernel_rfl) (fun _ _ _ h => h) (Or.inl ⟨by rfl, ?_⟩) hHeld ?_
      · intro W hW; (try dsimp only at hW); clear hW; go_simp
      change wpAnyH _ _ _ _ _ _ _ ⟨#[.slice (some ⟨b, oo, none⟩) n c,_,_,_,_,_,v9,.int .i64 (j : Int),_,_,_,_,_,_,_,_,_,_,_,_,_,_,_,_,_,_,_,_,_,_,u6,.slice (some ⟨b, oo, none⟩) n c,.int .i64 (j : Int),.pointer (some ⟨b, oo + j, none⟩),.int .i64 x,.slice (some ⟨b, oo, none⟩) n c,.int .i64 (j : Int),.int .i64 (d : Int),.pointer (some ⟨b, oo + d, none⟩),.int .i64 y,.slice (some ⟨kS, 0, none⟩) 2 2,v9,_,_,_,_,_,_,_,_,_,_,_,_,_,_,_,_,_,_,_,_,_,_,_,_,_,_,_,_,_,_,_,_,_,_,_,_,_,_,_,_], []⟩ _
      refine wpAnyH_done (by kernel_rfl) ?_ _
      clear hHeld
      go_wp2
      go_roundg j
      case measure => rw [HRK.out]; omega
      case rel => exact ⟨j, _, by omega, rfl, rfl, HR9.out, HKN.out, HB9.out, HI9.out, HG9.out⟩
    · obtain rfl : p = 0 := by omega
      obtain ⟨a9, c9, rfl, I9⟩ := its_of_row HR.out
      have HI9 := hide I9
      have g2 : ¬ (0 : Int) ≤ ((0 : Nat) : Int) - 1 := by omega
      have hsl : s.length = 2 * n := by rw [HK.out.len, HLL.out]; omega
      have hcE := chA_same (h := h) (bk_end HK.out) (by rw [HLL.out]; exact hsl)
      have HMM := hide (chA_mem h l HLL.out)
      rw [hsl] at HI9 ⊢
      clear hc I9 HR HRK hp hsl
      go_wp2_with fail
      refine (chooseA ao n c l h _ HI.out HH.out).mono ?_
      rintro e w2 ⟨rfl, B2⟩
      replace HB := hide (belowOn HB.out B2)
      replace HI := hide (HI.out.on B2)
      replace HI9 := hide (HI9.out.on B2)
      clear B2
      obtain ⟨m, hm⟩ : ∃ m, m = chA h l := ⟨_, rfl⟩
      obtain ⟨is, his⟩ : ∃ is, is = decide (0 < n) := ⟨_, rfl⟩
      rw [← hm] at hcE HMM
      rw [← his] at HMM
      rw [← hm, ← his]
      have HIS := hide his
      clear hm his
      go_wp2_with fail
      refine (chooseA a9 (2 * n) c9 s h _ HI9.out HH.out).mono ?_
      rintro e w3 ⟨rfl, B3⟩
      replace HB := hide (belowOn HB.out B3)
      replace HI := hide (HI.out.on B3)
      have e9 : decide (0 < 2 * n) = is := by
        rw [HIS.out]
        by_cases h0 : 0 < n
        · rw [decide_eq_true h0, decide_eq_true (show 0 < 2 * n by omega)]
        · rw [decide_eq_false h0, decide_eq_false (show ¬ 0 < 2 * n by omega)]
      rw [hcE, e9]
      clear B3 HI9 hcE e9 HK HGR g2
      go_wp2
      go_loopg [12, 13] n (fun r v i wr => ∃ q : Nat, q ≤ n ∧ r = n - q ∧ v = .bool (decide (m ∈ l.take q)) ∧ i = .int .i64 q ∧ Below w.heap.size w wr ∧ Its wr 0 ao n c l)
      case atStart => exact ⟨0, Nat.zero_le _, rfl, by simp, rfl, HB.out, HI.out⟩
      case round =>
        obtain ⟨q, hq, hr, rfl, rfl, hB, hI⟩ := hrel
        clear HB HI
        have HB := hide hB
        have HI := hide hI
        have HRK := hide hr
        clear hB hI hr
        by_cases hc : q < n
        · obtain ⟨y, hy⟩ : ∃ y, l[q]? = some y := ⟨_, List.getElem?_eq_getElem (by rw [HLL.out]; exact hc)⟩
          obtain ⟨b, oo, rfl, hcell, -⟩ := HI.out.at (show 0 < n by omega)
          have cq := hcell q hc
          rw [List.getD_eq_getElem?_getD, hy] at cq
          have HT := hide (mem_take (m := m) hy)
          have hq2 : (q : Int) < (n : Int) := by omega
          have n0 : (0 : Int) ≤ (q : Int) := by omega
          have e1 : IntKind.i64.wrap ((q : Int) + 1) = (q : Int) + 1 := IntWalk.i64_in _ (by have := HN.out; omega)
          have cq2 : wr.cell? ⟨b, oo + q, none⟩ = some (.int .i64 y) := cq
          clear hy hcell cq
          obtain ⟨z, hz⟩ : ∃ z, z = decide (m ∈ l.take q) := ⟨_, rfl⟩
          rw [← hz] at HT ⊢
          clear hz
          rcases Bool.eq_false_or_eq_true z with rfl | rfl
          · go_wp2
            go_roundg (n - (q + 1))
            case measure => rw [HRK.out]; omega
            case rel => exact ⟨q + 1, by omega, rfl, by rw [HT.out]; first | rfl | simp, by go_num, HB.out, HI.out⟩
          · go_wp2
            go_roundg (n - (q + 1))
            case measure => rw [HRK.out]; omega
            case rel => exact ⟨q + 1, by omega, rfl, by rw [HT.out]; first | rfl | simp, by go_num, HB.out, HI.out⟩
        · obtain rfl : q = n := by omega
          have hq2 : ¬ (q : Int) < (q : Int) := by omega
          rw [List.take_of_length_le (show l.length ≤ q by rw [HLL.out]; exact Nat.le_refl _), HMM.out]
          clear hc hq
          cases is
          all_goals
            go_wp2
            go_ret
            exact ⟨ret_bool (by first | rfl | simp), HB.out⟩
theorem turnedWalk (ao : Option Addr) (n c : Nat) (l : List Int) (h : Nat) (w : World) (hl : Its w 0 ao n c l) (hh : h < 4294967296) :
    Calls Try.prog 5 #[.slice ao n c, .int .u32 h] w fun e w' => e = .returned (.bool true) ∧ Below w.heap.size w w' := by
  by_cases hn : 500 < n
  · exact turnedOut ao n c h w hn
  · exact turnedIn ao n c l h w hl hh (by omega)
set_option maxRecDepth 100000 in
set_option maxHeartbeats 2000000 in
theorem pickTurnedlifted (os : Os) (started : os.Started) (H : Type) (enc : TypeId × Value → H) :
    ReturnsInHanded {} Try.checked os 5 .any (Rows.pickTurnedSpec.pre6 enc Try.prog Try.f5 Rows.pickTurnedRow.domain false) (Rows.pickTurnedSpec.post enc Try.prog Try.f5 false true false false) := by
  refine returnsInHanded_of_change (C := Try.checked) own started (by kernel_rfl) Try.func5
    (ChangeSpec.witness6 (enc := enc) (C := Try.checked) false ⟨#[], #[.slice none 0 0, .int .u32 0], []⟩ 8 (by kernel_rfl) (by kernel_rfl) (by kernel_rfl) (by kernel_rfl)) ?_
  intro W base args ds gs before hval0 hW _ _
  have hval : ∀ (j : Nat) t v, Try.f5.params[j]? = some t → args[j]? = some v → Value.okWide Try.prog W .any base t v := hval0
  have hW' := hW
  obtain ⟨p, q, hA0, hV, rfl, _, _⟩ := hW
  have hA : DataW.TrodAll enc Try.prog W 0 (fun _ => true) true Try.f5.params.toList args.toList ds p := hA0
  rw [Try.params5] at hA hval
  obtain ⟨v0, vs0, d0, ds0, p0, q0, hargs, rfl, rfl, h0, r0⟩ := trodAll_cons hA
  obtain ⟨v1, vs1, d1, ds1, p1, q1, rfl, rfl, rfl, h1, r1⟩ := trodAll_cons r0
  obtain ⟨rfl, rfl, rfl⟩ := trodAll_nil r1
  obtain rfl : args = #[v0, v1] := by cases args; simp_all
  obtain ⟨rfl, rfl⟩ := trodVars_none hV
  have h0k := h0
  obtain ⟨ao0, n0, c0, ss0, rfl, hs0⟩ := open_list (hval 0 32 v0 rfl rfl) h0
  have h1k := h1
  obtain ⟨x1, rfl, hx1⟩ := open_hash (hval 1 27 v1 rfl rfl) h1
  clear hA0 hval0
  simp only [List.append_nil] at hW'
  have hlt : ∀ x ∈ p0 ++ p1, x.block < W.heap.size := fun x hx => by simpa using hW'.lt x (by simpa using hx)
  refine (turnedWalk ao0 n0 c0 ss0 x1 W hs0 hx1).mono fun e W' ⟨he, hbl⟩ => ?_
  subst he
  exact ⟨_, rfl, _, _, _, [], _, [], hW', (trodAll_cons_mk (shut_bool Try.underlying4 _) trodAll_mk0), (trodAll_cons_mk (Below.trod Try.laidOut (by kernel_rfl) (of_decide_eq_true (by kernel_rfl)) h0k hbl (fun x hx => hlt x (by simp [hx]))) (trodAll_cons_mk (Below.trod Try.laidOut (by kernel_rfl) (of_decide_eq_true (by kernel_rfl)) h1k hbl (fun x hx => hlt x (by simp [hx]))) trodAll_mk0)), rfl, hbl.frame _, fun h => by cases h⟩

theorem pickTurned_holds : Rows.PickTurnedSaid :=
  OpenClaim.holds_of_wide 5 Try.f5 rfl rfl rfl rfl rfl rfl rfl ⟨rfl, rfl, rfl, rfl, rfl⟩ rfl rfl rfl rfl rfl (by kernel_rfl) Try.func5 (by kernel_rfl)
    (of_decide_eq_true (by kernel_rfl)) (by unfold Func.isWrapper; first | (rw [if_pos (by decide +kernel)]; kernel_rfl) | (rw [if_neg (by decide +kernel)]; exact ⟨rfl, rfl⟩))
    (fun os started H enc _ => pickTurnedlifted os started H enc)

#print axioms pickTurned_holds
end Go.Proofs.Ytmpojeehjhpkbaa
