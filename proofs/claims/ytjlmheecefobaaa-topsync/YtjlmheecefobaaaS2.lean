/- Equality of changes; contracts of the two functions that compare lists. -/
import Derived.Test.YtjlmheecefobaaaS1
import Derived.Test.YtjlmheecefobaaaD4
namespace Go.Proofs.Ytjlmheecefobaaa
open Go.RowKit Go.PlainAid

set_option maxRecDepth 100000 in
theorem eqEntD (d : Nat) (x y : En) (w : World) : (Op.equalIn (d + 4) 36 (.agg (EC x)) (.agg (EC y))).run Try.prog w = .ok (eqE x y) w := by
  rw [show d + 4 = (d + 3) + 1 from rfl, run_equalIn_struct w (d + 3) 36 (EC x) (EC y) (by kernel_rfl) Try.st36, eqT_of, Try.fl36]
  have p0 : ∀ (x : En) (w : World), (part 3 (EC x) 0).run Try.prog w = .ok (.int .i64 x.v) w := fun _ _ => by kernel_rfl
  have p1 : ∀ (x : En) (w : World), (part 34 (EC x) 1).run Try.prog w = .ok (.agg (MC x.m)) w := fun _ _ => by kernel_rfl
  have p7 : ∀ (x : En) (w : World), (part 3 (EC x) 7).run Try.prog w = .ok (.int .i64 x.p) w := fun _ _ => by kernel_rfl
  have p8 : ∀ (x : En) (w : World), (part 3 (EC x) 8).run Try.prog w = .ok (.int .i64 x.t) w := fun _ _ => by kernel_rfl
  have p9 : ∀ (x : En) (w : World), (part 4 (EC x) 9).run Try.prog w = .ok (.bool x.s) w := fun _ _ => by kernel_rfl
  have pe : ∀ (x y : Int) (w : World), (Op.equalIn (d + 3) 3 (.int .i64 x) (.int .i64 y)).run Try.prog w = .ok (x == y) w := fun x y w => run_equalIn_int w (d + 2) 3 _ _ x y Try.underlying3
  have pb : ∀ (x y : Bool) (w : World), (Op.equalIn (d + 3) 4 (.bool x) (.bool y)).run Try.prog w = .ok (x == y) w := fun x y w => by cases x <;> cases y <;> kernel_rfl
  have pm := eqMacD (d + 1)
  simp only [eqT, if_true, Sem.run_bind, p0, pe, Result.andThen_ok]
  refine run_if_and w _ _ _ ?_
  simp only [Sem.run_bind, p1, pm, Result.andThen_ok]
  refine run_if_and w _ _ _ ?_
  simp only [Sem.run_bind, p7, pe, Result.andThen_ok]
  refine run_if_and w _ _ _ ?_
  simp only [Sem.run_bind, p8, pe, Result.andThen_ok]
  refine run_if_and w _ _ _ ?_
  simp only [Sem.run_bind, p9, pb, Result.andThen_ok]
  cases x.s == y.s <;> rfl
theorem Try.fl54 : (Try.prog.fieldsOf 54).toList.map (fun f => (decide (f.name ≠ "_"), f.type, f.offset)) = [(true, 3, 0), (true, 36, 1), (true, 4, 11)] := by kernel_rfl
theorem Try.st54 : Try.prog.stoodInHeld 54 = false := by kernel_rfl
set_option maxRecDepth 100000 in
theorem eqChg (x y : Ch) (w : World) : (Op.equalIn 10000 54 (.agg (CC x)) (.agg (CC y))).run Try.prog w = .ok (eqC x y) w := by
  rw [show 10000 = 9999 + 1 from rfl, run_equalIn_struct w 9999 54 (CC x) (CC y) (by kernel_rfl) Try.st54, eqT_of, Try.fl54]
  have p0 : ∀ (x : Ch) (w : World), (part 3 (CC x) 0).run Try.prog w = .ok (.int .i64 x.q) w := fun _ _ => by kernel_rfl
  have p1 : ∀ (x : Ch) (w : World), (part 36 (CC x) 1).run Try.prog w = .ok (.agg (EC x.x)) w := fun _ _ => by kernel_rfl
  have p9 : ∀ (x : Ch) (w : World), (part 4 (CC x) 11).run Try.prog w = .ok (.bool x.g) w := fun _ _ => by kernel_rfl
  have pe : ∀ (x y : Int) (w : World), (Op.equalIn 9999 3 (.int .i64 x) (.int .i64 y)).run Try.prog w = .ok (x == y) w := fun x y w => run_equalIn_int w 9998 3 _ _ x y Try.underlying3
  have pb : ∀ (x y : Bool) (w : World), (Op.equalIn 9999 4 (.bool x) (.bool y)).run Try.prog w = .ok (x == y) w := fun x y w => by cases x <;> cases y <;> kernel_rfl
  have pm := eqEntD 9995
  simp only [eqT, if_true, Sem.run_bind, p0, pe, Result.andThen_ok]
  refine run_if_and w _ _ _ ?_
  simp only [Sem.run_bind, p1, pm, Result.andThen_ok]
  refine run_if_and w _ _ _ ?_
  simp only [Sem.run_bind, p9, pb, Result.andThen_ok]
  cases x.g == y.g <;> rfl
set_option maxRecDepth 100000 in
set_option maxHeartbeats 2000000 in
theorem same20 (l : List En) (n1 n2 : Nat) (ao ao' : Option Addr) (c d : Nat) (w : World) (E : Sl ecl 10 w w.heap.size ao n1 c l) (F : Sl ecl 10 w w.heap.size ao' n2 d l) :
    Calls Try.prog 20 #[.slice ao n1 c, .slice ao' n2 d] w fun e w' => e = .returned (.bool true) ∧ Below w.heap.size w w' := by
  have HE := hide E
  have HF := hide F
  have h1 := E.le
  have h2 := E.mx
  have hln : Hid (l.length = n1) := hide E.len
  obtain rfl : n2 = n1 := by rw [← E.len, ← F.len]
  unfold maxLen at h2
  clear E F
  have hne : ((n2 : Int) != (n2 : Int)) = false := by simp
  go_enter Try.func20, Try.ntmps20
  go_wp2
  go_loopw [5] (fun i wr => ∃ k q : Nat, k ≤ n2 ∧ i = .int .i64 k ∧ wr = w.drewN q) (fun i _ => n2 - (intOf i).toNat)
  case atStart => exact ⟨0, 0, Nat.zero_le _, rfl, rfl⟩
  case round =>
    obtain ⟨k, q, hk, rfl, rfl⟩ := hrel
    by_cases hkl : k < n2
    · obtain ⟨x, hx⟩ : ∃ x, l[k]? = some x := ⟨_, List.getElem?_eq_getElem (by rw [hln.out]; exact hkl)⟩
      obtain ⟨b1, o1, rfl, -, A1⟩ := HE.out.cell k x hx
      obtain ⟨b2, o2, rfl, -, A2⟩ := HF.out.cell k x hx
      have hk2 : (k : Int) < (n2 : Int) := by omega
      have e1 : IntKind.i64.wrap ((k : Int) + 1) = (k : Int) + 1 := IntWalk.i64_in _ (by omega)
      clear hx
      go_wp2_with fail
      refine wp_region_held_drew (S := fun w' => w'.rangeAt b1 (o1 + k * 10) (ecl x) ∧ w'.rangeAt b2 (o2 + k * 10) (ecl x)) (by kernel_rfl) ⟨A1, A2⟩ (fun hHeld => ?_)
      refine wpAnyH_take (i := 0) (v := .slice (some ⟨b1, o1, none⟩) n2 c) rfl (by kernel_rfl) (by kernel_rfl) (by kernel_rfl) (fun _ _ _ h => h) (Or.inl ⟨by rfl, ?_⟩) hHeld ?_
      · intro W hW; (try dsimp only at hW); go_simp
      change wpAnyH _ _ _ _ _ _ _ ⟨#[.slice (some ⟨b1, o1, none⟩) n2 c,.slice (some ⟨b2, o2, none⟩) n2 d,_,_,_,.int .i64 (k : Int),_,_,_,_,_,_,_,_,_,_,_,.slice (some ⟨b1, o1, none⟩) n2 c,_,_,_,_,_,_,_,_], []⟩ _
      refine wpAnyH_take (i := 1) (v := .int .i64 (k : Int)) rfl (by kernel_rfl) (by kernel_rfl) (by kernel_rfl) (fun _ _ _ h => h) (Or.inl ⟨by rfl, ?_⟩) hHeld ?_
      · intro W hW; (try dsimp only at hW); go_simp
      change wpAnyH _ _ _ _ _ _ _ ⟨#[.slice (some ⟨b1, o1, none⟩) n2 c,.slice (some ⟨b2, o2, none⟩) n2 d,_,_,_,.int .i64 (k : Int),_,_,_,_,_,_,_,_,_,_,_,.slice (some ⟨b1, o1, none⟩) n2 c,.int .i64 (k : Int),_,_,_,_,_,_,_], []⟩ _
      refine wpAnyH_take (i := 2) (v := .pointer (some ⟨b1, o1 + k * 10, none⟩)) rfl (by kernel_rfl) (by kernel_rfl) (by kernel_rfl) (fun _ _ _ h => h) (Or.inl ⟨by rfl, ?_⟩) hHeld ?_
      · intro W hW; (try dsimp only at hW); go_simp
      change wpAnyH _ _ _ _ _ _ _ ⟨#[.slice (some ⟨b1, o1, none⟩) n2 c,.slice (some ⟨b2, o2, none⟩) n2 d,_,_,_,.int .i64 (k : Int),_,_,_,_,_,_,_,_,_,_,_,.slice (some ⟨b1, o1, none⟩) n2 c,.int .i64 (k : Int),.pointer (some ⟨b1, o1 + k * 10, none⟩),_,_,_,_,_,_], []⟩ _
      refine wpAnyH_take (i := 3) (v := .agg (EC x)) rfl (by kernel_rfl) (by kernel_rfl) (by kernel_rfl) (fun _ _ _ h => h) (yieldsIf_load_mid (by rfl) 36 (.tmp 19) rfl b1 (o1 + k * 10) rfl (ecl x) _ (fun W hW => hW.1) Try.underlying36 rfl Try.size36) hHeld ?_
      change wpAnyH _ _ _ _ _ _ _ ⟨#[.slice (some ⟨b1, o1, none⟩) n2 c,.slice (some ⟨b2, o2, none⟩) n2 d,_,_,_,.int .i64 (k : Int),_,_,_,_,_,_,_,_,_,_,_,.slice (some ⟨b1, o1, none⟩) n2 c,.int .i64 (k : Int),.pointer (some ⟨b1, o1 + k * 10, none⟩),.agg (EC x),_,_,_,_,_], []⟩ _
      refine wpAnyH_take (i := 4) (v := .slice (some ⟨b2, o2, none⟩) n2 d) rfl (by kernel_rfl) (by kernel_rfl) (by kernel_rfl) (fun _ _ _ h => h) (Or.inl ⟨by rfl, ?_⟩) hHeld ?_
      · intro W hW; (try dsimp only at hW); go_simp
      change wpAnyH _ _ _ _ _ _ _ ⟨#[.slice (some ⟨b1, o1, none⟩) n2 c,.slice (some ⟨b2, o2, none⟩) n2 d,_,_,_,.int .i64 (k : Int),_,_,_,_,_,_,_,_,_,_,_,.slice (some ⟨b1, o1, none⟩) n2 c,.int .i64 (k : Int),.pointer (some ⟨b1, o1 + k * 10, none⟩),.agg (EC x),.slice (some ⟨b2, o2, none⟩) n2 d,_,_,_,_], []⟩ _
      refine wpAnyH_take (i := 5) (v := .int .i64 (k : Int)) rfl (by kernel_rfl) (by kernel_rfl) (by kernel_rfl) (fun _ _ _ h => h) (Or.inl ⟨by rfl, ?_⟩) hHeld ?_
      · intro W hW; (try dsimp only at hW); go_simp
      change wpAnyH _ _ _ _ _ _ _ ⟨#[.slice (some ⟨b1, o1, none⟩) n2 c,.slice (some ⟨b2, o2, none⟩) n2 d,_,_,_,.int .i64 (k : Int),_,_,_,_,_,_,_,_,_,_,_,.slice (some ⟨b1, o1, none⟩) n2 c,.int .i64 (k : Int),.pointer (some ⟨b1, o1 + k * 10, none⟩),.agg (EC x),.slice (some ⟨b2, o2, none⟩) n2 d,.int .i64 (k : Int),_,_,_], []⟩ _
      refine wpAnyH_take (i := 6) (v := .pointer (some ⟨b2, o2 + k * 10, none⟩)) rfl (by kernel_rfl) (by kernel_rfl) (by kernel_rfl) (fun _ _ _ h => h) (Or.inl ⟨by rfl, ?_⟩) hHeld ?_
      · intro W hW; (try dsimp only at hW); go_simp
      change wpAnyH _ _ _ _ _ _ _ ⟨#[.slice (some ⟨b1, o1, none⟩) n2 c,.slice (some ⟨b2, o2, none⟩) n2 d,_,_,_,.int .i64 (k : Int),_,_,_,_,_,_,_,_,_,_,_,.slice (some ⟨b1, o1, none⟩) n2 c,.int .i64 (k : Int),.pointer (some ⟨b1, o1 + k * 10, none⟩),.agg (EC x),.slice (some ⟨b2, o2, none⟩) n2 d,.int .i64 (k : Int),.pointer (some ⟨b2, o2 + k * 10, none⟩),_,_], []⟩ _
      refine wpAnyH_take (i := 7) (v := .agg (EC x)) rfl (by kernel_rfl) (by kernel_rfl) (by kernel_rfl) (fun _ _ _ h => h) (yieldsIf_load_mid (by rfl) 36 (.tmp 23) rfl b2 (o2 + k * 10) rfl (ecl x) _ (fun W hW => hW.2) Try.underlying36 rfl Try.size36) hHeld ?_
      change wpAnyH _ _ _ _ _ _ _ ⟨#[.slice (some ⟨b1, o1, none⟩) n2 c,.slice (some ⟨b2, o2, none⟩) n2 d,_,_,_,.int .i64 (k : Int),_,_,_,_,_,_,_,_,_,_,_,.slice (some ⟨b1, o1, none⟩) n2 c,.int .i64 (k : Int),.pointer (some ⟨b1, o1 + k * 10, none⟩),.agg (EC x),.slice (some ⟨b2, o2, none⟩) n2 d,.int .i64 (k : Int),.pointer (some ⟨b2, o2 + k * 10, none⟩),.agg (EC x),_], []⟩ _
      refine wpAnyH_take (i := 8) (v := .bool false) rfl (by kernel_rfl) (by kernel_rfl) (by kernel_rfl) (fun _ _ _ h => h) (Or.inl ⟨by rfl, ?_⟩) hHeld ?_
      · intro W hW; (try dsimp only at hW); clear hW; have he := eqEnt x x; rw [(eqE_iff x x).2 rfl] at he; go_simp
      change wpAnyH _ _ _ _ _ _ _ ⟨#[.slice (some ⟨b1, o1, none⟩) n2 c,.slice (some ⟨b2, o2, none⟩) n2 d,_,_,_,.int .i64 (k : Int),_,_,_,_,_,_,_,_,_,_,_,.slice (some ⟨b1, o1, none⟩) n2 c,.int .i64 (k : Int),.pointer (some ⟨b1, o1 + k * 10, none⟩),.agg (EC x),.slice (some ⟨b2, o2, none⟩) n2 d,.int .i64 (k : Int),.pointer (some ⟨b2, o2 + k * 10, none⟩),.agg (EC x),.bool false], []⟩ _
      refine wpAnyH_done (by kernel_rfl) ?_ _
      go_wp2
      go_roundw
      case rel => exact ⟨k + 1, q + 1, by omega, by go_num, rfl⟩
      case measure => simp [intOf]; omega
    · have hk2 : ¬ (k : Int) < (n2 : Int) := by omega
      go_wp2
      go_ret
      exact ⟨rfl, ⟨rfl, rfl, rfl, Nat.le_refl _, fun _ _ => rfl⟩⟩
set_option maxRecDepth 100000 in
set_option maxHeartbeats 2000000 in
theorem same18 (l : List Ch) (n1 n2 : Nat) (ao ao' : Option Addr) (c d : Nat) (w : World) (E : Sl ccl 12 w w.heap.size ao n1 c l) (F : Sl ccl 12 w w.heap.size ao' n2 d l) :
    Calls Try.prog 18 #[.slice ao n1 c, .slice ao' n2 d] w fun e w' => e = .returned (.bool true) ∧ Below w.heap.size w w' := by
  have HE := hide E
  have HF := hide F
  have h1 := E.le
  have h2 := E.mx
  have hln : Hid (l.length = n1) := hide E.len
  obtain rfl : n2 = n1 := by rw [← E.len, ← F.len]
  unfold maxLen at h2
  clear E F
  have hne : ((n2 : Int) != (n2 : Int)) = false := by simp
  go_enter Try.func18, Try.ntmps18
  go_wp2
  go_loopw [5] (fun i wr => ∃ k q : Nat, k ≤ n2 ∧ i = .int .i64 k ∧ wr = w.drewN q) (fun i _ => n2 - (intOf i).toNat)
  case atStart => exact ⟨0, 0, Nat.zero_le _, rfl, rfl⟩
  case round =>
    obtain ⟨k, q, hk, rfl, rfl⟩ := hrel
    by_cases hkl : k < n2
    · obtain ⟨x, hx⟩ : ∃ x, l[k]? = some x := ⟨_, List.getElem?_eq_getElem (by rw [hln.out]; exact hkl)⟩
      obtain ⟨b1, o1, rfl, -, A1⟩ := HE.out.cell k x hx
      obtain ⟨b2, o2, rfl, -, A2⟩ := HF.out.cell k x hx
      have hk2 : (k : Int) < (n2 : Int) := by omega
      have e1 : IntKind.i64.wrap ((k : Int) + 1) = (k : Int) + 1 := IntWalk.i64_in _ (by omega)
      clear hx
      go_wp2_with fail
      refine wp_region_held_drew (S := fun w' => w'.rangeAt b1 (o1 + k * 12) (ccl x) ∧ w'.rangeAt b2 (o2 + k * 12) (ccl x)) (by kernel_rfl) ⟨A1, A2⟩ (fun hHeld => ?_)
      refine wpAnyH_take (i := 0) (v := .slice (some ⟨b1, o1, none⟩) n2 c) rfl (by kernel_rfl) (by kernel_rfl) (by kernel_rfl) (fun _ _ _ h => h) (Or.inl ⟨by rfl, ?_⟩) hHeld ?_
      · intro W hW; (try dsimp only at hW); go_simp
      change wpAnyH _ _ _ _ _ _ _ ⟨#[.slice (some ⟨b1, o1, none⟩) n2 c,.slice (some ⟨b2, o2, none⟩) n2 d,_,_,_,.int .i64 (k : Int),_,_,_,_,_,_,_,_,_,_,_,.slice (some ⟨b1, o1, none⟩) n2 c,_,_,_,_,_,_,_,_], []⟩ _
      refine wpAnyH_take (i := 1) (v := .int .i64 (k : Int)) rfl (by kernel_rfl) (by kernel_rfl) (by kernel_rfl) (fun _ _ _ h => h) (Or.inl ⟨by rfl, ?_⟩) hHeld ?_
      · intro W hW; (try dsimp only at hW); go_simp
      change wpAnyH _ _ _ _ _ _ _ ⟨#[.slice (some ⟨b1, o1, none⟩) n2 c,.slice (some ⟨b2, o2, none⟩) n2 d,_,_,_,.int .i64 (k : Int),_,_,_,_,_,_,_,_,_,_,_,.slice (some ⟨b1, o1, none⟩) n2 c,.int .i64 (k : Int),_,_,_,_,_,_,_], []⟩ _
      refine wpAnyH_take (i := 2) (v := .pointer (some ⟨b1, o1 + k * 12, none⟩)) rfl (by kernel_rfl) (by kernel_rfl) (by kernel_rfl) (fun _ _ _ h => h) (Or.inl ⟨by rfl, ?_⟩) hHeld ?_
      · intro W hW; (try dsimp only at hW); go_simp
      change wpAnyH _ _ _ _ _ _ _ ⟨#[.slice (some ⟨b1, o1, none⟩) n2 c,.slice (some ⟨b2, o2, none⟩) n2 d,_,_,_,.int .i64 (k : Int),_,_,_,_,_,_,_,_,_,_,_,.slice (some ⟨b1, o1, none⟩) n2 c,.int .i64 (k : Int),.pointer (some ⟨b1, o1 + k * 12, none⟩),_,_,_,_,_,_], []⟩ _
      refine wpAnyH_take (i := 3) (v := .agg (CC x)) rfl (by kernel_rfl) (by kernel_rfl) (by kernel_rfl) (fun _ _ _ h => h) (yieldsIf_load_mid (by rfl) 54 (.tmp 19) rfl b1 (o1 + k * 12) rfl (ccl x) _ (fun W hW => hW.1) Try.underlying54 rfl Try.size54) hHeld ?_
      change wpAnyH _ _ _ _ _ _ _ ⟨#[.slice (some ⟨b1, o1, none⟩) n2 c,.slice (some ⟨b2, o2, none⟩) n2 d,_,_,_,.int .i64 (k : Int),_,_,_,_,_,_,_,_,_,_,_,.slice (some ⟨b1, o1, none⟩) n2 c,.int .i64 (k : Int),.pointer (some ⟨b1, o1 + k * 12, none⟩),.agg (CC x),_,_,_,_,_], []⟩ _
      refine wpAnyH_take (i := 4) (v := .slice (some ⟨b2, o2, none⟩) n2 d) rfl (by kernel_rfl) (by kernel_rfl) (by kernel_rfl) (fun _ _ _ h => h) (Or.inl ⟨by rfl, ?_⟩) hHeld ?_
      · intro W hW; (try dsimp only at hW); go_simp
      change wpAnyH _ _ _ _ _ _ _ ⟨#[.slice (some ⟨b1, o1, none⟩) n2 c,.slice (some ⟨b2, o2, none⟩) n2 d,_,_,_,.int .i64 (k : Int),_,_,_,_,_,_,_,_,_,_,_,.slice (some ⟨b1, o1, none⟩) n2 c,.int .i64 (k : Int),.pointer (some ⟨b1, o1 + k * 12, none⟩),.agg (CC x),.slice (some ⟨b2, o2, none⟩) n2 d,_,_,_,_], []⟩ _
      refine wpAnyH_take (i := 5) (v := .int .i64 (k : Int)) rfl (by kernel_rfl) (by kernel_rfl) (by kernel_rfl) (fun _ _ _ h => h) (Or.inl ⟨by rfl, ?_⟩) hHeld ?_
      · intro W hW; (try dsimp only at hW); go_simp
      change wpAnyH _ _ _ _ _ _ _ ⟨#[.slice (some ⟨b1, o1, none⟩) n2 c,.slice (some ⟨b2, o2, none⟩) n2 d,_,_,_,.int .i64 (k : Int),_,_,_,_,_,_,_,_,_,_,_,.slice (some ⟨b1, o1, none⟩) n2 c,.int .i64 (k : Int),.pointer (some ⟨b1, o1 + k * 12, none⟩),.agg (CC x),.slice (some ⟨b2, o2, none⟩) n2 d,.int .i64 (k : Int),_,_,_], []⟩ _
      refine wpAnyH_take (i := 6) (v := .pointer (some ⟨b2, o2 + k * 12, none⟩)) rfl (by kernel_rfl) (by kernel_rfl) (by kernel_rfl) (fun _ _ _ h => h) (Or.inl ⟨by rfl, ?_⟩) hHeld ?_
      · intro W hW; (try dsimp only at hW); go_simp
      change wpAnyH _ _ _ _ _ _ _ ⟨#[.slice (some ⟨b1, o1, none⟩) n2 c,.slice (some ⟨b2, o2, none⟩) n2 d,_,_,_,.int .i64 (k : Int),_,_,_,_,_,_,_,_,_,_,_,.slice (some ⟨b1, o1, none⟩) n2 c,.int .i64 (k : Int),.pointer (some ⟨b1, o1 + k * 12, none⟩),.agg (CC x),.slice (some ⟨b2, o2, none⟩) n2 d,.int .i64 (k : Int),.pointer (some ⟨b2, o2 + k * 12, none⟩),_,_], []⟩ _
      refine wpAnyH_take (i := 7) (v := .agg (CC x)) rfl (by kernel_rfl) (by kernel_rfl) (by kernel_rfl) (fun _ _ _ h => h) (yieldsIf_load_mid (by rfl) 54 (.tmp 23) rfl b2 (o2 + k * 12) rfl (ccl x) _ (fun W hW => hW.2) Try.underlying54 rfl Try.size54) hHeld ?_
      change wpAnyH _ _ _ _ _ _ _ ⟨#[.slice (some ⟨b1, o1, none⟩) n2 c,.slice (some ⟨b2, o2, none⟩) n2 d,_,_,_,.int .i64 (k : Int),_,_,_,_,_,_,_,_,_,_,_,.slice (some ⟨b1, o1, none⟩) n2 c,.int .i64 (k : Int),.pointer (some ⟨b1, o1 + k * 12, none⟩),.agg (CC x),.slice (some ⟨b2, o2, none⟩) n2 d,.int .i64 (k : Int),.pointer (some ⟨b2, o2 + k * 12, none⟩),.agg (CC x),_], []⟩ _
      refine wpAnyH_take (i := 8) (v := .bool false) rfl (by kernel_rfl) (by kernel_rfl) (by kernel_rfl) (fun _ _ _ h => h) (Or.inl ⟨by rfl, ?_⟩) hHeld ?_
      · intro W hW; (try dsimp only at hW); clear hW; have he := eqChg x x; rw [(eqC_iff x x).2 rfl] at he; go_simp
      change wpAnyH _ _ _ _ _ _ _ ⟨#[.slice (some ⟨b1, o1, none⟩) n2 c,.slice (some ⟨b2, o2, none⟩) n2 d,_,_,_,.int .i64 (k : Int),_,_,_,_,_,_,_,_,_,_,_,.slice (some ⟨b1, o1, none⟩) n2 c,.int .i64 (k : Int),.pointer (some ⟨b1, o1 + k * 12, none⟩),.agg (CC x),.slice (some ⟨b2, o2, none⟩) n2 d,.int .i64 (k : Int),.pointer (some ⟨b2, o2 + k * 12, none⟩),.agg (CC x),.bool false], []⟩ _
      refine wpAnyH_done (by kernel_rfl) ?_ _
      go_wp2
      go_roundw
      case rel => exact ⟨k + 1, q + 1, by omega, by go_num, rfl⟩
      case measure => simp [intOf]; omega
    · have hk2 : ¬ (k : Int) < (n2 : Int) := by omega
      go_wp2
      go_ret
      exact ⟨rfl, ⟨rfl, rfl, rfl, Nat.le_refl _, fun _ _ => rfl⟩⟩
end Go.Proofs.Ytjlmheecefobaaa
