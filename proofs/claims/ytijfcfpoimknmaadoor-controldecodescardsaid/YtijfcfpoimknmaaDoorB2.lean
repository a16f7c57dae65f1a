/- What a step of the walk through fields does, whichever function it is; contract of each with any step. -/
import Derived.Test.YtijfcfpoimknmaaDoorA2
namespace Go.Proofs.YtijfcfpoimknmaaDoor
open Go.RowKit

def J5 (j : Nat) : Prop := j = 1 ∨ j = 2 ∨ j = 4 ∨ j = 8 ∨ j = 16
/-- A function that is a step. -/
structure StepC {σ : Type} (f : Nat) (cap : Array Value) (F : Int) (Inv : Nat → σ → World → Prop) (st : Nat → σ → σ) : Prop where
  run : ∀ (j : Nat) (s : σ) (w : World), J5 j → hs F j = true → Inv j s w → Calls Tryd.prog f (#[.int .i64 j] ++ cap) w fun e w' => e = .returned (.tuple #[]) ∧ Inv (2 * j) (st j s) w'
  skip : ∀ (j : Nat) (s : σ) (w : World), J5 j → hs F j = false → Inv j s w → Inv (2 * j) s w
  ent : ∀ (args : Array Value) (w : World), (callFunc f args).run Tryd.prog w = .ok (.enter f args) w
def ev {σ : Type} (F : Int) (st : Nat → σ → σ) (j : Nat) (s : σ) : σ := if hs F j then st j s else s
theorem ev_yes {σ : Type} {F : Int} {st : Nat → σ → σ} {j : Nat} {s : σ} (h : hs F j = true) : ev F st j s = st j s := by simp [ev, h]
theorem ev_no {σ : Type} {F : Int} {st : Nat → σ → σ} {j : Nat} {s : σ} (h : hs F j = false) : ev F st j s = s := by simp [ev, h]
def evs {σ : Type} (F : Int) (st : Nat → σ → σ) (s : σ) : σ := ev F st 16 (ev F st 8 (ev F st 4 (ev F st 2 (ev F st 1 s))))
theorem hs_ne {F : Int} {j : Nat} {b : Bool} (h : hs F j = b) : (bits .and .i64 F (j : Int) != 0) = b := h
set_option maxRecDepth 100000 in
set_option maxHeartbeats 4000000 in
theorem each24 {σ : Type} {f : Nat} {x y : Value} {F : Int} {Inv : Nat → σ → World → Prop} {st : Nat → σ → σ} (hS : StepC f #[x, y] F Inv st) (s : σ) (w : World) (hI : Inv 1 s w) :
    Calls Tryd.prog 24 #[.int .i64 F, .func (.func f) #[] #[x, y]] w fun e w' => e = .returned (.tuple #[]) ∧ Inv 32 (evs F st s) w' := by
  have he := hS.ent
  go_enter Tryd.func24, Tryd.ntmps24
  go_wp2
  go_loopw [4] (fun v wr => (v = .int .i64 1 ∧ Inv 1 (s) wr) ∨ (v = .int .i64 2 ∧ Inv 2 (ev F st 1 s) wr) ∨ (v = .int .i64 4 ∧ Inv 4 (ev F st 2 (ev F st 1 s)) wr) ∨ (v = .int .i64 8 ∧ Inv 8 (ev F st 4 (ev F st 2 (ev F st 1 s))) wr) ∨ (v = .int .i64 16 ∧ Inv 16 (ev F st 8 (ev F st 4 (ev F st 2 (ev F st 1 s)))) wr) ∨ (v = .int .i64 32 ∧ Inv 32 (evs F st s) wr)) (fun v _ => 32 - (intOf v).toNat)
  case atStart => exact Or.inl ⟨rfl, hI⟩
  case round =>
    clear hI
    rcases hrel with ⟨rfl, hI⟩ | ⟨rfl, hI⟩ | ⟨rfl, hI⟩ | ⟨rfl, hI⟩ | ⟨rfl, hI⟩ | ⟨rfl, hI⟩
    · rcases Bool.eq_false_or_eq_true (hs F 1) with hf | hf
      · have hx : (bits .and .i64 F 1 != 0) = true := hs_ne hf
        have hc : Hid (Calls Tryd.prog f #[.int .i64 1, x, y] wr fun e w' => e = .returned (.tuple #[]) ∧ Inv 2 (st 1 (s)) w') := hide (hS.run 1 _ wr (by simp [J5]) hf hI)
        have ht : ev F st 1 s = st 1 (s) := ev_yes hf
        clear hI
        go_wp2_with fail
        refine hc.out.mono ?_
        rintro e w1 ⟨rfl, hI⟩
        rw [← ht] at hI
        clear hc
        go_wp2
        go_roundw
        case rel => exact Or.inr (Or.inl ⟨rfl, hI⟩)
        case measure => simp [intOf]
      · have hx : (bits .and .i64 F 1 != 0) = false := hs_ne hf
        have hI2 : Inv 2 (s) wr := hS.skip 1 _ wr (by simp [J5]) hf hI
        have ht : ev F st 1 s = s := ev_no hf
        rw [← ht] at hI2
        clear hI
        go_wp2
        go_roundw
        case rel => exact Or.inr (Or.inl ⟨rfl, hI2⟩)
        case measure => simp [intOf]
    · rcases Bool.eq_false_or_eq_true (hs F 2) with hf | hf
      · have hx : (bits .and .i64 F 2 != 0) = true := hs_ne hf
        have hc : Hid (Calls Tryd.prog f #[.int .i64 2, x, y] wr fun e w' => e = .returned (.tuple #[]) ∧ Inv 4 (st 2 (ev F st 1 s)) w') := hide (hS.run 2 _ wr (by simp [J5]) hf hI)
        have ht : ev F st 2 (ev F st 1 s) = st 2 (ev F st 1 s) := ev_yes hf
        clear hI
        go_wp2_with fail
        refine hc.out.mono ?_
        rintro e w1 ⟨rfl, hI⟩
        rw [← ht] at hI
        clear hc
        go_wp2
        go_roundw
        case rel => exact Or.inr (Or.inr (Or.inl ⟨rfl, hI⟩))
        case measure => simp [intOf]
      · have hx : (bits .and .i64 F 2 != 0) = false := hs_ne hf
        have hI2 : Inv 4 (ev F st 1 s) wr := hS.skip 2 _ wr (by simp [J5]) hf hI
        have ht : ev F st 2 (ev F st 1 s) = ev F st 1 s := ev_no hf
        rw [← ht] at hI2
        clear hI
        go_wp2
        go_roundw
        case rel => exact Or.inr (Or.inr (Or.inl ⟨rfl, hI2⟩))
        case measure => simp [intOf]
    · rcases Bool.eq_false_or_eq_true (hs F 4) with hf | hf
      · have hx : (bits .and .i64 F 4 != 0) = true := hs_ne hf
        have hc : Hid (Calls Tryd.prog f #[.int .i64 4, x, y] wr fun e w' => e = .returned (.tuple #[]) ∧ Inv 8 (st 4 (ev F st 2 (ev F st 1 s))) w') := hide (hS.run 4 _ wr (by simp [J5]) hf hI)
        have ht : ev F st 4 (ev F st 2 (ev F st 1 s)) = st 4 (ev F st 2 (ev F st 1 s)) := ev_yes hf
        clear hI
        go_wp2_with fail
        refine hc.out.mono ?_
        rintro e w1 ⟨rfl, hI⟩
        rw [← ht] at hI
        clear hc
        go_wp2
        go_roundw
        case rel => exact Or.inr (Or.inr (Or.inr (Or.inl ⟨rfl, hI⟩)))
        case measure => simp [intOf]
      · have hx : (bits .and .i64 F 4 != 0) = false := hs_ne hf
        have hI2 : Inv 8 (ev F st 2 (ev F st 1 s)) wr := hS.skip 4 _ wr (by simp [J5]) hf hI
        have ht : ev F st 4 (ev F st 2 (ev F st 1 s)) = ev F st 2 (ev F st 1 s) := ev_no hf
        rw [← ht] at hI2
        clear hI
        go_wp2
        go_roundw
        case rel => exact Or.inr (Or.inr (Or.inr (Or.inl ⟨rfl, hI2⟩)))
        case measure => simp [intOf]
    · rcases Bool.eq_false_or_eq_true (hs F 8) with hf | hf
      · have hx : (bits .and .i64 F 8 != 0) = true := hs_ne hf
        have hc : Hid (Calls Tryd.prog f #[.int .i64 8, x, y] wr fun e w' => e = .returned (.tuple #[]) ∧ Inv 16 (st 8 (ev F st 4 (ev F st 2 (ev F st 1 s)))) w') := hide (hS.run 8 _ wr (by simp [J5]) hf hI)
        have ht : ev F st 8 (ev F st 4 (ev F st 2 (ev F st 1 s))) = st 8 (ev F st 4 (ev F st 2 (ev F st 1 s))) := ev_yes hf
        clear hI
        go_wp2_with fail
        refine hc.out.mono ?_
        rintro e w1 ⟨rfl, hI⟩
        rw [← ht] at hI
        clear hc
        go_wp2
        go_roundw
        case rel => exact Or.inr (Or.inr (Or.inr (Or.inr (Or.inl ⟨rfl, hI⟩))))
        case measure => simp [intOf]
      · have hx : (bits .and .i64 F 8 != 0) = false := hs_ne hf
        have hI2 : Inv 16 (ev F st 4 (ev F st 2 (ev F st 1 s))) wr := hS.skip 8 _ wr (by simp [J5]) hf hI
        have ht : ev F st 8 (ev F st 4 (ev F st 2 (ev F st 1 s))) = ev F st 4 (ev F st 2 (ev F st 1 s)) := ev_no hf
        rw [← ht] at hI2
        clear hI
        go_wp2
        go_roundw
        case rel => exact Or.inr (Or.inr (Or.inr (Or.inr (Or.inl ⟨rfl, hI2⟩))))
        case measure => simp [intOf]
    · rcases Bool.eq_false_or_eq_true (hs F 16) with hf | hf
      · have hx : (bits .and .i64 F 16 != 0) = true := hs_ne hf
        have hc : Hid (Calls Tryd.prog f #[.int .i64 16, x, y] wr fun e w' => e = .returned (.tuple #[]) ∧ Inv 32 (st 16 (ev F st 8 (ev F st 4 (ev F st 2 (ev F st 1 s))))) w') := hide (hS.run 16 _ wr (by simp [J5]) hf hI)
        have ht : evs F st s = st 16 (ev F st 8 (ev F st 4 (ev F st 2 (ev F st 1 s)))) := ev_yes hf
        clear hI
        go_wp2_with fail
        refine hc.out.mono ?_
        rintro e w1 ⟨rfl, hI⟩
        rw [← ht] at hI
        clear hc
        go_wp2
        go_roundw
        case rel => exact Or.inr (Or.inr (Or.inr (Or.inr (Or.inr (⟨rfl, hI⟩)))))
        case measure => simp [intOf]
      · have hx : (bits .and .i64 F 16 != 0) = false := hs_ne hf
        have hI2 : Inv 32 (ev F st 8 (ev F st 4 (ev F st 2 (ev F st 1 s)))) wr := hS.skip 16 _ wr (by simp [J5]) hf hI
        have ht : evs F st s = ev F st 8 (ev F st 4 (ev F st 2 (ev F st 1 s))) := ev_no hf
        rw [← ht] at hI2
        clear hI
        go_wp2
        go_roundw
        case rel => exact Or.inr (Or.inr (Or.inr (Or.inr (Or.inr (⟨rfl, hI2⟩)))))
        case measure => simp [intOf]
    · go_wp2
      go_end0
      exact ⟨rfl, hI⟩
end Go.Proofs.YtijfcfpoimknmaaDoor
