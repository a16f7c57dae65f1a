/- Contracts: isVlan, hasPort, isMember; the document's right, Find; New, of both. -/
import Derived.Test.YtelinahpneikiaaA2
import Derived.Laws.MakeOwn
import Derived.PlainAid
namespace Go.Proofs.Ytelinahpneikiaa
open Go.RowKit Go.PlainAid

set_option maxRecDepth 100000 in
set_option maxHeartbeats 1000000 in
theorem isVlan36 (v : Int) (w : World) : Calls Try.prog 36 #[.int .i64 v] w fun e w' => e = .returned (.bool (isV v)) ∧ w' = w := by
  by_cases h1 : 1 ≤ v
  · by_cases h2 : v ≤ 4094
    · have e : isV v = true := (isV_iff v).2 ⟨h1, h2⟩
      rw [e]
      go_enter Try.func36, Try.ntmps36
      go_wp2
      go_ret
      exact ⟨rfl, rfl⟩
    · have e : isV v = false := by simp [isV]; omega
      rw [e]
      go_enter Try.func36, Try.ntmps36
      go_wp2
      go_ret
      exact ⟨rfl, rfl⟩
  · have e : isV v = false := by simp [isV]; omega
    rw [e]
    go_enter Try.func36, Try.ntmps36
    go_wp2
    go_ret
    exact ⟨rfl, rfl⟩
set_option maxRecDepth 100000 in
set_option maxHeartbeats 1000000 in
theorem hasPort33 (h : Nat) (T : Tb) (p : Int) (w : World) (H : PT w h T) : Calls Try.prog 33 #[.pointer (some ⟨h + 2, 0, none⟩), .int .i64 p] w fun e w' => e = .returned (.bool (hp T p)) ∧ w' = w := by
  have c1 := H.bx.cell 1 _ rfl
  clear H
  by_cases h1 : 0 ≤ p
  · by_cases h2 : p < (T.n : Int)
    · have e : hp T p = true := (hp_iff T p).2 ⟨h1, h2⟩
      rw [e]
      go_enter Try.func33, Try.ntmps33
      go_wp2
      go_ret
      exact ⟨rfl, rfl⟩
    · have e : hp T p = false := by simp [hp]; omega
      rw [e]
      go_enter Try.func33, Try.ntmps33
      go_wp2
      go_ret
      exact ⟨rfl, rfl⟩
  · have e : hp T p = false := by simp [hp]; omega
    rw [e]
    go_enter Try.func33, Try.ntmps33
    go_wp2
    go_ret
    exact ⟨rfl, rfl⟩
set_option maxRecDepth 100000 in
set_option maxHeartbeats 1000000 in
theorem isMember28 (h : Nat) (T : Tb) (v p : Int) (w : World) (hv : I64 v) (hp : I64 p) (H : PT w h T) : Calls Try.prog 28 #[.pointer (some ⟨h + 2, 0, none⟩), .int .i64 v, .int .i64 p] w fun e w' => e = .returned (.bool (hs T.l v p)) ∧ Below w.heap.size w w' := by
  have c0 := H.bx.cell 0 _ rfl
  have hlk := H.mp.look H.wf.small H.wf.ap hv hp
  unfold KV EV at hlk
  clear H
  go_enter Try.func28, Try.ntmps28
  go_wp2
  go_ret
  exact ⟨rfl, by go_grown⟩
set_option maxRecDepth 100000 in
set_option maxHeartbeats 1000000 in
theorem right39 (g : Nat) (lv : Value) (T : Tb) (v p : Int) (w : World) (H : RT w g lv T) : Calls Try.prog 39 #[.pointer (some ⟨g + 1, 0, none⟩), .int .i64 v, .int .i64 p] w fun e w' => e = .returned (.bool (isV v && hp T p)) ∧ w' = w := by
  have c0 := H.bx.cell 0 _ rfl
  clear H
  by_cases h1 : 1 ≤ v
  · by_cases h2 : v ≤ 4094
    · have e : isV v = true := (isV_iff v).2 ⟨h1, h2⟩
      rw [e, Bool.true_and]
      clear e
      by_cases h3 : 0 ≤ p
      · by_cases h4 : p < (T.n : Int)
        · have e : hp T p = true := (hp_iff T p).2 ⟨h3, h4⟩
          rw [e]
          go_enter Try.func39, Try.ntmps39
          go_wp2
          go_ret
          exact ⟨rfl, rfl⟩
        · have e : hp T p = false := by simp [hp]; omega
          rw [e]
          go_enter Try.func39, Try.ntmps39
          go_wp2
          go_ret
          exact ⟨rfl, rfl⟩
      · have e : hp T p = false := by simp [hp]; omega
        rw [e]
        go_enter Try.func39, Try.ntmps39
        go_wp2
        go_ret
        exact ⟨rfl, rfl⟩
    · have e : isV v = false := by simp [isV]; omega
      rw [e, Bool.false_and]
      go_enter Try.func39, Try.ntmps39
      go_wp2
      go_ret
      exact ⟨rfl, rfl⟩
  · have e : isV v = false := by simp [isV]; omega
    rw [e, Bool.false_and]
    go_enter Try.func39, Try.ntmps39
    go_wp2
    go_ret
    exact ⟨rfl, rfl⟩
end Go.Proofs.Ytelinahpneikiaa
