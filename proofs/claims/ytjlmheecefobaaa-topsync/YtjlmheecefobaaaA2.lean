/- Contracts of the small functions: numbers of addresses and their order, of the program and of the document; equality; next, way, isMoment, mayBe, right. -/
import Derived.Test.YtjlmheecefobaaaA1
namespace Go.Proofs.Ytjlmheecefobaaa
open Go.RowKit Go.PlainAid

/-- Which of two numbers is less. -/
def cmp3 (x y : Int) : Int := if x < y then -1 else if y < x then 1 else 0
theorem cmp3_lt {x y : Int} (h : x < y) : cmp3 x y = -1 := by simp [cmp3, h]
theorem cmp3_gt {x y : Int} (h : y < x) : cmp3 x y = 1 := by simp [cmp3, h]; omega
theorem cmp3_eq {x y : Int} (h : ¬ x < y) (k : ¬ y < x) : cmp3 x y = 0 := by simp [cmp3, h, k]
theorem Try.info5s : (Try.prog.info? 5).isSome = true := by kernel_rfl
theorem Try.info5e : ∃ i, Try.prog.info? 5 = some i := Option.isSome_iff_exists.1 Try.info5s
/-- 'x << 8 | b' of a uint64 that has room. -/
theorem or8 (x b : Int) (h0 : 0 ≤ x) (h1 : x < 1099511627776) (g0 : 0 ≤ b) (g1 : b < 256) :
    bits .or .u64 (IntKind.u64.wrap (x * 256)) (IntKind.u64.wrap b) = x * 256 + b := by
  have e1 : IntKind.u64.wrap (x * 256) = x * 256 := IntWalk.u64_in _ (by omega)
  have e2 : IntKind.u64.wrap b = b := IntWalk.u64_in _ (by omega)
  rw [e1, e2, u64_or _ _ (by omega) (by omega) (by omega) (by omega), nat_join 8 _ _ (by omega) (by omega)]
  omega
theorem or0 (b : Int) (g0 : 0 ≤ b) (g1 : b < 256) : bits .or .u64 0 (IntKind.u64.wrap b) = b := by
  have e2 : IntKind.u64.wrap b = b := IntWalk.u64_in _ (by omega)
  rw [e2, u64_or _ _ (by omega) (by omega) (by omega) (by omega), nat_join 8 _ _ (by omega) (by omega)]
  omega
theorem or_num {m : Mc} (h : Mok m) :
    bits .or .u64 (IntKind.u64.wrap (bits .or .u64 (IntKind.u64.wrap (bits .or .u64 (IntKind.u64.wrap (bits .or .u64 (IntKind.u64.wrap (bits .or .u64 (IntKind.u64.wrap (bits .or .u64 0 (IntKind.u64.wrap m.a) * 256)) (IntKind.u64.wrap m.b) * 256)) (IntKind.u64.wrap m.c) * 256)) (IntKind.u64.wrap m.d) * 256)) (IntKind.u64.wrap m.e) * 256)) (IntKind.u64.wrap m.f) = num m := by
  obtain ⟨l0, u0, l1, u1, l2, u2, l3, u3, l4, u4, l5, u5⟩ := h
  rw [or0 _ l0 u0, or8 _ m.b (by omega) (by omega) l1 u1, or8 _ m.c (by omega) (by omega) l2 u2, or8 _ m.d (by omega) (by omega) l3 u3, or8 _ m.e (by omega) (by omega) l4 u4, or8 _ m.f (by omega) (by omega) l5 u5]
  rfl
set_option maxRecDepth 100000 in
theorem eqMacD (d : Nat) (x y : Mc) (w : World) : (Op.equalIn (d + 2) 34 (.agg (MC x)) (.agg (MC y))).run Try.prog w = .ok (eqM x y) w := by
  obtain ⟨i, hi⟩ := Try.info5e
  rw [show d + 2 = (d + 1) + 1 from rfl, run_equalIn_array w (d + 1) _ _ Try.underlying34 hi, Try.cells5]
  have p0 : ∀ (x : Mc) (w : World), (part 5 (MC x) 0).run Try.prog w = .ok (.int .u8 x.a) w := fun _ _ => by kernel_rfl
  have p1 : ∀ (x : Mc) (w : World), (part 5 (MC x) 1).run Try.prog w = .ok (.int .u8 x.b) w := fun _ _ => by kernel_rfl
  have p2 : ∀ (x : Mc) (w : World), (part 5 (MC x) 2).run Try.prog w = .ok (.int .u8 x.c) w := fun _ _ => by kernel_rfl
  have p3 : ∀ (x : Mc) (w : World), (part 5 (MC x) 3).run Try.prog w = .ok (.int .u8 x.d) w := fun _ _ => by kernel_rfl
  have p4 : ∀ (x : Mc) (w : World), (part 5 (MC x) 4).run Try.prog w = .ok (.int .u8 x.e) w := fun _ _ => by kernel_rfl
  have p5 : ∀ (x : Mc) (w : World), (part 5 (MC x) 5).run Try.prog w = .ok (.int .u8 x.f) w := fun _ _ => by kernel_rfl
  have pe : ∀ (x y : Int) (w : World), (Op.equalIn (d + 1) 5 (.int .u8 x) (.int .u8 y)).run Try.prog w = .ok (x == y) w := fun x y w => run_equalIn_int w d 5 _ _ x y Try.underlying5
  simp [Op.eqItems, show List.range 6 = [0, 1, 2, 3, 4, 5] from rfl, p0, p1, p2, p3, p4, p5, pe, eqM]
  by_cases e0 : x.a = y.a
  · by_cases e1 : x.b = y.b
    · by_cases e2 : x.c = y.c
      · by_cases e3 : x.d = y.d
        · by_cases e4 : x.e = y.e
          · by_cases e5 : x.f = y.f <;> simp [e0, e1, e2, e3, e4, e5]
          · simp [e0, e1, e2, e3, e4]
        · simp [e0, e1, e2, e3]
      · simp [e0, e1, e2]
    · simp [e0, e1]
  · simp [e0]
theorem eqMac (x y : Mc) (w : World) : (Op.equalIn 10000 34 (.agg (MC x)) (.agg (MC y))).run Try.prog w = .ok (eqM x y) w := eqMacD 9998 x y w
def eqT (d : Nat) (xs ys : Array Value) : List (Bool × TypeId × Nat) → Sem Bool
  | [] => pure true
  | (b, t, o) :: r =>
    if b = true then do
      let a ← part t xs o
      let c ← part t ys o
      let q ← Op.equalIn d t a c
      if (!q) = true then pure false else eqT d xs ys r
    else eqT d xs ys r
theorem eqT_of (d : Nat) (xs ys : Array Value) : ∀ fs : List Field, Op.eqFields d xs ys fs = eqT d xs ys (fs.map fun f => (decide (f.name ≠ "_"), f.type, f.offset))
  | [] => rfl
  | f :: fs => by
    have ih := eqT_of d xs ys fs
    simp only [Op.eqFields, eqT, List.map_cons, decide_eq_true_eq, ih]
theorem Try.fl36 : (Try.prog.fieldsOf 36).toList.map (fun f => (decide (f.name ≠ "_"), f.type, f.offset)) = [(true, 3, 0), (true, 34, 1), (true, 3, 7), (true, 3, 8), (true, 4, 9)] := by kernel_rfl
theorem Try.st36 : Try.prog.stoodInHeld 36 = false := by kernel_rfl
theorem run_if_and (w : World) (b c : Bool) (s : Sem Bool) (hs : s.run Try.prog w = .ok c w) : (if (!b) = true then (pure false : Sem Bool) else s).run Try.prog w = .ok (b && c) w := by
  cases b
  · simp
  · simpa using hs
set_option maxRecDepth 100000 in
theorem eqEnt (x y : En) (w : World) : (Op.equalIn 10000 36 (.agg (EC x)) (.agg (EC y))).run Try.prog w = .ok (eqE x y) w := by
  rw [show 10000 = 9999 + 1 from rfl, run_equalIn_struct w 9999 36 (EC x) (EC y) (by kernel_rfl) Try.st36, eqT_of, Try.fl36]
  have p0 : ∀ (x : En) (w : World), (part 3 (EC x) 0).run Try.prog w = .ok (.int .i64 x.v) w := fun _ _ => by kernel_rfl
  have p1 : ∀ (x : En) (w : World), (part 34 (EC x) 1).run Try.prog w = .ok (.agg (MC x.m)) w := fun _ _ => by kernel_rfl
  have p7 : ∀ (x : En) (w : World), (part 3 (EC x) 7).run Try.prog w = .ok (.int .i64 x.p) w := fun _ _ => by kernel_rfl
  have p8 : ∀ (x : En) (w : World), (part 3 (EC x) 8).run Try.prog w = .ok (.int .i64 x.t) w := fun _ _ => by kernel_rfl
  have p9 : ∀ (x : En) (w : World), (part 4 (EC x) 9).run Try.prog w = .ok (.bool x.s) w := fun _ _ => by kernel_rfl
  have pe : ∀ (x y : Int) (w : World), (Op.equalIn 9999 3 (.int .i64 x) (.int .i64 y)).run Try.prog w = .ok (x == y) w := fun x y w => run_equalIn_int w 9998 3 _ _ x y Try.underlying3
  have pb : ∀ (x y : Bool) (w : World), (Op.equalIn 9999 4 (.bool x) (.bool y)).run Try.prog w = .ok (x == y) w := fun x y w => by cases x <;> cases y <;> kernel_rfl
  have pm := eqMacD 9997
  simp only [eqT, if_true, Sem.run_bind, p0, pe, Result.andThen_ok]
  refine run_if_and w _ _ _ ?_
  simp only [Sem.run_bind, p1, pm, Result.andThen_ok]
  refine run_if_and w _ _ _ ?_
  simp only [Sem.run_bind, p7, pe, Result.andThen_ok]
  refine run_if_and w _ _ _ ?_
  simp only [Sem.run_bind, p8, pe, Result.andThen_ok]
  refine run_if_and w _ _ _ ?_
  simp only [Sem.run_bind, p9, pb, Result.andThen_ok]
  cases x.s == y.s <;> rfl
section
attribute [local go_sem] MC0 MC1 MC2 MC3 MC4 MC5
set_option maxRecDepth 100000 in
set_option maxHeartbeats 400000 in
theorem num64 (m : Mc) (w : World) (h : Mok m) : Calls Try.prog 64 #[.agg (MC m)] w fun e w' => e = .returned (.int .u64 (num m)) ∧ Below w.heap.size w w' := by
  go_enter Try.func64, Try.ntmps64
  go_wp2
  go_rounds 7
  go_ret
  exact ⟨ret_int (or_num h), by go_grown⟩
set_option maxRecDepth 100000 in
set_option maxHeartbeats 400000 in
theorem num65 (m : Mc) (w : World) (h : Mok m) : Calls Try.prog 65 #[.agg (MC m)] w fun e w' => e = .returned (.int .u64 (num m)) ∧ Below w.heap.size w w' := by
  obtain ⟨l0, u0, l1, u1, l2, u2, l3, u3, l4, u4, l5, u5⟩ := h
  go_enter Try.func65, Try.ntmps65
  go_wp2
  go_rounds 7
  go_ret
  exact ⟨rfl, by go_grown⟩
theorem odd_and (x : Int) (h0 : 0 ≤ x) (h1 : x < 256) : (bits .and .u8 x 1 == 1) = (x % 2 == 1) := by
  have : ∀ k : Fin 256, (bits .and .u8 (k.val : Int) 1 == 1) = ((k.val : Int) % 2 == 1) := by decide +kernel
  have := this ⟨x.toNat, by omega⟩
  rwa [show ((⟨x.toNat, by omega⟩ : Fin 256).val : Int) = x by simp; omega] at this
set_option maxRecDepth 100000 in
set_option maxHeartbeats 400000 in
theorem group56 (m : Mc) (w : World) (h : Mok m) : Calls Try.prog 56 #[.agg (MC m)] w fun e w' => e = .returned (.bool (grp m)) ∧ Below w.heap.size w w' := by
  have e := odd_and m.a h.a0 h.a1
  go_enter Try.func56, Try.ntmps56
  go_wp2
  go_ret
  exact ⟨ret_bool (by first | exact e | rfl | simp [grp]), by go_grown⟩
end
set_option maxRecDepth 100000 in
set_option maxHeartbeats 400000 in
theorem nan63 (x : Int) (w : World) : Calls Try.prog 63 #[.int .i64 x] w fun e w' => e = .returned (.bool false) ∧ w' = w := by
  have h : (x != x) = false := by simp
  go_enter Try.func63, Try.ntmps63
  go_wp2
  go_ret
  exact ⟨rfl, rfl⟩
set_option maxRecDepth 100000 in
set_option maxHeartbeats 400000 in
theorem cmp52 (x y : Int) (w : World) : Calls Try.prog 52 #[.int .i64 x, .int .i64 y] w fun e w' => e = .returned (.int .i64 (cmp3 x y)) ∧ w' = w := by
  go_enter Try.func52, Try.ntmps52
  go_wp2_with (go_at_call 63; refine (nan63 _ _).mono ?_; rintro e w' ⟨rfl, rfl⟩)
  · go_ret
    exact ⟨ret_int (cmp3_lt (by assumption)).symm, rfl⟩
  · go_ret
    exact ⟨ret_int (cmp3_gt (by assumption)).symm, rfl⟩
  · go_ret
    exact ⟨ret_int (cmp3_eq (by omega) (by omega)).symm, rfl⟩
set_option maxRecDepth 100000 in
set_option maxHeartbeats 400000 in
theorem moment40 (t : Int) (w : World) : Calls Try.prog 40 #[.int .i64 t] w fun e w' => e = .returned (.bool (isT t)) ∧ w' = w := by
  by_cases h1 : 0 ≤ t
  · by_cases h2 : t ≤ 1099511627776
    all_goals
      go_enter Try.func40, Try.ntmps40
      go_wp2
      go_ret
      exact ⟨ret_bool (by simp [isT, h1, h2]), rfl⟩
  · go_enter Try.func40, Try.ntmps40
    go_wp2
    go_ret
    exact ⟨ret_bool (by simp [isT]; omega), rfl⟩
attribute [local go_sem] ZE
set_option maxRecDepth 100000 in
set_option maxHeartbeats 400000 in
theorem free43 (x : En) (w : World) : Calls Try.prog 43 #[.agg (EC x)] w fun e w' => e = .returned (.bool (fre x)) ∧ Below w.heap.size w w' := by
  have he := fun w => eqEnt x zE w
  have A0 := (Box.new w (ecl x) 36).at_
  have tk1 : True := trivial
  go_enter Try.func43, Try.ntmps43
  go_wp2_with (first | (have _t := tk1; refine wpl_ent (.tmp 1) rfl A0 ?_ ?_ ?_; rfl; rfl; clear tk1))
  go_ret
  exact ⟨rfl, by go_grown⟩
end Go.Proofs.Ytjlmheecefobaaa
