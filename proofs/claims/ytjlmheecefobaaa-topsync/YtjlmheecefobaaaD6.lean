/- Contracts of Age, FlushPort, FlushVlan. -/
import Derived.Test.YtjlmheecefobaaaD5
namespace Go.Proofs.Ytjlmheecefobaaa
open Go.RowKit Go.PlainAid

def gA (a b : Int) (x : En) : Bool := decide (x.t ≤ a - b)
def gA' (a b : Int) (x : En) : Bool := decide (b ≤ wrap64 (a - x.t))
def gP (p : Int) (x : En) : Bool := x.p == p
def gV (v : Int) (x : En) : Bool := x.v == v
/-- What is forgotten, and what is left. -/
def gG (T : Tb) (f : En → Bool) : List En := T.l.filter (gof f)
def gT (T : Tb) (f : En → Bool) : Tb := ⟨T.n, T.l.filter (fun x => !gof f x)⟩
def aOk (a b : Int) : Bool := isT a && isT b
def aG (T : Tb) (a b : Int) : List En := if aOk a b then gG T (gA a b) else []
def aT (T : Tb) (a b : Int) : Tb := if aOk a b then gT T (gA a b) else T
theorem gA_eq {T : Tb} (H : Wf T) {a b : Int} (h : aOk a b = true) : ∀ x ∈ T.l, gof (gA' a b) x = gof (gA a b) x := fun x hx => by
  rw [aOk, Bool.and_eq_true, isT_iff, isT_iff] at h
  have ht := isT_iff.1 (H.gd x hx).t
  unfold gof gA' gA
  congr 1
  rw [IntWalk.wrap64_in _ (by omega), decide_eq_decide]
  omega
theorem gG_age {T : Tb} (H : Wf T) {a b : Int} (h : aOk a b = true) : gG T (gA' a b) = gG T (gA a b) := List.filter_congr (gA_eq H h)
theorem gT_age {T : Tb} (H : Wf T) {a b : Int} (h : aOk a b = true) : gT T (gA' a b) = gT T (gA a b) := by
  unfold gT
  rw [List.filter_congr (fun x hx => by rw [gA_eq H h x hx])]
section
attribute [local go_sem] EC0 EC7 EC8
set_option maxRecDepth 100000 in
set_option maxHeartbeats 400000 in
theorem age35 (p q : Nat) (a b : Int) (x : En) (w : World) (hS : CS [(p, .int .i64 a), (q, .int .i64 b)] w) :
    Calls Try.prog 47 #[.agg (EC x), .pointer (some ⟨p, 0, none⟩), .pointer (some ⟨q, 0, none⟩)] w fun e w' => e = .returned (.bool (gA' a b x)) ∧ Below w.heap.size w w' := by
  have S1 := hS.on (below_alloc w (.cells (EC x) 36))
  have c0 := S1 p _ (List.Mem.head _)
  have c1 := S1 q _ (List.Mem.tail _ (List.Mem.head _))
  have W0 := hide (below_alloc w (.cells (EC x) 36))
  clear hS S1
  go_enter Try.func47, Try.ntmps47
  go_wp2
  go_ret
  exact ⟨ret_bool (by simp [gA']), W0.out⟩
set_option maxRecDepth 100000 in
set_option maxHeartbeats 400000 in
theorem port36 (p : Nat) (a : Int) (x : En) (w : World) (hS : CS [(p, .int .i64 a)] w) :
    Calls Try.prog 46 #[.agg (EC x), .pointer (some ⟨p, 0, none⟩)] w fun e w' => e = .returned (.bool (gP a x)) ∧ Below w.heap.size w w' := by
  have S1 := hS.on (below_alloc w (.cells (EC x) 36))
  have c0 := S1 p _ (List.Mem.head _)
  have W0 := hide (below_alloc w (.cells (EC x) 36))
  clear hS S1
  go_enter Try.func46, Try.ntmps46
  go_wp2
  go_ret
  exact ⟨rfl, W0.out⟩
theorem cs_one (w : World) (a : Int) : CS [(w.heap.size, .int .i64 a)] (w.alloc (.cells #[.int .i64 a] 3)) := fun q v hq => by
  simp at hq
  obtain ⟨rfl, rfl⟩ := hq
  rw [World.cell?_alloc_at _ _ _ _ rfl]; rfl
theorem cs_two (w : World) (a b : Int) : CS [(w.heap.size, .int .i64 a), (w.heap.size + 1, .int .i64 b)] ((w.alloc (.cells #[.int .i64 a] 3)).alloc (.cells #[.int .i64 b] 3)) := fun q v hq => by
  have h1 := (cs_one w a).on (below_alloc _ (.cells #[.int .i64 b] 3))
  have h2 := cs_one (w.alloc (.cells #[.int .i64 a] 3)) b
  simp at hq
  rcases hq with ⟨rfl, rfl⟩ | ⟨rfl, rfl⟩
  · exact h1 _ _ (List.Mem.head _)
  · have := h2 (w.heap.size + 1) (.int .i64 b) (by simp)
    exact this
set_option maxRecDepth 100000 in
set_option maxHeartbeats 1000000 in
theorem flushPort29 (h : Nat) (ps : List En) (T : Tb) (p : Int) (w : World) (H : PT w h ps T) :
    Calls Try.prog 29 #[.pointer (some ⟨h + 1, 0, none⟩), .int .i64 p] w fun e w' => ∃ ao c, e = .returned (.slice ao (gG T (gP p)).length c) ∧ Ets w' w.heap.size ao (gG T (gP p)).length c (gG T (gP p)) ∧ (∃ ps', PT w' h ps' (gT T (gP p))) ∧ Mid h (h + 2) w w' := by
  have W0 := hide (below_alloc w (.cells #[.int .i64 p] 3))
  have q := forget45a h ps T 46 (.pointer (some ⟨w.heap.size, 0, none⟩)) (gP p) _ (H.on W0.out) (enters_of Try.func46 (by kernel_rfl) rfl) (wh_of (fun x w' hS => port36 w.heap.size p x w' hS)) (cs_one w p)
  have HQ := hide q
  clear q H
  go_enter Try.func29, Try.ntmps29
  go_wp2_with fail
  refine HQ.out.mono ?_
  rintro e w1 ⟨ao, c, rfl, E, F, M⟩
  have HE := hide (E.mono (show w.heap.size ≤ _ by simp))
  have HF := hide F
  have HM := hide (Mid.trans (Mid.on (Mid.refl h (h + 2) w) W0.out) M)
  clear E F M HQ
  go_wp2
  go_ret
  exact ⟨ao, c, rfl, HE.out, HF.out, HM.out⟩
theorem Ets.nothing (w : World) (B : Nat) : Ets w B none 0 0 [] := ⟨rfl, fun _ => rfl, fun a e => (by cases e), Nat.le_refl _, Nat.zero_le _⟩
set_option maxRecDepth 100000 in
set_option maxHeartbeats 1000000 in
theorem age19_no (h : Nat) (a b : Int) (w : World) (hr : aOk a b = false) :
    Calls Try.prog 30 #[.pointer (some ⟨h + 1, 0, none⟩), .int .i64 a, .int .i64 b] w fun e w' => e = .returned (.slice none 0 0) ∧ Below w.heap.size w w' := by
  have W0 : Hid (Below w.heap.size w ((w.alloc (.cells #[.int .i64 a] 3)).alloc (.cells #[.int .i64 b] 3))) := hide (by go_grown)
  have q1 := fun w => moment40 a w
  have q2 := fun w => moment40 b w
  rw [aOk] at hr
  rcases Bool.eq_false_or_eq_true (isT a) with ha | ha
  · rw [ha, Bool.true_and] at hr
    rw [ha] at q1
    rw [hr] at q2
    go_enter Try.func30, Try.ntmps30
    go_wp2_with fail
    refine (q1 _).mono ?_
    rintro e w1 ⟨rfl, rfl⟩
    go_wp2_with fail
    refine (q2 _).mono ?_
    rintro e w1 ⟨rfl, rfl⟩
    go_wp2
    go_ret
    exact ⟨rfl, W0.out⟩
  · rw [ha] at q1
    clear q2
    go_enter Try.func30, Try.ntmps30
    go_wp2_with fail
    refine (q1 _).mono ?_
    rintro e w1 ⟨rfl, rfl⟩
    go_wp2
    go_ret
    exact ⟨rfl, W0.out⟩
set_option maxRecDepth 100000 in
set_option maxHeartbeats 1000000 in
theorem age19_yes (h : Nat) (ps : List En) (T : Tb) (a b : Int) (w : World) (H : PT w h ps T) (hr : aOk a b = true) :
    Calls Try.prog 30 #[.pointer (some ⟨h + 1, 0, none⟩), .int .i64 a, .int .i64 b] w fun e w' => ∃ ao c, e = .returned (.slice ao (gG T (gA a b)).length c) ∧ Ets w' w.heap.size ao (gG T (gA a b)).length c (gG T (gA a b)) ∧ (∃ ps', PT w' h ps' (gT T (gA a b))) ∧ Mid h (h + 2) w w' := by
  have W0 : Hid (Below w.heap.size w ((w.alloc (.cells #[.int .i64 a] 3)).alloc (.cells #[.int .i64 b] 3))) := hide (by go_grown)
  have q := forget45b h ps T 47 (.pointer (some ⟨w.heap.size, 0, none⟩)) (.pointer (some ⟨w.heap.size + 1, 0, none⟩)) (gA' a b) _ (H.on W0.out) (enters_of Try.func47 (by kernel_rfl) rfl) (wh_of (fun x w' hS => age35 w.heap.size (w.heap.size + 1) a b x w' hS)) (cs_two w a b)
  have eG := gG_age H.wf hr
  have eT := gT_age H.wf hr
  rw [show T.l.filter (gof (gA' a b)) = gG T (gA' a b) from rfl, show (⟨T.n, T.l.filter (fun x => !gof (gA' a b) x)⟩ : Tb) = gT T (gA' a b) from rfl, eG, eT] at q
  have HQ := hide q
  have q1 := fun w => moment40 a w
  have q2 := fun w => moment40 b w
  rw [aOk, Bool.and_eq_true] at hr
  rw [hr.1] at q1
  rw [hr.2] at q2
  clear q H eG eT hr
  go_enter Try.func30, Try.ntmps30
  go_wp2_with fail
  refine (q1 _).mono ?_
  rintro e w1 ⟨rfl, rfl⟩
  go_wp2_with fail
  refine (q2 _).mono ?_
  rintro e w1 ⟨rfl, rfl⟩
  go_wp2_with fail
  refine HQ.out.mono ?_
  rintro e w1 ⟨ao, c, rfl, E, F, M⟩
  have HE := hide (E.mono (show w.heap.size ≤ _ by simp; omega))
  have HF := hide F
  have HM := hide (Mid.trans (Mid.on (Mid.refl h (h + 2) w) W0.out) M)
  clear E F M HQ
  go_wp2
  go_ret
  exact ⟨ao, c, rfl, HE.out, HF.out, HM.out⟩
theorem age30 (h : Nat) (ps : List En) (T : Tb) (a b : Int) (w : World) (H : PT w h ps T) :
    Calls Try.prog 30 #[.pointer (some ⟨h + 1, 0, none⟩), .int .i64 a, .int .i64 b] w fun e w' => ∃ ao c, e = .returned (.slice ao (aG T a b).length c) ∧ Ets w' w.heap.size ao (aG T a b).length c (aG T a b) ∧ (∃ ps', PT w' h ps' (aT T a b)) ∧ Mid h (h + 2) w w' := by
  rcases Bool.eq_false_or_eq_true (aOk a b) with hr | hr
  · rw [aG, aT, hr]
    exact age19_yes h ps T a b w H hr
  · rw [aG, aT, hr]
    refine (age19_no h a b w hr).mono ?_
    rintro e w' ⟨rfl, hb⟩
    exact ⟨none, 0, rfl, Ets.nothing _ _, ⟨ps, H.on hb⟩, Mid.on (Mid.refl _ _ _) hb⟩
end
end Go.Proofs.Ytjlmheecefobaaa
