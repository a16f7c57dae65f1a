/- Contract of the program's Get. -/
import Derived.Test.YtmdbclhdbglppaaPd
namespace Go.Proofs.Ytmdbclhdbglppaa
open Go.RowKit Go.PlainAid

theorem Ck.tail {w : World} {T : Nat → Prop} {x : Sv} {l : List Int} {r : List (List Int)} (H : Ck w T x (l :: r)) (hT : ∀ i, bk x i → ¬ T i) :
    ∃ b o, x.a = some ⟨b, o, none⟩ ∧ b < w.heap.size ∧ w.frozen? ⟨b, o, none⟩ = false ∧ ∃ v : Sv, w.cell? ⟨b, o, none⟩ = some (sv v) ∧ By w T v.a v.n v.p l ∧ ∀ q : Option Addr, q = (if x.p = 1 then some ⟨b, o, none⟩ else some ⟨b, o + 1, none⟩) → Ck (w.setCell ⟨b, o, none⟩ (.slice none 0 0)) T ⟨q, x.n - 1, x.p - 1⟩ r := by
  have hlen : r.length + 1 = x.n := H.len
  have hle := H.le
  obtain ⟨a, ha⟩ : ∃ a, x.a = some a := by
    cases e : x.a with
    | none => have := H.nil e; omega
    | some a => exact ⟨a, rfl⟩
  obtain ⟨b, o, rfl, hb, h1, h2⟩ := H.at_ a ha
  obtain ⟨v, hv, hy⟩ := h2 0 l rfl
  have f0 := (h1 0 (by omega)).2
  rw [Nat.add_zero] at hv f0
  refine ⟨b, o, ha, hb, f0, v, hv, hy, fun q hq => ⟨by show r.length = x.n - 1; omega, by show x.n - 1 ≤ x.p - 1; omega, by show x.p - 1 ≤ maxLen; have := H.mx; omega, fun e => ?_, fun a' ha' => ?_⟩⟩
  · have e' : q = none := e
    rw [hq] at e'
    split at e' <;> cases e'
  · have ha'' : q = some a' := ha'
    rw [hq] at ha''
    by_cases hp : x.p = 1
    · rw [if_pos hp] at ha''
      refine ⟨b, o, (Option.some.inj ha'').symm, by rw [World.size_setCell]; exact hb, fun j hj => ?_, fun j l' hj => ?_⟩
      · have : j < x.p - 1 := hj
        omega
      · have := (List.getElem?_eq_some_iff.1 hj).1
        omega
    · rw [if_neg hp] at ha''
      have hc : ∀ j, (w.setCell ⟨b, o, none⟩ (.slice none 0 0)).cell? ⟨b, o + 1 + j, none⟩ = w.cell? ⟨b, o + (j + 1), none⟩ := fun j => by
        rw [World.cell?_setCell_other _ _ _ _ (fun e => by injection e with _ e2 _; omega), show o + 1 + j = o + (j + 1) by omega]
      refine ⟨b, o + 1, (Option.some.inj ha'').symm, by rw [World.size_setCell]; exact hb, fun j hj => ?_, fun j l' hj => ?_⟩
      · have hj' : j < x.p - 1 := hj
        have k := h1 (j + 1) (by omega)
        rw [hc, World.frozen?_setCell, show o + 1 + j = o + (j + 1) by omega]
        exact k
      · obtain ⟨v', hv', hy'⟩ := h2 (j + 1) l' hj
        exact ⟨v', by rw [hc]; exact hv', hy'.keep (kp_chg (S := fun i => i = b) (chg_set w b _ _ rfl) (fun i hi e => hT b ⟨_, ha, rfl⟩ (e ▸ hi)))⟩
set_option maxRecDepth 100000 in
set_option maxHeartbeats 2000000 in
theorem takeQ (g : Nat) (T S : Nat → Prop) (n : Nat) (SV : List Sv) (L L' : List Wt) (ls : List Nat) (k : Nat) (l : List Int) (w : World) (H : PX w g T S n SV L ls) (hk : k < 8) (e1 : cl L k = l :: cl L' k) (hL : ∀ k' : Nat, k' ≠ k → cl L' k' = cl L k') (hc : ∀ y ∈ L', isC y.c = true) (hr : ∀ k, cnt L' k ≤ n) :
    Calls Try.prog 24 #[.pointer (some ⟨g, 1 + k, none⟩)] w fun e w' => (∃ ab nb cb, e = .returned (.slice ab nb cb) ∧ By w' T ab nb cb l) ∧ (∃ S' SV', PX w' g T S' n SV' L' ls ∧ ∀ i, S' i → S i ∨ w.heap.size ≤ i) ∧ Chg S w w' := by
  obtain ⟨⟨xa, xn, xp⟩, hx, c1, f1, -⟩ := H.at_ hk
  have hck := H.ck k _ hx
  rw [e1] at hck
  have hlen : (cl L' k).length + 1 = xn := hck.len
  have hle : xn ≤ xp := hck.le
  have hmx : xp ≤ maxLen := hck.mx
  unfold maxLen at hmx
  obtain ⟨b, o, e2, hb, fb, ⟨va, vn, vp⟩, cb, hyv, htl⟩ := hck.tail (fun i hi => (H.own k _ i hx hi).2.2)
  have e3 : xa = some ⟨b, o, none⟩ := e2
  subst e3
  have hne : b ≠ g := (H.own k _ b hx ⟨_, rfl, rfl⟩).2.1
  have hnt : ¬ T b := (H.own k _ b hx ⟨_, rfl, rfl⟩).2.2
  have hC : Chg (bk ⟨some ⟨b, o, none⟩, xn, xp⟩) w (w.setCell ⟨b, o, none⟩ (.slice none 0 0)) := chg_set w b _ _ ⟨_, rfl, rfl⟩
  have T1 := hide (H.turn hx (x' := ⟨if xp = 1 then some ⟨b, o, none⟩ else some ⟨b, o + 1, none⟩, xn - 1, xp - 1⟩) hC (fun _ hi => hi) (fun _ hi => Or.inl hi) (L' := L') (htl _ rfl) (fun i hi => Or.inl (by
    obtain ⟨a, ha, hi⟩ := hi
    have ha' : (if xp = 1 then some (⟨b, o, none⟩ : Addr) else some ⟨b, o + 1, none⟩) = some a := ha
    refine ⟨_, rfl, ?_⟩
    rw [← hi]
    split at ha' <;> (obtain rfl := Option.some.inj ha'; rfl))) hL hc hr)
  have HY := hide hyv
  have HST := hide H.st
  have HNT := hide hnt
  unfold sv at c1 cb T1
  have c2 : (w.setCell ⟨b, o, none⟩ (.slice none 0 0)).cell? ⟨g, 1 + k, none⟩ = some (.slice (some ⟨b, o, none⟩) xn xp) := by
    rw [World.cell?_setCell_other _ _ _ _ (fun e => hne (by injection e))]; exact c1
  have f2 : (w.setCell ⟨b, o, none⟩ (.slice none 0 0)).frozen? ⟨g, 1 + k, none⟩ = false := by
    rw [World.frozen?_setCell]; exact f1
  have k0 : (0 : Int) < (xn : Int) := by omega
  have k1 : (1 : Int) ≤ (xn : Int) := by omega
  have k2 : (xn : Int) ≤ (xp : Int) := by omega
  clear H hck hlen hle hb hC hyv htl e1 hx hne hnt
  go_enter Try.func24, Try.ntmps24
  have FIN : Hid (∀ q, q = (if xp = 1 then some ⟨b, o, none⟩ else some ⟨b, o + 1, none⟩) → ∀ w', w' = (w.setCell ⟨b, o, none⟩ (.slice none 0 0)).setCell ⟨g, 1 + k, none⟩ (.slice q (xn - 1) (xp - 1)) → (∃ ab nb cb, Ending.returned (Value.slice va vn vp) = .returned (.slice ab nb cb) ∧ By w' T ab nb cb l) ∧ (∃ S' SV', PX w' g T S' n SV' L' ls ∧ ∀ i, S' i → S i ∨ w.heap.size ≤ i) ∧ Chg S w w') := hide (by
    rintro _ rfl _ rfl
    refine ⟨⟨_, _, _, rfl, ?_⟩, ⟨_, _, T1.out.1, fun i hi => hi.imp id (fun e => e.1)⟩, T1.out.2⟩
    refine (HY.out.keep (kp_chg (S := fun i => i = b) (chg_set w b _ _ rfl) (fun i hi e => HNT.out (e ▸ hi)))).keep (kp_chg (S := fun i => i = g) (chg_set _ g _ _ rfl) (fun i hi e => (HST.out i hi).2 e)))
  clear T1 HY HST HNT
  by_cases hp : xp = 1
  · rw [if_pos hp] at FIN
    subst hp
    go_wp2
    go_ret
    obtain ⟨r1, ⟨S', SV', r2, r3⟩, r4⟩ := FIN.out _ rfl _ rfl
    exact ⟨r1, ⟨S', ⟨SV', r2⟩, r3⟩, r4⟩
  · rw [if_neg hp] at FIN
    go_wp2
    go_ret
    obtain ⟨r1, ⟨S', SV', r2, r3⟩, r4⟩ := FIN.out _ rfl _ rfl
    exact ⟨r1, ⟨S', ⟨SV', r2⟩, r3⟩, r4⟩
theorem cl_of_cnt {L : List Wt} {k : Int} (h : cnt L k = 0) : cl L k = [] := List.eq_nil_of_length_eq_zero h
set_option maxRecDepth 100000 in
set_option maxHeartbeats 2000000 in
theorem getQ_none (p : Addr) (S : Nat → Prop) (n : Nat) (ls : List Nat) (w : World) (H : PQ w p S n [] ls) :
    Calls Try.prog 17 #[.pointer (some p)] w fun e w' => e = .returned (.tuple #[.int .i64 0, .slice none 0 0, .bool false]) ∧ (∃ S', PQ w' p S' n [] ls ∧ ∀ i, S' i → S i ∨ w.heap.size ≤ i) ∧ Chg S w w' := by
  obtain ⟨g, T, SV, rfl, H⟩ := H
  have HH := hide H
  clear H
  go_enter Try.func17, Try.ntmps17
  go_wp2
  go_loopw [7] (fun i wr => ∃ q : Nat, q ≤ 8 ∧ i = .int .i64 q ∧ wr = w) (fun i _ => 8 - (intOf i).toNat)
  case atStart => exact ⟨0, Nat.zero_le _, rfl, rfl⟩
  case round =>
    obtain ⟨q, hq, rfl, rfl⟩ := hrel
    by_cases hc : q < 8
    · obtain ⟨r, hr⟩ : ∃ r, r = 7 - q := ⟨_, rfl⟩
      have e1 : IntKind.i64.wrap (7 - (q : Int)) = (r : Int) := by rw [IntWalk.i64_in _ (by omega)]; omega
      obtain ⟨⟨xa, xn, xp⟩, -, c1, -, hn⟩ := HH.out.at_ (show r < 8 by omega)
      have hn0 : xn = 0 := hn
      subst hn0
      unfold sv at c1
      have e2 : IntKind.i64.wrap ((q : Int) + 1) = (q : Int) + 1 := IntWalk.i64_in _ (by omega)
      have h1 : (q : Int) < 8 := by omega
      have h2 : (r : Int) < 8 := by omega
      have HQ := hide hc
      clear hn hr hc hq
      go_wp2
      go_roundw
      case rel => exact ⟨q + 1, by have := HQ.out; omega, by go_num, (by first | rfl | trivial)⟩
      case measure => have := HQ.out; simp [intOf]; omega
    · obtain rfl : q = 8 := by omega
      have h1 : ¬ ((8 : Nat) : Int) < 8 := by omega
      clear hc hq
      go_wp2
      go_ret3
      exact ⟨rfl, ⟨S, ⟨g, T, SV, rfl, HH.out⟩, fun i hi => Or.inl hi⟩, Chg.refl _ _⟩
set_option maxRecDepth 100000 in
set_option maxHeartbeats 2000000 in
theorem getQ_some (p : Addr) (S : Nat → Prop) (n : Nat) (L : List Wt) (ls : List Nat) (x : Wt) (j : Nat) (w : World) (H : PQ w p S n L ls) (_ : L.length ≤ 50000) (hj : bi L L.length = some j) (hx : L[j]? = some x) :
    Calls Try.prog 17 #[.pointer (some p)] w fun e w' => (∃ ab nb cb, e = .returned (.tuple #[.int .i64 x.c, .slice ab nb cb, .bool true]) ∧ By w' (fun i => S i ∨ w.heap.size ≤ i ∧ i < w'.heap.size) ab nb cb x.b) ∧ (∃ S', PQ w' p S' n (L.eraseIdx j) ls ∧ ∀ i, S' i → S i ∨ w.heap.size ≤ i) ∧ Chg S w w' := by
  obtain ⟨g, T, SV, rfl, H⟩ := H
  obtain ⟨b1, b2, b3⟩ := best_cl hj hx
  obtain ⟨k, hk, hk8⟩ := isC_nat (H.cls x (List.mem_of_getElem? hx))
  rw [hk] at b1 b2 b3 ⊢
  have he : ∀ y ∈ L.eraseIdx j, isC y.c = true := fun y hy => H.cls y (List.mem_of_mem_eraseIdx hy)
  have hr : ∀ k : Nat, cnt (L.eraseIdx j) k ≤ n := fun q => by
    have := H.room q
    unfold cnt at *
    by_cases e : q = k
    · rw [e, b1] at this
      rw [e]
      simp at this; omega
    · rw [b2 q (by omega)]; exact this
  have q1 := hide (takeQ g T S n SV L (L.eraseIdx j) ls k x.b w H hk8 b1 (fun k' hne => b2 k' (by omega)) he (cnt_nat he hr))
  have HH := hide H
  have HB1 : Hid (0 < cnt L k) := hide (by unfold cnt; rw [b1]; simp)
  have HB3 : Hid (∀ q : Nat, k < q → cnt L q = 0) := hide fun q hq => by unfold cnt; rw [b3 q (by omega)]; rfl
  have HK := hide hk8
  clear H hj hx b1 b2 b3 he hr hk hk8
  go_enter Try.func17, Try.ntmps17
  go_wp2
  go_loopw [7] (fun i wr => ∃ q : Nat, q + k ≤ 7 ∧ i = .int .i64 q ∧ wr = w) (fun i _ => 8 - (intOf i).toNat)
  case atStart => exact ⟨0, by have := HK.out; omega, rfl, rfl⟩
  case round =>
    obtain ⟨q, hq, rfl, rfl⟩ := hrel
    obtain ⟨r, hr⟩ : ∃ r, r = 7 - q := ⟨_, rfl⟩
    have e1 : IntKind.i64.wrap (7 - (q : Int)) = (r : Int) := by rw [IntWalk.i64_in _ (by omega)]; omega
    obtain ⟨⟨xa, xn, xp⟩, -, c1, -, hn⟩ := HH.out.at_ (show r < 8 by omega)
    have hn0 : xn = cnt L r := hn
    unfold sv at c1
    have h1 : (q : Int) < 8 := by omega
    have h2 : (r : Int) < 8 := by omega
    by_cases hc : q + k = 7
    · obtain rfl : r = k := by omega
      have h3 : (0 : Int) < (xn : Int) := by have := HB1.out; omega
      clear hn hn0 hr hc hq
      go_wp2_with (go_at_call 24; refine q1.out.mono ?_; rintro e w' ⟨⟨ab, nb, cb, rfl, hy⟩, ⟨S', SV', hX, hS⟩, hC⟩; have HY := hide hy; have HX := hide hX; have HS := hide hS; have HC := hide hC; clear hy hX hS hC)
      go_ret3
      exact ⟨⟨_, _, _, rfl, HY.out.mono (fun i hi => Or.inl (HH.out.st i hi).1)⟩, ⟨S', ⟨g, T, SV', rfl, HX.out⟩, HS.out⟩, HC.out⟩
    · have h3 : xn = 0 := by rw [hn0]; exact HB3.out r (by omega)
      subst h3
      have e2 : IntKind.i64.wrap ((q : Int) + 1) = (q : Int) + 1 := IntWalk.i64_in _ (by omega)
      have HQ : Hid (q + 1 + k ≤ 7) := hide (by omega)
      clear hn hn0 hr hc hq
      go_wp2
      go_roundw
      case rel => exact ⟨q + 1, HQ.out, by go_num, (by first | rfl | trivial)⟩
      case measure => have := HQ.out; simp [intOf]; omega
end Go.Proofs.Ytmdbclhdbglppaa
