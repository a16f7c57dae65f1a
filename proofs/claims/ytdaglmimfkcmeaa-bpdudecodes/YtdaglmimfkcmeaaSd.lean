/- The reader: number and end; the step that reads. -/
import Derived.Test.YtdaglmimfkcmeaaWa
import Derived.PlainAid
namespace Go.Proofs.Ytdaglmimfkcmeaa
open Go.RowKit Go.PlainAid

/-- A reader in memory, and what it has yet; what it reads lies below B, and so does it itself. -/
structure Rd (w : World) (r B : Nat) (ao : Option Addr) (n c : Nat) (ns : List Int) : Prop where
  at_ : w.cell? ⟨r, 0, none⟩ = some (.slice ao n c)
  fr : w.frozen? ⟨r, 0, none⟩ = false
  byt : Byt w ao n c ns
  ne : ∀ b o, ao = some ⟨b, o, none⟩ → 0 < n → b ≠ r ∧ b < B
  rb : r < B
  sz : B ≤ w.heap.size
theorem Rd.below {w w1 : World} {r B : Nat} {ao : Option Addr} {n c : Nat} {ns : List Int} (h : Rd w r B ao n c ns) (hb : Below B w w1) : Rd w1 r B ao n c ns :=
  ⟨(hb.cell (p := ⟨r, 0, none⟩) h.rb).trans h.at_, (hb.frozen (p := ⟨r, 0, none⟩) h.rb).trans h.fr, h.byt.below (fun b o e hp => (h.ne b o e hp).2) hb, h.ne, h.rb, Nat.le_trans h.sz hb.size⟩
theorem Rd.took {w : World} {r B b o n c : Nat} {ns : List Int} (h : Rd w r B (some ⟨b, o, none⟩) n c ns) {k : Nat} (hk : k ≤ n) {ao : Option Addr} (h1 : ¬ c = k → ao = some ⟨b, o + k, none⟩) (h2 : c = k → ao = some ⟨b, o, none⟩) :
    Rd (w.setCell ⟨r, 0, none⟩ (.slice ao (n - k) (c - k))) r B ao (n - k) (c - k) (ns.drop k) := by
  have hG := setCell_grown w r 0 (.slice ao (n - k) (c - k))
  have hle := h.byt.le
  have hlen := h.byt.len
  refine ⟨World.cell?_setCell_same _ _ _ h.at_, by rw [World.frozen?_setCell]; exact h.fr, ⟨by simp; omega, fun e => ?_, fun j hj => ?_, by omega, by have := h.byt.mx; omega, rng_drop h.byt.rng k⟩, fun b' o' e hp => ?_, h.rb, Nat.le_trans h.sz hG.size⟩
  · by_cases hc : c = k
    · rw [h2 hc] at e; cases e
    · rw [h1 hc] at e; cases e
  · have hc : ¬ c = k := by omega
    refine ⟨b, o + k, h1 hc, ?_⟩
    obtain ⟨b2, o2, e2, hcell⟩ := h.byt.cell (k + j) (by omega)
    injection Option.some.inj e2 with e3 e4
    subst e3 e4
    rw [hG.cell (a := ⟨b, o + k + j, none⟩) (v := .int .u8 ((ns.drop k).getD j 0)) ?_ (fun e => (h.ne b o rfl (by omega)).1 (Option.some.inj e))]
    rw [Nat.add_assoc, hcell]
    simp [List.getD_eq_getElem?_getD]
  · by_cases hc : c = k
    · rw [h2 hc] at e; injection Option.some.inj e with e3 e4; subst e3; exact h.ne b o rfl (by omega)
    · rw [h1 hc] at e; injection Option.some.inj e with e3 e4; subst e3; exact h.ne b o rfl (by omega)
/-- .. whatever its slice is. -/
def RdE (r B : Nat) (ns : List Int) (w : World) : Prop := ∃ ao n c, Rd w r B ao n c ns
theorem RdE.below {w w1 : World} {r B : Nat} {ns : List Int} (h : RdE r B ns w) (hb : Below B w w1) : RdE r B ns w1 := by
  obtain ⟨ao, n, c, h⟩ := h
  exact ⟨ao, n, c, h.below hb⟩
theorem RdE.rng {w : World} {r B : Nat} {ns : List Int} (h : RdE r B ns w) : Rng ns := by
  obtain ⟨ao, n, c, h⟩ := h
  exact h.byt.rng
theorem RdE.sz {w : World} {r B : Nat} {ns : List Int} (h : RdE r B ns w) : B ≤ w.heap.size := by
  obtain ⟨ao, n, c, h⟩ := h
  exact h.sz
theorem or_more (x y : Int) (h0 : 0 ≤ x) (h1 : x < 1099511627776) (g0 : 0 ≤ y) (g1 : y ≤ 255) : bits .or .i64 (x * 256) y = x * 256 + y := by
  obtain ⟨a, rfl⟩ := Int.eq_ofNat_of_zero_le h0
  obtain ⟨b, rfl⟩ := Int.eq_ofNat_of_zero_le g0
  have hx : a * 256 ||| b = a * 256 + b := by
    have := nat_join 8 ((a * 256 : Nat)) b (by omega) (by omega)
    simpa using this
  show IntKind.i64.wrap ((BitVec.ofInt 64 ((a : Int) * 256) ||| BitVec.ofInt 64 (b : Int)).toNat : Int) = _
  have e1 : BitVec.ofInt 64 ((a : Int) * 256) = BitVec.ofNat 64 (a * 256) := by rw [← BitVec.ofInt_natCast]; simp
  have e2 : BitVec.ofInt 64 (b : Int) = BitVec.ofNat 64 b := BitVec.ofInt_natCast 64 b
  rw [e1, e2, BitVec.toNat_or, BitVec.toNat_ofNat, BitVec.toNat_ofNat, Nat.mod_eq_of_lt (by omega), Nat.mod_eq_of_lt (by omega), hx]
  rw [IntWalk.i64_in _ (by omega)]
  omega
theorem take_snoc (ns : List Int) (m : Nat) (h : m < ns.length) : ns.take (m + 1) = ns.take m ++ [ns.getD m 0] := by
  rw [List.take_add_one, List.getD_eq_getElem?_getD, List.getElem?_eq_getElem h]
  rfl
theorem nb_le {l : List Int} (h : l.length ≤ 5) (hr : Rng l) : 0 ≤ nb l ∧ nb l < 1099511627776 := by
  have := nb_fit l.length l rfl hr
  refine ⟨this.1, ?_⟩
  have h2 := this.2
  rcases (show l.length = 0 ∨ l.length = 1 ∨ l.length = 2 ∨ l.length = 3 ∨ l.length = 4 ∨ l.length = 5 by omega) with e | e | e | e | e | e <;> rw [e] at h2 <;> omega
set_option maxRecDepth 100000 in
set_option maxHeartbeats 1000000 in
theorem number27_no (r B : Nat) (ns : List Int) (j : Nat) (w : World) (h : RdE r B ns w) (hk : ns.length < j) :
    Calls Try.prog 27 #[.pointer (some ⟨r, 0, none⟩), .int .i64 j] w fun e w' => e = .panicked pan ∧ w' = w := by
  obtain ⟨ao, n, c, h⟩ := h
  have p := h.at_
  have hl := h.byt.len
  have hd : decide (j ≤ n) = false := by simp; omega
  clear h hl hk
  go_enter Try.func27, Try.ntmps27
  go_wp2_with fail
  refine (must36_no _).mono ?_
  rintro e u ⟨rfl, rfl⟩
  go_wp2
  exact ⟨rfl, rfl, rfl⟩
set_option maxRecDepth 100000 in
set_option maxHeartbeats 4000000 in
theorem number27_yes (r B b o n c : Nat) (ns : List Int) (j : Nat) (w : World) (h : Rd w r B (some ⟨b, o, none⟩) n c ns) (hj : 0 < j) (hj6 : j ≤ 6) (hk : j ≤ n) :
    Calls Try.prog 27 #[.pointer (some ⟨r, 0, none⟩), .int .i64 j] w fun e w' => e = .returned (.int .i64 (nb (ns.take j))) ∧ RdE r B (ns.drop j) w' ∧ w.grownBy w' (some r) := by
  have p := h.at_
  have q := h.fr
  have hle := h.byt.le
  have hmx := h.byt.mx
  unfold maxLen at hmx
  have hd : decide ((j : Int) ≤ n) = true := by simp; omega
  have hk1 : (j : Int) ≤ n := by omega
  have hle1 : (n : Int) ≤ c := by omega
  have H := hide h
  have HL := hide h.byt.len
  have HR := hide h.byt.rng
  obtain ⟨b', o', e, hc, -⟩ := h.byt.at (by omega)
  injection Option.some.inj e with e1 e2
  subst e1 e2
  have HC := hide hc
  clear h hc e
  go_enter Try.func27, Try.ntmps27
  go_wp2_with fail
  refine (must36_yes _).mono ?_
  rintro e u ⟨rfl, rfl⟩
  go_wp2
  go_loop [5, 16] (fun x i => ∃ m : Nat, m ≤ j ∧ i = .int .i64 m ∧ x = .int .i64 (nb (ns.take m))) (fun _ i => j - (intOf i).toNat)
  case atStart => exact ⟨0, by omega, rfl, rfl⟩
  case round =>
    obtain ⟨m, hm, rfl, rfl⟩ := hrel
    by_cases hlt : m < j
    · have hc := HC.out m (by omega)
      have hx := rng_getD HR.out m
      have hs := hide (take_snoc ns m (by have := HL.out; omega))
      have hn := nb_le (l := ns.take m) (by rw [List.length_take]; omega) (rng_take HR.out m)
      have hs2 := hide (nb_snoc (ns.take m) (ns.getD m 0))
      generalize nb (ns.take m) = x at *
      generalize ns.getD m 0 = y at *
      have b1 : IntKind.i64.wrap y = y := IntWalk.i64_in _ (by omega)
      have b2 : IntKind.i64.wrap (x * 256) = x * 256 := IntWalk.i64_in _ (by omega)
      have b3 := or_more x y hn.1 hn.2 hx.1 hx.2
      have l1 : (m : Int) < n := by omega
      go_wp2
      go_round
      case rel => exact ⟨m + 1, by omega, by go_num, by rw [hs.out, hs2.out]⟩
      case measure => simp [intOf]; omega
    · obtain rfl : m = j := by omega
      by_cases hcj : c = m
      · subst hcj
        go_wp2
        go_ret
        refine ⟨rfl, ⟨some ⟨b, o, none⟩, n - c, c - c, ?_⟩, setCell_grown _ _ _ _⟩
        have hh := H.out.took hk (ao := some ⟨b, o, none⟩) (fun e => absurd rfl e) (fun _ => rfl)
        have e0 : n - c = 0 := by omega
        rw [Nat.sub_self, e0] at hh ⊢
        exact hh
      · go_wp2
        go_ret
        exact ⟨rfl, ⟨some ⟨b, o + m, none⟩, n - m, c - m, H.out.took hk (fun _ => rfl) (fun e => absurd e hcj)⟩, setCell_grown _ _ _ _⟩
set_option maxRecDepth 100000 in
set_option maxHeartbeats 1000000 in
theorem end28 (r : Nat) (ao : Option Addr) (n c : Nat) (ns : List Int) (w : World) (p : w.cell? ⟨r, 0, none⟩ = some (.slice ao n c)) (hl' : ns.length = n) :
    Calls Try.prog 28 #[.pointer (some ⟨r, 0, none⟩)] w fun e w' => (ns = [] ∧ e = .returned (.tuple #[]) ∨ ¬ ns = [] ∧ e = .panicked pan) ∧ w' = w := by
  have hl := hide hl'
  clear hl'
  go_enter Try.func28, Try.ntmps28
  go_wp2_with fail
  refine (must36 ((n : Int) == 0) _).mono ?_
  rintro e u ⟨⟨h1, rfl⟩ | ⟨h1, rfl⟩, rfl⟩
  · have h2 : Hid (ns = []) := hide (List.eq_nil_of_length_eq_zero (by have := hl.out; simp at h1; omega))
    clear h1
    go_wp2
    go_end0
    exact ⟨Or.inl ⟨h2.out, rfl⟩, rfl⟩
  · have h2 : Hid (¬ ns = []) := hide (fun e => by have h3 := hl.out; rw [e] at h3; simp at h1 h3; omega)
    clear h1
    go_wp2
    exact ⟨rfl, Or.inr ⟨h2.out, rfl⟩, rfl⟩
set_option maxRecDepth 100000 in
set_option maxHeartbeats 1000000 in
theorem read26 (r B : Nat) (ns : List Int) (z : Int) (j : Nat) (w : World) (h : RdE r B ns w) (hj : j = 1 ∨ j = 2 ∨ j = 4 ∨ j = 6) :
    Calls Try.prog 26 #[.int .i64 z, .int .i64 j, .pointer (some ⟨r, 0, none⟩)] w fun e w' => w.grownBy w' (some r) ∧ (ns.length < j ∧ e = .panicked pan ∨ j ≤ ns.length ∧ e = .returned (.int .i64 (nb (ns.take j))) ∧ RdE r B (ns.drop j) w') := by
  by_cases hk : j ≤ ns.length
  · obtain ⟨ao, n, c, h'⟩ := h
    have hl := h'.byt.len
    obtain ⟨b, o, rfl, hc, -⟩ := h'.byt.at (by omega)
    have C := number27_yes r B b o n c ns j w h' (by omega) (by omega) (by omega)
    have HK := hide hk
    clear h' hl hc hk hj
    go_enter Try.func26, Try.ntmps26
    go_wp2_with fail
    refine C.mono ?_
    rintro e w1 ⟨rfl, hR, hG⟩
    go_wp2
    go_ret
    exact ⟨hG, Or.inr ⟨HK.out, rfl, hR⟩⟩
  · have C := number27_no r B ns j w h (by omega)
    have HK := hide hk
    clear h hk hj
    go_enter Try.func26, Try.ntmps26
    go_wp2_with fail
    refine C.mono ?_
    rintro e w1 ⟨rfl, rfl⟩
    go_wp2
    exact ⟨rfl, World.grownBy.refl _ _, Or.inl ⟨by have := HK.out; omega, rfl⟩⟩
theorem ent26 (args : Array Value) (w : World) : (callFunc 26 args).run Try.prog w = .ok (.enter 26 args) w := by
  kernel_rfl
theorem stepRd (r : Nat) : StepC 26 #[.pointer (some ⟨r, 0, none⟩)] r (r + 1) (fun ns w => RdE r (r + 1) ns w ∧ Rng ns) sRd where
  run := fun s n j w q h hj hr => (read26 r (r + 1) s n j w h.1 hj).mono fun e w' ⟨G, hh⟩ => by
    refine ⟨(Mid.refl _ _ w).grown G (Or.inr ⟨Nat.le_refl _, Nat.lt_succ_self _⟩), ?_⟩
    unfold sRd at hr
    rcases hh with ⟨h1, h2⟩ | ⟨h1, h2, h3⟩
    · rw [if_neg (by omega)] at hr
      exact Or.inl ⟨(Option.some.inj hr).symm, h2⟩
    · rw [if_pos h1] at hr
      exact Or.inr ⟨_, _, (Option.some.inj hr).symm, h2, h3, rng_drop h.2 j⟩
  on := fun _ _ _ h hb => ⟨h.1.below hb, h.2⟩
  sz := fun _ _ h => h.1.sz
  ent := ent26
  six := fun s s' n m _ hI h h0 h1 => by
    obtain ⟨-, hf, -⟩ := sRd_ok hI.2 h
    have := fit_and hf
    exact ⟨this.1, by have := this.2; omega⟩
end Go.Proofs.Ytdaglmimfkcmeaa
