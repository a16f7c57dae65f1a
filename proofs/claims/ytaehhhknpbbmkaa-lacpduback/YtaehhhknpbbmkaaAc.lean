/- Contracts of the reader: take, end, single, pair. -/
import Derived.Test.YtaehhhknpbbmkaaA4
import Derived.Laws.ResultCell
import Derived.Laws.CopyOwn
import Derived.Deep.QuietTactic
import Derived.PlainAid
namespace Go.Proofs.Ytaehhhknpbbmkaa
open Go.RowKit Go.PlainAid

/-- A reader in memory, and what it has yet; what it reads, and it itself, lie below B. -/
structure Rd (w : World) (r B : Nat) (ao : Option Addr) (n c : Nat) (ns : List Int) : Prop where
  at_ : w.cell? ⟨r, 0, none⟩ = some (.slice ao n c)
  fr : w.frozen? ⟨r, 0, none⟩ = false
  byt : Byt w ao n c ns
  ne : ∀ b o, ao = some ⟨b, o, none⟩ → 0 < n → b ≠ r ∧ b < B
  rb : r < B
  sz : B ≤ w.heap.size
theorem Rd.kept {w w1 : World} {r B k : Nat} {ao : Option Addr} {n c : Nat} {ns : List Int} (h : Rd w r B ao n c ns) (hk : B ≤ k) (hg : w.grownBy w1 (some k)) : Rd w1 r B ao n c ns := by
  have hr : r ≠ k := by have := h.rb; omega
  have hl : r < w.heap.size := World.block_lt_of_cell? w _ h.at_
  exact ⟨hg.cell h.at_ (fun e => hr (Option.some.inj e)), by rw [World.frozen?_of_block (a := ⟨r, 0, none⟩) (hg.block r hl (fun e => hr (Option.some.inj e)))]; exact h.fr, h.byt.kept (fun b o e hp => by have := (h.ne b o e hp).2; omega) hg, h.ne, h.rb, Nat.le_trans h.sz hg.size⟩
theorem Rd.on {w w1 : World} {r B : Nat} {ao : Option Addr} {n c : Nat} {ns : List Int} (h : Rd w r B ao n c ns) (hb : Below w.heap.size w w1) : Rd w1 r B ao n c ns := by
  have hl : r < w.heap.size := World.block_lt_of_cell? w _ h.at_
  exact ⟨(hb.cell (p := ⟨r, 0, none⟩) hl).trans h.at_, (hb.frozen (p := ⟨r, 0, none⟩) hl).trans h.fr, h.byt.on hb, h.ne, h.rb, Nat.le_trans h.sz hb.size⟩
theorem Rd.took {w : World} {r B b o n c : Nat} {ns : List Int} (h : Rd w r B (some ⟨b, o, none⟩) n c ns) {k : Nat} (hk : k ≤ n) {ao : Option Addr} (h1 : ¬ c = k → ao = some ⟨b, o + k, none⟩) (h2 : c = k → ao = some ⟨b, o, none⟩) :
    Rd (w.setCell ⟨r, 0, none⟩ (.slice ao (n - k) (c - k))) r B ao (n - k) (c - k) (ns.drop k) := by
  have hG := setCell_grown w r 0 (.slice ao (n - k) (c - k))
  have hle := h.byt.le
  have hlen := h.byt.len
  refine ⟨World.cell?_setCell_same _ _ _ h.at_, by rw [World.frozen?_setCell]; exact h.fr, ⟨by simp; omega, fun e => ?_, fun j hj => ?_, by omega, by have := h.byt.mx; omega, rng_drop h.byt.rng k⟩, fun b' o' e hp => ?_, h.rb, Nat.le_trans h.sz hG.size⟩
  · by_cases hc : c = k
    · rw [h2 hc] at e; cases e
    · rw [h1 hc] at e; cases e
  · have hc : ¬ c = k := by omega
    refine ⟨b, o + k, h1 hc, ?_⟩
    obtain ⟨b2, o2, e2, hcell⟩ := h.byt.cell (k + j) (by omega)
    injection Option.some.inj e2 with e3 e4
    subst e3 e4
    rw [hG.cell (a := ⟨b, o + k + j, none⟩) (v := .int .u8 ((ns.drop k).getD j 0)) ?_ (fun e => (h.ne b o rfl (by omega)).1 (Option.some.inj e))]
    rw [Nat.add_assoc, hcell]
    simp [List.getD_eq_getElem?_getD]
  · by_cases hc : c = k
    · rw [h2 hc] at e; injection Option.some.inj e with e3 e4; subst e3; exact h.ne b o rfl (by omega)
    · rw [h1 hc] at e; injection Option.some.inj e with e3 e4; subst e3; exact h.ne b o rfl (by omega)
/-- .. whatever its slice is. -/
def RdE (w : World) (r B : Nat) (ns : List Int) : Prop := ∃ ao n c, Rd w r B ao n c ns
theorem RdE.kept {w w1 : World} {r B k : Nat} {ns : List Int} (h : RdE w r B ns) (hk : B ≤ k) (hg : w.grownBy w1 (some k)) : RdE w1 r B ns := by
  obtain ⟨ao, n, c, h⟩ := h
  exact ⟨ao, n, c, h.kept hk hg⟩
theorem RdE.on {w w1 : World} {r B : Nat} {ns : List Int} (h : RdE w r B ns) (hb : Below w.heap.size w w1) : RdE w1 r B ns := by
  obtain ⟨ao, n, c, h⟩ := h
  exact ⟨ao, n, c, h.on hb⟩
theorem RdE.alloc {w : World} {r B : Nat} {ns : List Int} (h : RdE w r B ns) (o : Obj) : RdE (w.alloc o) r B ns := h.on (below_alloc w o)
theorem RdE.drew {w : World} {r B : Nat} {ns : List Int} (h : RdE w r B ns) : RdE w.drew r B ns := by
  obtain ⟨ao, n, c, h⟩ := h
  exact ⟨ao, n, c, h.at_, h.fr, h.byt.drew, h.ne, h.rb, h.sz⟩
theorem RdE.drewN {w : World} {r B : Nat} {ns : List Int} (h : RdE w r B ns) (m : Nat) : RdE (w.drewN m) r B ns := by
  obtain ⟨ao, n, c, h⟩ := h
  exact ⟨ao, n, c, h.at_, h.fr, h.byt.drewN m, h.ne, h.rb, h.sz⟩
theorem RdE.rng {w : World} {r B : Nat} {ns : List Int} (h : RdE w r B ns) : Rng ns := by
  obtain ⟨ao, n, c, h⟩ := h
  exact h.byt.rng
theorem RdE.rb {w : World} {r B : Nat} {ns : List Int} (h : RdE w r B ns) : r < B := by
  obtain ⟨ao, n, c, h⟩ := h
  exact h.rb
theorem RdE.sz {w : World} {r B : Nat} {ns : List Int} (h : RdE w r B ns) : B ≤ w.heap.size := by
  obtain ⟨ao, n, c, h⟩ := h
  exact h.sz

/-- What a reader panics with. -/
def pan : List PanicEntry := [{ v := .iface 30 (.int .i64 2), recovered := false }]
set_option maxRecDepth 100000 in
set_option maxHeartbeats 1000000 in
theorem take42_no (r B : Nat) (ns : List Int) (K : Int) (w : World) (h : RdE w r B ns) (hk : (ns.length : Int) < K) :
    Calls Try.prog 42 #[.pointer (some ⟨r, 0, none⟩), .int .i64 K] w fun e w' => e = .panicked pan ∧ w' = w := by
  obtain ⟨ao, n, c, h⟩ := h
  have p := h.at_
  have hl := h.byt.len
  replace hk : (n : Int) < K := by omega
  clear h hl
  go_enter Try.func42, Try.ntmps42
  go_wp2
  exact ⟨rfl, rfl, rfl⟩
set_option maxRecDepth 100000 in
set_option maxHeartbeats 1000000 in
theorem take42_yes (r B b o n c : Nat) (ns : List Int) (k : Nat) (w : World) (h : Rd w r B (some ⟨b, o, none⟩) n c ns) (hk : k ≤ n) :
    Calls Try.prog 42 #[.pointer (some ⟨r, 0, none⟩), .int .i64 k] w fun e w' => e = .returned (.slice (some ⟨b, o, none⟩) k c) ∧ RdE w' r B (ns.drop k) ∧ w.grownBy w' (some r) := by
  have p := h.at_
  have q := h.fr
  have hle := h.byt.le
  have hmx := h.byt.mx
  unfold maxLen at hmx
  have hk1 : (k : Int) ≤ n := by omega
  have hle1 : (n : Int) ≤ c := by omega
  have H := hide h
  clear h
  by_cases hc : c = k
  · subst hc
    go_enter Try.func42, Try.ntmps42
    go_wp2
    go_ret
    refine ⟨rfl, ⟨some ⟨b, o, none⟩, n - c, c - c, ?_⟩, setCell_grown _ _ _ _⟩
    have hh := H.out.took hk (ao := some ⟨b, o, none⟩) (fun e => absurd rfl e) (fun _ => rfl)
    have e0 : n - c = 0 := by omega
    rw [Nat.sub_self, e0] at hh ⊢
    exact hh
  · go_enter Try.func42, Try.ntmps42
    go_wp2
    go_ret
    exact ⟨rfl, ⟨some ⟨b, o + k, none⟩, n - k, c - k, H.out.took hk (fun _ => rfl) (fun e => absurd e hc)⟩, setCell_grown _ _ _ _⟩
/-- Some bytes are taken. -/
theorem take42 (r B : Nat) (ns : List Int) (K : Int) (k : Nat) (w : World) (h : RdE w r B ns) (h0 : 0 < k) (hk : k ≤ ns.length) (hK : K = k) :
    Calls Try.prog 42 #[.pointer (some ⟨r, 0, none⟩), .int .i64 K] w fun e w' => ∃ b o c, e = .returned (.slice (some ⟨b, o, none⟩) k c) ∧ Byt w' (some ⟨b, o, none⟩) k c (ns.take k) ∧ (b ≠ r ∧ b < B) ∧ RdE w' r B (ns.drop k) ∧ w.grownBy w' (some r) := by
  subst hK
  obtain ⟨ao, n, c, h⟩ := h
  have hl := h.byt.len
  obtain ⟨b, o, rfl, hc, -⟩ := h.byt.at (by omega)
  have hne := h.ne b o rfl (by omega)
  have hY := h.byt
  refine (take42_yes r B b o n c ns k w h (by omega)).mono ?_
  rintro e w' ⟨rfl, hR, hG⟩
  refine ⟨b, o, c, rfl, ⟨by rw [List.length_take]; omega, fun e => (by cases e), fun j hj => ⟨b, o, rfl, ?_⟩, by have := hY.le; omega, hY.mx, rng_take hY.rng k⟩, hne, hR, hG⟩
  rw [hG.cell (hc j (by omega)) (fun e => hne.1 (Option.some.inj e))]
  simp [List.getD_eq_getElem?_getD, hj]
set_option maxRecDepth 100000 in
set_option maxHeartbeats 1000000 in
theorem end39 (r B : Nat) (ns : List Int) (w : World) (h : RdE w r B ns) :
    Calls Try.prog 39 #[.pointer (some ⟨r, 0, none⟩)] w fun e w' => (ns.length = 0 ∧ e = .returned (.tuple #[]) ∨ 0 < ns.length ∧ e = .panicked pan) ∧ w' = w := by
  obtain ⟨ao, n, c, h⟩ := h
  have p := h.at_
  have hl := hide h.byt.len
  clear h
  by_cases h0 : n = 0
  · subst h0
    go_enter Try.func39, Try.ntmps39
    go_wp2
    go_end0
    exact ⟨Or.inl ⟨hl.out, rfl⟩, rfl⟩
  · have h1 : (0 : Int) < n := by omega
    clear h0
    go_enter Try.func39, Try.ntmps39
    go_wp2
    exact ⟨rfl, Or.inr ⟨by have := hl.out; omega, rfl⟩, rfl⟩
theorem i64_byte (a : Int) (h0 : 0 ≤ a) (h1 : a ≤ 255) : IntKind.i64.wrap a = a := IntWalk.i64_in _ (by omega)
theorem or_pair (x y : Int) (h0 : 0 ≤ x) (h1 : x ≤ 255) (g0 : 0 ≤ y) (g1 : y ≤ 255) : bits .or .i64 (x * 256) y = x * 256 + y := by
  obtain ⟨a, rfl⟩ := Int.eq_ofNat_of_zero_le h0
  obtain ⟨b, rfl⟩ := Int.eq_ofNat_of_zero_le g0
  have hx : a * 256 ||| b = a * 256 + b := by
    have := nat_join 8 ((a * 256 : Nat)) b (by omega) (by omega)
    simpa using this
  show IntKind.i64.wrap ((BitVec.ofInt 64 ((a : Int) * 256) ||| BitVec.ofInt 64 (b : Int)).toNat : Int) = _
  have e1 : BitVec.ofInt 64 ((a : Int) * 256) = BitVec.ofNat 64 (a * 256) := by rw [← BitVec.ofInt_natCast]; simp
  have e2 : BitVec.ofInt 64 (b : Int) = BitVec.ofNat 64 b := BitVec.ofInt_natCast 64 b
  rw [e1, e2, BitVec.toNat_or, BitVec.toNat_ofNat, BitVec.toNat_ofNat, Nat.mod_eq_of_lt (by omega), Nat.mod_eq_of_lt (by omega), hx]
  rw [IntWalk.i64_in _ (by omega)]
  omega
theorem take_getD (ns : List Int) (k j : Nat) (h : j < k) : (ns.take k).getD j 0 = ns.getD j 0 := by simp [List.getD_eq_getElem?_getD, h]
set_option maxRecDepth 100000 in
set_option maxHeartbeats 1000000 in
theorem pair37 (r B : Nat) (ns : List Int) (w : World) (h : RdE w r B ns) :
    Calls Try.prog 37 #[.pointer (some ⟨r, 0, none⟩)] w fun e w' => (2 ≤ ns.length ∧ e = .returned (.int .i64 (pr ns)) ∧ RdE w' r B (ns.drop 2) ∨ ns.length < 2 ∧ e = .panicked pan) ∧ w.grownBy w' (some r) := by
  by_cases hn : 2 ≤ ns.length
  · have hr := h.rng
    obtain ⟨g0, g1⟩ := rng_getD hr 0
    obtain ⟨g2, g3⟩ := rng_getD hr 1
    have t0 := hide (take_getD ns 2 0 (by omega))
    have t1 := hide (take_getD ns 2 1 (by omega))
    have HP : Hid (pr ns = ns.getD 0 0 * 256 + ns.getD 1 0) := hide rfl
    generalize ns.getD 0 0 = x at *
    generalize ns.getD 1 0 = y at *
    have b0 := i64_byte x g0 g1
    have b1 := i64_byte y g2 g3
    have q := or_pair x y g0 g1 g2 g3
    have H := hide h
    clear h hr
    go_enter Try.func37, Try.ntmps37
    go_wp2_with fail
    refine (take42 r B ns 2 2 _ H.out (by omega) hn rfl).mono ?_
    rintro e w1 ⟨b, o, c, rfl, hY, -, hR, hG⟩
    obtain ⟨b', o', e, hc, -⟩ := hY.at (by omega)
    injection Option.some.inj e with e1 e2
    subst e1 e2
    have d0 : w1.cell? ⟨b, o, none⟩ = some (.int .u8 x) := by rw [← t0.out]; exact hc 0 (by omega)
    have d1 : w1.cell? ⟨b, o + 1, none⟩ = some (.int .u8 y) := by rw [← t1.out]; exact hc 1 (by omega)
    have hle : (2 : Int) ≤ c := by have := hY.le; omega
    have HR := hide hR
    have HG := hide hG
    have HN := hide hn
    clear hY hR hG hc e hn H t0 t1
    go_wp2_with fail
    go_quiet (fail)
    go_wp2
    go_ret
    exact ⟨Or.inl ⟨HN.out, ret_int (by rw [HP.out]), HR.out.drewN _⟩, grown_drewN HG.out _⟩
  · have H := hide h
    have HN := hide hn
    clear h hn
    go_enter Try.func37, Try.ntmps37
    go_wp2_with fail
    refine (take42_no r B ns 2 _ H.out (by have := HN.out; omega)).mono ?_
    rintro e w1 ⟨rfl, rfl⟩
    go_wp2
    exact ⟨rfl, Or.inr ⟨by have := HN.out; omega, rfl⟩, World.grownBy.refl _ _⟩
set_option maxRecDepth 100000 in
set_option maxHeartbeats 1000000 in
theorem single44 (r B : Nat) (ns : List Int) (w : World) (h : RdE w r B ns) :
    Calls Try.prog 44 #[.pointer (some ⟨r, 0, none⟩)] w fun e w' => (1 ≤ ns.length ∧ e = .returned (.int .i64 (ns.getD 0 0)) ∧ RdE w' r B (ns.drop 1) ∨ ns.length < 1 ∧ e = .panicked pan) ∧ w.grownBy w' (some r) := by
  by_cases hn : 1 ≤ ns.length
  · have hr := h.rng
    obtain ⟨g0, g1⟩ := rng_getD hr 0
    have t0 := hide (take_getD ns 1 0 (by omega))
    generalize ns.getD 0 0 = x at *
    have b0 := i64_byte x g0 g1
    have H := hide h
    clear h hr
    go_enter Try.func44, Try.ntmps44
    go_wp2_with fail
    refine (take42 r B ns 1 1 _ H.out (by omega) hn rfl).mono ?_
    rintro e w1 ⟨b, o, c, rfl, hY, -, hR, hG⟩
    obtain ⟨b', o', e, hc, -⟩ := hY.at (by omega)
    injection Option.some.inj e with e1 e2
    subst e1 e2
    have d0 : w1.cell? ⟨b, o, none⟩ = some (.int .u8 x) := by rw [← t0.out]; exact hc 0 (by omega)
    have hle : (1 : Int) ≤ c := by have := hY.le; omega
    have HR := hide hR
    have HG := hide hG
    have HN := hide hn
    clear hY hR hG hc e hn H t0
    go_wp2
    go_ret
    exact ⟨Or.inl ⟨HN.out, rfl, HR.out⟩, HG.out⟩
  · have H := hide h
    have HN := hide hn
    clear h hn
    go_enter Try.func44, Try.ntmps44
    go_wp2_with fail
    refine (take42_no r B ns 1 _ H.out (by have := HN.out; omega)).mono ?_
    rintro e w1 ⟨rfl, rfl⟩
    go_wp2
    exact ⟨rfl, Or.inr ⟨by have := HN.out; omega, rfl⟩, World.grownBy.refl _ _⟩
end Go.Proofs.Ytaehhhknpbbmkaa
