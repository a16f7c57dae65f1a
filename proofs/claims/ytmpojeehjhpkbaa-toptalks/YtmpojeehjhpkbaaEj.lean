/- Contracts of the reader: pair. -/
import Derived.Test.YtmpojeehjhpkbaaEi
import Derived.PlainAid
namespace Go.Proofs.Ytmpojeehjhpkbaa
open Go.RowKit Go.PlainAid

theorem take29 (r b o n c : Nat) (ns : List Int) (K : Int) (k : Nat) (w : World) (h : Rd w r (some ⟨b, o, none⟩) n c ns) (hk : k ≤ n) (hK : K = k) :
    Calls Try.prog 37 #[.pointer (some ⟨r, 0, none⟩), .int .i64 K] w fun e w' => e = .returned (.slice (some ⟨b, o, none⟩) k c) ∧ ∃ ao', Rd w' r ao' (n - k) (c - k) (ns.drop k) ∧ (∀ b' o', ao' = some ⟨b', o', none⟩ → b' = b) ∧ w.grownBy w' (some r) := by
  subst hK
  exact take29_yes r b o n c ns k w h hk
theorem i64_byte (a : Int) (h0 : 0 ≤ a) (h1 : a ≤ 255) : IntKind.i64.wrap a = a := IntWalk.i64_in _ (by omega)
theorem or_pair (x y : Int) (h0 : 0 ≤ x) (h1 : x ≤ 255) (g0 : 0 ≤ y) (g1 : y ≤ 255) : bits .or .i64 (x * 256) y = x * 256 + y := by
  obtain ⟨a, rfl⟩ := Int.eq_ofNat_of_zero_le h0
  obtain ⟨b, rfl⟩ := Int.eq_ofNat_of_zero_le g0
  have hx : a * 256 ||| b = a * 256 + b := by
    have := nat_join 8 ((a * 256 : Nat)) b (by omega) (by omega)
    simpa using this
  show IntKind.i64.wrap ((BitVec.ofInt 64 ((a : Int) * 256) ||| BitVec.ofInt 64 (b : Int)).toNat : Int) = _
  have e1 : BitVec.ofInt 64 ((a : Int) * 256) = BitVec.ofNat 64 (a * 256) := by rw [← BitVec.ofInt_natCast]; simp
  have e2 : BitVec.ofInt 64 (b : Int) = BitVec.ofNat 64 b := BitVec.ofInt_natCast 64 b
  rw [e1, e2, BitVec.toNat_or, BitVec.toNat_ofNat, BitVec.toNat_ofNat, Nat.mod_eq_of_lt (by omega), Nat.mod_eq_of_lt (by omega), hx]
  rw [IntWalk.i64_in _ (by omega)]
  omega
theorem grown_drewN {w w1 : World} {row : Option Nat} (h : w.grownBy w1 row) (n : Nat) : w.grownBy (w1.drewN n) row := ⟨h.os, h.tape, h.output, h.size, h.block⟩
theorem Rd.drewN {w : World} {r : Nat} {ao : Option Addr} {n c : Nat} {ns : List Int} (h : Rd w r ao n c ns) (m : Nat) : Rd (w.drewN m) r ao n c ns := ⟨h.at_, h.fr, ⟨h.byt.len, h.byt.nil, h.byt.cell, h.byt.le, h.byt.mx, h.byt.rng⟩, h.ne⟩
set_option maxRecDepth 100000 in
set_option maxHeartbeats 1000000 in
theorem pair28_yes (r : Nat) (ao : Option Addr) (n c : Nat) (ns : List Int) (w : World) (h : Rd w r ao n c ns) (hn : 2 ≤ n) :
    Calls Try.prog 36 #[.pointer (some ⟨r, 0, none⟩)] w fun e w' => e = .returned (.int .i64 (ns.getD 0 0 * 256 + ns.getD 1 0)) ∧ ∃ ao', Rd w' r ao' (n - 2) (c - 2) (ns.drop 2) ∧ (∀ b' o', ao' = some ⟨b', o', none⟩ → ∃ o2, ao = some ⟨b', o2, none⟩) ∧ w.grownBy w' (some r) := by
  obtain ⟨b, o, rfl, hc, -⟩ := h.byt.at (by omega)
  have hne := h.ne b o rfl (by omega)
  obtain ⟨g0, g1⟩ := rng_getD h.byt.rng 0
  obtain ⟨g2, g3⟩ := rng_getD h.byt.rng 1
  have c0 : w.cell? ⟨b, o, none⟩ = some (.int .u8 (ns.getD 0 0)) := hc 0 (by omega)
  have c1 : w.cell? ⟨b, o + 1, none⟩ = some (.int .u8 (ns.getD 1 0)) := hc 1 (by omega)
  have hle := h.byt.le
  have hc2 : (2 : Int) ≤ c := by omega
  generalize ns.getD 0 0 = x at *
  generalize ns.getD 1 0 = y at *
  have b0 := i64_byte x g0 g1
  have b1 := i64_byte y g2 g3
  have q := or_pair x y g0 g1 g2 g3
  have H := hide h
  clear h hc
  go_enter Try.func36, Try.ntmps36
  go_wp2_with fail
  refine (take29 r b o n c ns 2 2 _ H.out hn rfl).mono ?_
  rintro e w1 ⟨rfl, ao', R1, hb', G1⟩
  have d0 := G1.cell c0 (fun e => hne (Option.some.inj e))
  have d1 := G1.cell c1 (fun e => hne (Option.some.inj e))
  clear c0 c1
  have HR := hide R1
  have HB := hide hb'
  clear R1 hb'
  go_wp2_with fail
  go_quiet (fail)
  go_wp2
  go_ret
  exact ⟨rfl, ao', HR.out.drewN _, fun b' o' e => ⟨o, by rw [HB.out b' o' e]⟩, grown_drewN G1 _⟩

set_option maxRecDepth 100000 in
set_option maxHeartbeats 1000000 in
theorem pair28_no (r : Nat) (ao : Option Addr) (n c : Nat) (ns : List Int) (w : World) (h : Rd w r ao n c ns) (hn : n < 2) :
    Calls Try.prog 36 #[.pointer (some ⟨r, 0, none⟩)] w fun e w' => e = .panicked pan ∧ w.grownBy w' (some r) := by
  have H := hide h
  clear h
  go_enter Try.func36, Try.ntmps36
  go_wp2_with fail
  refine (take29_no r ao n c ns 2 _ H.out (by omega)).mono ?_
  rintro e w1 ⟨rfl, rfl⟩
  go_wp2
  exact ⟨rfl, rfl, World.grownBy.refl _ _⟩
end Go.Proofs.Ytmpojeehjhpkbaa
