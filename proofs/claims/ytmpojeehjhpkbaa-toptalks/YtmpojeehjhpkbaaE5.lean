/- Contract of Encode, as the program has it. -/
import Derived.Test.YtmpojeehjhpkbaaE2
import Derived.Test.YtmpojeehjhpkbaaE4
namespace Go.Proofs.Ytmpojeehjhpkbaa
open Go.RowKit

theorem AtF.below {w w1 : World} {k g : Nat} {f : Fd} {b : Value} (h : AtF w k f b) (hg : k < g) (hb : Below g w w1) : AtF w1 k f b := by
  have e : ∀ i, w1.cell? ⟨k, i, none⟩ = w.cell? ⟨k, i, none⟩ := fun i => hb.cell (p := ⟨k, i, none⟩) hg
  exact ⟨Nat.lt_of_lt_of_le h.lt hb.size, by rw [e]; exact h.c0, by rw [e]; exact h.c1, by rw [e]; exact h.c2, by rw [e]; exact h.c3, by rw [e]; exact h.c4, by rw [e]; exact h.c5, by rw [e]; exact h.c6, by rw [e]; exact h.c7, by rw [e]; exact h.c8, by rw [e]; exact h.c9, by rw [e]; exact h.c10, by rw [e]; exact h.c11, by rw [e]; exact h.c12, by rw [e]; exact h.c13, by rw [e]; exact h.c14, by rw [e]; exact h.c15, by rw [e]; exact h.c16⟩
theorem Byt.below {w w1 : World} {g : Nat} {ao : Option Addr} {n c : Nat} {ns : List Int} (h : Byt w ao n c ns) (hg : ∀ b o, ao = some ⟨b, o, none⟩ → 0 < n → b < g) (hb : Below g w w1) : Byt w1 ao n c ns :=
  ⟨h.len, h.nil, fun j hj => by
    obtain ⟨b, o, e, hc⟩ := h.cell j hj
    exact ⟨b, o, e, (hb.cell (p := ⟨b, o + j, none⟩) (hg b o e (by omega))).trans hc⟩, h.le, h.mx, h.rng⟩
theorem Byt.lt {w : World} {ao : Option Addr} {n c : Nat} {ns : List Int} (h : Byt w ao n c ns) : ∀ b o, ao = some ⟨b, o, none⟩ → 0 < n → b < w.heap.size := by
  intro b o e hn
  obtain ⟨b', o', e', hc⟩ := h.cell 0 hn
  rw [e] at e'
  injection Option.some.inj e' with e1 e2
  subst e1
  exact World.block_lt_of_cell? w _ hc
theorem ow6 {k o : Nat} {w : World} {cs : List Value} (h : w.rangeAt k o cs) : ∀ j u, cs[j]? = some u → w.cell? ((⟨k, o, none⟩ : Addr).add j) = some u := by
  intro j u hj
  rw [Addr.add_lit]
  exact h j u hj
theorem one6 {a0 a1 a2 a3 a4 a5 : Int} : ∀ u ∈ [Value.int .u8 a0, .int .u8 a1, .int .u8 a2, .int .u8 a3, .int .u8 a4, .int .u8 a5], u.oneCell' = true := by
  intro u hu
  simp at hu
  rcases hu with rfl | rfl | rfl | rfl | rfl | rfl <;> rfl
theorem Byt.srcAny {w : World} {ao : Option Addr} {n c : Nat} {ns : List Int} (h : Byt w ao n c ns) : ∀ ad, ao = some ad → ∀ j u, (ns.map (Value.int .u8))[j]? = some u → w.cell? (ad.add j) = some u := by
  intro ad e
  subst e
  exact h.src
set_option maxRecDepth 100000 in
set_option maxHeartbeats 1000000 in
theorem encode10_no (f : Fd) (ao : Option Addr) (n c : Nat) (w : World) (hn : f.bs.length = n) (hr : rt f = false) :
    Calls Try.prog 17 #[.agg #[.int .u8 f.d0, .int .u8 f.d1, .int .u8 f.d2, .int .u8 f.d3, .int .u8 f.d4, .int .u8 f.d5, .int .u8 f.s0, .int .u8 f.s1, .int .u8 f.s2, .int .u8 f.s3, .int .u8 f.s4, .int .u8 f.s5, .bool f.tg, .int .i64 f.vl, .int .i64 f.pr, .int .i64 f.ty, (.slice ao n c)]] w fun e w' => e = .returned (.tuple #[.slice none 0 0, .int .i64 1]) ∧ Below w.heap.size w w' := by
  have HN := hide hn
  have A0 := AtF.new w f (.slice ao n c)
  clear hn
  go_enter Try.func17, Try.ntmps17
  go_wp2_with (refine wpl_frame (.tmp 1) rfl A0 ?_ ?_ ?_; rfl; rfl)
  refine (right12 f ao n c _ HN.out).mono ?_
  rintro e w1 ⟨rfl, hb1⟩
  clear A0
  go_wp2
  go_ret2
  exact ⟨rfl, belowOn (below_alloc _ _) hb1⟩

end Go.Proofs.Ytmpojeehjhpkbaa
