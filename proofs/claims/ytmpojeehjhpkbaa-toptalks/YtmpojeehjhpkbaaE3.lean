/- Contracts of what puts bytes down: two, appendPair, Clone; string of a list of bytes. -/
import Derived.Test.YtmpojeehjhpkbaaA1
import Derived.Laws.AppendOwnNone
import Derived.OwnWalk
namespace Go.Proofs.Ytmpojeehjhpkbaa
open Go.RowKit

theorem u8_mod (n : Int) : IntKind.u8.wrap n = n % 256 := by rw [IntKind.wrap_u8]
theorem u8_div (n : Int) (h0 : 0 ≤ n) (h1 : n ≤ 65535) : IntKind.u8.wrap (n / 256) = n / 256 := by rw [IntKind.wrap_u8]; omega
set_option maxRecDepth 100000 in
set_option maxHeartbeats 1000000 in
theorem pair21 (g k cap : Nat) (xs : List Value) (n : Int) (w : World) (h0 : 0 ≤ n) (h1 : n ≤ 65535) (hown : w.ownsRow g 5 1 (.slice (some ⟨g, 0, none⟩) k cap) k xs) (hk : k + 2 ≤ cap) (hg : g < w.heap.size) :
    Calls Try.prog 28 #[.slice (some ⟨g, 0, none⟩) k cap, .int .i64 n] w fun e w' => e = .returned (.slice (some ⟨g, 0, none⟩) (k + 2) cap) ∧ w'.ownsRow g 5 1 (.slice (some ⟨g, 0, none⟩) (k + 2) cap) (k + 2) (xs ++ [.int .u8 (n / 256), .int .u8 (n % 256)]) ∧ Below g w w' := by
  have q1 := u8_div n h0 h1
  have q2 := u8_mod n
  obtain ⟨i0, hi, hz0, hz1, hz2⟩ := info_parts Try.info5
  go_enter Try.func28, Try.ntmps28
  go_wp2_with (at_builtin; refine wpList_append_fits _ rfl (.tmp 5) (.tmp 11) 24 rfl g 5 i0 1 Try.underlying24 hi hz1 g k cap xs rfl (hown.alloc _) ⟨w.heap.size, 0, none⟩ 2 2 [.int .u8 (n / 256), .int .u8 (n % 256)] rfl rfl ?c1 ?c2 hk ?_)
  case c1 =>
    intro j u hj
    match j, hj with
    | 0, hj => simp at hj; subst hj; simp [Addr.add]
    | 1, hj => simp at hj; subst hj; simp [Addr.add]
  case c2 => intro u hu; simp at hu; rcases hu with rfl | rfl <;> rfl
  intro w1 hown1 hgrow
  have hB : Below g w w1 := ((Below.refl g w).alloc (by omega) _).grown hgrow (by simp; omega) (fun k hk => by have := Option.some.inj hk; omega)
  clear hgrow
  go_wp2
  go_ret
  exact ⟨rfl, hown1, hB⟩

end Go.Proofs.Ytmpojeehjhpkbaa
