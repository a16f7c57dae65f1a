/- Contract of the program's Put: what is no class; what finds no room. -/
import Derived.Test.YtmdbclhdbglppaaPc
namespace Go.Proofs.Ytmdbclhdbglppaa
open Go.RowKit Go.PlainAid

set_option maxRecDepth 100000 in
set_option maxHeartbeats 2000000 in
theorem putQ_out (p : Addr) (k : Int) (ab : Option Addr) (nb cb : Nat) (w : World) (hk : isC k = false) :
    Calls Try.prog 16 #[.pointer (some p), .int .i64 k, .slice ab nb cb] w fun e w' => e = .returned (.int .i64 1) ∧ w' = w := by
  have q1 := hide (isClassQ k w)
  rw [hk] at q1
  clear hk
  go_enter Try.func16, Try.ntmps16
  go_wp2_with (go_at_call 22; refine q1.out.mono ?_; rintro e w' ⟨rfl, rfl⟩)
  go_ret
  exact ⟨rfl, rfl⟩
section
variable (g : Nat) (T S : Nat → Prop) (n : Nat) (SV : List Sv) (L : List Wt) (ls : List Nat) (k : Nat) (ab : Option Addr) (nb cb : Nat) (w : World)
set_option maxRecDepth 100000 in
set_option maxHeartbeats 4000000 in
theorem putQ_full (H : PX w g T S n SV L ls) (hk : k < 8) (hf : n ≤ cnt L k) (hs : ls[k]?.getD 0 ≤ 1000000) :
    Calls Try.prog 16 #[.pointer (some ⟨g, 0, none⟩), .int .i64 k, .slice ab nb cb] w fun e w' => e = .returned (.int .i64 3) ∧ PX w' g T S n SV L (up1 ls k) ∧ Chg S w w' := by
  have q1 := hide (isClassQ k w)
  rw [isC_iff.2 ⟨by omega, by omega⟩] at q1
  have h3 : (k : Int) < 8 := by omega
  obtain ⟨⟨xa, xn, xp⟩, -, c1, -, hn⟩ := H.at_ hk
  have c0 := H.room_at
  have hxn : xn = n := by have h1 : xn = cnt L k := hn; have := H.room k; omega
  subst hxn
  unfold sv at c1
  have HR := hide H
  have HK := hide hk
  clear H hn hf
  go_enter Try.func16, Try.ntmps16
  go_wp2_with (go_at_call 22; refine q1.out.mono ?_; rintro e w' ⟨rfl, rfl⟩)
  go_quiet (fail)
  have HR1 := hide (HR.out.drewN nq)
  have M1 : Hid (Chg S w' (w'.drewN nq)) := hide (chg_drewN _ _)
  clear c0 c1 HR q1
  generalize w'.drewN nq = u at *
  obtain ⟨x, hx⟩ : ∃ x, x = ls[k]?.getD 0 := ⟨_, rfl⟩
  obtain ⟨c2, f2⟩ := HR1.out.lost_at HK.out
  rw [← hx] at c2 hs
  have HX := hide hx
  have e3 : IntKind.i64.wrap ((x : Int) + 1) = ((x + 1 : Nat) : Int) := by
    rw [IntWalk.i64_in _ (by omega)]; omega
  clear hx hs
  go_wp2_with fail
  go_region
  have R2 : Hid (PX (u.setCell ⟨g, 9 + k, none⟩ (.int .i64 ((x : Int) + 1))).drew g T S xn SV L (up1 ls k)) := hide (by
    have h := HR1.out.lost1 HK.out
    rw [← HX.out] at h
    exact h.drew)
  have M2 : Hid (Chg S w' (u.setCell ⟨g, 9 + k, none⟩ (.int .i64 ((x : Int) + 1))).drew) := hide (by
    exact (M1.out.trans (chg_set u g _ _ HR1.out.sh)).trans (chg_drew _))
  clear HR1 M1 c2 f2 e3
  generalize (u.setCell ⟨g, 9 + k, none⟩ (.int .i64 ((x : Int) + 1))).drew = u2 at *
  go_wp2
  go_ret
  exact ⟨rfl, R2.out, M2.out⟩
end
end Go.Proofs.Ytmdbclhdbglppaa
