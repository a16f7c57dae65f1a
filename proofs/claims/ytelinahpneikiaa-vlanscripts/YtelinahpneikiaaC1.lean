/- Contracts: a step, of both tables; both tables, behind any steps. -/
import Derived.Test.YtelinahpneikiaaB5
namespace Go.Proofs.Ytelinahpneikiaa
open Go.RowKit Go.PlainAid

/-- A step. -/
structure St where
  d : Int
  v : Int
  p : Int
  t : Bool
def scs (s : St) : List Value := [.int .i64 s.d, .int .i64 s.v, .int .i64 s.p, .bool s.t]
def SC (s : St) : Array Value := (scs s).toArray
def nx (T : Tb) (s : St) : Tb := if s.d = 0 then tAdd T s.v s.p s.t else if s.d = 1 then tRm T s.v s.p else tNat T s.p s.v
theorem len_nx (T : Tb) (s : St) : (nx T s).l.length ≤ T.l.length + 1 := by
  unfold nx
  split
  · unfold tAdd; split
    · exact len_ad _ _ _ _
    · omega
  · split
    · unfold tRm; split
      · have := len_rm T.l s.v s.p
        simp; omega
      · omega
    · unfold tNat; split
      · simp
      · omega
theorem Box.mid {w w1 : World} {k N M : Nat} {cs : List Value} (h : Box w k cs) (m : Mid N M w w1) (hk : M ≤ k) : Box w1 k cs := h.block (m.block k h.lt (Or.inr hk))
theorem SC0 (s : St) : (SC s)[0]? = some (.int .i64 s.d) := rfl
theorem SC1 (s : St) : (SC s)[1]? = some (.int .i64 s.v) := rfl
theorem SC2 (s : St) : (SC s)[2]? = some (.int .i64 s.p) := rfl
theorem SC3 (s : St) : (SC s)[3]? = some (.bool s.t) := rfl
theorem SC_size (s : St) : (SC s).size = 4 := rfl
section
attribute [local go_sem] SC0 SC1 SC2 SC3 SC_size
set_option maxRecDepth 100000 in
set_option maxHeartbeats 4000000 in
theorem step27 (h g : Nat) (lv : Value) (T : Tb) (s : St) (w : World) (P : PT w h T) (R : RT w g lv T) (hg : h + 3 ≤ g) (hL : T.l.length ≤ 1000) :
    Calls Try.prog 27 #[.pointer (some ⟨h + 2, 0, none⟩), .pointer (some ⟨g + 1, 0, none⟩), .agg (SC s)] w fun e w' => e = .returned (.bool true) ∧ PT w' h (nx T s) ∧ (∃ lv', RT w' g lv' (nx T s)) ∧ Below h w w' := by
  have B0 := below_alloc w (.cells (SC s) 48)
  have S0 : Box (w.alloc (.cells (SC s) 48)) w.heap.size (scs s) := Box.new w (scs s) 48
  have P0 := hide (P.on B0)
  have R0 := hide (R.on B0)
  have hl := R.lt
  have hk : Hid (h + 3 ≤ w.heap.size) := hide (by omega)
  have hB : Hid (h ≤ w.heap.size) := hide (by omega)
  have HL := hide hL
  have HG := hide hg
  clear P R hl hL hg
  by_cases hd0 : s.d = 0
  · have en : nx T s = tAdd T s.v s.p s.t := by rw [nx, if_pos hd0]
    rw [en]
    have hd : (s.d == 0) = true := by simp [hd0]
    clear hd0 en
    go_enter Try.func27, Try.ntmps27
    go_wp2_with fail
    refine (add23 h T s.v s.p s.t _ P0.out).mono ?_
    rintro e w1 ⟨rfl, P1, M1⟩
    have S1 := S0.mid M1 hk.out
    have R1 := hide (R0.out.mid M1 HG.out)
    have c1 := S1.cell 1 _ rfl
    have c2 := S1.cell 2 _ rfl
    have c3 := S1.cell 3 _ rfl
    have B1 := hide ((B0.mono hB.out).trans (M1.below (by have := hB.out; simp; omega)))
    have PP := hide P1
    clear M1 S1 S0 B0 P1 P0 R0
    go_wp2_with fail
    refine (add42 g lv T s.v s.p s.t _ R1.out HL.out).mono ?_
    rintro e w2 ⟨rfl, ⟨lv', R2⟩, B2⟩
    have RR := hide R2
    have P2 := hide (PP.out.below B2 HG.out)
    have BB := hide (B1.out.trans (B2.mono (by have := HG.out; omega)))
    clear R2 B2 PP R1 B1 c1 c2 c3
    go_wp2
    go_ret
    exact ⟨ret_bool (by simp), P2.out, ⟨_, RR.out⟩, BB.out⟩
  · by_cases hd1 : s.d = 1
    · have en : nx T s = tRm T s.v s.p := by rw [nx, if_neg hd0, if_pos hd1]
      rw [en]
      have hd : (s.d == 0) = false := by simp [hd0]
      have hd' : (s.d == 1) = true := by simp [hd1]
      clear hd0 hd1 en
      go_enter Try.func27, Try.ntmps27
      go_wp2_with fail
      refine (remove24 h T s.v s.p _ P0.out).mono ?_
      rintro e w1 ⟨rfl, P1, M1⟩
      have S1 := S0.mid M1 hk.out
      have R1 := hide (R0.out.mid M1 HG.out)
      have c1 := S1.cell 1 _ rfl
      have c2 := S1.cell 2 _ rfl
      have B1 := hide ((B0.mono hB.out).trans (M1.below (by have := hB.out; simp; omega)))
      have PP := hide P1
      clear M1 S1 S0 B0 P1 P0 R0
      go_wp2_with fail
      refine (remove43 g lv T s.v s.p _ R1.out HL.out).mono ?_
      rintro e w2 ⟨rfl, ⟨lv', R2⟩, B2⟩
      have RR := hide R2
      have P2 := hide (PP.out.below B2 HG.out)
      have BB := hide (B1.out.trans (B2.mono (by have := HG.out; omega)))
      clear R2 B2 PP R1 B1 c1 c2
      go_wp2
      go_ret
      exact ⟨ret_bool (by simp), P2.out, ⟨_, RR.out⟩, BB.out⟩
    · have en : nx T s = tNat T s.p s.v := by rw [nx, if_neg hd0, if_neg hd1]
      rw [en]
      have hd : (s.d == 0) = false := by simp [hd0]
      have hd' : (s.d == 1) = false := by simp [hd1]
      clear hd0 hd1 en
      go_enter Try.func27, Try.ntmps27
      go_wp2_with fail
      refine (native22 h T s.p s.v _ P0.out).mono ?_
      rintro e w1 ⟨rfl, P1, M1⟩
      have S1 := S0.mid M1 hk.out
      have R1 := hide (R0.out.mid M1 HG.out)
      have c1 := S1.cell 1 _ rfl
      have c2 := S1.cell 2 _ rfl
      have B1 := hide ((B0.mono hB.out).trans (M1.below (by have := hB.out; simp; omega)))
      have PP := hide P1
      clear M1 S1 S0 B0 P1 P0 R0
      go_wp2_with fail
      refine (native44 g lv T s.p s.v _ R1.out).mono ?_
      rintro e w2 ⟨rfl, ⟨lv', R2⟩, B2⟩
      have RR := hide R2
      have P2 := hide (PP.out.below B2 HG.out)
      have BB := hide (B1.out.trans (B2.mono (by have := HG.out; omega)))
      clear R2 B2 PP R1 B1 c1 c2
      go_wp2
      go_ret
      exact ⟨ret_bool (by simp), P2.out, ⟨_, RR.out⟩, BB.out⟩
end
end Go.Proofs.Ytelinahpneikiaa
