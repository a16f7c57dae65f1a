/- Contract of a step, of both tables. -/
import Derived.Test.YtbpkdkniiggcpaaEb
import Derived.Test.YtbpkdkniiggcpaaE8
import Derived.Test.YtbpkdkniiggcpaaE7
import Derived.Test.YtbpkdkniiggcpaaD6
import Derived.Test.YtbpkdkniiggcpaaB5
namespace Go.Proofs.Ytbpkdkniiggcpaa
open Go.RowKit Go.PlainAid

def nx (T : Tb) (s : St) : Tb := if s.d = 0 then lT T s.v s.m s.p s.t else if s.d = 1 then pT T s.v s.m s.p else if s.d = 2 then ⟨T.n, rm T.l s.v s.m⟩ else if s.d = 3 then aT T s.t s.n else if s.d = 4 then gT T (gP s.p) else gT T (gV s.v)
theorem Box.mid {w w1 : World} {k N M : Nat} {cs : List Value} (h : Box w k cs) (m : Mid N M w w1) (hk : M ≤ k) : Box w1 k cs := h.block (m.block k h.lt (Or.inr hk))
theorem stp_mac {w : World} {k o : Nat} {s : St} (h : w.rangeAt k o (scl s)) : w.rangeAt k (o + 2) (mcl s.m) :=
  rangeAt_left (rangeAt_right (A := [.int .i64 s.d, .int .i64 s.v]) h rfl)
theorem SC_size (s : St) : (SC s).size = 11 := rfl
section
attribute [local go_sem] SC0 SC1 SC8 SC9 SC10 SC_size
set_option maxRecDepth 100000 in
set_option maxHeartbeats 2000000 in
theorem step25_0 (h g : Nat) (ps : List En) (lv : Value) (T : Tb) (s : St) (w : World) (hm : Mok s.m) (P : PT w h ps T) (R : RT w g lv T) (hg : h + 2 ≤ g) (hd : s.d = 0) :
    Calls Try.prog 25 #[.pointer (some ⟨h + 1, 0, none⟩), .pointer (some ⟨g, 0, none⟩), .agg (SC s)] w fun e w' => e = .returned (.bool true) ∧ (∃ ps', PT w' h ps' (lT T s.v s.m s.p s.t)) ∧ (∃ lv', RT w' g lv' (lT T s.v s.m s.p s.t)) ∧ Below h w w' := by
  have B0 := below_alloc w (.cells (SC s) 26)
  have S0 := box_s w s
  have P0 := hide (P.on B0)
  have R0 := hide (R.on B0)
  have hl := R.lt
  have hk : Hid (h + 2 ≤ w.heap.size) := hide (by omega)
  have hB : Hid (h ≤ w.heap.size) := hide (by omega)
  have HG := hide hg
  have HM := hide hm
  have A0 := stp_mac S0.at_
  have R0L := hide hl
  have tk1 : True := trivial
  have tk2 : True := trivial
  have hd0 : (s.d == 0) = true := by simp [hd]
  clear P R hl hg hm hd
  go_enter Try.func25, Try.ntmps25
  go_wp2_with (first | (have _t := tk1; refine wpl_mac (.tmp 24) rfl A0 ?_ ?_ ?_; rfl; rfl; clear tk1))
  refine (learn16 h ps T s.v s.m s.p s.t _ HM.out P0.out).mono ?_
  rintro e w1 ⟨rfl, ⟨ps1, P1⟩, M1⟩
  have S1 := S0.mid M1 hk.out
  have R1 := hide (R0.out.mid M1 HG.out)
  have c1 := S1.cell 1 _ rfl
  have c8 := S1.cell 8 _ rfl
  have c9 := S1.cell 9 _ rfl
  have A1 := stp_mac S1.at_
  have B1 := hide ((B0.mono hB.out).trans (M1.below (by have := hB.out; simp; omega)))
  have PP := hide P1
  have hk1 : Hid (h ≤ w1.heap.size) := hide (by have := M1.size; have := hB.out; simp at *; omega)
  clear M1 S1 S0 B0 P1 P0 R0 A0
  go_wp2_with (first | (have _t := tk2; refine wpl_mac (.tmp 37) rfl A1 ?_ ?_ ?_; rfl; rfl; clear tk2))
  refine (learn39 g lv T s.v s.m s.p s.t _ HM.out R1.out).mono ?_
  rintro e w2 ⟨rfl, ⟨lv', R2⟩, B2⟩
  have RR := hide R2
  have P2 := hide (PP.out.below B2 HG.out)
  have BB := hide (B1.out.trans (B2.mono (by have := HG.out; omega)))
  clear R2 B2 PP R1 B1 A1 c1 c8 c9
  go_wp2
  go_ret
  exact ⟨ret_bool (by simp), ⟨_, P2.out⟩, ⟨_, RR.out⟩, BB.out⟩
set_option maxRecDepth 100000 in
set_option maxHeartbeats 2000000 in
theorem step25_1 (h g : Nat) (ps : List En) (lv : Value) (T : Tb) (s : St) (w : World) (hm : Mok s.m) (P : PT w h ps T) (R : RT w g lv T) (hg : h + 2 ≤ g) (hd : s.d = 1) :
    Calls Try.prog 25 #[.pointer (some ⟨h + 1, 0, none⟩), .pointer (some ⟨g, 0, none⟩), .agg (SC s)] w fun e w' => e = .returned (.bool true) ∧ (∃ ps', PT w' h ps' (pT T s.v s.m s.p)) ∧ (∃ lv', RT w' g lv' (pT T s.v s.m s.p)) ∧ Below h w w' := by
  have B0 := below_alloc w (.cells (SC s) 26)
  have S0 := box_s w s
  have P0 := hide (P.on B0)
  have R0 := hide (R.on B0)
  have hl := R.lt
  have hk : Hid (h + 2 ≤ w.heap.size) := hide (by omega)
  have hB : Hid (h ≤ w.heap.size) := hide (by omega)
  have HG := hide hg
  have HM := hide hm
  have A0 := stp_mac S0.at_
  have R0L := hide hl
  have tk1 : True := trivial
  have tk2 : True := trivial
  have hd0 : (s.d == 0) = false := by simp [hd]
  have hd1 : (s.d == 1) = true := by simp [hd]
  clear P R hl hg hm hd
  go_enter Try.func25, Try.ntmps25
  go_wp2_with (first | (have _t := tk1; refine wpl_mac (.tmp 59) rfl A0 ?_ ?_ ?_; rfl; rfl; clear tk1))
  refine (put18 h ps T s.v s.m s.p _ HM.out P0.out).mono ?_
  rintro e w1 ⟨rfl, ⟨ps1, P1⟩, M1⟩
  have S1 := S0.mid M1 hk.out
  have R1 := hide (R0.out.mid M1 HG.out)
  have c1 := S1.cell 1 _ rfl
  have c8 := S1.cell 8 _ rfl
  have A1 := stp_mac S1.at_
  have B1 := hide ((B0.mono hB.out).trans (M1.below (by have := hB.out; simp; omega)))
  have PP := hide P1
  have hk1 : Hid (h ≤ w1.heap.size) := hide (by have := M1.size; have := hB.out; simp at *; omega)
  clear M1 S1 S0 B0 P1 P0 R0 A0
  go_wp2_with (first | (have _t := tk2; refine wpl_mac (.tmp 68) rfl A1 ?_ ?_ ?_; rfl; rfl; clear tk2))
  refine (put40 g lv T s.v s.m s.p _ HM.out R1.out).mono ?_
  rintro e w2 ⟨rfl, ⟨lv', R2⟩, B2⟩
  have RR := hide R2
  have P2 := hide (PP.out.below B2 HG.out)
  have BB := hide (B1.out.trans (B2.mono (by have := HG.out; omega)))
  clear R2 B2 PP R1 B1 A1 c1 c8
  go_wp2
  go_ret
  exact ⟨ret_bool (by simp), ⟨_, P2.out⟩, ⟨_, RR.out⟩, BB.out⟩
set_option maxRecDepth 100000 in
set_option maxHeartbeats 2000000 in
theorem step25_2 (h g : Nat) (ps : List En) (lv : Value) (T : Tb) (s : St) (w : World) (hm : Mok s.m) (P : PT w h ps T) (R : RT w g lv T) (hg : h + 2 ≤ g) (hd : s.d = 2) :
    Calls Try.prog 25 #[.pointer (some ⟨h + 1, 0, none⟩), .pointer (some ⟨g, 0, none⟩), .agg (SC s)] w fun e w' => e = .returned (.bool true) ∧ (∃ ps', PT w' h ps' (⟨T.n, rm T.l s.v s.m⟩)) ∧ (∃ lv', RT w' g lv' (⟨T.n, rm T.l s.v s.m⟩)) ∧ Below h w w' := by
  have B0 := below_alloc w (.cells (SC s) 26)
  have S0 := box_s w s
  have P0 := hide (P.on B0)
  have R0 := hide (R.on B0)
  have hl := R.lt
  have hk : Hid (h + 2 ≤ w.heap.size) := hide (by omega)
  have hB : Hid (h ≤ w.heap.size) := hide (by omega)
  have HG := hide hg
  have HM := hide hm
  have A0 := stp_mac S0.at_
  have R0L := hide hl
  have tk1 : True := trivial
  have tk2 : True := trivial
  have hd0 : (s.d == 0) = false := by simp [hd]
  have hd1 : (s.d == 1) = false := by simp [hd]
  have hd2 : (s.d == 2) = true := by simp [hd]
  clear P R hl hg hm hd
  go_enter Try.func25, Try.ntmps25
  go_wp2_with (first | (have _t := tk1; refine wpl_mac (.tmp 79) rfl A0 ?_ ?_ ?_; rfl; rfl; clear tk1))
  refine (remove41 h ps T s.v s.m _ HM.out P0.out).mono ?_
  rintro e w1 ⟨rfl, ⟨ps1, P1⟩, M1⟩
  have S1 := S0.mid M1 hk.out
  have R1 := hide (R0.out.mid M1 HG.out)
  have c1 := S1.cell 1 _ rfl
  have A1 := stp_mac S1.at_
  have B1 := hide ((B0.mono hB.out).trans (M1.below (by have := hB.out; simp; omega)))
  have PP := hide P1
  have hk1 : Hid (h ≤ w1.heap.size) := hide (by have := M1.size; have := hB.out; simp at *; omega)
  clear M1 S1 S0 B0 P1 P0 R0 A0
  go_wp2_with (first | (have _t := tk2; refine wpl_mac (.tmp 86) rfl A1 ?_ ?_ ?_; rfl; rfl; clear tk2))
  refine (remove42 g lv T s.v s.m _ R1.out).mono ?_
  rintro e w2 ⟨rfl, ⟨lv', R2⟩, B2⟩
  have RR := hide R2
  have P2 := hide (PP.out.below B2 HG.out)
  have BB := hide (B1.out.trans (B2.mono (by have := HG.out; omega)))
  clear R2 B2 PP R1 B1 A1 c1
  go_wp2
  go_ret
  exact ⟨ret_bool (by simp), ⟨_, P2.out⟩, ⟨_, RR.out⟩, BB.out⟩
set_option maxRecDepth 100000 in
set_option maxHeartbeats 2000000 in
theorem step25_3 (h g : Nat) (ps : List En) (lv : Value) (T : Tb) (s : St) (w : World) (hm : Mok s.m) (P : PT w h ps T) (R : RT w g lv T) (hg : h + 2 ≤ g) (hd : s.d = 3) :
    Calls Try.prog 25 #[.pointer (some ⟨h + 1, 0, none⟩), .pointer (some ⟨g, 0, none⟩), .agg (SC s)] w fun e w' => e = .returned (.bool true) ∧ (∃ ps', PT w' h ps' (aT T s.t s.n)) ∧ (∃ lv', RT w' g lv' (aT T s.t s.n)) ∧ Below h w w' := by
  have B0 := below_alloc w (.cells (SC s) 26)
  have S0 := box_s w s
  have P0 := hide (P.on B0)
  have R0 := hide (R.on B0)
  have hl := R.lt
  have hk : Hid (h + 2 ≤ w.heap.size) := hide (by omega)
  have hB : Hid (h ≤ w.heap.size) := hide (by omega)
  have HG := hide hg
  have HM := hide hm
  have A0 := stp_mac S0.at_
  have R0L := hide hl
  clear HM A0
  have tk1 : True := trivial
  have tk2 : True := trivial
  have hd0 : (s.d == 0) = false := by simp [hd]
  have hd1 : (s.d == 1) = false := by simp [hd]
  have hd2 : (s.d == 2) = false := by simp [hd]
  have hd3 : (s.d == 3) = true := by simp [hd]
  clear P R hl hg hm hd
  go_enter Try.func25, Try.ntmps25
  go_wp2_with fail
  refine (age19 h ps T s.t s.n _ P0.out).mono ?_
  rintro e w1 ⟨ao, c, rfl, E1, ⟨ps1, P1⟩, M1⟩
  have S1 := S0.mid M1 hk.out
  have R1 := hide (R0.out.mid M1 HG.out)
  have c9 := S1.cell 9 _ rfl
  have c10 := S1.cell 10 _ rfl
  have HE := hide E1
  have B1 := hide ((B0.mono hB.out).trans (M1.below (by have := hB.out; simp; omega)))
  have PP := hide P1
  have hk1 : Hid (h ≤ w1.heap.size) := hide (by have := M1.size; have := hB.out; simp at *; omega)
  clear M1 S1 S0 B0 P1 P0 R0 E1
  go_wp2_with fail
  refine (age43 g lv T s.t s.n _ R1.out).mono ?_
  rintro e w2 ⟨ao2, c2, rfl, F2, ⟨lv', R2⟩, B2⟩
  have RR := hide R2
  have P2 := hide (PP.out.keep (fun k h1 h2 => B2.block k (by have := PP.out.lt; omega) (Or.inl (by have := HG.out; omega))))
  have BB := hide (B1.out.trans ((B2.below (by have := R1.out.lt; omega)).mono (by have := HG.out; omega)))
  have HF := hide F2
  have HE2 := hide (HE.out.mid B2 (by have := R0L.out; simp; omega))
  clear R2 B2 PP R1 B1 HE F2 c9 c10
  go_wp2_with fail
  refine (same13 _ _ _ _ _ _ _ _ HE2.out HF.out).mono ?_
  rintro e w3 ⟨rfl, B3⟩
  have P3 := hide (P2.out.on B3)
  have R3 := hide (RR.out.on B3)
  have B4 := hide (BB.out.trans (B3.mono (by have := BB.out.size; have := hB.out; omega)))
  clear B3 P2 RR BB HE2 HF
  go_wp2
  go_ret
  exact ⟨rfl, ⟨_, P3.out⟩, ⟨_, R3.out⟩, B4.out⟩
set_option maxRecDepth 100000 in
set_option maxHeartbeats 2000000 in
theorem step25_4 (h g : Nat) (ps : List En) (lv : Value) (T : Tb) (s : St) (w : World) (hm : Mok s.m) (P : PT w h ps T) (R : RT w g lv T) (hg : h + 2 ≤ g) (hd : s.d = 4) :
    Calls Try.prog 25 #[.pointer (some ⟨h + 1, 0, none⟩), .pointer (some ⟨g, 0, none⟩), .agg (SC s)] w fun e w' => e = .returned (.bool true) ∧ (∃ ps', PT w' h ps' (gT T (gP s.p))) ∧ (∃ lv', RT w' g lv' (gT T (gP s.p))) ∧ Below h w w' := by
  have B0 := below_alloc w (.cells (SC s) 26)
  have S0 := box_s w s
  have P0 := hide (P.on B0)
  have R0 := hide (R.on B0)
  have hl := R.lt
  have hk : Hid (h + 2 ≤ w.heap.size) := hide (by omega)
  have hB : Hid (h ≤ w.heap.size) := hide (by omega)
  have HG := hide hg
  have HM := hide hm
  have A0 := stp_mac S0.at_
  have R0L := hide hl
  clear HM A0
  have tk1 : True := trivial
  have tk2 : True := trivial
  have hd0 : (s.d == 0) = false := by simp [hd]
  have hd1 : (s.d == 1) = false := by simp [hd]
  have hd2 : (s.d == 2) = false := by simp [hd]
  have hd3 : (s.d == 3) = false := by simp [hd]
  have hd4 : (s.d == 4) = true := by simp [hd]
  clear P R hl hg hm hd
  go_enter Try.func25, Try.ntmps25
  go_wp2_with fail
  refine (flushPort20 h ps T s.p _ P0.out).mono ?_
  rintro e w1 ⟨ao, c, rfl, E1, ⟨ps1, P1⟩, M1⟩
  have S1 := S0.mid M1 hk.out
  have R1 := hide (R0.out.mid M1 HG.out)
  have c8 := S1.cell 8 _ rfl
  have HE := hide E1
  have B1 := hide ((B0.mono hB.out).trans (M1.below (by have := hB.out; simp; omega)))
  have PP := hide P1
  have hk1 : Hid (h ≤ w1.heap.size) := hide (by have := M1.size; have := hB.out; simp at *; omega)
  clear M1 S1 S0 B0 P1 P0 R0 E1
  go_wp2_with fail
  refine (flush44 g lv T s.p _ R1.out).mono ?_
  rintro e w2 ⟨ao2, c2, rfl, F2, ⟨lv', R2⟩, B2⟩
  have RR := hide R2
  have P2 := hide (PP.out.keep (fun k h1 h2 => B2.block k (by have := PP.out.lt; omega) (Or.inl (by have := HG.out; omega))))
  have BB := hide (B1.out.trans ((B2.below (by have := R1.out.lt; omega)).mono (by have := HG.out; omega)))
  have HF := hide F2
  have HE2 := hide (HE.out.mid B2 (by have := R0L.out; simp; omega))
  clear R2 B2 PP R1 B1 HE F2 c8
  go_wp2_with fail
  refine (same13 _ _ _ _ _ _ _ _ HE2.out HF.out).mono ?_
  rintro e w3 ⟨rfl, B3⟩
  have P3 := hide (P2.out.on B3)
  have R3 := hide (RR.out.on B3)
  have B4 := hide (BB.out.trans (B3.mono (by have := BB.out.size; have := hB.out; omega)))
  clear B3 P2 RR BB HE2 HF
  go_wp2
  go_ret
  exact ⟨rfl, ⟨_, P3.out⟩, ⟨_, R3.out⟩, B4.out⟩
set_option maxRecDepth 100000 in
set_option maxHeartbeats 2000000 in
theorem step25_5 (h g : Nat) (ps : List En) (lv : Value) (T : Tb) (s : St) (w : World) (hm : Mok s.m) (P : PT w h ps T) (R : RT w g lv T) (hg : h + 2 ≤ g) (hd : ¬ s.d = 0 ∧ ¬ s.d = 1 ∧ ¬ s.d = 2 ∧ ¬ s.d = 3 ∧ ¬ s.d = 4) :
    Calls Try.prog 25 #[.pointer (some ⟨h + 1, 0, none⟩), .pointer (some ⟨g, 0, none⟩), .agg (SC s)] w fun e w' => e = .returned (.bool true) ∧ (∃ ps', PT w' h ps' (gT T (gV s.v))) ∧ (∃ lv', RT w' g lv' (gT T (gV s.v))) ∧ Below h w w' := by
  have B0 := below_alloc w (.cells (SC s) 26)
  have S0 := box_s w s
  have P0 := hide (P.on B0)
  have R0 := hide (R.on B0)
  have hl := R.lt
  have hk : Hid (h + 2 ≤ w.heap.size) := hide (by omega)
  have hB : Hid (h ≤ w.heap.size) := hide (by omega)
  have HG := hide hg
  have HM := hide hm
  have A0 := stp_mac S0.at_
  have R0L := hide hl
  clear HM A0
  have tk1 : True := trivial
  have tk2 : True := trivial
  have hd0 : (s.d == 0) = false := by simp; omega
  have hd1 : (s.d == 1) = false := by simp; omega
  have hd2 : (s.d == 2) = false := by simp; omega
  have hd3 : (s.d == 3) = false := by simp; omega
  have hd4 : (s.d == 4) = false := by simp; omega
  clear P R hl hg hm hd
  go_enter Try.func25, Try.ntmps25
  go_wp2_with fail
  refine (flushVlan21 h ps T s.v _ P0.out).mono ?_
  rintro e w1 ⟨ao, c, rfl, E1, ⟨ps1, P1⟩, M1⟩
  have S1 := S0.mid M1 hk.out
  have R1 := hide (R0.out.mid M1 HG.out)
  have c1 := S1.cell 1 _ rfl
  have HE := hide E1
  have B1 := hide ((B0.mono hB.out).trans (M1.below (by have := hB.out; simp; omega)))
  have PP := hide P1
  have hk1 : Hid (h ≤ w1.heap.size) := hide (by have := M1.size; have := hB.out; simp at *; omega)
  clear M1 S1 S0 B0 P1 P0 R0 E1
  go_wp2_with fail
  refine (flush45 g lv T s.v _ R1.out).mono ?_
  rintro e w2 ⟨ao2, c2, rfl, F2, ⟨lv', R2⟩, B2⟩
  have RR := hide R2
  have P2 := hide (PP.out.keep (fun k h1 h2 => B2.block k (by have := PP.out.lt; omega) (Or.inl (by have := HG.out; omega))))
  have BB := hide (B1.out.trans ((B2.below (by have := R1.out.lt; omega)).mono (by have := HG.out; omega)))
  have HF := hide F2
  have HE2 := hide (HE.out.mid B2 (by have := R0L.out; simp; omega))
  clear R2 B2 PP R1 B1 HE F2 c1
  go_wp2_with fail
  refine (same13 _ _ _ _ _ _ _ _ HE2.out HF.out).mono ?_
  rintro e w3 ⟨rfl, B3⟩
  have P3 := hide (P2.out.on B3)
  have R3 := hide (RR.out.on B3)
  have B4 := hide (BB.out.trans (B3.mono (by have := BB.out.size; have := hB.out; omega)))
  clear B3 P2 RR BB HE2 HF
  go_wp2
  go_ret
  exact ⟨rfl, ⟨_, P3.out⟩, ⟨_, R3.out⟩, B4.out⟩
end
theorem step25 (h g : Nat) (ps : List En) (lv : Value) (T : Tb) (s : St) (w : World) (hm : Mok s.m) (P : PT w h ps T) (R : RT w g lv T) (hg : h + 2 ≤ g) :
    Calls Try.prog 25 #[.pointer (some ⟨h + 1, 0, none⟩), .pointer (some ⟨g, 0, none⟩), .agg (SC s)] w fun e w' => e = .returned (.bool true) ∧ (∃ ps', PT w' h ps' (nx T s)) ∧ (∃ lv', RT w' g lv' (nx T s)) ∧ Below h w w' := by
  unfold nx
  split
  · exact step25_0 h g ps lv T s w hm P R hg (by assumption)
  · split
    · exact step25_1 h g ps lv T s w hm P R hg (by assumption)
    · split
      · exact step25_2 h g ps lv T s w hm P R hg (by assumption)
      · split
        · exact step25_3 h g ps lv T s w hm P R hg (by assumption)
        · split
          · exact step25_4 h g ps lv T s w hm P R hg (by assumption)
          · exact step25_5 h g ps lv T s w hm P R hg (by refine ⟨?_, ?_, ?_, ?_, ?_⟩ <;> assumption)
end Go.Proofs.Ytbpkdkniiggcpaa
