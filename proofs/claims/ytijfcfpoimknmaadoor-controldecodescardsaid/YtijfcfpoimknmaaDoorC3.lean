/- The step that puts down; contract of the program's Encode. -/
import Derived.Test.YtijfcfpoimknmaaDoorB3
import Derived.Test.YtijfcfpoimknmaaDoorC2
namespace Go.Proofs.YtijfcfpoimknmaaDoor
open Go.RowKit

/-- How many bytes there are at most ahead of a field. -/
def ahead (j : Nat) : Nat := if j = 1 then 13 else if j = 2 then 15 else if j = 4 then 21 else if j = 8 then 23 else if j = 16 then 24 else 0
structure EnI (p : Pk) (a : Option Addr) (m c : Nat) (w0 : World) (N G V : Nat) (j : Nat) (ns : List Int) (w : World) : Prop where
  pk : Box w N (pcl p (.slice a m c))
  vr : Box w V [.slice (some ⟨G, 0, none⟩) ns.length (26 + m)]
  own : Own w G (26 + m) ns.length ns
  byt : Byt w a m c p.n.b
  bl : Below N w0 w
  room : j ≤ 16 → ns.length ≤ ahead j
  nG : N < G
  nV : G < V
  ne : ∀ b o, a = some ⟨b, o, none⟩ → 0 < m → b < N
theorem fo_room (n : Nt) (j : Nat) (hj : J5 j) : ahead j + fz n j ≤ 26 + n.b.length ∧ (2 * j ≤ 16 → ahead j + fz n j ≤ ahead (2 * j)) := by
  rcases hj with rfl | rfl | rfl | rfl | rfl <;> simp [ahead, fz] <;> omega
theorem ahead_le (j : Nat) (hj : J5 j) : 2 * j ≤ 16 → ahead j ≤ ahead (2 * j) := by
  rcases hj with rfl | rfl | rfl | rfl | rfl <;> simp [ahead]
theorem rt_ff {n : Nt} (h : rt n = true) (j : Nat) (hj : J5 j) : ff n j = true := by
  simp only [rt, Bool.and_eq_true] at h
  obtain ⟨_, h1, h2, h3, h4, h5⟩ := h
  rcases hj with rfl | rfl | rfl | rfl | rfl <;> assumption
theorem rt_ft {n : Nt} (h : rt n = true) (j : Nat) (hj : J5 j) (hx : hs (fo n.k) j = true) : ft n j = true := by
  have := rt_ff h j hj
  simpa [ff, hx] using this
set_option maxRecDepth 100000 in
set_option maxHeartbeats 2000000 in
theorem put26 (p : Pk) (hB : Rng (ml p.n)) (hr : rt p.n = true) (a : Option Addr) (m c : Nat) (w0 : World) (N G V : Nat) (j : Nat) (hj : J5 j) (hx : hs (fo p.n.k) j = true) (ns : List Int) (w : World) (h : EnI p a m c w0 N G V j ns w) :
    Calls Tryd.prog 26 #[.int .i64 j, .pointer (some ⟨V, 0, none⟩), .pointer (some ⟨N, 0, none⟩)] w fun e w' => e = .returned (.tuple #[]) ∧ EnI p a m c w0 N G V (2 * j) (ns ++ fb p.n j) w' := by
  have c0 := h.vr.cell 0 _ rfl
  have NA := h.pk.note
  have H := hide h
  have hl := h.byt.len
  have R := fo_room p.n j hj
  have hj16 : j ≤ 16 := by rcases hj with e | e | e | e | e <;> omega
  have R2 := h.room hj16
  have F := hide (field27 p.n a m c hB j hj (rt_ft hr j hj hx) G (26 + m) ns.length ns w h.own h.byt (fun b o e hp => by have := h.ne b o e hp; have := h.nG; omega) (by rw [← hl]; omega))
  have HR := hide (And.intro R R2)
  clear h hl R R2 hx
  go_enter Tryd.func26, Tryd.ntmps26
  have tk1 : True := trivial
  go_wp2_with (have _t := tk1; refine wpl_note (.tmp 5) rfl NA ?_ ?_ ?_; rfl; rfl; clear tk1)
  refine F.out.mono ?_
  rintro e w1 ⟨rfl, O1, g1⟩
  have hnG := H.out.nG
  have hnV := H.out.nV
  have V1 := H.out.vr.kept (by omega) g1
  have P1 := H.out.pk.kept (by omega) g1
  have Y1 := H.out.byt.kept (fun b o e hp => by have := H.out.ne b o e hp; omega) g1
  have L1 := below_grown H.out.bl g1 (by omega) (Nat.le_of_lt H.out.pk.lt)
  have v0 := V1.cell 0 _ rfl
  have z0 := V1.free 0 (by simp)
  have hL : ns.length + fz p.n j = (ns ++ fb p.n j).length := by rw [List.length_append, fb_length]
  rw [hL] at O1
  rw [hL]
  have g2 := setCell_grown w1 V 0 (.slice (some ⟨G, 0, none⟩) (ns ++ fb p.n j).length (26 + m))
  have I2 : Hid (EnI p a m c w0 N G V (2 * j) (ns ++ fb p.n j) (w1.setCell ⟨V, 0, none⟩ (.slice (some ⟨G, 0, none⟩) (ns ++ fb p.n j).length (26 + m)))) := hide
    ⟨P1.kept (by omega) g2, Box.set (A := []) (C := []) V1 rfl, ⟨World.ownsRow.kept O1.row g2 (by simp [Value.ownBlock]; omega), Nat.lt_of_lt_of_le O1.lt g2.size⟩, Y1.kept (fun b o e hp => by have := H.out.ne b o e hp; omega) g2, below_grown L1 g2 (by omega) (Nat.le_of_lt P1.lt), fun h16 => by rw [← hL]; have := HR.out.1.2 h16; have := HR.out.2; omega, hnG, hnV, H.out.ne⟩
  clear V1 P1 Y1 L1 O1 g1 g2 c0 NA F HR H hL
  generalize (ns ++ fb p.n j).length = L at *
  go_wp2
  go_end0
  exact ⟨rfl, I2.out⟩
end Go.Proofs.YtijfcfpoimknmaaDoor
