/- Plain: the two bridges of TopWire, and what goes over the wire. -/
import Derived.Test.YtgpdjfaklcmoiaaDoorM13
import Derived.Test.YtgpdjfaklcmoiaaDoorM12
import Derived.Test.YtgpdjfaklcmoiaaDoorM08
import Derived.Test.YtgpdjfaklcmoiaaDoorM07
import Derived.Test.YtgpdjfaklcmoiaaDoorM00
import Derived.Test.YtgpdjfaklcmoiaaDoorM10
import Derived.Test.YtgpdjfaklcmoiaaDoorM11
import Derived.Test.YtgpdjfaklcmoiaaDoorM14
import Derived.Test.YtgpdjfaklcmoiaaDoorM15
import Derived.Test.YtgpdjfaklcmoiaaDoorM16
import Derived.Test.YtgpdjfaklcmoiaaDoorM18
import Derived.Test.YtgpdjfaklcmoiaaDoorM19
namespace Go.Proofs.YtgpdjfaklcmoiaaDoor
open Go.RowKit Go.PlainAid

/-- A frame, as the frame's bytes have it. -/
def eF (f : Fd) : Eth.Fd := ⟨f.d0, f.d1, f.d2, f.d3, f.d4, f.d5, f.s0, f.s1, f.s2, f.s3, f.s4, f.s5, f.tg, f.vl, f.pr, f.ty, f.bs⟩
theorem toE {w : World} {ao : Option Addr} {n c : Nat} {ns : List Int} (h : Byt w ao n c ns) : Eth.Byt w ao n c ns := ⟨h.len, h.nil, h.cell, h.le, h.mx, h.rng⟩
theorem ofE {w : World} {ao : Option Addr} {n c : Nat} {ns : List Int} (h : Eth.Byt w ao n c ns) : Byt w ao n c ns := ⟨h.len, h.nil, h.cell, h.le, h.mx, h.rng⟩
theorem toC {w : World} {ao : Option Addr} {n c : Nat} {ns : List Int} (h : Byt w ao n c ns) : Ctl.Byt w ao n c ns := ⟨h.len, h.nil, h.cell, h.le, h.mx, h.rng⟩
theorem ofC {w : World} {ao : Option Addr} {n c : Nat} {ns : List Int} (h : Ctl.Byt w ao n c ns) : Byt w ao n c ns := ⟨h.len, h.nil, h.cell, h.le, h.mx, h.rng⟩
theorem eF_rt {f : Fd} (h : rt f = true) : Eth.rt (eF f) = true := by
  unfold rt tok at h
  have e : Eth.rt (eF f) = (decide (1536 ≤ f.ty ∧ f.ty ≤ 65535 ∧ f.ty ≠ 33024 ∧ f.bs.length ≤ 1500) && (if f.tg then decide (0 ≤ f.vl ∧ f.vl ≤ 4094 ∧ 0 ≤ f.pr ∧ f.pr ≤ 7) else decide (f.vl = 0 ∧ f.pr = 0))) := rfl
  rw [e]
  cases ht : f.tg
  all_goals
    rw [ht] at h
    simp only [Bool.and_eq_true, decide_eq_true_eq, Bool.not_eq_true', beq_eq_false_iff_ne, beq_iff_eq, if_true, Bool.false_eq_true, if_false] at h ⊢
    omega
/-- The packet. -/
def pkt (v p t : Int) (l : List Int) : Ctl.Pk := ⟨3, 0, 0, ⟨8, v, 0, 0, 0, 0, 0, 0, p, t, l⟩⟩
theorem pkt_rt {v p t : Int} {l : List Int} (hv : 1 ≤ v ∧ v ≤ 4094) (hp : 0 ≤ p ∧ p ≤ 1000) (ht : 0 ≤ t ∧ t ≤ 250) (hl : l.length ≤ 1600) : Ctl.rtp (pkt v p t l) = true := by
  have e1 : Ctl.wi v 1 4094 = true := (Ctl.wi_iff _ _ _).2 hv
  have e2 : Ctl.wi p 0 1000 = true := (Ctl.wi_iff _ _ _).2 hp
  have e3 : Ctl.wi t 0 250 = true := (Ctl.wi_iff _ _ _).2 ht
  have e4 : decide ((l.length : Int) ≤ 1600) = true := by simp; omega
  have h1 : Ctl.ff (pkt v p t l).n 1 = true := by show (if Ctl.hs (Ctl.fo 8) 1 then Ctl.wi v 1 4094 else v == 0) = true; rw [Ctl.hs_v, show Ctl.hv 8 = true by rfl, if_pos rfl]; exact e1
  have h2 : Ctl.ff (pkt v p t l).n 2 = true := by show (if Ctl.hs (Ctl.fo 8) 2 then true else Ctl.m0 (pkt v p t l).n) = true; split <;> rfl
  have h4 : Ctl.ff (pkt v p t l).n 4 = true := by show (if Ctl.hs (Ctl.fo 8) 4 then Ctl.wi p 0 1000 else p == 0) = true; rw [Ctl.hs_p, show Ctl.hp 8 = true by rfl, if_pos rfl]; exact e2
  have h8 : Ctl.ff (pkt v p t l).n 8 = true := by show (if Ctl.hs (Ctl.fo 8) 8 then Ctl.wi t 0 (Ctl.ms 8) else t == 0) = true; rw [Ctl.hs_s, show Ctl.hst 8 = true by rfl, if_pos rfl]; exact e3
  have h16 : Ctl.ff (pkt v p t l).n 16 = true := by show (if Ctl.hs (Ctl.fo 8) 16 then decide ((l.length : Int) ≤ 1600) else (l.length : Int) == 0) = true; rw [Ctl.hs_b, show Ctl.hb 8 = true by rfl, if_pos rfl]; exact e4
  unfold Ctl.rtp Ctl.rt
  rw [h1, h2, h4, h8, h16]
  rfl
theorem pkt_B {v p t : Int} {l : List Int} (h : Ctl.Rng l) : Ctl.NtB (pkt v p t l).n := ⟨fun n hn => by simp [Ctl.ml, pkt] at hn; omega, h⟩

theorem mid_out {a b N M : Nat} {w w1 : World} (h : Mid a b w w1) (h1 : N ≤ a) (h2 : b ≤ M) : Mid N M w w1 := ⟨h.os, h.tape, h.output, h.size, fun i hi ho => h.block i hi (by omega)⟩
theorem wAdd_n (T : Tb) (v p : Int) (g : Bool) : (tAdd T v p g).n = T.n := by unfold tAdd; split <;> rfl
theorem wNat_n (T : Tb) (p v : Int) : (tNat T p v).n = T.n := by unfold tNat; split <;> rfl
/-- What the law does to a bridge for a port. -/
def wst (B : Br) (k : Int) (t : Bool) (s : Int) : Br := tSet { B with V := tNat (tAdd B.V 1 k t) k 1 } k s
/-- A bridge that heard nothing yet. -/
structure Wir (B : Br) : Prop where
  n : B.n = 4
  f : B.F.l = []
  c : ∀ x ∈ B.ct, x + 1 < 1000000
  l : ∀ x ∈ B.ln, x + 1 < 1000000
theorem Wir.st {B : Br} (H : Wir B) (k : Int) (t : Bool) (s : Int) : Wir (wst B k t s) := by
  unfold wst tSet
  split
  · exact ⟨H.n, H.f, H.c, H.l⟩
  · exact ⟨H.n, H.f, H.c, H.l⟩
theorem wir_new : Wir (bNew 4 20) := ⟨rfl, rfl, fun y hy => by have := (List.mem_replicate.1 hy).2; omega, fun y hy => by have := (List.mem_replicate.1 hy).2; omega⟩
theorem lT_one {T : FT} (h : T.l = []) {v : Int} {m : Mc} {p t : Int} : ∀ x ∈ (lT T v m p t).l, x.p = p := by
  intro x hx
  unfold lT at hx
  split at hx
  · split at hx
    · rw [h] at hx; cases hx
    · unfold sT at hx
      split at hx
      · rw [h] at hx; cases hx
      · rcases up_mem.1 hx with rfl | ⟨h1, _⟩
        · rfl
        · rw [h] at h1; cases h1
  · rw [h] at hx; cases hx
/-- What was sent: nothing is known of who it is for; what goes out hangs on the tables alone. -/
theorem wire_yes {B : Br} (W : Bw B) (H : Wir B) {p : Int} {f : Fd} (h : (tk B p f 0).1.c = 0) : rt f = true ∧ (1 ≤ p ∧ p ≤ 4) ∧ (1 ≤ (tk B p f 0).1.v ∧ (tk B p f 0).1.v ≤ 4094) ∧ (tk B p f 0).1.t = 0 ∧ (tk B p f 0).1.o = rly B (tk B p f 0).1.v p 0 f B.n := by
  have hz : preW B p f 0 = 0 := by
    by_cases e : preW B p f 0 = 0
    · exact e
    · have e2 : (tk B p f 0).1.c = preW B p f 0 := by show (wayP B p f 0).1.c = _; rw [wayP_no e]
      omega
  obtain ⟨h1, h2, _, _, h5, _, _, _⟩ := pre_zero W hz
  have hv := (isV_iff _).1 h5
  have hp := (hasP_iff _ _).1 h2
  rw [H.n] at hp
  have e1 := tk_v (B := B) hz
  have e2 := (tk_yes (B := B) hz).1
  refine ⟨h1, ⟨hp.1, by have := hp.2; omega⟩, by rw [e1]; exact hv, ?_⟩
  rw [e1]
  rw [e2] at h ⊢
  split at h
  · cases h
  rename_i hs
  rw [if_neg hs]
  generalize inV B.V p f = v at *
  have hF : ∀ x ∈ (lrn B v (mS f) p 0).F.l, x.p = p := lT_one H.f
  have hR := rly_same (B := B) (C := lrn B v (mS f) p 0) rfl rfl rfl v p 0 f B.n
  have hN : (lrn B v (mS f) p 0).n = B.n := rfl
  rw [← hN] at hR
  generalize lrn B v (mS f) p 0 = B1 at *
  have ht : tgtOf B1 v f = 0 := by
    unfold tgtOf
    split
    · rename_i hk
      have hk2 := hk
      rw [Bool.and_eq_true] at hk
      have hm := hF _ (lk_mem hk.1)
      have e3 : ((lk B1.F.l v (mD f)).p == p) = true := by simp [hm]
      unfold outW at h
      rw [hk2, e3] at h
      cases h
    · rfl
  unfold outW at h ⊢
  split at h
  · cases h
  rename_i hc
  rw [if_neg hc]
  split at h
  · cases h
  rename_i hc2
  rw [if_neg hc2]
  refine ⟨ht, ?_⟩
  show outL B1 v p f = _
  rw [← hN, ← hR]
  unfold outL at hc2 ⊢
  rw [ht] at hc2 ⊢
  split at hc2
  · rename_i hc3
    rw [if_pos hc3]
  · simp at hc2
theorem wire_no {B : Br} {p : Int} {f : Fd} (h : (tk B p f 0).1.c ≠ 0) : (tk B p f 0).1.o = [] := by
  by_cases hz : preW B p f 0 = 0
  · rw [(tk_yes (B := B) hz).1] at h ⊢
    split
    · rfl
    rename_i hs
    rw [if_neg hs] at h
    unfold outW at h ⊢
    split
    · rfl
    rename_i hc
    rw [if_neg hc] at h
    split
    · rfl
    rename_i hc2
    rw [if_neg hc2] at h
    exact absurd rfl h
  · show (wayP B p f 0).1.o = _
    rw [wayP_no hz]
/-- Encode and Decode of frames and of packets, over the wire. -/
theorem encodeQ (f : Fd) (a : Option Addr) (m c : Nat) (w : World) (hE : Eth.FdB (eF f)) (hY : Byt w a m c f.bs) (hr : rt f = true) :
    Calls Tryd.prog 10 #[.agg (FC f (.slice a m c))] w fun e w' => ∃ ao n cc, e = .returned (.tuple #[.slice ao n cc, .int .i64 0]) ∧ Byt w' ao n cc (Eth.enc (eF f)) ∧ Below w.heap.size w w' := by
  have h := Eth.encode10 (eF f) a m c w hE (toE hY)
  rw [Eth.eb_yes (eF_rt hr), Eth.ec_yes (eF_rt hr)] at h
  exact h.mono fun e w' ⟨ao, n, cc, he, hb, hB⟩ => ⟨ao, n, cc, he, ofE hb, hB⟩
theorem decodeQ (f : Fd) (ao : Option Addr) (n c : Nat) (w : World) (hb : Byt w ao n c (Eth.enc (eF f))) (hr : rt f = true) :
    Calls Tryd.prog 13 #[.slice ao n c] w fun e w' => ∃ a' n' c', e = .returned (.tuple #[.agg (FC f (.slice a' n' c')), .int .i64 0]) ∧ Byt w' a' n' c' f.bs ∧ Below w.heap.size w w' := by
  have h := Eth.decode14 ao n c _ w (toE hb)
  rw [Eth.dec_back (eF_rt hr)] at h
  exact h.mono fun e w' ⟨ao, n, cc, he, hb, hB⟩ => ⟨ao, n, cc, he, ofE hb, hB⟩
theorem packQ (v p t : Int) (l : List Int) (a : Option Addr) (m c : Nat) (w : World) (hT : Ctl.KT w) (hY : Byt w a m c l) (hv : 1 ≤ v ∧ v ≤ 4094) (hp : 0 ≤ p ∧ p ≤ 1000) (ht : 0 ≤ t ∧ t ≤ 250) (hl : l.length ≤ 1600) :
    Calls Tryd.prog 11 #[.agg (Ctl.PC (pkt v p t l) (.slice a m c))] w fun e w' => ∃ ao n cc, e = .returned (.tuple #[.slice ao n cc, .int .i64 0]) ∧ Byt w' ao n cc (Ctl.enc (pkt v p t l)) ∧ Below w.heap.size w w' := by
  have h := Ctl.encode11 (pkt v p t l) a m c w hT (pkt_B hY.rng) (toC hY)
  have hr := pkt_rt hv hp ht hl
  rw [show Ctl.eb (pkt v p t l) = Ctl.enc (pkt v p t l) by simp [Ctl.eb, hr], show Ctl.ec (pkt v p t l) = 0 by simp [Ctl.ec, hr]] at h
  exact h.mono fun e w' ⟨ao, n, cc, he, hb, hB⟩ => ⟨ao, n, cc, he, ofC hb, hB⟩
theorem unpackQ (v p t : Int) (l : List Int) (ao : Option Addr) (n c : Nat) (w : World) (hT : Ctl.KT w) (hb : Byt w ao n c (Ctl.enc (pkt v p t l))) (hv : 1 ≤ v ∧ v ≤ 4094) (hp : 0 ≤ p ∧ p ≤ 1000) (ht : 0 ≤ t ∧ t ≤ 250) (hl : l.length ≤ 1600) :
    Calls Tryd.prog 12 #[.slice ao n c] w fun e w' => ∃ sa sm sc, e = .returned (.tuple #[.agg (Ctl.PC (pkt v p t l) (.slice sa sm sc)), .int .i64 0]) ∧ Byt w' sa sm sc l ∧ Below w.heap.size w w' := by
  have h := Ctl.decode15 ao n c _ w hT (toC hb)
  have hk := Ctl.dk_enc (pkt_rt hv hp ht hl)
  rw [hk.2, show Ctl.dc (Ctl.enc (pkt v p t l)) = 0 by unfold Ctl.dc; rw [hk.1, if_pos rfl]] at h
  exact h.mono fun e w' ⟨ao, n, cc, he, hb, hB⟩ => ⟨ao, n, cc, he, ofC hb, hB⟩
theorem enc_short {f : Fd} (h : rt f = true) : (Eth.enc (eF f)).length ≤ 1600 := by
  have h1 := Eth.enc_length (eF f)
  have h2 : f.bs.length ≤ 1500 := (Eth.rt_and (eF_rt h)).2.2.2.1
  rw [h1]
  show 14 + f.bs.length + _ ≤ 1600
  split <;> omega
theorem toB {w : World} {k : Nat} {cs : List Value} (h : Ctl.Box w k cs) : Box w k cs := ⟨h.lt, h.at_, h.th⟩
end Go.Proofs.YtgpdjfaklcmoiaaDoor
