/- What a step of the walk does, whichever function it is; contracts of walkHead and walkId with any step. -/
import Derived.Test.YtdaglmimfkcmeaaA7
import Derived.Test.YtdaglmimfkcmeaaA3
namespace Go.Proofs.Ytdaglmimfkcmeaa
open Go.RowKit

/-- A function that is a step: what it keeps lies from N on and below B. -/
structure StepC {σ : Type} (f : Nat) (cap : Array Value) (N B : Nat) (Inv : σ → World → Prop) (st : Stp σ) : Prop where
  run : ∀ (s : σ) (n : Int) (k : Nat) (w : World) (r : Option (σ × Int)), Inv s w → (k = 1 ∨ k = 2 ∨ k = 4 ∨ k = 6) → st s n k = some r →
    Calls Try.prog f (#[.int .i64 n, .int .i64 k] ++ cap) w fun e w' => Mid N B w w' ∧ ((r = none ∧ e = .panicked pan) ∨ ∃ s' m, r = some (s', m) ∧ e = .returned (.int .i64 m) ∧ Inv s' w')
  on : ∀ (s : σ) (w w' : World), Inv s w → Below B w w' → Inv s w'
  sz : ∀ (s : σ) (w : World), Inv s w → B ≤ w.heap.size
  ent : ∀ (args : Array Value) (w : World), (callFunc f args).run Try.prog w = .ok (.enter f args) w
  six : ∀ (s s' : σ) (n m : Int) (w : World), Inv s w → st s n 6 = some (some (s', m)) → 0 ≤ n → n < 281474976710656 → 0 ≤ m ∧ m < 281474976710656
theorem mst_some {σ α : Type} {b : Bool} {r : Rs σ α} {q : Option (σ × α)} (h : mst b r = some q) : (b = false → q = none) ∧ (b = true → r = some q) := by
  cases b
  · exact ⟨fun _ => (Option.some.inj h).symm, fun e => by cases e⟩
  · exact ⟨fun e => (by cases e), fun _ => h⟩

set_option maxRecDepth 100000 in
set_option maxHeartbeats 2000000 in
theorem head34 {σ : Type} {f N B : Nat} {x : Value} {Inv : σ → World → Prop} {st : Stp σ} (hs : StepC f #[x] N B Inv st) (s : σ) (kd : Int) (r : Option (σ × Int)) (w : World) (hI : Inv s w) (hr : wHead st s kd = some r) :
    Calls Try.prog 34 #[.int .i64 kd, .func (.func f) #[] #[x]] w fun e w' => Mid N B w w' ∧ ((r = none ∧ e = .panicked pan) ∨ ∃ s' m, r = some (s', m) ∧ e = .returned (.int .i64 m) ∧ Inv s' w') := by
  have he := hs.ent
  obtain ⟨r1, h1, hn1, hy1⟩ := bnd_some hr
  clear hr
  go_enter Try.func34, Try.ntmps34
  go_wp2_with fail
  refine (hs.run s 0 2 _ r1 hI (by omega) h1).mono ?_
  rintro e w1 ⟨M1, ⟨rfl, rfl⟩ | ⟨s1, a, rfl, rfl, I1⟩⟩
  · have hq := hide (hn1 rfl)
    go_wp2
    exact ⟨rfl, M1, Or.inl ⟨hq.out, rfl⟩⟩
  obtain ⟨hf, hg⟩ := mst_some (hy1 s1 a rfl)
  clear hn1 hy1 h1 hI
  go_wp2_with fail
  refine (must36 (a == 0) _).mono ?_
  rintro e u1 ⟨⟨hb, rfl⟩ | ⟨hb, rfl⟩, rfl⟩
  rotate_left
  · go_wp2
    exact ⟨rfl, M1, Or.inl ⟨hf hb, rfl⟩⟩
  obtain ⟨r2, h2, hn2, hy2⟩ := bnd_some (hg hb)
  clear hf hg hb
  go_wp2_with (go_at_call 41; refine (version41 kd _).mono ?_; rintro e u2 ⟨rfl, rfl⟩)
  refine (hs.run s1 (ver kd) 1 _ r2 I1 (by omega) h2).mono ?_
  rintro e w2 ⟨M2, ⟨rfl, rfl⟩ | ⟨s2, v, rfl, rfl, I2⟩⟩
  · have hq := hide (hn2 rfl)
    go_wp2
    exact ⟨rfl, M1.trans M2, Or.inl ⟨hq.out, rfl⟩⟩
  obtain ⟨r3, h3, hn3, hy3⟩ := bnd_some (hy2 s2 v rfl)
  replace M2 := M1.trans M2
  clear M1 hn2 hy2 h2 I1
  go_wp2_with fail
  refine (hs.run s2 kd 1 _ r3 I2 (by omega) h3).mono ?_
  rintro e w3 ⟨M3, ⟨rfl, rfl⟩ | ⟨s3, k, rfl, rfl, I3⟩⟩
  · have hq := hide (hn3 rfl)
    go_wp2
    exact ⟨rfl, M2.trans M3, Or.inl ⟨hq.out, rfl⟩⟩
  obtain ⟨hf, hg⟩ := mst_some (hy3 s3 k rfl)
  replace M3 := M2.trans M3
  clear M2 hn3 hy3 h3 I2
  cases hk : knw k
  · rw [hk] at hf
    replace hf := hf rfl
    go_wp2_with (first | (go_at_call 22; refine (known22 k _).mono ?_; rw [hk]; rintro e u3 ⟨rfl, rfl⟩))
    refine (must36_no _).mono ?_
    rintro e u4 ⟨rfl, rfl⟩
    go_wp2
    exact ⟨rfl, M3, Or.inl ⟨hf, rfl⟩⟩
  · rw [hk, Bool.true_and] at hf hg
    go_wp2_with (first | (go_at_call 22; refine (known22 k _).mono ?_; rw [hk]; rintro e u3 ⟨rfl, rfl⟩) | (go_at_call 41; refine (version41 k _).mono ?_; rintro e u4 ⟨rfl, rfl⟩))
    refine (must36 (v == ver k) _).mono ?_
    rintro e u5 ⟨⟨hb, rfl⟩ | ⟨hb, rfl⟩, rfl⟩
    rotate_left
    · go_wp2
      exact ⟨rfl, M3, Or.inl ⟨hf hb, rfl⟩⟩
    replace hg := hg hb
    clear hf hb
    go_wp2
    go_ret
    exact ⟨M3, Or.inr ⟨s3, k, (Option.some.inj hg).symm, rfl, I3⟩⟩

theorem icl_six {w : World} {k : Nat} {x : Idn} (p : Int) (h : Box w k (icl x)) : Box (w.setCell ⟨k, 0, none⟩ (.int .i64 p)) k (icl { x with pr := p }) :=
  Box.set (A := []) (C := mcl x) h rfl
theorem Box.midst {N B : Nat} {w w1 : World} {k : Nat} {cs : List Value} (h : Box w k cs) (hk : B ≤ k) (hm : Mid N B w w1) : Box w1 k cs := by
  have hb : w1.heap[k]? = w.heap[k]? := hm.block k h.lt (Or.inr hk)
  exact ⟨Nat.lt_of_lt_of_le h.lt hm.size, fun j v hj => by rw [World.cell?_of_block (a := ⟨k, 0 + j, none⟩) hb]; exact h.at_ j v hj, fun j hj => ⟨by rw [World.cell?_of_block (a := ⟨k, 0 + j, none⟩) hb]; exact (h.th j hj).1, by rw [World.frozen?_of_block (a := ⟨k, 0 + j, none⟩) hb]; exact (h.th j hj).2⟩⟩
theorem res_id_cell {fn : Func} {p : Tmp} (h : fn.results = #[.cell p 25]) {tmps : Array Value} {w : World} {k : Nat} {x : Idn} (hp : tmps.getD p undef = .pointer (some ⟨k, 0, none⟩)) (hA : Box w k (icl x)) :
    (results fn tmps).run Try.prog w = .ok (.agg (IC x)) w := by
  have hl := run_loadVar_mid (P := Try.prog) w k 0 25 _ _ hA.at_ Try.underlying25 rfl Try.size25
  have hp' : tmps[p]?.getD undef = .pointer (some ⟨k, 0, none⟩) := by simpa using hp
  simp only [results, h]
  simp [hp', asAddr, hl, IC]
theorem res_bpdu_cell {fn : Func} {p : Tmp} (h : fn.results = #[.cell p 27]) {tmps : Array Value} {w : World} {k : Nat} {x : Bpd} (hp : tmps.getD p undef = .pointer (some ⟨k, 0, none⟩)) (hA : Box w k (bcl x)) :
    (results fn tmps).run Try.prog w = .ok (.agg (BC x)) w := by
  have hl := run_loadVar_mid (P := Try.prog) w k 0 27 _ _ hA.at_ Try.underlying27 rfl Try.size27
  have hp' : tmps[p]?.getD undef = .pointer (some ⟨k, 0, none⟩) := by simpa using hp
  simp only [results, h]
  simp [hp', asAddr, hl, BC]
section
attribute [local go_sem] ZI
set_option maxRecDepth 100000 in
set_option maxHeartbeats 2000000 in
theorem id35 {σ : Type} {f N B : Nat} {y : Value} {Inv : σ → World → Prop} {st : Stp σ} (hs : StepC f #[y] N B Inv st) (s : σ) (x : Idn) (hx : Rng (ml x)) (r : Option (σ × Idn)) (w : World) (hI : Inv s w) (hr : wId st s x = some r) :
    Calls Try.prog 35 #[.agg (IC x), .func (.func f) #[] #[y]] w fun e w' => Mid N B w w' ∧ ((r = none ∧ e = .panicked pan) ∨ ∃ s' m, r = some (s', m) ∧ e = .returned (.agg (IC m)) ∧ Inv s' w') := by
  have he := hs.ent
  have hz := hs.sz s w hI
  obtain ⟨r1, h1, hn1, hy1⟩ := bnd_some hr
  clear hr
  have A0 : Box ((w.alloc (.cells (IC x) 25)).alloc (.cells (IC zeroI) 25)) w.heap.size (icl x) := (Box.new w (icl x) 25).alloc _
  have D0 : Box ((w.alloc (.cells (IC x) 25)).alloc (.cells (IC zeroI) 25)) (w.heap.size + 1) (icl zeroI) := by
    have := Box.new (w.alloc (.cells (IC x) 25)) (icl zeroI) 25
    rwa [World.size_alloc] at this
  have L0 : Below w.heap.size w ((w.alloc (.cells (IC x) 25)).alloc (.cells (IC zeroI) 25)) := by go_grown
  have M0 := (Mid.refl N B w).on L0
  have I0 := hs.on s _ _ hI (L0.mono hz)
  have c0 := A0.cell 0 _ rfl
  clear L0 hI
  go_enter Try.func35, Try.ntmps35
  go_wp2_with fail
  refine (hs.run s x.pr 2 _ r1 I0 (by omega) h1).mono ?_
  rintro e w1 ⟨M1, ⟨rfl, rfl⟩ | ⟨s1, p, rfl, rfl, I1⟩⟩
  · have hq := hide (hn1 rfl)
    go_wp2
    exact ⟨rfl, M0.trans M1, Or.inl ⟨hq.out, rfl⟩⟩
  obtain ⟨r2, h2, hn2, hy2⟩ := bnd_some (hy1 s1 p rfl)
  have A1 := A0.midst hz M1
  have D1 := D0.midst (by omega) M1
  have g1 := setCell_grown w1 w.heap.size 0 (.int .i64 p)
  have c1 := A1.cell 0 _ rfl
  have f1 := A1.free 0 (by rw [icl_length]; omega)
  have A2 := icl_six p A1
  have m2 : World.rangeAt (w1.setCell ⟨w.heap.size, 0, none⟩ (.int .i64 p)) w.heap.size 1 (mcl x) := A2.mac
  have D2 := D1.kept (by omega) g1
  have M2 := (M0.trans M1).grown g1 (Or.inl (Nat.le_refl _))
  have I2 := hs.on s1 _ _ I1 (below_of_grown g1 hz (hs.sz _ _ I1))
  have q : IntKind.i64.wrap (nm x) = nm x := IntWalk.i64_in _ (by have := nm_fit hx; omega)
  clear A0 D0 M0 I0 c0 h1 hn1 hy1 A1 D1 I1 M1 g1
  have tk1 : True := trivial
  go_wp2_with (have _t := tk1; refine wpl_mac (.tmp 12) rfl m2 ?_ ?_ ?_; rfl; rfl; clear tk1)
  refine (number39 x _ hx).mono ?_
  rintro e w2 ⟨rfl, hb2⟩
  replace A2 := A2.on hb2
  replace D2 := D2.on hb2
  replace M2 := M2.on hb2
  replace I2 := hs.on s1 _ _ I2 (hb2.mono (hs.sz _ _ I2))
  clear hb2 m2 c1 f1
  go_wp2_with fail
  refine (hs.run s1 (nm x) 6 _ r2 I2 (by omega) h2).mono ?_
  rintro e w3 ⟨M3, ⟨rfl, rfl⟩ | ⟨s2, n, rfl, rfl, I3⟩⟩
  · have hq := hide (hn2 rfl)
    go_wp2
    exact ⟨rfl, M2.trans M3, Or.inl ⟨hq.out, rfl⟩⟩
  have HY := hide (Option.some.inj (hy2 s2 n rfl))
  obtain ⟨b0, b1⟩ := hs.six _ _ _ _ _ I2 h2 (nm_fit hx).1 (nm_fit hx).2
  have q2 : IntKind.u64.wrap n = n := IntWalk.u64_in _ (by omega)
  replace A2 := A2.midst hz M3
  replace D2 := D2.midst (by omega) M3
  replace M2 := M2.trans M3
  clear M3 h2 hn2 hy2 I2 q
  go_wp2_with fail
  refine (of42 p n _ b0 b1).mono ?_
  rintro e w4 ⟨rfl, hb2⟩
  replace A2 : Box w4 w.heap.size ([.int .i64 p] ++ (mcl x ++ [])) := A2.on hb2
  replace D2 : Box w4 (w.heap.size + 1) ([] ++ (icl zeroI ++ [])) := D2.on hb2
  replace M2 := M2.on hb2
  replace I3 := hs.on s2 _ _ I3 (hb2.mono (hs.sz _ _ I3))
  clear hb2 q2 b0 b1
  have tk1 : True := trivial
  have tk2 : True := trivial
  have tk3 : True := trivial
  go_wp2_with (first | (have _t := tk1; refine wpl_putM (ofN p n) [.int .i64 p] [] x (.tmp 23) (.tmp 21) rfl A2 rfl ?_ ?_ ?_ ?_; rfl; rfl; rfl; clear tk1; intro w5 A3 g3; have a3 : w5.rangeAt w.heap.size 0 (icl (ofN p n)) := A3.at_; have D3 := D2.kept (by omega) g3) | (have _t := tk2; refine wpl_id (.tmp 2) rfl a3 ?_ ?_ ?_; rfl; rfl; clear tk2) | (have _t := tk3; refine wpl_putI (ofN p n) [] [] zeroI (.tmp 4) (.tmp 24) rfl D3 rfl ?_ ?_ ?_ ?_; rfl; rfl; rfl; clear tk3; intro w6 D4 g4))
  replace I3 := hs.on s2 _ _ I3 (below_of_grown g3 hz (hs.sz _ _ I3))
  replace I3 := hs.on s2 _ _ I3 (below_of_grown g4 (by omega) (hs.sz _ _ I3))
  replace M2 := (M2.grown g3 (Or.inl (Nat.le_refl _))).grown g4 (Or.inl (by omega))
  have D5 : Box w6 (w.heap.size + 1) (icl (ofN p n)) := D4
  exact bodyPost_ret (v := .agg (IC (ofN p n))) (res_id_cell rfl rfl D5) rfl ⟨M2, Or.inr ⟨s2, ofN p n, HY.out.symm, rfl, I3⟩⟩
end
end Go.Proofs.Ytdaglmimfkcmeaa
