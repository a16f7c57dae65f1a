/- Contract: the loop over the ports, behind learning. -/
import Derived.Test.YtgpdjfaklcmoiaaGreatM13
namespace Go.Proofs.YtgpdjfaklcmoiaaGreat
open Go.RowKit Go.PlainAid Go.Shelf
attribute [local go_sem] Oper.semAt_some ZF

set_option maxRecDepth 100000 in
set_option maxHeartbeats 8000000 in
theorem outsB (A : PAd) (B : Br) (v u : Int) (f : Fd) (a : Option Addr) (n c : Nat) (kk ks : Nat) (kn : Bool) (y : En) (w : World) (H : PB w A B) (hY : Byt w a n c f.bs) (hv : I64 v) (hX : Box w kk [.bool kn] ∧ Box w ks (ecl y)) :
    Calls Tryz.prog 58 #[.pointer (some ⟨A.g, 0, none⟩), .int .i64 v, .int .i64 u, .agg (FC f (.slice a n c)), .func (.func 81) #[] #[.pointer (some ⟨kk, 0, none⟩), .pointer (some ⟨ks, 0, none⟩)]] w fun e w' => ∃ ao xs cc, e = .returned (.slice ao xs.length cc) ∧ Ots w' ao xs.length cc xs ∧ xs.map Ow.o = ols B v f (fun p : Int => (!kn || p == y.p)) (sel B u (mbs B.V.l v B.V.n)) ∧ Below w.heap.size w w' ∧ OwnO w ao xs := by
  obtain ⟨i0, hi, hz0, hz1, hz2⟩ := info_parts Tryz.info57
  obtain ⟨b, hb⟩ : ∃ b, b = w.heap.size := ⟨_, rfl⟩
  obtain ⟨z, hz⟩ : ∃ z, z = allocs w [.cells #[.pointer (some ⟨A.g, 0, none⟩)] 26, .cells #[.int .i64 v] 3, .cells (FC f (.slice a n c)) 38, .cells #[.func (.func 81) #[] #[.pointer (some ⟨kk, 0, none⟩), .pointer (some ⟨ks, 0, none⟩)]] 102, .cells #[.slice none 0 0] 48, .cells #[.pointer (some ⟨A.g, 0, none⟩)] 26, .cells #[.int .i64 v] 3, .cells #[.int .i64 u] 3] := ⟨_, rfl⟩
  have hze : (((((((w.alloc (.cells #[.pointer (some ⟨A.g, 0, none⟩)] 26)).alloc (.cells #[.int .i64 v] 3)).alloc (.cells (FC f (.slice a n c)) 38)).alloc (.cells #[.func (.func 81) #[] #[.pointer (some ⟨kk, 0, none⟩), .pointer (some ⟨ks, 0, none⟩)]] 102)).alloc (.cells #[.slice none 0 0] 48)).alloc (.cells #[.pointer (some ⟨A.g, 0, none⟩)] 26)).alloc (.cells #[.int .i64 v] 3)).alloc (.cells #[.int .i64 u] 3) = z := hz.symm
  have zs : z.heap.size = b + 8 := by rw [hz, allocs_size, hb]; rfl
  have zb : Below b w z := by rw [hz, hb]; exact allocs_below _ _
  have z0 : Box z b [.pointer (some ⟨A.g, 0, none⟩)] := by rw [hz, hb]; exact allocs_box (i := 0) (t := 26) rfl
  have z1 : Box z (b + 1) [.int .i64 v] := by rw [hz, hb]; exact allocs_box (i := 1) (t := 3) rfl
  have z2 : Box z (b + 2) (fcl f (.slice a n c)) := by rw [hz, hb]; exact allocs_box (i := 2) (t := 38) rfl
  have z3 : Box z (b + 3) [.func (.func 81) #[] #[.pointer (some ⟨kk, 0, none⟩), .pointer (some ⟨ks, 0, none⟩)]] := by rw [hz, hb]; exact allocs_box (i := 3) (t := 102) rfl
  have z4 : Boxed z (b + 4) 48 (.slice none 0 0) := by
    obtain ⟨w0, h1, h2⟩ := allocs_get w [.cells #[.pointer (some ⟨A.g, 0, none⟩)] 26, .cells #[.int .i64 v] 3, .cells (FC f (.slice a n c)) 38, .cells #[.func (.func 81) #[] #[.pointer (some ⟨kk, 0, none⟩), .pointer (some ⟨ks, 0, none⟩)]] 102, .cells #[.slice none 0 0] 48, .cells #[.pointer (some ⟨A.g, 0, none⟩)] 26, .cells #[.int .i64 v] 3, .cells #[.int .i64 u] 3] 4 _ rfl
    rw [← hz, ← hb] at h2
    have h3 := Boxed.new w0 48 (.slice none 0 0)
    rw [h1, ← hb] at h3
    exact h2.trans h3
  have z5 : Box z (b + 5) [.pointer (some ⟨A.g, 0, none⟩)] := by rw [hz, hb]; exact allocs_box (i := 5) (t := 26) rfl
  have z6 : Box z (b + 6) [.int .i64 v] := by rw [hz, hb]; exact allocs_box (i := 6) (t := 3) rfl
  have z7 : Box z (b + 7) [.int .i64 u] := by rw [hz, hb]; exact allocs_box (i := 7) (t := 3) rfl
  have hlt := H.lt
  have hkt : kk < b ∧ ks < b := by rw [hb]; exact ⟨hX.1.lt, hX.2.lt⟩
  have ZP := hide (H.on (by rw [← hb]; exact zb))
  have ZY := hide (hY.on (by rw [← hb]; exact zb))
  have ZYL : Hid (∀ b' o, a = some ⟨b', o, none⟩ → 0 < n → b' < b) := hide (fun b' o e hp => by rw [hb]; exact hY.lt b' o e hp)
  have ZX : Hid (Box z kk [.bool kn] ∧ Box z ks (ecl y)) := hide (by exact ⟨hX.1.on (by rw [← hb]; exact zb), hX.2.on (by rw [← hb]; exact zb)⟩)
  have hbA : A.hi ≤ b := by omega
  have HZ := hide hz
  have HVI := hide hv
  have HL := hide (mbs_len B.V.l v B.V.n)
  have HVN : Hid (B.V.n ≤ 64) := hide (by have := H.wf.vn; have := H.wf.n2; omega)
  clear H hY hlt hX hv hz
  refine (callsIn_wide (n := 6)).1 ?_
  refine callsIn_of_wp_marks Tryz.func58 rfl trivial ?_ rfl
  simp only [Tryz.ntmps58, List.size_toArray, List.length_cons, List.length_nil, Nat.reduceAdd, Nat.reduceSub, Array.replicate_succ, Array.replicate_zero, List.push_toArray, List.append_toArray, List.nil_append, List.cons_append]
  gi_wp2_with (refine ⟨trivial, ?_⟩; gi_at_call 84; refine (senders_in _ _ trivial rfl _ _ _ _).mono ?_; rintro e w' ⟨rfl, rfl⟩)
  rw [← hb]
  clear hze
  have HB := hide hb
  clear hb
  have sq9 : SeqStopsK Fence.wide (6 - 1) Tryz.prog 107 #[.pointer (some ⟨b + 5, 0, none⟩), .pointer (some ⟨b + 6, 0, none⟩), .pointer (some ⟨b + 7, 0, none⟩)] (fun x : Int => #[Value.int .i64 x]) (KpO (b + 8) (b + 4)) (fun xs => xs = sel B u (mbs B.V.l v B.V.n)) (fun _ => True) (mbs B.V.l v B.V.n).length z := fun l J Jx W hW hJ _ hY h0 =>
    each107_in (6 - 1) (by omega) l (b + 5) (b + 6) (b + 7) (b + 4) (b + 8) A B v u J Jx HVI.out (by omega) hY W hJ (by rw [← zs]; exact hW.size) (z5.on hW) (z6.on hW) (z7.on hW) (ZP.out.on hW) (by
      unfold rowOf
      rw [World.cell?_of_block (a := ⟨b + 4, 0, none⟩) (hW.block (b + 4) (by omega)), z4.cell]
      rfl) h0
  refine wpIn_rangeFunc_ownH (α := Int) rfl (by omega) (gf := 107) (lb := #[.pointer (some ⟨b + 5, 0, none⟩), .pointer (some ⟨b + 6, 0, none⟩), .pointer (some ⟨b + 7, 0, none⟩)]) rfl trivial (enters_of Tryz.func107 (by kernel_rfl) rfl)
    sq9 (fun h1 h2 => h1.trans h2) (fun W l o o' hl h hc _ => KpO.putObj W o' (by rw [← zs]; exact hl) (by omega) h hc) (Below.refl _ _) (fun _ => rfl)
    (Iow b w z (fun pre => ols B v f (fun p : Int => (!kn || p == y.p)) pre)) (fun _ _ _ => False) (by rw [zs]; exact io_own b w z _) (fun _ _ _ _ _ hs _ _ => hs)
    ⟨_, [], z4, World.ownsRow_nil _ _ _ _, rfl, fun x hx => (by cases hx), fun x hx => (by cases hx), zb, by omega, fun _ _ _ => rfl⟩
    (fun x a' _ => a' = ⟨#[.pointer (some ⟨A.g, 0, none⟩), .int .i64 v, .int .i64 u, .agg (FC f (.slice a n c)), .func (.func 81) #[] #[.pointer (some ⟨kk, 0, none⟩), .pointer (some ⟨ks, 0, none⟩)], .pointer (some ⟨b, 0, none⟩), .pointer (some ⟨b + 1, 0, none⟩), undef, .pointer (some ⟨b + 2, 0, none⟩), .pointer (some ⟨b + 3, 0, none⟩), .slice none 0 0, .pointer (some ⟨b + 4, 0, none⟩), .int .i64 x, undef, undef, .pointer (some ⟨A.g, 0, none⟩), .int .i64 v, .int .i64 u, .func (.func 107) #[] #[.pointer (some ⟨b + 5, 0, none⟩), .pointer (some ⟨b + 6, 0, none⟩), .pointer (some ⟨b + 7, 0, none⟩)], .int .i64 x, undef, undef, undef, undef, undef, undef, undef, undef, undef, undef, undef, undef, undef, undef, undef, undef, undef, undef, undef, undef, undef, undef, undef, undef], []⟩) (fun _ _ _ _ _ _ hs _ _ => hs) ?cA ?cB ?cD ?cS
  case cA =>
    intro l pre x W K hI hK
    have HI := hide hI
    have HKK := hide hK
    clear hI hK
    gi_wp2
    exact HKK.out _ W (KeepsFrom.refl _ _) (KpO.refl _ _ _) HI.out rfl
  case cB =>
    rintro l pre x a' wr hl ⟨rec, hrec⟩ hI rfl hpl
    have hir := io_row hI
    have HII := hide hI
    obtain ⟨lv, xs, i1, i2, i3, i4, i5, i6, i7, i8⟩ := hI
    have W0 := hide (z0.block (i8 b (by omega) (by omega)))
    have W1 := hide (z1.block (i8 (b + 1) (by omega) (by omega)))
    have W2 := hide (z2.block (i8 (b + 2) (by omega) (by omega)))
    have W3 := hide (z3.block (i8 (b + 3) (by omega) (by omega)))
    have WP := hide (ZP.out.keep (fun k h1 h2 => i8 k (by omega) (by omega)))
    have WY := hide (byt_keep ZY.out (fun b' o v e hp _ => i8 b' (by have := ZYL.out b' o e hp; omega) (by have := ZYL.out b' o e hp; omega)))
    have WX : Hid (Box wr kk [.bool kn] ∧ Box wr ks (ecl y)) := hide (by exact ⟨ZX.out.1.block (i8 kk (by omega) (by omega)), ZX.out.2.block (i8 ks (by omega) (by omega))⟩)
    have HIR := hide hir
    have c3 := W3.out.cell 0 _ rfl
    have hmt := fun W h => meantB kk ks kn y x W h
    have hpl2 : Hid (pre.length ≤ 64) := hide (by have := HL.out; have := HVN.out; omega)
    have HXS : Hid (xs.length ≤ 64) := hide (by
      have h1 := congrArg List.length i3
      rw [List.length_map] at h1
      dsimp only at h1
      have h2 := ols_len B v f (fun p : Int => (!kn || p == y.p)) pre
      have := hpl2.out
      omega)
    have I1 := hide i1
    have I2 := hide i2
    have I3 := hide i3
    have I4 := hide i4
    have I5 := hide i5
    have I6 := hide i6
    have I7 := hide i7
    have I8 := hide i8
    clear z0 z1 z2 z3 z4 z5 z6 z7 hir i1 i2 i3 i4 i5 i6 i7 i8 sq9 hpl hrec
    rcases Bool.eq_false_or_eq_true ((fun p : Int => (!kn || p == y.p)) x) with hM | hM
    rotate_left
    · dsimp only at hM
      have HN : Hid (ols B v f (fun p : Int => (!kn || p == y.p)) (pre ++ [x]) = ols B v f (fun p : Int => (!kn || p == y.p)) pre) := hide (by rw [ols_append, ols_one, hM, Bool.false_and, if_neg (by simp), List.append_nil])
      have hmq := hmt _ WX.out
      rw [hM] at hmq
      have HMQ := hide hmq
      clear hmq hmt
      gi_wp2_with (refine ⟨trivial, ?_⟩; gi_at_call 81; refine (callsRound HMQ.out).mono ?_; rintro e w' ⟨rfl, hw⟩; obtain rfl : wr = w' := hw.symm)
      exact ⟨KeepsFrom.refl _ _, KpO.refl _ _ _, lv, xs, I1.out, I2.out, by rw [I3.out]; exact HN.out.symm, I4.out, I5.out, I6.out, I7.out, I8.out⟩
    have hmq := hmt _ WX.out
    dsimp only at hM
    have HMX := hide hM
    rw [hM] at hmq
    have HMQ := hide hmq
    clear hmq hmt hM
    gi_wp2_with (refine ⟨trivial, ?_⟩; gi_at_call 81; refine (callsRound HMQ.out).mono ?_; rintro e w' ⟨rfl, hw⟩; obtain rfl : wr = w' := hw.symm)
    have SS : Hid (∀ z : World, Below wr.heap.size wr z → (z.cell? ⟨b, 0, none⟩ = some (.pointer (some ⟨A.g, 0, none⟩)) ∧ z.cell? ⟨A.g, 0, none⟩ = some (.pointer (some ⟨A.h + 2, 0, none⟩)) ∧ z.cell? ⟨b + 1, 0, none⟩ = some (.int .i64 v) ∧ Box z (b + 2) (fcl f (.slice a n c))) ∧ PB z A B ∧ Byt z a n c f.bs) := hide (fun z q => ⟨⟨(W0.out.on q).cell 0 _ rfl, (WP.out.on q).bx.cell 0 _ rfl, (W1.out.on q).cell 0 _ rfl, W2.out.on q⟩, WP.out.on q, WY.out.on q⟩)
    have BW : Hid (Below wr.heap.size wr wr.drew) := hide ⟨rfl, rfl, rfl, Nat.le_refl _, fun _ _ => rfl⟩
    clear c3
    refine wpIn_then (fun a' w' => ∃ k13 a1 m1 c1, a' = ⟨#[.pointer (some ⟨A.g, 0, none⟩), .int .i64 v, .int .i64 u, .agg (FC f (.slice a n c)), .func (.func 81) #[] #[.pointer (some ⟨kk, 0, none⟩), .pointer (some ⟨ks, 0, none⟩)], .pointer (some ⟨b, 0, none⟩), .pointer (some ⟨b + 1, 0, none⟩), undef, .pointer (some ⟨b + 2, 0, none⟩), .pointer (some ⟨b + 3, 0, none⟩), .slice none 0 0, .pointer (some ⟨b + 4, 0, none⟩), .int .i64 x, .pointer (some ⟨k13, 0, none⟩), .int .i64 (ouE B.V v x f), .pointer (some ⟨A.g, 0, none⟩), .int .i64 v, .int .i64 u, .func (.func 107) #[] #[.pointer (some ⟨b + 5, 0, none⟩), .pointer (some ⟨b + 6, 0, none⟩), .pointer (some ⟨b + 7, 0, none⟩)], .int .i64 x, .func (.func 81) #[] #[.pointer (some ⟨kk, 0, none⟩), .pointer (some ⟨ks, 0, none⟩)], .int .i64 x, .bool true, .bool false, .tuple #[.agg (FC (ouF B.V v x f) (.slice a1 m1 c1)), .int .i64 (ouE B.V v x f)], .pointer (some ⟨A.g, 0, none⟩), .pointer (some ⟨A.g, 0, none⟩), .pointer (some ⟨A.g, 0, none⟩), .pointer (some ⟨A.h + 2, 0, none⟩), .int .i64 v, .int .i64 x, .agg (FC f (.slice a n c)), .tuple #[.agg (FC (ouF B.V v x f) (.slice a1 m1 c1)), .int .i64 (ouE B.V v x f)], .agg (FC (ouF B.V v x f) (.slice a1 m1 c1)), .int .i64 (ouE B.V v x f), undef, undef, undef, undef, undef, undef, undef, undef, undef], []⟩ ∧ Box w' k13 (fcl (ouF B.V v x f) (.slice a1 m1 c1)) ∧ Byt w' a1 m1 c1 (ouF B.V v x f).bs ∧ (∀ b' o, a1 = some ⟨b', o, none⟩ → wr.heap.size ≤ b') ∧ wr.heap.size ≤ k13 ∧ Below wr.heap.size wr w') (region_round (S := fun w' => w'.cell? ⟨b, 0, none⟩ = some (.pointer (some ⟨A.g, 0, none⟩)) ∧ w'.cell? ⟨A.g, 0, none⟩ = some (.pointer (some ⟨A.h + 2, 0, none⟩)) ∧ w'.cell? ⟨b + 1, 0, none⟩ = some (.int .i64 v) ∧ Box w' (b + 2) (fcl f (.slice a n c))) (by kernel_rfl) (noDefers (by kernel_rfl)) (fun ⟨_, _, h⟩ => h) (SS.out _ BW.out).1 (fun hHeld => ?_)) ?_
    · generalize wr.drew = u0 at *
      refine wpAnyH_take (i := 0) (v := .pointer (some ⟨A.g, 0, none⟩)) rfl (by kernel_rfl) (by kernel_rfl) (by kernel_rfl) (fun _ _ _ h => h) (Or.inl ⟨by rfl, ?_⟩) hHeld ?_
      · intro W hW; (try dsimp only at hW); have hc := hW.1; clear hW; go_simp
      change wpAnyH _ _ _ _ _ _ _ ⟨#[.pointer (some ⟨A.g, 0, none⟩),.int .i64 v,.int .i64 u,.agg (FC f (.slice a n c)),.func (.func 81) #[] #[.pointer (some ⟨kk, 0, none⟩), .pointer (some ⟨ks, 0, none⟩)],.pointer (some ⟨b, 0, none⟩),.pointer (some ⟨b + 1, 0, none⟩),_,.pointer (some ⟨b + 2, 0, none⟩),.pointer (some ⟨b + 3, 0, none⟩),.slice none 0 0,.pointer (some ⟨b + 4, 0, none⟩),.int .i64 x,_,_,.pointer (some ⟨A.g, 0, none⟩),.int .i64 v,.int .i64 u,.func (.func 107) #[] #[.pointer (some ⟨b + 5, 0, none⟩), .pointer (some ⟨b + 6, 0, none⟩), .pointer (some ⟨b + 7, 0, none⟩)],.int .i64 x,.func (.func 81) #[] #[.pointer (some ⟨kk, 0, none⟩), .pointer (some ⟨ks, 0, none⟩)],.int .i64 x,.bool true,.bool false,_,.pointer (some ⟨A.g, 0, none⟩),_,_,_,_,_,_,_,_,_,_,_,_,_,_,_,_,_,_], []⟩ _
      refine wpAnyH_take (i := 1) (v := .pointer (some ⟨A.g, 0, none⟩)) rfl (by kernel_rfl) (by kernel_rfl) (by kernel_rfl) (fun _ _ _ h => h) (Or.inl ⟨by rfl, ?_⟩) hHeld ?_
      · intro W hW; (try dsimp only at hW); go_simp
      change wpAnyH _ _ _ _ _ _ _ ⟨#[.pointer (some ⟨A.g, 0, none⟩),.int .i64 v,.int .i64 u,.agg (FC f (.slice a n c)),.func (.func 81) #[] #[.pointer (some ⟨kk, 0, none⟩), .pointer (some ⟨ks, 0, none⟩)],.pointer (some ⟨b, 0, none⟩),.pointer (some ⟨b + 1, 0, none⟩),_,.pointer (some ⟨b + 2, 0, none⟩),.pointer (some ⟨b + 3, 0, none⟩),.slice none 0 0,.pointer (some ⟨b + 4, 0, none⟩),.int .i64 x,_,_,.pointer (some ⟨A.g, 0, none⟩),.int .i64 v,.int .i64 u,.func (.func 107) #[] #[.pointer (some ⟨b + 5, 0, none⟩), .pointer (some ⟨b + 6, 0, none⟩), .pointer (some ⟨b + 7, 0, none⟩)],.int .i64 x,.func (.func 81) #[] #[.pointer (some ⟨kk, 0, none⟩), .pointer (some ⟨ks, 0, none⟩)],.int .i64 x,.bool true,.bool false,_,.pointer (some ⟨A.g, 0, none⟩),.pointer (some ⟨A.g, 0, none⟩),_,_,_,_,_,_,_,_,_,_,_,_,_,_,_,_,_], []⟩ _
      refine wpAnyH_take (i := 2) (v := .pointer (some ⟨A.g, 0, none⟩)) rfl (by kernel_rfl) (by kernel_rfl) (by kernel_rfl) (fun _ _ _ h => h) (Or.inl ⟨by rfl, ?_⟩) hHeld ?_
      · intro W hW; (try dsimp only at hW); go_simp
      change wpAnyH _ _ _ _ _ _ _ ⟨#[.pointer (some ⟨A.g, 0, none⟩),.int .i64 v,.int .i64 u,.agg (FC f (.slice a n c)),.func (.func 81) #[] #[.pointer (some ⟨kk, 0, none⟩), .pointer (some ⟨ks, 0, none⟩)],.pointer (some ⟨b, 0, none⟩),.pointer (some ⟨b + 1, 0, none⟩),_,.pointer (some ⟨b + 2, 0, none⟩),.pointer (some ⟨b + 3, 0, none⟩),.slice none 0 0,.pointer (some ⟨b + 4, 0, none⟩),.int .i64 x,_,_,.pointer (some ⟨A.g, 0, none⟩),.int .i64 v,.int .i64 u,.func (.func 107) #[] #[.pointer (some ⟨b + 5, 0, none⟩), .pointer (some ⟨b + 6, 0, none⟩), .pointer (some ⟨b + 7, 0, none⟩)],.int .i64 x,.func (.func 81) #[] #[.pointer (some ⟨kk, 0, none⟩), .pointer (some ⟨ks, 0, none⟩)],.int .i64 x,.bool true,.bool false,_,.pointer (some ⟨A.g, 0, none⟩),.pointer (some ⟨A.g, 0, none⟩),.pointer (some ⟨A.g, 0, none⟩),_,_,_,_,_,_,_,_,_,_,_,_,_,_,_,_], []⟩ _
      refine wpAnyH_take (i := 3) (v := .pointer (some ⟨A.h + 2, 0, none⟩)) rfl (by kernel_rfl) (by kernel_rfl) (by kernel_rfl) (fun _ _ _ h => h) (Or.inl ⟨by rfl, ?_⟩) hHeld ?_
      · intro W hW; (try dsimp only at hW); have hc := hW.2.1; clear hW; go_simp
      change wpAnyH _ _ _ _ _ _ _ ⟨#[.pointer (some ⟨A.g, 0, none⟩),.int .i64 v,.int .i64 u,.agg (FC f (.slice a n c)),.func (.func 81) #[] #[.pointer (some ⟨kk, 0, none⟩), .pointer (some ⟨ks, 0, none⟩)],.pointer (some ⟨b, 0, none⟩),.pointer (some ⟨b + 1, 0, none⟩),_,.pointer (some ⟨b + 2, 0, none⟩),.pointer (some ⟨b + 3, 0, none⟩),.slice none 0 0,.pointer (some ⟨b + 4, 0, none⟩),.int .i64 x,_,_,.pointer (some ⟨A.g, 0, none⟩),.int .i64 v,.int .i64 u,.func (.func 107) #[] #[.pointer (some ⟨b + 5, 0, none⟩), .pointer (some ⟨b + 6, 0, none⟩), .pointer (some ⟨b + 7, 0, none⟩)],.int .i64 x,.func (.func 81) #[] #[.pointer (some ⟨kk, 0, none⟩), .pointer (some ⟨ks, 0, none⟩)],.int .i64 x,.bool true,.bool false,_,.pointer (some ⟨A.g, 0, none⟩),.pointer (some ⟨A.g, 0, none⟩),.pointer (some ⟨A.g, 0, none⟩),.pointer (some ⟨A.h + 2, 0, none⟩),_,_,_,_,_,_,_,_,_,_,_,_,_,_,_], []⟩ _
      refine wpAnyH_take (i := 4) (v := .int .i64 v) rfl (by kernel_rfl) (by kernel_rfl) (by kernel_rfl) (fun _ _ _ h => h) (Or.inl ⟨by rfl, ?_⟩) hHeld ?_
      · intro W hW; (try dsimp only at hW); have hc := hW.2.2.1; clear hW; go_simp
      change wpAnyH _ _ _ _ _ _ _ ⟨#[.pointer (some ⟨A.g, 0, none⟩),.int .i64 v,.int .i64 u,.agg (FC f (.slice a n c)),.func (.func 81) #[] #[.pointer (some ⟨kk, 0, none⟩), .pointer (some ⟨ks, 0, none⟩)],.pointer (some ⟨b, 0, none⟩),.pointer (some ⟨b + 1, 0, none⟩),_,.pointer (some ⟨b + 2, 0, none⟩),.pointer (some ⟨b + 3, 0, none⟩),.slice none 0 0,.pointer (some ⟨b + 4, 0, none⟩),.int .i64 x,_,_,.pointer (some ⟨A.g, 0, none⟩),.int .i64 v,.int .i64 u,.func (.func 107) #[] #[.pointer (some ⟨b + 5, 0, none⟩), .pointer (some ⟨b + 6, 0, none⟩), .pointer (some ⟨b + 7, 0, none⟩)],.int .i64 x,.func (.func 81) #[] #[.pointer (some ⟨kk, 0, none⟩), .pointer (some ⟨ks, 0, none⟩)],.int .i64 x,.bool true,.bool false,_,.pointer (some ⟨A.g, 0, none⟩),.pointer (some ⟨A.g, 0, none⟩),.pointer (some ⟨A.g, 0, none⟩),.pointer (some ⟨A.h + 2, 0, none⟩),.int .i64 v,_,_,_,_,_,_,_,_,_,_,_,_,_,_], []⟩ _
      refine wpAnyH_take (i := 5) (v := .int .i64 x) rfl (by kernel_rfl) (by kernel_rfl) (by kernel_rfl) (fun _ _ _ h => h) (Or.inl ⟨by rfl, ?_⟩) hHeld ?_
      · intro W hW; (try dsimp only at hW); go_simp
      change wpAnyH _ _ _ _ _ _ _ ⟨#[.pointer (some ⟨A.g, 0, none⟩),.int .i64 v,.int .i64 u,.agg (FC f (.slice a n c)),.func (.func 81) #[] #[.pointer (some ⟨kk, 0, none⟩), .pointer (some ⟨ks, 0, none⟩)],.pointer (some ⟨b, 0, none⟩),.pointer (some ⟨b + 1, 0, none⟩),_,.pointer (some ⟨b + 2, 0, none⟩),.pointer (some ⟨b + 3, 0, none⟩),.slice none 0 0,.pointer (some ⟨b + 4, 0, none⟩),.int .i64 x,_,_,.pointer (some ⟨A.g, 0, none⟩),.int .i64 v,.int .i64 u,.func (.func 107) #[] #[.pointer (some ⟨b + 5, 0, none⟩), .pointer (some ⟨b + 6, 0, none⟩), .pointer (some ⟨b + 7, 0, none⟩)],.int .i64 x,.func (.func 81) #[] #[.pointer (some ⟨kk, 0, none⟩), .pointer (some ⟨ks, 0, none⟩)],.int .i64 x,.bool true,.bool false,_,.pointer (some ⟨A.g, 0, none⟩),.pointer (some ⟨A.g, 0, none⟩),.pointer (some ⟨A.g, 0, none⟩),.pointer (some ⟨A.h + 2, 0, none⟩),.int .i64 v,.int .i64 x,_,_,_,_,_,_,_,_,_,_,_,_,_], []⟩ _
      refine wpAnyH_take (i := 6) (v := .agg (FC f (.slice a n c))) rfl (by kernel_rfl) (by kernel_rfl) (by kernel_rfl) (fun _ _ _ h => h) (yieldsIf_load_mid (by rfl) 38 (.tmp 8) rfl (b + 2) 0 rfl (fcl f (.slice a n c)) _ (fun W hW => hW.2.2.2.at_) Tryz.underlying38 rfl Tryz.size38) hHeld ?_
      change wpAnyH _ _ _ _ _ _ _ ⟨#[.pointer (some ⟨A.g, 0, none⟩),.int .i64 v,.int .i64 u,.agg (FC f (.slice a n c)),.func (.func 81) #[] #[.pointer (some ⟨kk, 0, none⟩), .pointer (some ⟨ks, 0, none⟩)],.pointer (some ⟨b, 0, none⟩),.pointer (some ⟨b + 1, 0, none⟩),_,.pointer (some ⟨b + 2, 0, none⟩),.pointer (some ⟨b + 3, 0, none⟩),.slice none 0 0,.pointer (some ⟨b + 4, 0, none⟩),.int .i64 x,_,_,.pointer (some ⟨A.g, 0, none⟩),.int .i64 v,.int .i64 u,.func (.func 107) #[] #[.pointer (some ⟨b + 5, 0, none⟩), .pointer (some ⟨b + 6, 0, none⟩), .pointer (some ⟨b + 7, 0, none⟩)],.int .i64 x,.func (.func 81) #[] #[.pointer (some ⟨kk, 0, none⟩), .pointer (some ⟨ks, 0, none⟩)],.int .i64 x,.bool true,.bool false,_,.pointer (some ⟨A.g, 0, none⟩),.pointer (some ⟨A.g, 0, none⟩),.pointer (some ⟨A.g, 0, none⟩),.pointer (some ⟨A.h + 2, 0, none⟩),.int .i64 v,.int .i64 x,.agg (FC f (.slice a n c)),_,_,_,_,_,_,_,_,_,_,_,_], []⟩ _
      refine wpAnyH_ready (rs := [7, 11]) (by kernel_rfl) (by simp) ?_
      refine AllReadyH.cons rfl (fun K hK => ?_) (AllReadyH.cons rfl (fun K hK => ?_) AllReadyH.nil)
      · skip
        go_simp
        refine (outQ A.h B.V v x f a n c _ (SS.out _ BW.out).2.1.pv (SS.out _ BW.out).2.2).mono ?_
        rintro e u1 ⟨a1, m1, c1, rfl, Y1, ha1, b1⟩
        have HA1 : Hid (∀ b' o, a1 = some ⟨b', o, none⟩ → wr.heap.size ≤ b') := hide (fun b' o e => Nat.le_trans BW.out.size (ha1 b' o e))
        replace BW := hide (belowOn BW.out b1)
        refine hK.out _ _ (SS.out _ BW.out).1 (fun hHeld => ?_)
        have HY4 := hide Y1
        clear hK K b1 Y1 ha1
        change wpAnyH _ _ _ _ _ _ _ ⟨#[.pointer (some ⟨A.g, 0, none⟩),.int .i64 v,.int .i64 u,.agg (FC f (.slice a n c)),.func (.func 81) #[] #[.pointer (some ⟨kk, 0, none⟩), .pointer (some ⟨ks, 0, none⟩)],.pointer (some ⟨b, 0, none⟩),.pointer (some ⟨b + 1, 0, none⟩),_,.pointer (some ⟨b + 2, 0, none⟩),.pointer (some ⟨b + 3, 0, none⟩),.slice none 0 0,.pointer (some ⟨b + 4, 0, none⟩),.int .i64 x,_,_,.pointer (some ⟨A.g, 0, none⟩),.int .i64 v,.int .i64 u,.func (.func 107) #[] #[.pointer (some ⟨b + 5, 0, none⟩), .pointer (some ⟨b + 6, 0, none⟩), .pointer (some ⟨b + 7, 0, none⟩)],.int .i64 x,.func (.func 81) #[] #[.pointer (some ⟨kk, 0, none⟩), .pointer (some ⟨ks, 0, none⟩)],.int .i64 x,.bool true,.bool false,_,.pointer (some ⟨A.g, 0, none⟩),.pointer (some ⟨A.g, 0, none⟩),.pointer (some ⟨A.g, 0, none⟩),.pointer (some ⟨A.h + 2, 0, none⟩),.int .i64 v,.int .i64 x,.agg (FC f (.slice a n c)),.tuple #[.agg (FC (ouF B.V v x f) (.slice a1 m1 c1)), .int .i64 (ouE B.V v x f)],_,_,_,_,_,_,_,_,_,_,_], []⟩ _
        refine wpAnyH_take (i := 8) (v := .tuple #[.agg (FC (ouF B.V v x f) (.slice a1 m1 c1)), .int .i64 (ouE B.V v x f)]) rfl (by kernel_rfl) (by kernel_rfl) (by kernel_rfl) (fun _ _ _ h => h) (Or.inl ⟨by rfl, ?_⟩) hHeld ?_
        · intro W hW; (try dsimp only at hW); go_simp
        change wpAnyH _ _ _ _ _ _ _ ⟨#[.pointer (some ⟨A.g, 0, none⟩),.int .i64 v,.int .i64 u,.agg (FC f (.slice a n c)),.func (.func 81) #[] #[.pointer (some ⟨kk, 0, none⟩), .pointer (some ⟨ks, 0, none⟩)],.pointer (some ⟨b, 0, none⟩),.pointer (some ⟨b + 1, 0, none⟩),_,.pointer (some ⟨b + 2, 0, none⟩),.pointer (some ⟨b + 3, 0, none⟩),.slice none 0 0,.pointer (some ⟨b + 4, 0, none⟩),.int .i64 x,_,_,.pointer (some ⟨A.g, 0, none⟩),.int .i64 v,.int .i64 u,.func (.func 107) #[] #[.pointer (some ⟨b + 5, 0, none⟩), .pointer (some ⟨b + 6, 0, none⟩), .pointer (some ⟨b + 7, 0, none⟩)],.int .i64 x,.func (.func 81) #[] #[.pointer (some ⟨kk, 0, none⟩), .pointer (some ⟨ks, 0, none⟩)],.int .i64 x,.bool true,.bool false,.tuple #[.agg (FC (ouF B.V v x f) (.slice a1 m1 c1)), .int .i64 (ouE B.V v x f)],.pointer (some ⟨A.g, 0, none⟩),.pointer (some ⟨A.g, 0, none⟩),.pointer (some ⟨A.g, 0, none⟩),.pointer (some ⟨A.h + 2, 0, none⟩),.int .i64 v,.int .i64 x,.agg (FC f (.slice a n c)),.tuple #[.agg (FC (ouF B.V v x f) (.slice a1 m1 c1)), .int .i64 (ouE B.V v x f)],_,_,_,_,_,_,_,_,_,_,_], []⟩ _
        refine wpAnyH_take (i := 9) (v := .agg (FC (ouF B.V v x f) (.slice a1 m1 c1))) rfl (by kernel_rfl) (by kernel_rfl) (by kernel_rfl) (fun _ _ _ h => h) (Or.inl ⟨by rfl, ?_⟩) hHeld ?_
        · intro W hW; (try dsimp only at hW); go_simp
        change wpAnyH _ _ _ _ _ _ _ ⟨#[.pointer (some ⟨A.g, 0, none⟩),.int .i64 v,.int .i64 u,.agg (FC f (.slice a n c)),.func (.func 81) #[] #[.pointer (some ⟨kk, 0, none⟩), .pointer (some ⟨ks, 0, none⟩)],.pointer (some ⟨b, 0, none⟩),.pointer (some ⟨b + 1, 0, none⟩),_,.pointer (some ⟨b + 2, 0, none⟩),.pointer (some ⟨b + 3, 0, none⟩),.slice none 0 0,.pointer (some ⟨b + 4, 0, none⟩),.int .i64 x,_,_,.pointer (some ⟨A.g, 0, none⟩),.int .i64 v,.int .i64 u,.func (.func 107) #[] #[.pointer (some ⟨b + 5, 0, none⟩), .pointer (some ⟨b + 6, 0, none⟩), .pointer (some ⟨b + 7, 0, none⟩)],.int .i64 x,.func (.func 81) #[] #[.pointer (some ⟨kk, 0, none⟩), .pointer (some ⟨ks, 0, none⟩)],.int .i64 x,.bool true,.bool false,.tuple #[.agg (FC (ouF B.V v x f) (.slice a1 m1 c1)), .int .i64 (ouE B.V v x f)],.pointer (some ⟨A.g, 0, none⟩),.pointer (some ⟨A.g, 0, none⟩),.pointer (some ⟨A.g, 0, none⟩),.pointer (some ⟨A.h + 2, 0, none⟩),.int .i64 v,.int .i64 x,.agg (FC f (.slice a n c)),.tuple #[.agg (FC (ouF B.V v x f) (.slice a1 m1 c1)), .int .i64 (ouE B.V v x f)],.agg (FC (ouF B.V v x f) (.slice a1 m1 c1)),_,_,_,_,_,_,_,_,_,_], []⟩ _
        refine wpAnyH_take (i := 10) (v := .int .i64 (ouE B.V v x f)) rfl (by kernel_rfl) (by kernel_rfl) (by kernel_rfl) (fun _ _ _ h => h) (Or.inl ⟨by rfl, ?_⟩) hHeld ?_
        · intro W hW; (try dsimp only at hW); go_simp
        change wpAnyH _ _ _ _ _ _ _ ⟨#[.pointer (some ⟨A.g, 0, none⟩),.int .i64 v,.int .i64 u,.agg (FC f (.slice a n c)),.func (.func 81) #[] #[.pointer (some ⟨kk, 0, none⟩), .pointer (some ⟨ks, 0, none⟩)],.pointer (some ⟨b, 0, none⟩),.pointer (some ⟨b + 1, 0, none⟩),_,.pointer (some ⟨b + 2, 0, none⟩),.pointer (some ⟨b + 3, 0, none⟩),.slice none 0 0,.pointer (some ⟨b + 4, 0, none⟩),.int .i64 x,_,_,.pointer (some ⟨A.g, 0, none⟩),.int .i64 v,.int .i64 u,.func (.func 107) #[] #[.pointer (some ⟨b + 5, 0, none⟩), .pointer (some ⟨b + 6, 0, none⟩), .pointer (some ⟨b + 7, 0, none⟩)],.int .i64 x,.func (.func 81) #[] #[.pointer (some ⟨kk, 0, none⟩), .pointer (some ⟨ks, 0, none⟩)],.int .i64 x,.bool true,.bool false,.tuple #[.agg (FC (ouF B.V v x f) (.slice a1 m1 c1)), .int .i64 (ouE B.V v x f)],.pointer (some ⟨A.g, 0, none⟩),.pointer (some ⟨A.g, 0, none⟩),.pointer (some ⟨A.g, 0, none⟩),.pointer (some ⟨A.h + 2, 0, none⟩),.int .i64 v,.int .i64 x,.agg (FC f (.slice a n c)),.tuple #[.agg (FC (ouF B.V v x f) (.slice a1 m1 c1)), .int .i64 (ouE B.V v x f)],.agg (FC (ouF B.V v x f) (.slice a1 m1 c1)),.int .i64 (ouE B.V v x f),_,_,_,_,_,_,_,_,_], []⟩ _
        refine wpAnyH_ready (rs := [11]) (by kernel_rfl) (by simp) ?_
        refine AllReadyH.cons rfl (fun K hK => ?_) AllReadyH.nil
        go_simp
        have bz := Box.new u1 (fcl zeroF (.slice none 0 0)) 38
        have HYK : Hid (∀ b o, a1 = some ⟨b, o, none⟩ → 0 < m1 → b ≠ u1.heap.size) := hide (fun b o e hp => by have := HY4.out.lt b o e hp; omega)
        have HK13 : Hid (wr.heap.size ≤ u1.heap.size) := hide BW.out.size
        replace BW := hide (belowOn BW.out (below_alloc u1 (.cells (FC zeroF (.slice none 0 0)) 38)))
        replace HY4 := hide (HY4.out.on (below_alloc u1 (.cells (FC zeroF (.slice none 0 0)) 38)))
        have bz' : Box (u1.alloc (.cells (FC zeroF (.slice none 0 0)) 38)) u1.heap.size (fcl zeroF (.slice none 0 0)) := bz
        replace bz := bz'
        clear bz'
        generalize (u1.alloc (.cells (FC zeroF (.slice none 0 0)) 38)) = u2 at *
        generalize u1.heap.size = k13 at *
        refine hK.out _ _ (SS.out _ BW.out).1 (fun hHeld => ?_)
        clear hK K
        change wpAnyH _ _ _ _ _ _ _ ⟨#[.pointer (some ⟨A.g, 0, none⟩),.int .i64 v,.int .i64 u,.agg (FC f (.slice a n c)),.func (.func 81) #[] #[.pointer (some ⟨kk, 0, none⟩), .pointer (some ⟨ks, 0, none⟩)],.pointer (some ⟨b, 0, none⟩),.pointer (some ⟨b + 1, 0, none⟩),_,.pointer (some ⟨b + 2, 0, none⟩),.pointer (some ⟨b + 3, 0, none⟩),.slice none 0 0,.pointer (some ⟨b + 4, 0, none⟩),.int .i64 x,.pointer (some ⟨k13, 0, none⟩),_,.pointer (some ⟨A.g, 0, none⟩),.int .i64 v,.int .i64 u,.func (.func 107) #[] #[.pointer (some ⟨b + 5, 0, none⟩), .pointer (some ⟨b + 6, 0, none⟩), .pointer (some ⟨b + 7, 0, none⟩)],.int .i64 x,.func (.func 81) #[] #[.pointer (some ⟨kk, 0, none⟩), .pointer (some ⟨ks, 0, none⟩)],.int .i64 x,.bool true,.bool false,.tuple #[.agg (FC (ouF B.V v x f) (.slice a1 m1 c1)), .int .i64 (ouE B.V v x f)],.pointer (some ⟨A.g, 0, none⟩),.pointer (some ⟨A.g, 0, none⟩),.pointer (some ⟨A.g, 0, none⟩),.pointer (some ⟨A.h + 2, 0, none⟩),.int .i64 v,.int .i64 x,.agg (FC f (.slice a n c)),.tuple #[.agg (FC (ouF B.V v x f) (.slice a1 m1 c1)), .int .i64 (ouE B.V v x f)],.agg (FC (ouF B.V v x f) (.slice a1 m1 c1)),.int .i64 (ouE B.V v x f),_,_,_,_,_,_,_,_,_], []⟩ _
        refine wpAnyH_ready (rs := [12]) (by kernel_rfl) (by simp) ?_
        refine AllReadyH.cons rfl (fun K hK => ?_) AllReadyH.nil
        rw [if_pos (by rfl)]
        refine wp_store_mid 38 (.tmp 13) (.tmp 33) rfl k13 0 (FC (ouF B.V v x f) (.slice a1 m1 c1)) rfl rfl bz.th Tryz.size38 (one_fcl _ _ rfl) ?_
        have G3 := setCells_grown k13 (fcl (ouF B.V v x f) (.slice a1 m1 c1)) 0 u2
        have bf := bz.self (cs' := fcl (ouF B.V v x f) (.slice a1 m1 c1)) rfl
        have BW3 := below_grown BW.out G3 HK13.out BW.out.size
        have Y3 := HY4.out.kept (k := k13) HYK.out G3
        have e4 : World.setCells u2 k13 0 (FC (ouF B.V v x f) (.slice a1 m1 c1)).toList = World.setCells u2 k13 0 (fcl (ouF B.V v x f) (.slice a1 m1 c1)) := rfl
        rw [e4]
        generalize World.setCells u2 k13 0 (fcl (ouF B.V v x f) (.slice a1 m1 c1)) = u9 at *
        refine hK.out _ _ (SS.out _ BW3).1 (fun hHeld => ?_)
        have BW9 := hide BW3
        have HY9 := hide Y3
        have HF9 := hide bf
        clear hK K G3 bf BW3 Y3 e4 bz HY4 HYK BW
        change wpAnyH _ _ _ _ _ _ _ ⟨#[.pointer (some ⟨A.g, 0, none⟩),.int .i64 v,.int .i64 u,.agg (FC f (.slice a n c)),.func (.func 81) #[] #[.pointer (some ⟨kk, 0, none⟩), .pointer (some ⟨ks, 0, none⟩)],.pointer (some ⟨b, 0, none⟩),.pointer (some ⟨b + 1, 0, none⟩),_,.pointer (some ⟨b + 2, 0, none⟩),.pointer (some ⟨b + 3, 0, none⟩),.slice none 0 0,.pointer (some ⟨b + 4, 0, none⟩),.int .i64 x,.pointer (some ⟨k13, 0, none⟩),_,.pointer (some ⟨A.g, 0, none⟩),.int .i64 v,.int .i64 u,.func (.func 107) #[] #[.pointer (some ⟨b + 5, 0, none⟩), .pointer (some ⟨b + 6, 0, none⟩), .pointer (some ⟨b + 7, 0, none⟩)],.int .i64 x,.func (.func 81) #[] #[.pointer (some ⟨kk, 0, none⟩), .pointer (some ⟨ks, 0, none⟩)],.int .i64 x,.bool true,.bool false,.tuple #[.agg (FC (ouF B.V v x f) (.slice a1 m1 c1)), .int .i64 (ouE B.V v x f)],.pointer (some ⟨A.g, 0, none⟩),.pointer (some ⟨A.g, 0, none⟩),.pointer (some ⟨A.g, 0, none⟩),.pointer (some ⟨A.h + 2, 0, none⟩),.int .i64 v,.int .i64 x,.agg (FC f (.slice a n c)),.tuple #[.agg (FC (ouF B.V v x f) (.slice a1 m1 c1)), .int .i64 (ouE B.V v x f)],.agg (FC (ouF B.V v x f) (.slice a1 m1 c1)),.int .i64 (ouE B.V v x f),_,_,_,_,_,_,_,_,_], []⟩ _
        refine wpAnyH_take (i := 13) (v := .int .i64 (ouE B.V v x f)) rfl (by kernel_rfl) (by kernel_rfl) (by kernel_rfl) (fun _ _ _ h => h) (Or.inl ⟨by rfl, ?_⟩) hHeld ?_
        · intro W hW; (try dsimp only at hW); go_simp
        change wpAnyH _ _ _ _ _ _ _ ⟨#[.pointer (some ⟨A.g, 0, none⟩),.int .i64 v,.int .i64 u,.agg (FC f (.slice a n c)),.func (.func 81) #[] #[.pointer (some ⟨kk, 0, none⟩), .pointer (some ⟨ks, 0, none⟩)],.pointer (some ⟨b, 0, none⟩),.pointer (some ⟨b + 1, 0, none⟩),_,.pointer (some ⟨b + 2, 0, none⟩),.pointer (some ⟨b + 3, 0, none⟩),.slice none 0 0,.pointer (some ⟨b + 4, 0, none⟩),.int .i64 x,.pointer (some ⟨k13, 0, none⟩),.int .i64 (ouE B.V v x f),.pointer (some ⟨A.g, 0, none⟩),.int .i64 v,.int .i64 u,.func (.func 107) #[] #[.pointer (some ⟨b + 5, 0, none⟩), .pointer (some ⟨b + 6, 0, none⟩), .pointer (some ⟨b + 7, 0, none⟩)],.int .i64 x,.func (.func 81) #[] #[.pointer (some ⟨kk, 0, none⟩), .pointer (some ⟨ks, 0, none⟩)],.int .i64 x,.bool true,.bool false,.tuple #[.agg (FC (ouF B.V v x f) (.slice a1 m1 c1)), .int .i64 (ouE B.V v x f)],.pointer (some ⟨A.g, 0, none⟩),.pointer (some ⟨A.g, 0, none⟩),.pointer (some ⟨A.g, 0, none⟩),.pointer (some ⟨A.h + 2, 0, none⟩),.int .i64 v,.int .i64 x,.agg (FC f (.slice a n c)),.tuple #[.agg (FC (ouF B.V v x f) (.slice a1 m1 c1)), .int .i64 (ouE B.V v x f)],.agg (FC (ouF B.V v x f) (.slice a1 m1 c1)),.int .i64 (ouE B.V v x f),_,_,_,_,_,_,_,_,_], []⟩ _
        refine wpAnyH_done (by kernel_rfl) ?_ _
        exact ⟨k13, a1, m1, c1, rfl, HF9.out, HY9.out, HA1.out, HK13.out, BW9.out⟩
      · skip
        go_simp
        have bz0 : Box (u0.alloc (.cells (FC zeroF (.slice none 0 0)) 38)) u0.heap.size (fcl zeroF (.slice none 0 0)) := Box.new u0 (fcl zeroF (.slice none 0 0)) 38
        have HK13 : Hid (wr.heap.size ≤ u0.heap.size) := hide BW.out.size
        have HKL : Hid (u0.heap.size < (u0.alloc (.cells (FC zeroF (.slice none 0 0)) 38)).heap.size) := hide (by simp)
        replace BW := hide (belowOn BW.out (below_alloc u0 (.cells (FC zeroF (.slice none 0 0)) 38)))
        generalize (u0.alloc (.cells (FC zeroF (.slice none 0 0)) 38)) = u1 at *
        generalize u0.heap.size = k13 at *
        refine hK.out _ _ (SS.out _ BW.out).1 (fun hHeld => ?_)
        clear hK K
        change wpAnyH _ _ _ _ _ _ _ ⟨#[.pointer (some ⟨A.g, 0, none⟩),.int .i64 v,.int .i64 u,.agg (FC f (.slice a n c)),.func (.func 81) #[] #[.pointer (some ⟨kk, 0, none⟩), .pointer (some ⟨ks, 0, none⟩)],.pointer (some ⟨b, 0, none⟩),.pointer (some ⟨b + 1, 0, none⟩),_,.pointer (some ⟨b + 2, 0, none⟩),.pointer (some ⟨b + 3, 0, none⟩),.slice none 0 0,.pointer (some ⟨b + 4, 0, none⟩),.int .i64 x,.pointer (some ⟨k13, 0, none⟩),_,.pointer (some ⟨A.g, 0, none⟩),.int .i64 v,.int .i64 u,.func (.func 107) #[] #[.pointer (some ⟨b + 5, 0, none⟩), .pointer (some ⟨b + 6, 0, none⟩), .pointer (some ⟨b + 7, 0, none⟩)],.int .i64 x,.func (.func 81) #[] #[.pointer (some ⟨kk, 0, none⟩), .pointer (some ⟨ks, 0, none⟩)],.int .i64 x,.bool true,.bool false,_,.pointer (some ⟨A.g, 0, none⟩),.pointer (some ⟨A.g, 0, none⟩),.pointer (some ⟨A.g, 0, none⟩),.pointer (some ⟨A.h + 2, 0, none⟩),.int .i64 v,.int .i64 x,.agg (FC f (.slice a n c)),_,_,_,_,_,_,_,_,_,_,_,_], []⟩ _
        refine wpAnyH_ready (rs := [7]) (by kernel_rfl) (by simp) ?_
        refine AllReadyH.cons rfl (fun K hK => ?_) AllReadyH.nil
        go_simp
        refine (outQ A.h B.V v x f a n c _ (SS.out _ BW.out).2.1.pv (SS.out _ BW.out).2.2).mono ?_
        rintro e u2 ⟨a1, m1, c1, rfl, Y1, ha1, b1⟩
        have HA1 : Hid (∀ b' o, a1 = some ⟨b', o, none⟩ → wr.heap.size ≤ b') := hide (fun b' o e => Nat.le_trans BW.out.size (ha1 b' o e))
        replace BW := hide (belowOn BW.out b1)
        have bz := bz0.on b1
        refine hK.out _ _ (SS.out _ BW.out).1 (fun hHeld => ?_)
        have HY4 := hide Y1
        have HYK : Hid (∀ b o, a1 = some ⟨b, o, none⟩ → 0 < m1 → b ≠ k13) := hide (fun b o e hp => by have := ha1 b o e; have := HKL.out; omega)
        clear hK K b1 Y1 bz0 ha1
        change wpAnyH _ _ _ _ _ _ _ ⟨#[.pointer (some ⟨A.g, 0, none⟩),.int .i64 v,.int .i64 u,.agg (FC f (.slice a n c)),.func (.func 81) #[] #[.pointer (some ⟨kk, 0, none⟩), .pointer (some ⟨ks, 0, none⟩)],.pointer (some ⟨b, 0, none⟩),.pointer (some ⟨b + 1, 0, none⟩),_,.pointer (some ⟨b + 2, 0, none⟩),.pointer (some ⟨b + 3, 0, none⟩),.slice none 0 0,.pointer (some ⟨b + 4, 0, none⟩),.int .i64 x,.pointer (some ⟨k13, 0, none⟩),_,.pointer (some ⟨A.g, 0, none⟩),.int .i64 v,.int .i64 u,.func (.func 107) #[] #[.pointer (some ⟨b + 5, 0, none⟩), .pointer (some ⟨b + 6, 0, none⟩), .pointer (some ⟨b + 7, 0, none⟩)],.int .i64 x,.func (.func 81) #[] #[.pointer (some ⟨kk, 0, none⟩), .pointer (some ⟨ks, 0, none⟩)],.int .i64 x,.bool true,.bool false,_,.pointer (some ⟨A.g, 0, none⟩),.pointer (some ⟨A.g, 0, none⟩),.pointer (some ⟨A.g, 0, none⟩),.pointer (some ⟨A.h + 2, 0, none⟩),.int .i64 v,.int .i64 x,.agg (FC f (.slice a n c)),.tuple #[.agg (FC (ouF B.V v x f) (.slice a1 m1 c1)), .int .i64 (ouE B.V v x f)],_,_,_,_,_,_,_,_,_,_,_], []⟩ _
        refine wpAnyH_take (i := 8) (v := .tuple #[.agg (FC (ouF B.V v x f) (.slice a1 m1 c1)), .int .i64 (ouE B.V v x f)]) rfl (by kernel_rfl) (by kernel_rfl) (by kernel_rfl) (fun _ _ _ h => h) (Or.inl ⟨by rfl, ?_⟩) hHeld ?_
        · intro W hW; (try dsimp only at hW); go_simp
        change wpAnyH _ _ _ _ _ _ _ ⟨#[.pointer (some ⟨A.g, 0, none⟩),.int .i64 v,.int .i64 u,.agg (FC f (.slice a n c)),.func (.func 81) #[] #[.pointer (some ⟨kk, 0, none⟩), .pointer (some ⟨ks, 0, none⟩)],.pointer (some ⟨b, 0, none⟩),.pointer (some ⟨b + 1, 0, none⟩),_,.pointer (some ⟨b + 2, 0, none⟩),.pointer (some ⟨b + 3, 0, none⟩),.slice none 0 0,.pointer (some ⟨b + 4, 0, none⟩),.int .i64 x,.pointer (some ⟨k13, 0, none⟩),_,.pointer (some ⟨A.g, 0, none⟩),.int .i64 v,.int .i64 u,.func (.func 107) #[] #[.pointer (some ⟨b + 5, 0, none⟩), .pointer (some ⟨b + 6, 0, none⟩), .pointer (some ⟨b + 7, 0, none⟩)],.int .i64 x,.func (.func 81) #[] #[.pointer (some ⟨kk, 0, none⟩), .pointer (some ⟨ks, 0, none⟩)],.int .i64 x,.bool true,.bool false,.tuple #[.agg (FC (ouF B.V v x f) (.slice a1 m1 c1)), .int .i64 (ouE B.V v x f)],.pointer (some ⟨A.g, 0, none⟩),.pointer (some ⟨A.g, 0, none⟩),.pointer (some ⟨A.g, 0, none⟩),.pointer (some ⟨A.h + 2, 0, none⟩),.int .i64 v,.int .i64 x,.agg (FC f (.slice a n c)),.tuple #[.agg (FC (ouF B.V v x f) (.slice a1 m1 c1)), .int .i64 (ouE B.V v x f)],_,_,_,_,_,_,_,_,_,_,_], []⟩ _
        refine wpAnyH_take (i := 9) (v := .agg (FC (ouF B.V v x f) (.slice a1 m1 c1))) rfl (by kernel_rfl) (by kernel_rfl) (by kernel_rfl) (fun _ _ _ h => h) (Or.inl ⟨by rfl, ?_⟩) hHeld ?_
        · intro W hW; (try dsimp only at hW); go_simp
        change wpAnyH _ _ _ _ _ _ _ ⟨#[.pointer (some ⟨A.g, 0, none⟩),.int .i64 v,.int .i64 u,.agg (FC f (.slice a n c)),.func (.func 81) #[] #[.pointer (some ⟨kk, 0, none⟩), .pointer (some ⟨ks, 0, none⟩)],.pointer (some ⟨b, 0, none⟩),.pointer (some ⟨b + 1, 0, none⟩),_,.pointer (some ⟨b + 2, 0, none⟩),.pointer (some ⟨b + 3, 0, none⟩),.slice none 0 0,.pointer (some ⟨b + 4, 0, none⟩),.int .i64 x,.pointer (some ⟨k13, 0, none⟩),_,.pointer (some ⟨A.g, 0, none⟩),.int .i64 v,.int .i64 u,.func (.func 107) #[] #[.pointer (some ⟨b + 5, 0, none⟩), .pointer (some ⟨b + 6, 0, none⟩), .pointer (some ⟨b + 7, 0, none⟩)],.int .i64 x,.func (.func 81) #[] #[.pointer (some ⟨kk, 0, none⟩), .pointer (some ⟨ks, 0, none⟩)],.int .i64 x,.bool true,.bool false,.tuple #[.agg (FC (ouF B.V v x f) (.slice a1 m1 c1)), .int .i64 (ouE B.V v x f)],.pointer (some ⟨A.g, 0, none⟩),.pointer (some ⟨A.g, 0, none⟩),.pointer (some ⟨A.g, 0, none⟩),.pointer (some ⟨A.h + 2, 0, none⟩),.int .i64 v,.int .i64 x,.agg (FC f (.slice a n c)),.tuple #[.agg (FC (ouF B.V v x f) (.slice a1 m1 c1)), .int .i64 (ouE B.V v x f)],.agg (FC (ouF B.V v x f) (.slice a1 m1 c1)),_,_,_,_,_,_,_,_,_,_], []⟩ _
        refine wpAnyH_take (i := 10) (v := .int .i64 (ouE B.V v x f)) rfl (by kernel_rfl) (by kernel_rfl) (by kernel_rfl) (fun _ _ _ h => h) (Or.inl ⟨by rfl, ?_⟩) hHeld ?_
        · intro W hW; (try dsimp only at hW); go_simp
        change wpAnyH _ _ _ _ _ _ _ ⟨#[.pointer (some ⟨A.g, 0, none⟩),.int .i64 v,.int .i64 u,.agg (FC f (.slice a n c)),.func (.func 81) #[] #[.pointer (some ⟨kk, 0, none⟩), .pointer (some ⟨ks, 0, none⟩)],.pointer (some ⟨b, 0, none⟩),.pointer (some ⟨b + 1, 0, none⟩),_,.pointer (some ⟨b + 2, 0, none⟩),.pointer (some ⟨b + 3, 0, none⟩),.slice none 0 0,.pointer (some ⟨b + 4, 0, none⟩),.int .i64 x,.pointer (some ⟨k13, 0, none⟩),_,.pointer (some ⟨A.g, 0, none⟩),.int .i64 v,.int .i64 u,.func (.func 107) #[] #[.pointer (some ⟨b + 5, 0, none⟩), .pointer (some ⟨b + 6, 0, none⟩), .pointer (some ⟨b + 7, 0, none⟩)],.int .i64 x,.func (.func 81) #[] #[.pointer (some ⟨kk, 0, none⟩), .pointer (some ⟨ks, 0, none⟩)],.int .i64 x,.bool true,.bool false,.tuple #[.agg (FC (ouF B.V v x f) (.slice a1 m1 c1)), .int .i64 (ouE B.V v x f)],.pointer (some ⟨A.g, 0, none⟩),.pointer (some ⟨A.g, 0, none⟩),.pointer (some ⟨A.g, 0, none⟩),.pointer (some ⟨A.h + 2, 0, none⟩),.int .i64 v,.int .i64 x,.agg (FC f (.slice a n c)),.tuple #[.agg (FC (ouF B.V v x f) (.slice a1 m1 c1)), .int .i64 (ouE B.V v x f)],.agg (FC (ouF B.V v x f) (.slice a1 m1 c1)),.int .i64 (ouE B.V v x f),_,_,_,_,_,_,_,_,_], []⟩ _
        refine wpAnyH_ready (rs := [12]) (by kernel_rfl) (by simp) ?_
        refine AllReadyH.cons rfl (fun K hK => ?_) AllReadyH.nil
        rw [if_pos (by rfl)]
        refine wp_store_mid 38 (.tmp 13) (.tmp 33) rfl k13 0 (FC (ouF B.V v x f) (.slice a1 m1 c1)) rfl rfl bz.th Tryz.size38 (one_fcl _ _ rfl) ?_
        have G3 := setCells_grown k13 (fcl (ouF B.V v x f) (.slice a1 m1 c1)) 0 u2
        have bf := bz.self (cs' := fcl (ouF B.V v x f) (.slice a1 m1 c1)) rfl
        have BW3 := below_grown BW.out G3 HK13.out BW.out.size
        have Y3 := HY4.out.kept (k := k13) HYK.out G3
        have e4 : World.setCells u2 k13 0 (FC (ouF B.V v x f) (.slice a1 m1 c1)).toList = World.setCells u2 k13 0 (fcl (ouF B.V v x f) (.slice a1 m1 c1)) := rfl
        rw [e4]
        generalize World.setCells u2 k13 0 (fcl (ouF B.V v x f) (.slice a1 m1 c1)) = u9 at *
        refine hK.out _ _ (SS.out _ BW3).1 (fun hHeld => ?_)
        have BW9 := hide BW3
        have HY9 := hide Y3
        have HF9 := hide bf
        clear hK K G3 bf BW3 Y3 e4 bz HY4 HYK BW
        change wpAnyH _ _ _ _ _ _ _ ⟨#[.pointer (some ⟨A.g, 0, none⟩),.int .i64 v,.int .i64 u,.agg (FC f (.slice a n c)),.func (.func 81) #[] #[.pointer (some ⟨kk, 0, none⟩), .pointer (some ⟨ks, 0, none⟩)],.pointer (some ⟨b, 0, none⟩),.pointer (some ⟨b + 1, 0, none⟩),_,.pointer (some ⟨b + 2, 0, none⟩),.pointer (some ⟨b + 3, 0, none⟩),.slice none 0 0,.pointer (some ⟨b + 4, 0, none⟩),.int .i64 x,.pointer (some ⟨k13, 0, none⟩),_,.pointer (some ⟨A.g, 0, none⟩),.int .i64 v,.int .i64 u,.func (.func 107) #[] #[.pointer (some ⟨b + 5, 0, none⟩), .pointer (some ⟨b + 6, 0, none⟩), .pointer (some ⟨b + 7, 0, none⟩)],.int .i64 x,.func (.func 81) #[] #[.pointer (some ⟨kk, 0, none⟩), .pointer (some ⟨ks, 0, none⟩)],.int .i64 x,.bool true,.bool false,.tuple #[.agg (FC (ouF B.V v x f) (.slice a1 m1 c1)), .int .i64 (ouE B.V v x f)],.pointer (some ⟨A.g, 0, none⟩),.pointer (some ⟨A.g, 0, none⟩),.pointer (some ⟨A.g, 0, none⟩),.pointer (some ⟨A.h + 2, 0, none⟩),.int .i64 v,.int .i64 x,.agg (FC f (.slice a n c)),.tuple #[.agg (FC (ouF B.V v x f) (.slice a1 m1 c1)), .int .i64 (ouE B.V v x f)],.agg (FC (ouF B.V v x f) (.slice a1 m1 c1)),.int .i64 (ouE B.V v x f),_,_,_,_,_,_,_,_,_], []⟩ _
        refine wpAnyH_take (i := 13) (v := .int .i64 (ouE B.V v x f)) rfl (by kernel_rfl) (by kernel_rfl) (by kernel_rfl) (fun _ _ _ h => h) (Or.inl ⟨by rfl, ?_⟩) hHeld ?_
        · intro W hW; (try dsimp only at hW); go_simp
        change wpAnyH _ _ _ _ _ _ _ ⟨#[.pointer (some ⟨A.g, 0, none⟩),.int .i64 v,.int .i64 u,.agg (FC f (.slice a n c)),.func (.func 81) #[] #[.pointer (some ⟨kk, 0, none⟩), .pointer (some ⟨ks, 0, none⟩)],.pointer (some ⟨b, 0, none⟩),.pointer (some ⟨b + 1, 0, none⟩),_,.pointer (some ⟨b + 2, 0, none⟩),.pointer (some ⟨b + 3, 0, none⟩),.slice none 0 0,.pointer (some ⟨b + 4, 0, none⟩),.int .i64 x,.pointer (some ⟨k13, 0, none⟩),.int .i64 (ouE B.V v x f),.pointer (some ⟨A.g, 0, none⟩),.int .i64 v,.int .i64 u,.func (.func 107) #[] #[.pointer (some ⟨b + 5, 0, none⟩), .pointer (some ⟨b + 6, 0, none⟩), .pointer (some ⟨b + 7, 0, none⟩)],.int .i64 x,.func (.func 81) #[] #[.pointer (some ⟨kk, 0, none⟩), .pointer (some ⟨ks, 0, none⟩)],.int .i64 x,.bool true,.bool false,.tuple #[.agg (FC (ouF B.V v x f) (.slice a1 m1 c1)), .int .i64 (ouE B.V v x f)],.pointer (some ⟨A.g, 0, none⟩),.pointer (some ⟨A.g, 0, none⟩),.pointer (some ⟨A.g, 0, none⟩),.pointer (some ⟨A.h + 2, 0, none⟩),.int .i64 v,.int .i64 x,.agg (FC f (.slice a n c)),.tuple #[.agg (FC (ouF B.V v x f) (.slice a1 m1 c1)), .int .i64 (ouE B.V v x f)],.agg (FC (ouF B.V v x f) (.slice a1 m1 c1)),.int .i64 (ouE B.V v x f),_,_,_,_,_,_,_,_,_], []⟩ _
        refine wpAnyH_done (by kernel_rfl) ?_ _
        exact ⟨k13, a1, m1, c1, rfl, HF9.out, HY9.out, HA1.out, HK13.out, BW9.out⟩
    rintro a2 w9 ⟨k13, a1, m1, c1, rfl, hf9, hy9, ha1, hk13, bw9⟩
    clear SS BW W0 W1 W2 W3 WP WY WX HMQ
    have HF9 := hide hf9
    have HY9 := hide hy9
    have HA1 := hide ha1
    have BW9 := hide bw9
    have HIO9 := hide (io_on HII.out bw9)
    have HNX : Hid (ols B v f (fun p : Int => (!kn || p == y.p)) (pre ++ [x]) = ols B v f (fun p : Int => (!kn || p == y.p)) pre ++ (if (ouE B.V v x f == 0) then [⟨x, ouF B.V v x f⟩] else [])) := hide (by rw [ols_append, ols_one, HMX.out, Bool.true_and])
    clear hf9 hy9 ha1 hk13 bw9
    generalize ouF B.V v x f = F at *
    generalize ouE B.V v x f = E at *
    have L1 := hide I2.out.lt
    rcases Bool.eq_false_or_eq_true (E == 0) with h7 | h7
    rotate_left
    · rw [h7, if_neg (by simp), List.append_nil] at HNX
      gi_wp2
      refine ⟨keepsFrom_of BW9.out, KpO.below BW9.out (by have := I7.out; omega), ?_⟩
      obtain ⟨lv', xs', j1, j2, j3, j4⟩ := HIO9.out
      exact ⟨lv', xs', j1, j2, by rw [j3]; exact HNX.out.symm, j4⟩
    rw [h7, if_pos rfl] at HNX
    have J1 : Hid (Boxed w9 (b + 4) 48 lv) := hide ((BW9.out.block _ I1.out.lt).trans I1.out)
    have J2 := hide (row_keep I2.out (fun r hr => BW9.out.block r (I2.out.lt r hr).2))
    have J4 : Hid (∀ yy ∈ xs, Byt w9 yy.a yy.n yy.c yy.o.f.bs) := hide (fun yy hy => (I4.out yy hy).on BW9.out)
    obtain ⟨ao0, cc0, hlv⟩ := own_form J2.out
    have hc := J1.out.cell
    have HS9 : Hid (b + 8 ≤ w9.heap.size) := hide (Nat.le_trans I7.out BW9.out.size)
    have hnew : ∀ (j : Nat) (u : Value), (ocl ⟨⟨x, F⟩, a1, m1, c1⟩)[j]? = some u → (w9.alloc (.cells (OC ⟨⟨x, F⟩, a1, m1, c1⟩) 57)).cell? ((⟨w9.heap.size, 0, none⟩ : Addr).add j) = some u := fun j u hj => by
      rw [Addr.add_lit, Nat.zero_add, World.cell?_alloc_at _ _ _ _ rfl]
      show (ocl ⟨⟨x, F⟩, a1, m1, c1⟩).toArray[j]? = some u
      rw [List.getElem?_toArray]; exact hj
    have HN := hide hnew
    clear hnew HIO9
    subst hlv
    have tk1 : True := trivial
    have tk2 : True := trivial
    have tk3 : True := trivial
    have tk4 : True := trivial
    gi_wp2_with (first | (have _t := tk1; refine wplin_frame rfl (.tmp 13) rfl HF9.out rfl ?_; clear tk1) | (have _t := tk2; refine wplin_bO rfl (.tmp 38) (.tmp 39) x F a1 m1 c1 rfl rfl rfl ?_; clear tk2) | (have _t := tk3; refine wplin_bsO rfl (.tmp 40) ⟨⟨x, F⟩, a1, m1, c1⟩ rfl rfl ?_; clear tk3) | (have _t := tk4; gi_at_builtin; refine wplin_oapp rfl rfl (.tmp 37) (.tmp 41) rfl (b + 8) _ _ _ rfl (J2.out.alloc _) ⟨w9.heap.size, 0, none⟩ ⟨⟨x, F⟩, a1, m1, c1⟩ rfl HN.out (by have := HXS.out; omega) (by have := HS9.out; simp; omega) ?_; clear tk4; intro v' w1 hown' hgrow hat; obtain ⟨g', cap', rfl⟩ := ownsRow_succ hown'; have hap := J1.out.appended (n₀ := b + 4) (by decide) (row_lower J2.out (by omega)) (by have := HS9.out; omega) (Nat.le_refl _) (row_lower hown' (by omega)) hgrow; have HAP := hide hap; have HOW := hide hown'; have HGR := hide hgrow; have HAT := hide hat; have hc1 := hap.1.cell; have hf1 := hap.1.frozen; clear hap hown' hgrow hat hc))
    obtain ⟨hv1, hv2, -, hk2, hb2⟩ := HAP.out
    have s9 := HS9.out
    have sw := BW9.out.size
    have kk : ∀ k, k < w9.heap.size → k ≠ b + 4 → Value.ownBlock (.slice ao0 xs.length cc0) ≠ some k → (w1.setCell ⟨b + 4, 0, none⟩ (.slice (some ⟨g', 0, none⟩) (xs.length + 1) cap')).heap[k]? = w9.heap[k]? := fun k h1 h2 h3 =>
      (Below.heap_setCell w1 ⟨b + 4, 0, none⟩ (.slice (some ⟨g', 0, none⟩) (xs.length + 1) cap') k (fun e => h2 e)).trans ((HGR.out.block k (by simp; omega) (fun e => h3 e.symm)).trans ((below_alloc w9 _).block k h1))
    have g1 : some g' = Value.ownBlock (.slice ao0 xs.length cc0) ∨ some g' = some (w9.heap.size + 1) := by
      rcases HAT.out with h | h
      · exact Or.inl h
      · exact Or.inr (by simpa [Value.ownBlock] using h)
    refine ⟨⟨Nat.le_trans sw hk2.size, fun k o _ hk ho => hk2.same k o (by rw [BW9.out.block k (Array.getElem?_eq_some_iff.1 hk).1]; exact hk) ho⟩, (KpO.below BW9.out (by have := I7.out; omega)).trans ⟨hk2.size, fun k h1 h2 h3 _ => kk k h1 h2 (fun e => h3 (by unfold rowOf; rw [J1.out.cell]; exact e)), fun k hk => ?_⟩, ?_⟩
    · unfold rowOf at hk ⊢
      rw [hv2.cell] at hk
      rw [J1.out.cell]
      have hk' : g' = k := by simpa [Value.ownBlock] using hk
      rcases g1 with h | h
      · left
        rw [← hk']
        exact h.symm
      · right
        have := Option.some.inj h
        omega
    · refine ⟨.slice (some ⟨g', 0, none⟩) (xs.length + 1) cap', xs ++ [⟨⟨x, F⟩, a1, m1, c1⟩], hv2, ?_, ?_, fun yy hy => ?_, fun yy hy k o he hp => ?_, ?_, Nat.le_trans s9 hk2.size, fun k h1 h2 => ?_⟩
      · have h9 := HOW.out.kept (grownBy_setCell' w1 (b + 4) (.slice (some ⟨g', 0, none⟩) (xs.length + 1) cap')) (.inr (hv1.not_row (by decide) HOW.out).symm)
        rw [List.length_append]
        exact h9
      · rw [List.map_append, I3.out]
        exact HNX.out.symm
      · have hown : ∀ k o, yy.a = some ⟨k, o, none⟩ → 0 < yy.n → b + 8 ≤ k ∧ Value.ownBlock (.slice ao0 xs.length cc0) ≠ some k := fun k o he hp => by
          rcases List.mem_append.1 hy with hy | hy
          · exact I5.out yy hy k o he hp
          · obtain rfl := List.mem_singleton.1 hy
            have h1 := HA1.out k o he
            have h2 := I7.out
            exact ⟨by omega, fun e => by have := (L1.out k e).2; omega⟩
        have hby : Byt w9 yy.a yy.n yy.c yy.o.f.bs := by
          rcases List.mem_append.1 hy with hy | hy
          · exact J4.out yy hy
          · obtain rfl := List.mem_singleton.1 hy
            exact HY9.out
        exact byt_keep hby (fun k o v he hp hc => kk k (World.block_lt_of_cell? _ _ hc) (by have := (hown k o he hp).1; omega) (hown k o he hp).2)
      · have hown : b + 8 ≤ k ∧ Value.ownBlock (.slice ao0 xs.length cc0) ≠ some k ∧ k < w9.heap.size := by
          rcases List.mem_append.1 hy with hy | hy
          · have h1 := I5.out yy hy k o he hp
            exact ⟨h1.1, h1.2, (J4.out yy hy).lt k o he hp⟩
          · obtain rfl := List.mem_singleton.1 hy
            have h1 := HA1.out k o he
            have h2 := I7.out
            exact ⟨by omega, fun e => by have := (L1.out k e).2; omega, HY9.out.lt k o he hp⟩
        refine ⟨hown.1, fun e => ?_⟩
        have hk' : g' = k := by simpa [Value.ownBlock] using e
        rcases g1 with h | h
        · exact hown.2.1 (by rw [← hk']; exact h.symm)
        · have := Option.some.inj h
          omega
      · exact (I6.out.trans (BW9.out.mono (by have := I7.out; omega))).trans (hb2.mono (by omega))
      · refine (kk k (by omega) h2 (fun e => ?_)).trans ((BW9.out.block k (by have := I7.out; omega)).trans (I8.out k h1 h2))
        have := (L1.out k e).1
        omega
  case cD =>
    rintro D xs0 W hD rfl ⟨lv, xs, i1, i2, i3, i4, i5, i6, i7, i8⟩ hK
    have hc := i1.cell
    obtain ⟨ao0, cc0, hlv⟩ := own_form i2
    subst hlv
    have I2 := hide i2
    have I3 := hide i3
    have I4 := hide i4
    have I5 := hide i5
    have I6 := hide i6
    have HK := hide hK
    clear hK i1 i2 i3 i4 i5 i6 i8
    gi_wp2
    refine ⟨by simp, .inl ⟨_, _, rfl, run_takeDeferred HK.out, ?_⟩⟩
    have hr3 := ownsRow_putObj I2.out (.deferred none) HK.out rfl
    have hy3 : ∀ yy ∈ xs, Byt (W.putObj D (.deferred none)) yy.a yy.n yy.c yy.o.f.bs := fun yy hy => byt_keep (I4.out yy hy) (fun k o v he hp hc => World.putObj_heap_other (fun e => by
      have h1 := cells_of_cell hc _ (by rw [e]; exact HK.out)
      cases h1))
    obtain ⟨ao, c9, e9, hE⟩ := row_ots hr3 hy3
    injection e9 with e1 e2 e3
    subst e1 e3
    refine ⟨_, results_tmp rfl _ _ _, ao0, xs, cc0, by simp, hE, I3.out, ?_, ?_, fun yy hy b' o he hp => ?_⟩
    · rw [← HB.out]
      exact I6.out.trans ⟨rfl, rfl, rfl, by simp, fun k hk => World.putObj_heap_other (by omega)⟩
    · intro b' o he
      subst he
      have := (I2.out.lt b' (by rfl)).1
      rw [← HB.out]
      omega
    · have := (I5.out yy hy b' o he hp).1
      rw [← HB.out]
      omega
  case cS =>
    rintro D c pre W _ _ h _
    exact h.elim
end Go.Proofs.YtgpdjfaklcmoiaaGreat
