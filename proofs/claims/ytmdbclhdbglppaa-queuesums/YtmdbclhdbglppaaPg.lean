/- Contract of the program's Put: where there is room. -/
import Derived.Test.YtmdbclhdbglppaaPf
namespace Go.Proofs.Ytmdbclhdbglppaa
open Go.RowKit Go.PlainAid

theorem step_run {ops : Array Oper} {o : Oper} {a : Act} {w : World} {C : Act → World → Prop} {Q : Exit → Act → World → Prop} {E : Prop} (hgd : o.guard = none) (hty : o.type = 47) (s x : Operand)
    (ho : o.op = .call { callee := .builtin .append, args := #[s, x], argTypes := #[47, 47] })
    (X Y v' : Value) (w' : World) (hs : a.eval s = X) (hx : a.eval x = Y) (hr : (Builtin.append_ #[47, 47] 47 #[X, Y]).run Try.prog w = .ok v' w')
    (h : C (a.put o.dst v') w') : if Region.wanted o (yielded ops a.tmps) = true then Oper.wp Try.prog o a w C Q else E := by
  have hw : Region.wanted o (yielded ops a.tmps) = true := by simp [Region.wanted, hgd]
  rw [if_pos hw]
  unfold Oper.wp execOp
  simp only [ho, hty, resolve, invoke, builtin, Sem.run_bind, Sem.run_pure, Result.andThen_ok, List.map_toArray, List.map_cons, List.map_nil, hs, hx, hr]
  exact h
section
variable (g : Nat) (T S : Nat → Prop) (n : Nat) (SV : List Sv) (L : List Wt) (ls : List Nat) (k : Nat) (ab : Option Addr) (nb cb : Nat) (b : List Int) (w : World)
theorem PX.put {g : Nat} {T S : Nat → Prop} {n : Nat} {SV : List Sv} {L : List Wt} {ls : List Nat} {k : Nat} {b : List Int} {u w1 : World} {x : Sv} (H : PX u g T S n SV L ls) (hk : k < 8) (hx : SV[k]? = some x) (hr : cnt L k < n) (B : Below u.heap.size u w1) {y : Sv}
    (hy : By w1 (fun i => u.heap.size ≤ i ∧ i < w1.heap.size) y.a y.n y.p b) {r : Nat} (hc : w1.cell? ⟨r, 0, none⟩ = some (sv y)) :
    ∃ (x' : Sv) (w2 : World), (Builtin.append_ #[47, 47] 47 #[sv x, .slice (some ⟨r, 0, none⟩) 1 1]).run Try.prog w1 = .ok (sv x') w2 ∧ w2.cell? ⟨g, 1 + k, none⟩ = some (sv x) ∧ w2.frozen? ⟨g, 1 + k, none⟩ = false ∧
      (∃ T' S' SV', PX (w2.setCell ⟨g, 1 + k, none⟩ (sv x')) g T' S' n SV' (L ++ [⟨k, b⟩]) ls ∧ ∀ i, S' i → S i ∨ u.heap.size ≤ i) ∧ Chg S u (w2.setCell ⟨g, 1 + k, none⟩ (sv x')) := by
  have ck := H.ck k x hx
  have hlen := ck.len
  have hln : x.n ≤ n := by have := H.room k; unfold cnt at this; omega
  have h1000 := H.n2
  have kB := kp_below (K := fun i => T i ∨ bk x i) B
  have ck1 : Ck w1 (fun i => T i ∨ (u.heap.size ≤ i ∧ i < w1.heap.size)) x (cl L k) := (ck.keep kB).mono (fun i hi => Or.inl hi)
  have hbx : ∀ i, bk x i → i < u.heap.size := ck.lt
  obtain ⟨x', w2, h1, h2, h3, h4⟩ := sapp_run ck1 (by omega) hc (hy.mono (fun i hi => Or.inr hi)) (fun i hi e => by
    rcases e with e | e
    · exact (H.own k x i hx hi).2.2 e
    · have := hbx i hi; omega)
  have hBs := B.size
  have C : Chg (bk x) u w2 := (chg_below B).trans h3
  have hcl : cl (L ++ [⟨k, b⟩]) k = cl L k ++ [b] := by rw [cl_add, if_pos rfl]
  have hh : g < u.heap.size := H.bx.lt
  have hgb : ¬ bk x g := fun e => (H.own k x g hx e).2.1 rfl
  have eg : w2.heap[g]? = u.heap[g]? := C.block g hh hgb
  refine ⟨x', w2, h1, ?_, ?_, ?_⟩
  · rw [World.cell?_of_block (a := ⟨g, 1 + k, none⟩) eg]; exact H.bx.cell (1 + k) _ (pcl_sv hx)
  · rw [World.frozen?_of_block (a := ⟨g, 1 + k, none⟩) eg]; exact H.bx.free (1 + k) (by rw [pcl_length H.l1 H.l2]; omega)
  · have hcls : ∀ y ∈ L ++ [(⟨k, b⟩ : Wt)], isC y.c = true := fun y hy => by
      rcases List.mem_append.1 hy with e | e
      · exact H.cls y e
      · rw [List.mem_singleton.1 e]; exact isC_iff.2 ⟨by show (0 : Int) ≤ k; omega, by show (k : Int) < 8; omega⟩
    obtain ⟨t1, t2⟩ := H.turn hx C (T' := fun i => T i ∨ (u.heap.size ≤ i ∧ i < w1.heap.size)) (fun i hi => Or.inl hi) (fun i hi => hi.imp id (fun e => ⟨e.1, by have := h3.size; omega⟩)) (L' := L ++ [⟨k, b⟩]) (x' := x') (by rw [hcl]; exact h2) (fun i hi => by
      rcases h4 i hi with e | e
      · exact Or.inl e
      · refine Or.inr ⟨by omega, fun q => ?_⟩
        rcases q with q | q
        · have := H.sz i (H.st i q).1; omega
        · omega) (fun k' hne => by rw [cl_add, if_neg (by show ¬ (k : Int) = k'; omega)]) hcls (fun q => by
      have := H.room q
      unfold cnt at *
      rw [cl_add]
      split
      · next e =>
        have e' : (k : Int) = q := e
        rw [← e', List.length_append]
        simp; omega
      · exact this)
    exact ⟨⟨_, _, _, t1, fun i hi => hi.imp id (fun e => e.1)⟩, t2⟩
set_option maxRecDepth 100000 in
set_option maxHeartbeats 8000000 in
theorem putQ_ok (K : Nat → Prop) (H : PX w g T S n SV L ls) (hk : k < 8) (hf : ¬ n ≤ cnt L k) (hb : By w K ab nb cb b) (hnb : nb ≤ 140737488355328) :
    Calls Try.prog 16 #[.pointer (some ⟨g, 0, none⟩), .int .i64 k, .slice ab nb cb] w fun e w' => e = .returned (.int .i64 0) ∧ (∃ T' S' SV', PX w' g T' S' n SV' (L ++ [⟨k, b⟩]) ls ∧ ∀ i, S' i → S i ∨ w.heap.size ≤ i) ∧ Chg S w w' := by
  have q1 := hide (isClassQ k w)
  rw [isC_iff.2 ⟨by omega, by omega⟩] at q1
  have h3 : (k : Int) < 8 := by omega
  obtain ⟨⟨xa, xn, xp⟩, hx, c1, -, hn⟩ := H.at_ hk
  have c0 := H.room_at
  have hxn : xn = cnt L k := hn
  have hxr := H.room k
  have d1 : (xn == n) = false := by simp; omega
  have d2 : ((xn : Int) == (n : Int)) = false := by simp; omega
  unfold sv at c1
  have HR := hide H
  have HK := hide hk
  have HX := hide hx
  have HF : Hid (cnt L k < n) := hide (by omega)
  have HBY := hide hb
  have HNB := hide hnb
  clear H hn hf hk hx hxn hxr hb hnb
  go_enter Try.func16, Try.ntmps16
  go_wp2_with (go_at_call 22; refine q1.out.mono ?_; rintro e w' ⟨rfl, rfl⟩)
  go_quiet (fail)
  have HR1 := hide (HR.out.drewN nq)
  have M1 : Hid (Chg S w' (w'.drewN nq)) := hide (chg_drewN _ _)
  have HBY1 : Hid (By (w'.drewN nq) K ab nb cb b) := hide (HBY.out.keep ⟨Nat.le_refl _, fun _ _ _ => rfl⟩)
  have HSZ : Hid ((w'.drewN nq).heap.size = w'.heap.size) := hide rfl
  clear c0 c1 HR q1 d1 d2 HBY
  generalize w'.drewN nq = u at *
  have HR2 := hide HR1.out.drew
  have HBY2 : Hid (By u.drew K ab nb cb b) := hide (HBY1.out.keep ⟨Nat.le_refl _, fun _ _ _ => rfl⟩)
  have c1 : u.cell? ⟨g, 1 + k, none⟩ = some (.slice xa xn xp) := HR1.out.bx.cell (1 + k) _ (pcl_sv HX.out)
  have tkA : True := trivial
  have tkB : True := trivial
  go_wp2_with fail
  go_region_law (first | (have _t := tkA; go_simp; go_at_call 23; refine (cloneQ K ab nb cb b _ HBY2.out HNB.out).mono ?_; rintro e w3 ⟨⟨a2, c2, rfl, Y3⟩, B3⟩; have PP := (HR2.out.put HK.out HX.out HF.out (w1 := w3.alloc (.cells #[.slice a2 nb c2] 32)) (y := ⟨a2, nb, c2⟩) (B3.trans ((below_alloc w3 _).mono B3.size)) ((Y3.keep (kp_below (below_alloc w3 _))).mono (fun i hi => ⟨hi.1, by simp; omega⟩)) (r := w3.heap.size) (World.cell?_alloc_at _ _ _ _ rfl)); obtain ⟨⟨xa', xn', xp'⟩, w5, hrun, c5, f5, P5⟩ := PP; have c3 : w3.cell? ⟨g, 1 + k, none⟩ = some (.slice xa xn xp) := (HR2.out.on B3).bx.cell (1 + k) _ (pcl_sv HX.out); have c4 : (w3.alloc (.cells #[.slice a2 nb c2] 32)).cell? ⟨g, 1 + k, none⟩ = some (.slice xa xn xp) := (HR2.out.on (B3.trans ((below_alloc w3 _).mono B3.size))).bx.cell (1 + k) _ (pcl_sv HX.out); have P6 := hide P5; unfold sv at hrun c5 P6; clear tkA P5 Y3 B3) | (have _t := tkB; refine step_run rfl rfl (.tmp 39) (.tmp 42) rfl _ _ _ _ rfl rfl hrun ?_; clear tkB))
  all_goals
    clear c1 c3 c4 c5 f5 hrun HBY1 HBY2 HR2
    go_wp2
    go_ret
    obtain ⟨⟨T', S', SV', r1, r2⟩, r3⟩ := P6.out
    exact ⟨rfl, ⟨T', S', ⟨SV', r1⟩, fun i hi => (r2 i hi).imp id (fun e => by have h9 : u.heap.size ≤ i := e; rw [HSZ.out] at h9; exact h9)⟩, (M1.out.trans (chg_drew u)).trans r3⟩
end
end Go.Proofs.Ytmdbclhdbglppaa
