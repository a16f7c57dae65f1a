/- The program's queue in memory: what each operation makes of it. -/
import Derived.Test.YtmdbclhdbglppaaPa
import Derived.Test.YtmdbclhdbglppaaRc
namespace Go.Proofs.Ytmdbclhdbglppaa
open Go.RowKit Go.PlainAid

theorem Box.setAt {w : World} {k i : Nat} {cs : List Value} {v : Value} (h : Box w k cs) (hi : i < cs.length) : Box (w.setCell ⟨k, i, none⟩ v) k (cs.set i v) := by
  have e : cs = cs.take i ++ (cs[i] :: cs.drop (i + 1)) := by rw [List.getElem_cons_drop, List.take_append_drop]
  rw [e] at h
  rw [List.set_eq_take_append_cons_drop, if_pos hi]
  exact Box.set h (by simp; omega)
/-- The cells of the queue's own block: the room, eight slices, eight numbers. -/
def pcl (n : Nat) (SV : List Sv) (ls : List Nat) : List Value := .int .i64 n :: (SV.map sv ++ ls.map (fun x : Nat => Value.int .i64 x))
theorem pcl_length {n : Nat} {SV : List Sv} {ls : List Nat} (h1 : SV.length = 8) (h2 : ls.length = 8) : (pcl n SV ls).length = 17 := by simp [pcl, h1, h2]
theorem pcl_sv {n : Nat} {SV : List Sv} {ls : List Nat} {k : Nat} {x : Sv} (h : SV[k]? = some x) : (pcl n SV ls)[1 + k]? = some (sv x) := by
  have hl := (List.getElem?_eq_some_iff.1 h).1
  unfold pcl
  rw [Nat.add_comm, List.getElem?_cons_succ, List.getElem?_append_left (by simpa using hl), List.getElem?_map, h]; rfl
theorem pcl_ls {n : Nat} {SV : List Sv} {ls : List Nat} {k : Nat} (h1 : SV.length = 8) (h : k < ls.length) : (pcl n SV ls)[9 + k]? = some (.int .i64 (ls[k]?.getD 0 : Nat)) := by
  unfold pcl
  rw [show 9 + k = (8 + k) + 1 by omega, List.getElem?_cons_succ, List.getElem?_append_right (by simp [h1]), List.length_map, h1, Nat.add_sub_cancel_left, List.getElem?_map, List.getElem?_eq_getElem h]; rfl
theorem pcl_set_sv {n : Nat} {SV : List Sv} {ls : List Nat} {k : Nat} {x : Sv} (h : k < SV.length) : (pcl n SV ls).set (1 + k) (sv x) = pcl n (SV.set k x) ls := by
  unfold pcl
  rw [Nat.add_comm, List.set_cons_succ, List.set_append_left _ _ (by simpa using h), List.map_set]
theorem pcl_set_ls {n : Nat} {SV : List Sv} {ls : List Nat} {k x : Nat} (h1 : SV.length = 8) : (pcl n SV ls).set (9 + k) (.int .i64 x) = pcl n SV (ls.set k x) := by
  unfold pcl
  rw [show 9 + k = (8 + k) + 1 by omega, List.set_cons_succ, List.set_append_right _ _ (by simp [h1]), List.length_map, h1, Nat.add_sub_cancel_left, List.map_set]
/-- The program's queue: itself in block h, the bytes in blocks T, all in blocks S. -/
structure PX (w : World) (h : Nat) (T S : Nat → Prop) (n : Nat) (SV : List Sv) (L : List Wt) (ls : List Nat) : Prop where
  bx : Box w h (pcl n SV ls)
  l1 : SV.length = 8
  l2 : ls.length = 8
  ck : ∀ (k : Nat) x, SV[k]? = some x → Ck w T x (cl L k)
  sep : ∀ (k k' : Nat) x x' i, k ≠ k' → SV[k]? = some x → SV[k']? = some x' → bk x i → bk x' i → False
  own : ∀ (k : Nat) x i, SV[k]? = some x → bk x i → S i ∧ i ≠ h ∧ ¬ T i
  sh : S h
  st : ∀ i, T i → S i ∧ i ≠ h
  sz : ∀ i, S i → i < w.heap.size
  cls : ∀ x ∈ L, isC x.c = true
  room : ∀ k, cnt L k ≤ n
  n1 : 1 ≤ n
  n2 : n ≤ 1000
section
variable {w w1 : World} {h : Nat} {T S : Nat → Prop} {n : Nat} {SV : List Sv} {L : List Wt} {ls : List Nat}
theorem PX.keep (H : PX w h T S n SV L ls) (e : Kp S w w1) : PX w1 h T S n SV L ls :=
  ⟨H.bx.block (e.block h H.sh H.bx.lt), H.l1, H.l2, fun k x hx => (H.ck k x hx).keep (e.mono (fun i hi => by
    rcases hi with hi | hi
    · exact (H.st i hi).1
    · exact (H.own k x i hx hi).1)), H.sep, H.own, H.sh, H.st, fun i hi => Nat.lt_of_lt_of_le (H.sz i hi) e.size, H.cls, H.room, H.n1, H.n2⟩
theorem PX.drewN (H : PX w h T S n SV L ls) (q : Nat) : PX (w.drewN q) h T S n SV L ls := H.keep ⟨Nat.le_refl _, fun _ _ _ => rfl⟩
theorem PX.drew (H : PX w h T S n SV L ls) : PX w.drew h T S n SV L ls := H.keep ⟨Nat.le_refl _, fun _ _ _ => rfl⟩
theorem PX.on (H : PX w h T S n SV L ls) (e : Below w.heap.size w w1) : PX w1 h T S n SV L ls := H.keep (kp_below e)
theorem PX.at_ (H : PX w h T S n SV L ls) {k : Nat} (hk : k < 8) : ∃ x, SV[k]? = some x ∧ w.cell? ⟨h, 1 + k, none⟩ = some (sv x) ∧ w.frozen? ⟨h, 1 + k, none⟩ = false ∧ x.n = cnt L k := by
  have e := List.getElem?_eq_getElem (show k < SV.length by rw [H.l1]; exact hk)
  refine ⟨_, e, H.bx.cell (1 + k) _ (pcl_sv e), H.bx.free (1 + k) (by rw [pcl_length H.l1 H.l2]; omega), (H.ck k _ e).len.symm⟩
theorem PX.lost_at (H : PX w h T S n SV L ls) {k : Nat} (hk : k < 8) : w.cell? ⟨h, 9 + k, none⟩ = some (.int .i64 (ls[k]?.getD 0 : Nat)) ∧ w.frozen? ⟨h, 9 + k, none⟩ = false :=
  ⟨H.bx.cell (9 + k) _ (pcl_ls H.l1 (by rw [H.l2]; exact hk)), H.bx.free (9 + k) (by rw [pcl_length H.l1 H.l2]; omega)⟩
theorem PX.room_at (H : PX w h T S n SV L ls) : w.cell? ⟨h, 0, none⟩ = some (.int .i64 n) := H.bx.cell 0 _ rfl
/-- One more of a class is lost. -/
theorem PX.lost1 (H : PX w h T S n SV L ls) {k : Nat} (hk : k < 8) : PX (w.setCell ⟨h, 9 + k, none⟩ (.int .i64 (((ls[k]?.getD 0 : Nat) : Int) + 1))) h T S n SV L (up1 ls k) := by
  have b := Box.setAt (v := .int .i64 ((ls[k]?.getD 0 + 1 : Nat) : Int)) H.bx (i := 9 + k) (by rw [pcl_length H.l1 H.l2]; omega)
  rw [pcl_set_ls H.l1] at b
  have e : Kp (fun i => i ≠ h) w (w.setCell ⟨h, 9 + k, none⟩ (.int .i64 (((ls[k]?.getD 0 : Nat) : Int) + 1))) := kp_chg (S := fun i => i = h) (chg_set w h _ _ rfl) (fun i hi => hi)
  exact ⟨b, H.l1, by rw [up1_length]; exact H.l2, fun k x hx => (H.ck k x hx).keep (e.mono (fun i hi => by
    rcases hi with hi | hi
    · exact (H.st i hi).2
    · exact (H.own k x i hx hi).2.1)), H.sep, H.own, H.sh, H.st, fun i hi => Nat.lt_of_lt_of_le (H.sz i hi) e.size, H.cls, H.room, H.n1, H.n2⟩
/-- A class's slice is another one. -/
theorem PX.turn (H : PX w h T S n SV L ls) {k : Nat} {x : Sv} (hk : SV[k]? = some x) {x' : Sv} {T' : Nat → Prop} {L' : List Wt} (C : Chg (bk x) w w1) (hT1 : ∀ i, T i → T' i) (hT2 : ∀ i, T' i → T i ∨ (w.heap.size ≤ i ∧ i < w1.heap.size)) (hC : Ck w1 T' x' (cl L' k))
    (hb : ∀ i, bk x' i → bk x i ∨ (w.heap.size ≤ i ∧ ¬ T' i)) (hL : ∀ k' : Nat, k' ≠ k → cl L' k' = cl L k') (hc : ∀ y ∈ L', isC y.c = true) (hr : ∀ k, cnt L' k ≤ n) :
    PX (w1.setCell ⟨h, 1 + k, none⟩ (sv x')) h T' (fun i => S i ∨ (w.heap.size ≤ i ∧ i < w1.heap.size)) n (SV.set k x') L' ls ∧ Chg S w (w1.setCell ⟨h, 1 + k, none⟩ (sv x')) := by
  have hkl := (List.getElem?_eq_some_iff.1 hk).1
  have hlt := H.bx.lt
  have hw := C.size
  have hsz : (w1.setCell ⟨h, 1 + k, none⟩ (sv x')).heap.size = w1.heap.size := World.size_setCell _ _ _
  have C2 : Chg (fun i => i = h) w1 (w1.setCell ⟨h, 1 + k, none⟩ (sv x')) := chg_set w1 h _ _ rfl
  have hbs : ∀ i, bk x' i → i < w1.heap.size := hC.lt
  have hold : ∀ (k' : Nat) y, SV[k']? = some y → ∀ i, bk y i → i < w.heap.size := fun k' y hy i hi => H.sz i (H.own k' y i hy hi).1
  have b := Box.setAt (v := sv x') (H.bx.block (C.block h hlt (fun e => (H.own k x h hk e).2.1 rfl))) (i := 1 + k) (by rw [pcl_length H.l1 H.l2]; have := H.l1; omega)
  rw [pcl_set_sv hkl] at b
  have hget : ∀ (k' : Nat) y, (SV.set k x')[k']? = some y → (k' = k ∧ y = x') ∨ (k' ≠ k ∧ SV[k']? = some y) := fun k' y hy => by
    by_cases e : k' = k
    · subst e
      rw [List.getElem?_set_self hkl] at hy
      exact Or.inl ⟨rfl, (Option.some.inj hy).symm⟩
    · rw [List.getElem?_set_ne (fun q => e q.symm)] at hy
      exact Or.inr ⟨e, hy⟩
  have hT' : ∀ i, T' i → (S i ∨ (w.heap.size ≤ i ∧ i < w1.heap.size)) ∧ i ≠ h := fun i hi => by
    rcases hT2 i hi with q | q
    · exact ⟨Or.inl (H.st i q).1, (H.st i q).2⟩
    · exact ⟨Or.inr q, by omega⟩
  have hown : ∀ i, bk x' i → (S i ∨ (w.heap.size ≤ i ∧ i < w1.heap.size)) ∧ i ≠ h ∧ ¬ T' i := fun i hi => by
    rcases hb i hi with q | q
    · have o := H.own k x i hk q
      refine ⟨Or.inl o.1, o.2.1, fun e => ?_⟩
      rcases hT2 i e with r | r
      · exact o.2.2 r
      · have := H.sz i o.1; omega
    · exact ⟨Or.inr ⟨q.1, hbs i hi⟩, by omega, q.2⟩
  have hapart : ∀ (k' : Nat) y i, k' ≠ k → SV[k']? = some y → bk y i → ¬ bk x' i := fun k' y i hne hy hi e => by
    rcases hb i e with q | q
    · exact H.sep k' k y x i hne hy hk hi q
    · have := hold k' y hy i hi; omega
  refine ⟨⟨b, by rw [List.length_set]; exact H.l1, H.l2, fun k' y hy => ?_, fun k1 k2 x1 x2 i hne h1 h2 e1 e2 => ?_, fun k' y i hy hi => ?_, Or.inl H.sh, hT', fun i hi => ?_, hc, hr, H.n1, H.n2⟩, ?_⟩
  · rcases hget k' y hy with ⟨rfl, rfl⟩ | ⟨hne, hy'⟩
    · exact hC.keep (kp_chg C2 (fun i hi => by
        rcases hi with hi | hi
        · exact (hT' i hi).2
        · exact (hown i hi).2.1))
    · rw [hL k' hne]
      have K1 : Kp (fun i => T i ∨ bk y i) w w1 := kp_chg C (fun i hi e => by
        rcases hi with hi | hi
        · exact (H.own k x i hk e).2.2 hi
        · exact H.sep k' k y x i hne hy' hk hi e)
      exact (((H.ck k' y hy').keep K1).keep (kp_chg C2 (fun i hi => by
        rcases hi with hi | hi
        · exact (H.st i hi).2
        · exact (H.own k' y i hy' hi).2.1))).mono hT1
  · rcases hget k1 x1 h1 with ⟨rfl, rfl⟩ | ⟨n1, h1'⟩ <;> rcases hget k2 x2 h2 with ⟨rfl, rfl⟩ | ⟨n2, h2'⟩
    · exact hne rfl
    · exact hapart k2 x2 i n2 h2' e2 e1
    · exact hapart k1 x1 i n1 h1' e1 e2
    · exact H.sep k1 k2 x1 x2 i hne h1' h2' e1 e2
  · rcases hget k' y hy with ⟨rfl, rfl⟩ | ⟨hne, hy'⟩
    · exact hown i hi
    · have o := H.own k' y i hy' hi
      refine ⟨Or.inl o.1, o.2.1, fun e => ?_⟩
      rcases hT2 i e with r | r
      · exact o.2.2 r
      · have := H.sz i o.1; omega
  · show i < (w1.setCell ⟨h, 1 + k, none⟩ (sv x')).heap.size
    rw [hsz]
    rcases hi with hi | hi
    · have := H.sz i hi; omega
    · exact hi.2
  · exact (C.mono_lt (fun i _ hi => (H.own k x i hk hi).1)).trans (C2.mono (fun i hi => by rw [hi]; exact H.sh))
end
/-- The program's queue, as the laws see it. -/
def PQ (w : World) (p : Addr) (S : Nat → Prop) (n : Nat) (L : List Wt) (ls : List Nat) : Prop := ∃ h T SV, p = ⟨h, 0, none⟩ ∧ PX w h T S n SV L ls
theorem PQ.keep {w w1 : World} {p : Addr} {S : Nat → Prop} {n : Nat} {L : List Wt} {ls : List Nat} (h : PQ w p S n L ls) (e : Kp S w w1) : PQ w1 p S n L ls := by
  obtain ⟨a, T, SV, rfl, H⟩ := h
  exact ⟨a, T, SV, rfl, H.keep e⟩
theorem PQ.sz {w : World} {p : Addr} {S : Nat → Prop} {n : Nat} {L : List Wt} {ls : List Nat} (h : PQ w p S n L ls) : ∀ i, S i → i < w.heap.size := by
  obtain ⟨a, T, SV, rfl, H⟩ := h
  exact H.sz
theorem PQ.cls {w : World} {p : Addr} {S : Nat → Prop} {n : Nat} {L : List Wt} {ls : List Nat} (h : PQ w p S n L ls) : ∀ x ∈ L, isC x.c = true := by
  obtain ⟨a, T, SV, rfl, H⟩ := h
  exact H.cls
theorem PQ.room {w : World} {p : Addr} {S : Nat → Prop} {n : Nat} {L : List Wt} {ls : List Nat} (h : PQ w p S n L ls) : ∀ k, cnt L k ≤ n := by
  obtain ⟨a, T, SV, rfl, H⟩ := h
  exact H.room
end Go.Proofs.Ytmdbclhdbglppaa
