/- What a round of TopSync keeps: the table, the journal, the entries that were told when one began, and where they lie. A step, stored as a whole. -/
import Derived.Test.YtjlmheecefobaaaTs
import Derived.Test.YtjlmheecefobaaaF5
namespace Go.Proofs.Ytjlmheecefobaaa
open Go.RowKit Go.PlainAid

/-- What was told when one began, and the changes since, make what the table has now. -/
structure Told (B : List En) (q : Nat) (cs : List Ch) (T : Tb) : Prop where
  n8 : T.n = 8
  ok : Ok B
  bl : B.length ≤ 8
  co : ∀ c ∈ cs, Eok c.x
  ql : q ≤ cs.length
  rp : rep B (cs.drop q) = T.l
theorem gd_eok {x : En} (h : Gd x) : Eok x := ⟨h.ok, by have := rgt_v h.r; unfold I64; omega⟩
theorem told_nil : Told [] 0 [] (tNew 8) := ⟨rfl, fun x h => by simp at h, by simp, fun c h => by simp at h, Nat.le_refl _, rfl⟩
theorem told_begin {B : List En} {q : Nat} {cs : List Ch} {T : Tb} (U : Told B q cs T) (W : Wf T) : Told T.l cs.length cs T :=
  ⟨U.n8, fun x hx => gd_eok (W.gd x hx), by have := W.le; rw [U.n8] at this; exact this, U.co, Nat.le_refl _, by rw [List.drop_length, rep_nil, srt_id W.srt]⟩
theorem told_add {B : List En} {q : Nat} {cs : List Ch} {T : Tb} (U : Told B q cs T) {ds : List Ch} {T' : Tb} (hn : T'.n = 8) (hd : ∀ c ∈ ds, Eok c.x) (e : ds.foldl dn T.l = T'.l) : Told B q (cs ++ ds) T' := by
  refine ⟨hn, U.ok, U.bl, fun c hc => ?_, by have := U.ql; simp; omega, ?_⟩
  · rcases List.mem_append.1 hc with h | h
    · exact U.co c h
    · exact hd c h
  · rw [List.drop_append_of_le_length U.ql, rep_parts, rep_of_srt (rep_srt _ _), U.rp, e]
/-- What is to be told as gone: behind it the table is T'. -/
def Gone (T T' : Tb) (gl : List En) : Prop := T'.n = 8 ∧ gl.length ≤ 8 ∧ Ok gl ∧ ∀ ds : List Ch, ds.map (·.x) = gl → (∀ c ∈ ds, c.g = true) → ds.foldl dn T.l = T'.l
theorem told_gone {B : List En} {q : Nat} {cs : List Ch} {T T' : Tb} {gl : List En} (U : Told B q cs T) (N : Gone T T' gl) {ds : List Ch} (hd : ds.map (·.x) = gl) (hg : ∀ c ∈ ds, c.g = true) : Told B q (cs ++ ds) T' :=
  told_add U N.1 (fun c hc => N.2.2.1 c.x (by rw [← hd]; exact List.mem_map_of_mem hc)) (N.2.2.2 ds hd hg)
theorem gone_nil {T : Tb} (h : T.n = 8) : Gone T T [] := ⟨h, by simp, fun x hx => by simp at hx, fun ds hd _ => by
  cases ds with
  | nil => rfl
  | cons c r => simp at hd⟩
theorem gone_filter {T : Tb} (W : Wf T) (h : T.n = 8) (f : En → Bool) : Gone T (gT T f) (gG T f) := by
  refine ⟨h, ?_, fun x hx => gd_eok (W.gd x (List.mem_filter.1 hx).1), fun ds hd hg => gone_dn W (gof f) hd hg⟩
  have h1 : (gG T f).length ≤ T.l.length := List.length_filter_le _ _
  have := W.le
  omega
theorem gone_age {T : Tb} (W : Wf T) (h : T.n = 8) (a b : Int) : Gone T (aT T a b) (aG T a b) := by
  unfold aT aG
  cases aOk a b
  · exact gone_nil h
  · exact gone_filter W h _
theorem gone_one {T : Tb} (W : Wf T) (h : T.n = 8) {v : Int} {m : Mc} (hh : hs T.l v m = true) : Gone T ⟨T.n, rm T.l v m⟩ [lk T.l v m] := by
  refine ⟨h, by simp, fun x hx => ?_, fun ds hd hg => ?_⟩
  · rw [List.mem_singleton.1 hx]
    exact gd_eok (W.gd _ (lk_mem hh))
  · obtain ⟨c, rfl⟩ : ∃ c, ds = [c] := List.length_eq_one_iff.1 (by have := congrArg List.length hd; simpa using this)
    have e : c.x = lk T.l v m := by simpa using hd
    show dn T.l c = rm T.l v m
    unfold dn
    rw [if_pos (hg c (by simp)), e]
    obtain ⟨k1, k2⟩ := (ky_iff _ _ _).1 (lk_ky T.l v m hh)
    rw [k1, k2]
theorem rm_none {T : Tb} {v : Int} {m : Mc} (hh : hs T.l v m = false) : (⟨T.n, rm T.l v m⟩ : Tb) = T := by
  have : rm T.l v m = T.l := by
    unfold rm
    rw [List.filter_eq_self]
    intro x hx
    have := hs_no hh x hx
    simp [this]
  rw [this]
theorem lT_n (T : Tb) (v : Int) (m : Mc) (p t : Int) : (lT T v m p t).n = T.n := by
  unfold lT sT
  split <;> (try split) <;> (try split) <;> rfl
/-- Learn's own change. -/
theorem told_learn {B : List En} {q : Nat} {cs : List Ch} {T : Tb} {v : Int} {m : Mc} {p t : Int} (U : Told B q cs T) (W : Wf T) (W' : Wf (lT T v m p t)) {s : Int} (hm : Mok m) (e : lE T v m p t = 0) :
    Told B q (cs ++ [⟨s, lk (lT T v m p t).l v m, false⟩]) (lT T v m p t) := by
  refine told_add U (by rw [lT_n]; exact U.n8) (fun c hc => ?_) ?_
  · rw [List.mem_singleton.1 hc]
    exact gd_eok (W'.gd _ (lk_mem (lrn_ok W hm e).2.1))
  · exact learn_dn W hm e s
def zSt : St := ⟨0, 0, zM, 0, 0, 0⟩
theorem ZSt : (#[.int .i64 0, .int .i64 0, .int .u8 0, .int .u8 0, .int .u8 0, .int .u8 0, .int .u8 0, .int .u8 0, .int .i64 0, .int .i64 0, .int .i64 0] : Array Value) = SC zSt := rfl
theorem one_scl (x : St) : ∀ v ∈ scl x, v.oneCell' = true := by
  intro v hv
  simp only [scl, mcl, List.mem_cons, List.mem_append, List.not_mem_nil, or_false] at hv
  rcases hv with rfl | rfl | (rfl | rfl | rfl | rfl | rfl | rfl) | rfl | rfl | rfl <;> rfl
theorem one_SC (x : St) : (SC x).all (·.oneCell') = true := all_oneCell_toArray (one_scl x)
theorem stp_mac66 {w : World} {k o : Nat} {s : St} (h : w.rangeAt k o (scl s)) : w.rangeAt k (o + 2) (mcl s.m) :=
  rangeAt_left (rangeAt_right (A := [.int .i64 s.d, .int .i64 s.v]) h rfl)
theorem wpl_putS {ops : Array Oper} {rest : List Oper} {op : Oper} {a : Act} {w : World} {Q : Exit → Act → World → Prop} {k : Nat} (p m : St) (x y : Operand) (ho : op.op = .store 66 x y) (ht : Box w k (scl m)) (hw : Region.wanted op (yielded ops a.tmps) = true) (hx : a.eval x = .pointer (some ⟨k, 0, none⟩)) (hy : a.eval y = .agg (SC p))
    (h : ∀ w', Box w' k (scl p) → w.grownBy w' (some k) → wpList Try.prog ops Q rest (a.put op.dst undef) w') : wpList Try.prog ops Q (op :: rest) a w :=
  wpList_step fun K hK => by
    rw [if_pos hw]
    exact wp_store_mid 66 x y ho k 0 (SC p) hx hy ht.th Try.size66 (one_SC p) (hK _ _ (h _ (ht.self rfl) (setCells_grown k _ 0 w)))
/-- What lies in memory as a round runs. -/
structure Rst (w0 w : World) (G h g : Nat) (ao : Option Addr) (n c : Nat) (ss : List St) (ps : List En) (T : Tb) (pl cs : List Ch) (B : List En) (aoB : Option Addr) (cB : Nat) : Prop where
  P : PT w h ps T
  J : PJ w g 200 pl cs
  E : Ets w (g + 2) aoB B.length cB B
  BB : Below G w0 w
  S : Sl scl 11 w G ao n c ss
  z1 : G ≤ h
  z2 : h + 2 ≤ g
section
variable {w0 w w1 : World} {G h g : Nat} {ao : Option Addr} {n c : Nat} {ss : List St} {ps : List En} {T : Tb} {pl cs : List Ch} {B : List En} {aoB : Option Addr} {cB : Nat}
theorem Rst.sz (R : Rst w0 w G h g ao n c ss ps T pl cs B aoB cB) : G ≤ w.heap.size ∧ h + 2 ≤ w.heap.size ∧ g + 2 ≤ w.heap.size := by
  have := R.P.lt; have := R.J.lt; have := R.z1; omega
theorem Rst.on (R : Rst w0 w G h g ao n c ss ps T pl cs B aoB cB) (C : Below w.heap.size w w1) : Rst w0 w1 G h g ao n c ss ps T pl cs B aoB cB :=
  ⟨R.P.on C, R.J.on C, R.E.on C, R.BB.trans (C.mono R.sz.1), R.S.below (C.mono R.sz.1), R.z1, R.z2⟩
theorem Rst.tab (R : Rst w0 w G h g ao n c ss ps T pl cs B aoB cB) {ps' : List En} {T' : Tb} (M : Mid h (h + 2) w w1) (P : PT w1 h ps' T') : Rst w0 w1 G h g ao n c ss ps' T' pl cs B aoB cB :=
  have D := M.under R.z1 R.sz.1
  ⟨P, R.J.mid M (Or.inr R.z2), R.E.mid M (by have := R.z2; omega), R.BB.trans D, R.S.below D, R.z1, R.z2⟩
theorem Rst.jou (R : Rst w0 w G h g ao n c ss ps T pl cs B aoB cB) {pl' cs' : List Ch} (M : Mid g (g + 2) w w1) (J : PJ w1 g 200 pl' cs') : Rst w0 w1 G h g ao n c ss ps T pl' cs' B aoB cB :=
  have D := M.under (G := G) (by have := R.z1; have := R.z2; omega) R.sz.1
  ⟨R.P.below (M.under R.z2 R.sz.2.1) (Nat.le_refl _), J, R.E.mid M (Nat.le_refl _), R.BB.trans D, R.S.below D, R.z1, R.z2⟩
theorem Rst.upon (R : Rst w0 w G h g ao n c ss ps T pl cs B aoB cB) {B' : List En} {ao' : Option Addr} {c' : Nat} (E : Ets w (g + 2) ao' B'.length c' B') : Rst w0 w G h g ao n c ss ps T pl cs B' ao' c' :=
  ⟨R.P, R.J, E, R.BB, R.S, R.z1, R.z2⟩
theorem Rst.drewN (R : Rst w0 w G h g ao n c ss ps T pl cs B aoB cB) (q : Nat) : Rst w0 (w.drewN q) G h g ao n c ss ps T pl cs B aoB cB := R.on (belowN (Below.refl _ _) q)
end
theorem ets_nil (w : World) (B : Nat) : Ets w B none 0 0 [] := ⟨rfl, fun _ => rfl, fun a e => (by cases e), Nat.le_refl _, Nat.zero_le _⟩
theorem ets_one (w : World) (B : Nat) (x : En) (hB : B ≤ w.heap.size) : Ets (w.alloc (.cells (EC x) 36)) B (some ⟨w.heap.size, 0, none⟩) 1 1 [x] := ⟨rfl, fun e => (by cases e), fun a e => by
  obtain rfl := Option.some.inj e
  refine ⟨_, rfl, hB, ?_⟩
  have := box_e w x
  rwa [show ecl x = es [x] from by simp [es]] at this, Nat.le_refl _, by unfold maxLen; omega⟩
end Go.Proofs.Ytjlmheecefobaaa
