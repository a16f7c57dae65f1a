/- Contract of list: steps as changes. -/
import Derived.Test.YtjlmheecefobaaaJ1
namespace Go.Proofs.Ytjlmheecefobaaa
open Go.RowKit Go.PlainAid

def lst : List Sp → Int → List Ch
  | [], _ => []
  | p :: r, f => ⟨f + 1, p.x, p.g⟩ :: lst r (f + 1)
theorem lst_length : ∀ (ss : List Sp) (f : Int), (lst ss f).length = ss.length
  | [], _ => rfl
  | p :: r, f => by rw [lst, List.length_cons, lst_length r, List.length_cons]
theorem lst_snoc : ∀ (ss : List Sp) (f : Int) (p : Sp), lst (ss ++ [p]) f = lst ss f ++ [⟨f + ss.length + 1, p.x, p.g⟩]
  | [], f, p => by simp [lst]
  | q :: r, f, p => by
    rw [List.cons_append, lst, lst, lst_snoc r (f + 1) p, List.cons_append]
    simp only [List.length_cons]
    rw [show f + 1 + (r.length : Int) + 1 = f + ((r.length + 1 : Nat) : Int) + 1 by omega]
theorem lst_take {ss : List Sp} {k : Nat} {p : Sp} (f : Int) (h : ss[k]? = some p) : lst (ss.take (k + 1)) f = lst (ss.take k) f ++ [⟨f + k + 1, p.x, p.g⟩] := by
  have hl := (List.getElem?_eq_some_iff.1 h).1
  rw [List.take_add_one, h]
  show lst (ss.take k ++ [p]) f = _
  rw [lst_snoc, List.length_take, show min k ss.length = k by omega]
theorem lst_mem : ∀ {ss : List Sp} {f : Int} {c : Ch}, c ∈ lst ss f → ∃ p ∈ ss, c.x = p.x
  | [], _, _, h => by simp [lst] at h
  | p :: r, f, c, h => by
    rcases List.mem_cons.1 h with rfl | h
    · exact ⟨p, by simp, rfl⟩
    · obtain ⟨q, h1, h2⟩ := lst_mem h
      exact ⟨q, by simp [h1], h2⟩
theorem lst_get : ∀ {ss : List Sp} {f : Int} {k : Nat} {p : Sp}, ss[k]? = some p → (lst ss f)[k]? = some ⟨f + k + 1, p.x, p.g⟩
  | [], _, _, _, h => by simp at h
  | q :: r, f, 0, p, h => by
    simp at h
    subst h
    simp [lst]
  | q :: r, f, k + 1, p, h => by
    have := lst_get (f := f + 1) (k := k) (p := p) (by simpa using h)
    rw [lst, List.getElem?_cons_succ, this]
    rw [show f + 1 + (k : Int) + 1 = f + ((k + 1 : Nat) : Int) + 1 by omega]
set_option maxRecDepth 100000 in
theorem run_b54 (q : Int) (x : En) (g : Bool) (w : World) : (Instr.build 54 #[(0, .int .i64 q), (1, .agg (EC x)), (2, .bool g)]).run Try.prog w = .ok (.agg (CC ⟨q, x, g⟩)) w := by kernel_rfl
theorem wp_capp {o : Oper} {a : Act} {w : World} {C : Act → World → Prop} {Q : Exit → Act → World → Prop} (hty : o.type = 40) (s x : Operand)
    (ho : o.op = .call { callee := .builtin .append, args := #[s, x], argTypes := #[40, 40] })
    (base : Nat) (v : Value) (n : Nat) (xs : List Ch) (hs : a.eval s = v) (hown : w.ownsRow base 54 12 v n (chs xs)) (ao : Option Addr) (m c : Nat) (ns : List Ch) (hx : a.eval x = .slice ao m c) (hB : Crs w ao m c ns)
    (h1 : n + m ≤ 100000) (hbase : base ≤ w.heap.size)
    (h : ∀ v' w', w'.ownsRow base 54 12 v' (n + m) (chs (xs ++ ns)) → w.grownBy w' v.ownBlock → C (a.put o.dst v') w') : Oper.wp Try.prog o a w C Q := by
  obtain ⟨v', w', hr, h2, h3⟩ := capp_run hown hB h1 hbase
  have hk := h v' w' h2 h3
  unfold Oper.wp execOp
  simp only [ho, hty, resolve, invoke, builtin, Sem.run_bind, Sem.run_pure, Result.andThen_ok, List.map_toArray, List.map_cons, List.map_nil, hs, hx, hr]
  exact hk
theorem wp_bsC {o : Oper} {a : Act} {w : World} {C : Act → World → Prop} {Q : Exit → Act → World → Prop} (x : Operand) (e : Ch) (ho : o.op = .buildSlice 40 1 #[(0, x)]) (hx : a.eval x = .agg (CC e))
    (h : C (a.put o.dst (.slice (some ⟨w.heap.size, 0, none⟩) 1 1)) (w.alloc (.cells (CC e) 54))) : Oper.wp Try.prog o a w C Q := by
  unfold Oper.wp execOp
  simp only [ho, List.map_toArray, List.map_cons, List.map_nil, hx, run_bs54, Sem.run_bind, Sem.run_pure, Result.andThen_ok]
  exact h
theorem exec_b54 {op : Oper} {ev : Operand → Value} (q : Int) (x : En) (g : Bool) (tx ty tz : Operand) (ho : op.op = .build 54 #[(0, tx), (1, ty), (2, tz)]) (hx : ev tx = .int .i64 q) (hy : ev ty = .agg (EC x)) (hz : ev tz = .bool g) (W : World) :
    (execOp ev op).run Try.prog W = .ok (.value (.agg (CC ⟨q, x, g⟩))) W := by
  unfold execOp
  simp only [ho, List.map_toArray, List.map_cons, List.map_nil, hx, hy, hz, run_b54, Sem.run_bind, Sem.run_pure, Result.andThen_ok]
set_option maxRecDepth 100000 in
set_option maxHeartbeats 4000000 in
theorem list19 (ao : Option Addr) (n c : Nat) (ss : List Sp) (f : Int) (w : World) (hs : Sl pcl 11 w w.heap.size ao n c ss) (hn : n ≤ 1000) (f0 : 0 ≤ f) (f1 : f ≤ 1000) :
    Calls Try.prog 19 #[.slice ao n c, .int .i64 f] w fun e w' => ∃ ao' c', e = .returned (.slice ao' n c') ∧ Cts w' w.heap.size ao' n c' (lst ss f) ∧ Below w.heap.size w w' ∧ (ao' = none → c' = 0) := by
  have HS := hide hs
  have HN : Hid (ss.length = n) := hide hs.len
  have hnc := hs.le
  have hmx := hs.mx
  unfold maxLen at hmx
  clear hs
  go_enter Try.func19, Try.ntmps19
  go_wp2
  go_loopw [5, 6] (fun s i wr => ∃ k : Nat, k ≤ n ∧ i = .int .i64 k ∧ wr.ownsRow w.heap.size 54 12 s k (chs (lst (ss.take k) f)) ∧ Below w.heap.size w wr) (fun _ i _ => n - (intOf i).toNat)
  case atStart => exact ⟨0, Nat.zero_le _, rfl, World.ownsRow_nil _ _ _ _, Below.refl _ _⟩
  case round =>
    obtain ⟨k, hk, rfl, O1, B1⟩ := hrel
    obtain ⟨ao0, cc0, hlv⟩ := own_form O1
    have HO := hide O1
    have HB := hide B1
    clear O1 B1
    subst hlv
    by_cases hkn : k < n
    · obtain ⟨p, hp⟩ : ∃ p, ss[k]? = some p := ⟨_, List.getElem?_eq_getElem (by rw [HN.out]; exact hkn)⟩
      obtain ⟨b0, o0, rfl, hG, hA⟩ := (HS.out.below HB.out).cell k p hp
      have HT := hide (lst_take f hp)
      have hk2 : (k : Int) < (n : Int) := by omega
      have e1 : IntKind.i64.wrap ((k : Int) + 1) = (k : Int) + 1 := IntWalk.i64_in _ (by omega)
      have e2 : IntKind.i64.wrap (f + (k : Int)) = f + (k : Int) := IntWalk.i64_in _ (by omega)
      have e3 : IntKind.i64.wrap (f + (k : Int) + 1) = f + (k : Int) + 1 := IntWalk.i64_in _ (by omega)
      have HG0 := hide hG
      clear hp hG
      go_wp2_with fail
      refine wp_region_held_drew (S := fun w' => w'.rangeAt b0 (o0 + k * 11) (pcl p)) (by kernel_rfl) hA (fun hHeld => ?_)
      clear hA
      replace HO : Hid (wr.drew.ownsRow w.heap.size 54 12 (.slice ao0 k cc0) k (chs (lst (ss.take k) f))) := hide HO.out
      replace HB := hide (belowOn' HB.out)
      generalize wr.drew = u0 at *
      refine wpAnyH_take (i := 0) (v := .slice ao0 k cc0) rfl (by kernel_rfl) (by kernel_rfl) (by kernel_rfl) (fun _ _ _ h => h) (Or.inl ⟨by rfl, ?_⟩) hHeld ?_
      · intro W hW; (try dsimp only at hW); go_simp
      change wpAnyH _ _ _ _ _ _ _ ⟨#[.slice (some ⟨b0, o0, none⟩) n c,.int .i64 f,_,_,_,.slice ao0 k cc0,.int .i64 (k : Int),_,_,_,_,_,_,.slice ao0 k cc0,_,_,_,_,_,_,_,_,_,_,_,_,_,_,_,_,_,_], []⟩ _
      refine wpAnyH_take (i := 1) (v := .int .i64 f) rfl (by kernel_rfl) (by kernel_rfl) (by kernel_rfl) (fun _ _ _ h => h) (Or.inl ⟨by rfl, ?_⟩) hHeld ?_
      · intro W hW; (try dsimp only at hW); go_simp
      change wpAnyH _ _ _ _ _ _ _ ⟨#[.slice (some ⟨b0, o0, none⟩) n c,.int .i64 f,_,_,_,.slice ao0 k cc0,.int .i64 (k : Int),_,_,_,_,_,_,.slice ao0 k cc0,.int .i64 f,_,_,_,_,_,_,_,_,_,_,_,_,_,_,_,_,_], []⟩ _
      refine wpAnyH_take (i := 2) (v := .int .i64 (k : Int)) rfl (by kernel_rfl) (by kernel_rfl) (by kernel_rfl) (fun _ _ _ h => h) (Or.inl ⟨by rfl, ?_⟩) hHeld ?_
      · intro W hW; (try dsimp only at hW); go_simp
      change wpAnyH _ _ _ _ _ _ _ ⟨#[.slice (some ⟨b0, o0, none⟩) n c,.int .i64 f,_,_,_,.slice ao0 k cc0,.int .i64 (k : Int),_,_,_,_,_,_,.slice ao0 k cc0,.int .i64 f,.int .i64 (k : Int),_,_,_,_,_,_,_,_,_,_,_,_,_,_,_,_], []⟩ _
      refine wpAnyH_take (i := 3) (v := .int .i64 (f + (k : Int))) rfl (by kernel_rfl) (by kernel_rfl) (by kernel_rfl) (fun _ _ _ h => h) (Or.inl ⟨by rfl, ?_⟩) hHeld ?_
      · intro W hW; (try dsimp only at hW); go_simp
      change wpAnyH _ _ _ _ _ _ _ ⟨#[.slice (some ⟨b0, o0, none⟩) n c,.int .i64 f,_,_,_,.slice ao0 k cc0,.int .i64 (k : Int),_,_,_,_,_,_,.slice ao0 k cc0,.int .i64 f,.int .i64 (k : Int),.int .i64 (f + (k : Int)),_,_,_,_,_,_,_,_,_,_,_,_,_,_,_], []⟩ _
      refine wpAnyH_take (i := 4) (v := .int .i64 (f + (k : Int) + 1)) rfl (by kernel_rfl) (by kernel_rfl) (by kernel_rfl) (fun _ _ _ h => h) (Or.inl ⟨by rfl, ?_⟩) hHeld ?_
      · intro W hW; (try dsimp only at hW); go_simp
      change wpAnyH _ _ _ _ _ _ _ ⟨#[.slice (some ⟨b0, o0, none⟩) n c,.int .i64 f,_,_,_,.slice ao0 k cc0,.int .i64 (k : Int),_,_,_,_,_,_,.slice ao0 k cc0,.int .i64 f,.int .i64 (k : Int),.int .i64 (f + (k : Int)),.int .i64 (f + (k : Int) + 1),_,_,_,_,_,_,_,_,_,_,_,_,_,_], []⟩ _
      refine wpAnyH_take (i := 5) (v := .slice (some ⟨b0, o0, none⟩) n c) rfl (by kernel_rfl) (by kernel_rfl) (by kernel_rfl) (fun _ _ _ h => h) (Or.inl ⟨by rfl, ?_⟩) hHeld ?_
      · intro W hW; (try dsimp only at hW); go_simp
      change wpAnyH _ _ _ _ _ _ _ ⟨#[.slice (some ⟨b0, o0, none⟩) n c,.int .i64 f,_,_,_,.slice ao0 k cc0,.int .i64 (k : Int),_,_,_,_,_,_,.slice ao0 k cc0,.int .i64 f,.int .i64 (k : Int),.int .i64 (f + (k : Int)),.int .i64 (f + (k : Int) + 1),.slice (some ⟨b0, o0, none⟩) n c,_,_,_,_,_,_,_,_,_,_,_,_,_], []⟩ _
      refine wpAnyH_take (i := 6) (v := .int .i64 (k : Int)) rfl (by kernel_rfl) (by kernel_rfl) (by kernel_rfl) (fun _ _ _ h => h) (Or.inl ⟨by rfl, ?_⟩) hHeld ?_
      · intro W hW; (try dsimp only at hW); go_simp
      change wpAnyH _ _ _ _ _ _ _ ⟨#[.slice (some ⟨b0, o0, none⟩) n c,.int .i64 f,_,_,_,.slice ao0 k cc0,.int .i64 (k : Int),_,_,_,_,_,_,.slice ao0 k cc0,.int .i64 f,.int .i64 (k : Int),.int .i64 (f + (k : Int)),.int .i64 (f + (k : Int) + 1),.slice (some ⟨b0, o0, none⟩) n c,.int .i64 (k : Int),_,_,_,_,_,_,_,_,_,_,_,_], []⟩ _
      refine wpAnyH_take (i := 7) (v := .pointer (some ⟨b0, o0 + k * 11, none⟩)) rfl (by kernel_rfl) (by kernel_rfl) (by kernel_rfl) (fun _ _ _ h => h) (Or.inl ⟨by rfl, ?_⟩) hHeld ?_
      · intro W hW; (try dsimp only at hW); go_simp
      change wpAnyH _ _ _ _ _ _ _ ⟨#[.slice (some ⟨b0, o0, none⟩) n c,.int .i64 f,_,_,_,.slice ao0 k cc0,.int .i64 (k : Int),_,_,_,_,_,_,.slice ao0 k cc0,.int .i64 f,.int .i64 (k : Int),.int .i64 (f + (k : Int)),.int .i64 (f + (k : Int) + 1),.slice (some ⟨b0, o0, none⟩) n c,.int .i64 (k : Int),.pointer (some ⟨b0, o0 + k * 11, none⟩),_,_,_,_,_,_,_,_,_,_,_], []⟩ _
      refine wpAnyH_take (i := 8) (v := .pointer (some ⟨b0, o0 + k * 11, none⟩)) rfl (by kernel_rfl) (by kernel_rfl) (by kernel_rfl) (fun _ _ _ h => h) (Or.inl ⟨by rfl, ?_⟩) hHeld ?_
      · intro W hW; (try dsimp only at hW); go_simp
      change wpAnyH _ _ _ _ _ _ _ ⟨#[.slice (some ⟨b0, o0, none⟩) n c,.int .i64 f,_,_,_,.slice ao0 k cc0,.int .i64 (k : Int),_,_,_,_,_,_,.slice ao0 k cc0,.int .i64 f,.int .i64 (k : Int),.int .i64 (f + (k : Int)),.int .i64 (f + (k : Int) + 1),.slice (some ⟨b0, o0, none⟩) n c,.int .i64 (k : Int),.pointer (some ⟨b0, o0 + k * 11, none⟩),.pointer (some ⟨b0, o0 + k * 11, none⟩),_,_,_,_,_,_,_,_,_,_], []⟩ _
      refine wpAnyH_take (i := 9) (v := .agg (EC p.x)) rfl (by kernel_rfl) (by kernel_rfl) (by kernel_rfl) (fun _ _ _ h => h) (yieldsIf_load_mid (by rfl) 36 (.tmp 21) rfl b0 (o0 + k * 11) rfl (ecl p.x) _ (fun W hW => stp_ent hW) Try.underlying36 rfl Try.size36) hHeld ?_
      change wpAnyH _ _ _ _ _ _ _ ⟨#[.slice (some ⟨b0, o0, none⟩) n c,.int .i64 f,_,_,_,.slice ao0 k cc0,.int .i64 (k : Int),_,_,_,_,_,_,.slice ao0 k cc0,.int .i64 f,.int .i64 (k : Int),.int .i64 (f + (k : Int)),.int .i64 (f + (k : Int) + 1),.slice (some ⟨b0, o0, none⟩) n c,.int .i64 (k : Int),.pointer (some ⟨b0, o0 + k * 11, none⟩),.pointer (some ⟨b0, o0 + k * 11, none⟩),.agg (EC p.x),_,_,_,_,_,_,_,_,_], []⟩ _
      refine wpAnyH_take (i := 10) (v := .slice (some ⟨b0, o0, none⟩) n c) rfl (by kernel_rfl) (by kernel_rfl) (by kernel_rfl) (fun _ _ _ h => h) (Or.inl ⟨by rfl, ?_⟩) hHeld ?_
      · intro W hW; (try dsimp only at hW); go_simp
      change wpAnyH _ _ _ _ _ _ _ ⟨#[.slice (some ⟨b0, o0, none⟩) n c,.int .i64 f,_,_,_,.slice ao0 k cc0,.int .i64 (k : Int),_,_,_,_,_,_,.slice ao0 k cc0,.int .i64 f,.int .i64 (k : Int),.int .i64 (f + (k : Int)),.int .i64 (f + (k : Int) + 1),.slice (some ⟨b0, o0, none⟩) n c,.int .i64 (k : Int),.pointer (some ⟨b0, o0 + k * 11, none⟩),.pointer (some ⟨b0, o0 + k * 11, none⟩),.agg (EC p.x),.slice (some ⟨b0, o0, none⟩) n c,_,_,_,_,_,_,_,_], []⟩ _
      refine wpAnyH_take (i := 11) (v := .int .i64 (k : Int)) rfl (by kernel_rfl) (by kernel_rfl) (by kernel_rfl) (fun _ _ _ h => h) (Or.inl ⟨by rfl, ?_⟩) hHeld ?_
      · intro W hW; (try dsimp only at hW); go_simp
      change wpAnyH _ _ _ _ _ _ _ ⟨#[.slice (some ⟨b0, o0, none⟩) n c,.int .i64 f,_,_,_,.slice ao0 k cc0,.int .i64 (k : Int),_,_,_,_,_,_,.slice ao0 k cc0,.int .i64 f,.int .i64 (k : Int),.int .i64 (f + (k : Int)),.int .i64 (f + (k : Int) + 1),.slice (some ⟨b0, o0, none⟩) n c,.int .i64 (k : Int),.pointer (some ⟨b0, o0 + k * 11, none⟩),.pointer (some ⟨b0, o0 + k * 11, none⟩),.agg (EC p.x),.slice (some ⟨b0, o0, none⟩) n c,.int .i64 (k : Int),_,_,_,_,_,_,_], []⟩ _
      refine wpAnyH_take (i := 12) (v := .pointer (some ⟨b0, o0 + k * 11, none⟩)) rfl (by kernel_rfl) (by kernel_rfl) (by kernel_rfl) (fun _ _ _ h => h) (Or.inl ⟨by rfl, ?_⟩) hHeld ?_
      · intro W hW; (try dsimp only at hW); go_simp
      change wpAnyH _ _ _ _ _ _ _ ⟨#[.slice (some ⟨b0, o0, none⟩) n c,.int .i64 f,_,_,_,.slice ao0 k cc0,.int .i64 (k : Int),_,_,_,_,_,_,.slice ao0 k cc0,.int .i64 f,.int .i64 (k : Int),.int .i64 (f + (k : Int)),.int .i64 (f + (k : Int) + 1),.slice (some ⟨b0, o0, none⟩) n c,.int .i64 (k : Int),.pointer (some ⟨b0, o0 + k * 11, none⟩),.pointer (some ⟨b0, o0 + k * 11, none⟩),.agg (EC p.x),.slice (some ⟨b0, o0, none⟩) n c,.int .i64 (k : Int),.pointer (some ⟨b0, o0 + k * 11, none⟩),_,_,_,_,_,_], []⟩ _
      refine wpAnyH_take (i := 13) (v := .pointer (some ⟨b0, o0 + k * 11 + 10, none⟩)) rfl (by kernel_rfl) (by kernel_rfl) (by kernel_rfl) (fun _ _ _ h => h) (Or.inl ⟨by rfl, ?_⟩) hHeld ?_
      · intro W hW; (try dsimp only at hW); go_simp
      change wpAnyH _ _ _ _ _ _ _ ⟨#[.slice (some ⟨b0, o0, none⟩) n c,.int .i64 f,_,_,_,.slice ao0 k cc0,.int .i64 (k : Int),_,_,_,_,_,_,.slice ao0 k cc0,.int .i64 f,.int .i64 (k : Int),.int .i64 (f + (k : Int)),.int .i64 (f + (k : Int) + 1),.slice (some ⟨b0, o0, none⟩) n c,.int .i64 (k : Int),.pointer (some ⟨b0, o0 + k * 11, none⟩),.pointer (some ⟨b0, o0 + k * 11, none⟩),.agg (EC p.x),.slice (some ⟨b0, o0, none⟩) n c,.int .i64 (k : Int),.pointer (some ⟨b0, o0 + k * 11, none⟩),.pointer (some ⟨b0, o0 + k * 11 + 10, none⟩),_,_,_,_,_], []⟩ _
      refine wpAnyH_take (i := 14) (v := .bool p.g) rfl (by kernel_rfl) (by kernel_rfl) (by kernel_rfl) (fun _ _ _ h => h) (Or.inl ⟨by rfl, ?_⟩) hHeld ?_
      · intro W hW; (try dsimp only at hW); have hc := rng_cell hW (show (pcl p)[10]? = some (.bool p.g) from rfl); clear hW; go_simp
      change wpAnyH _ _ _ _ _ _ _ ⟨#[.slice (some ⟨b0, o0, none⟩) n c,.int .i64 f,_,_,_,.slice ao0 k cc0,.int .i64 (k : Int),_,_,_,_,_,_,.slice ao0 k cc0,.int .i64 f,.int .i64 (k : Int),.int .i64 (f + (k : Int)),.int .i64 (f + (k : Int) + 1),.slice (some ⟨b0, o0, none⟩) n c,.int .i64 (k : Int),.pointer (some ⟨b0, o0 + k * 11, none⟩),.pointer (some ⟨b0, o0 + k * 11, none⟩),.agg (EC p.x),.slice (some ⟨b0, o0, none⟩) n c,.int .i64 (k : Int),.pointer (some ⟨b0, o0 + k * 11, none⟩),.pointer (some ⟨b0, o0 + k * 11 + 10, none⟩),.bool p.g,_,_,_,_], []⟩ _
      refine wpAnyH_take (i := 15) (v := .agg (CC ⟨f + (k : Int) + 1, p.x, p.g⟩)) rfl (by kernel_rfl) (by kernel_rfl) (by kernel_rfl) (fun _ _ _ h => h) (Or.inl ⟨by rfl, ?_⟩) hHeld ?_
      · intro W hW; (try dsimp only at hW); clear hW; exact exec_b54 (f + (k : Int) + 1) p.x p.g (.tmp 17) (.tmp 22) (.tmp 27) rfl rfl rfl rfl W
      change wpAnyH _ _ _ _ _ _ _ ⟨#[.slice (some ⟨b0, o0, none⟩) n c,.int .i64 f,_,_,_,.slice ao0 k cc0,.int .i64 (k : Int),_,_,_,_,_,_,.slice ao0 k cc0,.int .i64 f,.int .i64 (k : Int),.int .i64 (f + (k : Int)),.int .i64 (f + (k : Int) + 1),.slice (some ⟨b0, o0, none⟩) n c,.int .i64 (k : Int),.pointer (some ⟨b0, o0 + k * 11, none⟩),.pointer (some ⟨b0, o0 + k * 11, none⟩),.agg (EC p.x),.slice (some ⟨b0, o0, none⟩) n c,.int .i64 (k : Int),.pointer (some ⟨b0, o0 + k * 11, none⟩),.pointer (some ⟨b0, o0 + k * 11 + 10, none⟩),.bool p.g,.agg (CC ⟨f + (k : Int) + 1, p.x, p.g⟩),_,_,_], []⟩ _
      refine wpAnyH_ready (rs := [16]) (by kernel_rfl) (by simp) ?_
      refine AllReadyH.cons rfl (fun K hK => ?_) AllReadyH.nil
      have M1 := hide (crs_one u0 ⟨f + (k : Int) + 1, p.x, p.g⟩)
      have O2 := hide (HO.out.alloc (.cells (CC ⟨f + (k : Int) + 1, p.x, p.g⟩) 54))
      have B2 := hide (HB.out.alloc HB.out.size (.cells (CC ⟨f + (k : Int) + 1, p.x, p.g⟩) 54))
      rw [if_pos (by rfl)]
      refine wp_bsC (.tmp 28) ⟨f + (k : Int) + 1, p.x, p.g⟩ rfl rfl ?_
      refine hK.out _ _ (fun i v hi => (World.cell?_alloc_lt _ _ _ (World.block_lt_of_cell? u0 _ (hHeld i v hi))).trans (hHeld i v hi)) (fun hHeld => ?_)
      clear hK K
      change wpAnyH _ _ _ _ _ _ _ ⟨#[.slice (some ⟨b0, o0, none⟩) n c,.int .i64 f,_,_,_,.slice ao0 k cc0,.int .i64 (k : Int),_,_,_,_,_,_,.slice ao0 k cc0,.int .i64 f,.int .i64 (k : Int),.int .i64 (f + (k : Int)),.int .i64 (f + (k : Int) + 1),.slice (some ⟨b0, o0, none⟩) n c,.int .i64 (k : Int),.pointer (some ⟨b0, o0 + k * 11, none⟩),.pointer (some ⟨b0, o0 + k * 11, none⟩),.agg (EC p.x),.slice (some ⟨b0, o0, none⟩) n c,.int .i64 (k : Int),.pointer (some ⟨b0, o0 + k * 11, none⟩),.pointer (some ⟨b0, o0 + k * 11 + 10, none⟩),.bool p.g,.agg (CC ⟨f + (k : Int) + 1, p.x, p.g⟩),.slice (some ⟨u0.heap.size, 0, none⟩) 1 1,_,_], []⟩ _
      have hsz : Hid (w.heap.size ≤ (u0.alloc (.cells (CC ⟨f + (k : Int) + 1, p.x, p.g⟩) 54)).heap.size) := hide B2.out.size
      refine wpAnyH_ready (rs := [17]) (by kernel_rfl) (by simp) ?_
      refine AllReadyH.cons rfl (fun K hK => ?_) AllReadyH.nil
      rw [if_pos (by rfl)]
      refine wp_capp rfl (.tmp 13) (.tmp 29) rfl w.heap.size (.slice ao0 k cc0) k (lst (ss.take k) f) rfl O2.out (some ⟨u0.heap.size, 0, none⟩) 1 1 [⟨f + (k : Int) + 1, p.x, p.g⟩] rfl M1.out (by omega) hsz.out ?_
      intro v6 w6 O6 G6
      have B6 := hide (B2.out.grown G6 hsz.out (fun r hr => (O2.out.lt r hr).1))
      have O7 : Hid (w6.ownsRow w.heap.size 54 12 v6 (k + 1) (chs (lst (ss.take (k + 1)) f))) := hide (by rw [HT.out]; exact O6)
      have hh : w6.rangeAt b0 (o0 + k * 11) (pcl p) := fun i v hi => by
        have h1 := hHeld i v hi
        exact G6.cell h1 (fun e => by
          have h2 := (O2.out.lt b0 e.symm).1
          have h3 := HG0.out
          omega)
      refine hK.out _ _ hh (fun hHeld => ?_)
      clear hK K hh O6 G6
      change wpAnyH _ _ _ _ _ _ _ ⟨#[.slice (some ⟨b0, o0, none⟩) n c,.int .i64 f,_,_,_,.slice ao0 k cc0,.int .i64 (k : Int),_,_,_,_,_,_,.slice ao0 k cc0,.int .i64 f,.int .i64 (k : Int),.int .i64 (f + (k : Int)),.int .i64 (f + (k : Int) + 1),.slice (some ⟨b0, o0, none⟩) n c,.int .i64 (k : Int),.pointer (some ⟨b0, o0 + k * 11, none⟩),.pointer (some ⟨b0, o0 + k * 11, none⟩),.agg (EC p.x),.slice (some ⟨b0, o0, none⟩) n c,.int .i64 (k : Int),.pointer (some ⟨b0, o0 + k * 11, none⟩),.pointer (some ⟨b0, o0 + k * 11 + 10, none⟩),.bool p.g,.agg (CC ⟨f + (k : Int) + 1, p.x, p.g⟩),.slice (some ⟨u0.heap.size, 0, none⟩) 1 1,v6,_], []⟩ _
      refine wpAnyH_take (i := 18) (v := v6) rfl (by kernel_rfl) (by kernel_rfl) (by kernel_rfl) (fun _ _ _ h => h) (Or.inl ⟨by rfl, ?_⟩) hHeld ?_
      · intro W hW; (try dsimp only at hW); go_simp
      change wpAnyH _ _ _ _ _ _ _ ⟨#[.slice (some ⟨b0, o0, none⟩) n c,.int .i64 f,_,_,_,v6,.int .i64 (k : Int),_,_,_,_,_,_,.slice ao0 k cc0,.int .i64 f,.int .i64 (k : Int),.int .i64 (f + (k : Int)),.int .i64 (f + (k : Int) + 1),.slice (some ⟨b0, o0, none⟩) n c,.int .i64 (k : Int),.pointer (some ⟨b0, o0 + k * 11, none⟩),.pointer (some ⟨b0, o0 + k * 11, none⟩),.agg (EC p.x),.slice (some ⟨b0, o0, none⟩) n c,.int .i64 (k : Int),.pointer (some ⟨b0, o0 + k * 11, none⟩),.pointer (some ⟨b0, o0 + k * 11 + 10, none⟩),.bool p.g,.agg (CC ⟨f + (k : Int) + 1, p.x, p.g⟩),.slice (some ⟨u0.heap.size, 0, none⟩) 1 1,v6,_], []⟩ _
      refine wpAnyH_done (by kernel_rfl) ?_ _
      clear hHeld
      go_wp2
      go_roundw
      case rel => exact ⟨k + 1, by omega, by go_num, O7.out, B6.out⟩
      case measure => simp [intOf]; omega
    · have hk2 : ¬ (k : Int) < (n : Int) := by omega
      have hall : ss.take k = ss := List.take_of_length_le (by rw [HN.out]; omega)
      obtain rfl : k = n := by omega
      rw [hall] at HO
      clear hall
      have hl : (lst ss f).length = k := by rw [lst_length, HN.out]
      obtain ⟨ao4, c4, e, he⟩ := row_cts (B := w.heap.size) (v := .slice ao0 k cc0) (l := lst ss f) (by rw [hl]; exact HO.out)
      have hno : Hid (ao0 = none → cc0 = 0) := hide (fun h => by
        rcases HO.out.2 with ⟨h1, h2⟩ | ⟨b, cap, cur, h1, _⟩
        · injection h1
        · injection h1 with h3; rw [h] at h3; cases h3)
      injection e with e1 e2 e3
      subst e1 e3
      rw [hl] at he
      have HE := hide he
      clear he hl e2
      go_wp2
      go_ret
      exact ⟨_, _, rfl, HE.out, HB.out, hno.out⟩
end Go.Proofs.Ytjlmheecefobaaa
