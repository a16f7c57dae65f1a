/- Memory: the program's map; the program's table and the document's, and how they stay while others do something. -/
import Derived.Test.YtelinahpneikiaaA1
import Derived.Maps.Keyed
import Derived.DeepKeys4
import Derived.Laws.OwnMore
namespace Go.Proofs.Ytelinahpneikiaa
open Go.RowKit Go.MapKept
open Go.ChangeMaps (setBlock heap_setBlock_same heap_setBlock_other)

theorem Try.laidOut : laidOutB Try.prog = true := by kernel_rfl
theorem Try.row80 : (80 : TypeId) < Try.prog.types.size := of_decide_eq_true (by kernel_rfl)
theorem Try.wide80 : (match Try.prog.underlying 80 with | some (.array _ _) | some (.struct _) => true | _ => false) = true := by rw [Try.underlying80]
set_option maxRecDepth 100000 in
theorem Try.law80 : WideMaps.KeyLaw Try.prog 80 := deep_law_laid Try.laidOut (m := 2) (by omega) Try.row80 (by kernel_rfl) Try.wide80
theorem Try.keyed : Maps.Keyed Try.prog 80 := Maps.Keyed.of_law Try.law80
theorem Try.keyType80 : Try.prog.keyType 80 = true := by kernel_rfl
/-- A number that an int holds. -/
def I64 (x : Int) : Prop := -9223372036854775808 ≤ x ∧ x ≤ 9223372036854775807
def KV (v p : Int) : Value := .agg #[.int .i64 v, .int .i64 p]
def EV (t : Bool) : Value := .agg #[.bool t]
theorem wf_i64 {x : Int} (h : I64 x) : (Lit.int .i64 x).wf = true := by
  have := h.1; have := h.2
  simp [Lit.wf, IntKind.min, IntKind.max, IntKind.signed, IntKind.bits]
  omega
theorem keyLits80 {v p : Int} (hv : I64 v) (hp : I64 p) (m : Nat) : Try.prog.keyLits (m + 2) 80 [.int .i64 v, .int .i64 p] = some [.int .i64 v, .int .i64 p] := by
  simp [Program.keyLits, Try.underlying80, Try.underlying3, Try.cells80, Try.cells3, wf_i64 hv, wf_i64 hp]
theorem keyOf80 {v p : Int} (hv : I64 v) (hp : I64 p) : ∃ kl, keyOf Try.prog 80 (KV v p) = some kl := by
  have hr := Try.row80
  obtain ⟨m, hm⟩ : ∃ m, Try.prog.types.size + 1 = m + 2 := by
    generalize Try.prog.types.size = q at hr
    exact ⟨q - 1, by have : 80 < q := hr; omega⟩
  have hf : (KV v p).formed Try.prog 80 = true := by simp [KV, Value.formed, Try.underlying80, Try.cells80]
  refine ⟨.string (keyBytes [.int .i64 v, .int .i64 p]), ?_⟩
  simp only [keyOf, Try.underlying80, Try.keyType80, hf, hm]
  rw [show (KV v p).cells.toList = [.int .i64 v, .int .i64 p] from rfl, keyLits80 hv hp]
  rfl
/-- The program's map. -/
def Mp (w : World) (b : Nat) (l : List Mm) : Prop :=
  ∃ es clock, w.heap[b]? = some (.map es clock) ∧ Stamped es clock ∧ (es.toList.map fun e => (e.key, e.val)) = l.map fun m => (KV m.v m.p, EV m.t)
def Small (l : List Mm) : Prop := ∀ m ∈ l, I64 m.v ∧ I64 m.p
theorem Wf.small {T : Tb} (h : Wf T) : Small T.l := fun m hm => by
  have := h.mem m hm
  have := h.n64
  exact ⟨⟨by omega, by omega⟩, ⟨by omega, by omega⟩⟩
theorem KV_inj {v p v' p' : Int} (h : KV v p = KV v' p') : v = v' ∧ p = p' := by
  simp [KV] at h
  exact h
theorem mp_get {es : Array MapEntry} {l : List Mm} (h : (es.toList.map fun e => (e.key, e.val)) = l.map fun m => (KV m.v m.p, EV m.t)) {j : Nat} {e : MapEntry} (hj : es.toList[j]? = some e) : ∃ m, l[j]? = some m ∧ e.key = KV m.v m.p ∧ e.val = EV m.t := by
  have h1 := congrArg (fun x => x[j]?) h
  simp only [List.getElem?_map, hj, Option.map_some] at h1
  cases hm : l[j]? with
  | none => rw [hm] at h1; simp at h1
  | some m =>
    rw [hm] at h1
    simp at h1
    exact ⟨m, rfl, h1.1, h1.2⟩
theorem ix_of_get : ∀ {l : List Mm} {v p : Int} {j : Nat} {m : Mm}, Apart l → l[j]? = some m → mt m v p = true → ix l v p = j ∧ hs l v p = true ∧ tgd l v p = m.t
  | [], _, _, _, _, _, h, _ => by simp at h
  | x :: r, v, p, 0, m, _, h, hm => by
    simp at h
    subst h
    simp [ix, hs, tgd, hm]
  | x :: r, v, p, j + 1, m, hA, h, hm => by
    obtain ⟨h1, h2⟩ := List.pairwise_cons.1 hA
    simp at h
    obtain ⟨e1, e2, e3⟩ := ix_of_get h2 h hm
    have hx : mt x v p = false := by
      rw [Bool.eq_false_iff]
      intro hc
      have a := (mt_iff x v p).1 hc
      have b := (mt_iff m v p).1 hm
      exact h1 m (List.mem_of_getElem? h) ⟨a.1.trans b.1.symm, a.2.trans b.2.symm⟩
    simp [ix, hs, tgd, hx, e1, e2, e3]
theorem mp_keys {es : Array MapEntry} {l : List Mm} (h : (es.toList.map fun e => (e.key, e.val)) = l.map fun m => (KV m.v m.p, EV m.t)) (hS : Small l) : ∀ e ∈ es.toList, ∃ kl, keyOf Try.prog 80 e.key = some kl := by
  intro e he
  obtain ⟨j, hj⟩ := List.getElem?_of_mem he
  obtain ⟨m, hm, hk, _⟩ := mp_get h hj
  have := hS m (List.mem_of_getElem? hm)
  rw [hk]
  exact keyOf80 this.1 this.2
/-- Where the key stands, or that it does not. -/
theorem mp_find (w : World) {es : Array MapEntry} {l : List Mm} (h : (es.toList.map fun e => (e.key, e.val)) = l.map fun m => (KV m.v m.p, EV m.t)) (hS : Small l) (hA : Apart l) {v p : Int} (hv : I64 v) (hp : I64 p) :
    ((Instr.findKey 80 (KV v p) es.toList).run Try.prog w = .ok none w ∧ (∀ e ∈ es.toList, e.key ≠ KV v p) ∧ hs l v p = false ∧ tgd l v p = false) ∨
    ∃ e, (Instr.findKey 80 (KV v p) es.toList).run Try.prog w = .ok (some (ix l v p, e.val)) w ∧ es.toList[ix l v p]? = some e ∧ e.key = KV v p ∧ e.val = EV (tgd l v p) ∧ hs l v p = true := by
  obtain ⟨kl, hkl⟩ := keyOf80 hv hp
  rcases Try.keyed.find w hkl es.toList (mp_keys h hS) with ⟨h1, h2⟩ | ⟨j, e, h1, h2, h3⟩
  · refine Or.inl ⟨h1, h2, ?_⟩
    have hn : hs l v p = false := by
      rw [Bool.eq_false_iff]
      intro hc
      have hg := ix_get l v p hc
      have hh := congrArg (fun x => x[ix l v p]?) h
      simp only [List.getElem?_map, hg, Option.map_some] at hh
      cases he : es.toList[ix l v p]? with
      | none => rw [he] at hh; simp at hh
      | some e =>
        rw [he] at hh
        simp at hh
        exact h2 e (List.mem_of_getElem? he) hh.1
    refine ⟨hn, ?_⟩
    clear h h1 h2 hS hA
    induction l with
    | nil => rfl
    | cons m r ih =>
      rw [hs_cons] at hn
      simp only [Bool.or_eq_false_iff] at hn
      simp [tgd, hn.1, ih hn.2]
  · obtain ⟨m, hm, hk, hval⟩ := mp_get h h2
    have e1 := KV_inj (hk.symm.trans h3)
    obtain ⟨i1, i2, i3⟩ := ix_of_get hA hm ((mt_iff m v p).2 e1)
    subst i1
    exact Or.inr ⟨e, h1, h2, h3, by rw [hval, i3], i2⟩
theorem Mp.look {w : World} {b : Nat} {l : List Mm} (h : Mp w b l) (hS : Small l) (hA : Apart l) {v p : Int} (hv : I64 v) (hp : I64 p) :
    (Instr.lookup 59 (.map (some b)) (KV v p) true).run Try.prog w = .ok (.tuple #[EV (tgd l v p), .bool (hs l v p)]) w := by
  obtain ⟨es, clock, hb, hst, hl⟩ := h
  obtain ⟨kl, hkl⟩ := keyOf80 hv hp
  rcases mp_find w hl hS hA hv hp with ⟨h1, _, h3, h4⟩ | ⟨e, h1, h2, h3, h4, h5⟩
  · simp [Instr.lookup, run_underlying Try.underlying59, MapKept.run_getObj_map hb, Try.keyed.check w _ hkl, h1, Result.andThen, h3, h4]
    rfl
  · simp [Instr.lookup, run_underlying Try.underlying59, MapKept.run_getObj_map hb, Try.keyed.check w _ hkl, h1, Result.andThen, h4, h5]
theorem grown_setBlock {w : World} {b : Nat} {es : Array MapEntry} {clock : Nat} {o' : Obj} (hb : w.heap[b]? = some (.map es clock)) : w.grownBy (setBlock w b o') (some b) :=
  ⟨rfl, rfl, rfl, by simp [setBlock], fun i _ hi => heap_setBlock_other hb _ (fun e => hi (by rw [e]))⟩
theorem Mp.put {w : World} {b : Nat} {l : List Mm} (h : Mp w b l) (hS : Small l) (hA : Apart l) {v p : Int} (hv : I64 v) (hp : I64 p) (t : Bool) :
    ∃ w', (Instr.mapUpdate 59 (.map (some b)) (KV v p) (EV t)).run Try.prog w = .ok () w' ∧ Mp w' b (ad l v p t) ∧ w.grownBy w' (some b) := by
  obtain ⟨es, clock, hb, hst, hl⟩ := h
  obtain ⟨kl, hkl⟩ := keyOf80 hv hp
  rcases mp_find w hl hS hA hv hp with ⟨h1, h2, h3, h4⟩ | ⟨e0, h1, h2, h3, h4, h5⟩
  · refine ⟨setBlock w b (.map (es.push ⟨KV v p, EV t, clock⟩) (clock + 1)), ?_, ⟨_, _, heap_setBlock_same hb _, stamped_push hst h2, ?_⟩, grown_setBlock hb⟩
    · simp [Instr.mapUpdate, run_underlying Try.underlying59, MapKept.run_getObj_map hb, Try.keyed.check w false hkl, h1, MapKept.run_setObj_map _ hb, Result.andThen, setBlock]
    · rw [ad_push l v p t h3, Array.toList_push, List.map_append, List.map_append, hl]
      rfl
  · have hj : es[ix l v p]? = some e0 := by simpa using h2
    have hkeyf : ∀ e', es[ix l v p]? = some e' → ({ e' with key := KV v p, val := EV t } : MapEntry).key = e'.key := fun e' he' => by rw [hj] at he'; cases he'; exact h3.symm
    refine ⟨setBlock w b (.map (es.modify (ix l v p) (fun e' => { e' with key := KV v p, val := EV t })) clock), ?_, ⟨_, _, heap_setBlock_same hb _, stamped_modify hst _ _ (fun _ _ => rfl) (fun e' _ he' => hkeyf e' he'), ?_⟩, grown_setBlock hb⟩
    · simp [Instr.mapUpdate, run_underlying Try.underlying59, MapKept.run_getObj_map hb, Try.keyed.check w false hkl, h1, hj, h3, Try.keyed.stays w hkl, MapKept.run_setObj_map _ hb, Result.andThen, setBlock]
    · rw [ad_set l v p t h5, Array.toList_modify, ChangeMaps.modify_eq_set _ _ _ _ h2, List.map_set, List.map_set, hl]
theorem Mp.drop {w : World} {b : Nat} {l : List Mm} (h : Mp w b l) (hS : Small l) (hA : Apart l) {v p : Int} (hv : I64 v) (hp : I64 p) (ty : TypeId) :
    ∃ w', (Builtin.delete_ #[59, 80] ty #[.map (some b), KV v p]).run Try.prog w = .ok (.tuple #[]) w' ∧ Mp w' b (rm l v p) ∧ w.grownBy w' (some b) := by
  obtain ⟨es, clock, hb, hst, hl⟩ := h
  obtain ⟨kl, hkl⟩ := keyOf80 hv hp
  have hlen : es.toList.length = l.length := by have := congrArg List.length hl; simpa using this
  rcases mp_find w hl hS hA hv hp with ⟨h1, h2, h3, h4⟩ | ⟨e0, h1, h2, h3, h4, h5⟩
  · refine ⟨setBlock w b (.map es clock), ?_, ⟨_, _, heap_setBlock_same hb _, hst, ?_⟩, grown_setBlock hb⟩
    · simp [Builtin.delete_, run_underlying Try.underlying59, MapKept.run_getObj_map hb, Try.keyed.check w _ hkl, h1, MapKept.run_setObj_map _ hb, Result.andThen, setBlock]
    · rw [rm_erase, List.eraseIdx_of_length_le, hl]
      have h9 := hs_ix l v p
      rw [h3] at h9
      simp at h9
      exact h9
  · have hjs : ix l v p < es.size := by have := (List.getElem?_eq_some_iff.1 h2).1; simpa using this
    have hsub : (es.eraseIdxIfInBounds (ix l v p)).toList = es.toList.eraseIdx (ix l v p) := by
      unfold Array.eraseIdxIfInBounds
      rw [dif_pos hjs]
      simp
    refine ⟨setBlock w b (.map (es.eraseIdxIfInBounds (ix l v p)) clock), ?_, ⟨_, _, heap_setBlock_same hb _, stamped_erase hst _, ?_⟩, grown_setBlock hb⟩
    · simp [Builtin.delete_, run_underlying Try.underlying59, MapKept.run_getObj_map hb, Try.keyed.check w _ hkl, h1, MapKept.run_setObj_map _ hb, Result.andThen, setBlock]
    · rw [hsub, rm_erase, ChangeMaps.map_eraseIdx, ChangeMaps.map_eraseIdx, hl]
theorem Mp.block {w w1 : World} {b : Nat} {l : List Mm} (h : Mp w b l) (e : w1.heap[b]? = w.heap[b]?) : Mp w1 b l := by
  obtain ⟨es, clock, hb, r⟩ := h
  exact ⟨es, clock, e.trans hb, r⟩
theorem Mp.lt {w : World} {b : Nat} {l : List Mm} (h : Mp w b l) : b < w.heap.size := by
  obtain ⟨es, clock, hb, _⟩ := h
  exact (Array.getElem?_eq_some_iff.1 hb).1
theorem mp_new (w : World) : Mp (w.alloc (.map #[] 0)) w.heap.size [] := ⟨#[], 0, (MapKept.heap_alloc w _).1, stamped_empty 0, rfl⟩
theorem Box.block {w w1 : World} {k : Nat} {cs : List Value} (h : Box w k cs) (e : w1.heap[k]? = w.heap[k]?) : Box w1 k cs := by
  refine ⟨?_, fun j v hj => by rw [World.cell?_of_block (a := ⟨k, 0 + j, none⟩) e]; exact h.at_ j v hj, fun j hj => ⟨by rw [World.cell?_of_block (a := ⟨k, 0 + j, none⟩) e]; exact (h.th j hj).1, by rw [World.frozen?_of_block (a := ⟨k, 0 + j, none⟩) e]; exact (h.th j hj).2⟩⟩
  have hl := h.lt
  by_cases hk : k < w1.heap.size
  · exact hk
  · rw [Array.getElem?_eq_none (by omega), Array.getElem?_eq_getElem hl] at e
    cases e
/-- The program's table: its map in block h, its natives behind it, then itself. -/
def nsl (ns : List Int) : List Value := ns.map (Value.int .i64)
structure PT (w : World) (h : Nat) (T : Tb) : Prop where
  bx : Box w (h + 2) [.map (some h), .slice (some ⟨h + 1, 0, none⟩) T.n T.n]
  nt : Box w (h + 1) (nsl T.ns)
  mp : Mp w h T.l
  wf : Wf T
theorem PT.keep {w w1 : World} {h : Nat} {T : Tb} (H : PT w h T) (e : ∀ k, h ≤ k → k < h + 3 → w1.heap[k]? = w.heap[k]?) : PT w1 h T :=
  ⟨H.bx.block (e _ (by omega) (by omega)), H.nt.block (e _ (by omega) (by omega)), H.mp.block (e _ (by omega) (by omega)), H.wf⟩
theorem PT.lt {w : World} {h : Nat} {T : Tb} (H : PT w h T) : h + 3 ≤ w.heap.size := by have := H.bx.lt; omega
theorem PT.below {w w1 : World} {h g : Nat} {T : Tb} (H : PT w h T) (hb : Below g w w1) (hg : h + 3 ≤ g) : PT w1 h T := H.keep (fun k _ h2 => hb.block k (by omega))
theorem PT.on {w w1 : World} {h : Nat} {T : Tb} (H : PT w h T) (hb : Below w.heap.size w w1) : PT w1 h T := H.below hb H.lt
theorem PT.drew {w : World} {h : Nat} {T : Tb} (H : PT w h T) : PT w.drew h T := H.keep (fun _ _ _ => rfl)
/-- The document's table: its natives in block g, then itself; its members in a block behind. -/
def mml (l : List Mm) : List Value := l.flatMap fun m => [.int .i64 m.v, .int .i64 m.p, .bool m.t]
structure RT (w : World) (g : Nat) (lv : Value) (T : Tb) : Prop where
  bx : Box w (g + 1) [.int .i64 T.n, lv, .slice (some ⟨g, 0, none⟩) T.n T.n]
  nt : Box w g (nsl T.ns)
  row : w.ownsRow (g + 2) 73 3 lv T.l.length (mml T.l)
  wf : Wf T
theorem RT.lt {w : World} {g : Nat} {lv : Value} {T : Tb} (H : RT w g lv T) : g + 2 ≤ w.heap.size := by have := H.bx.lt; omega
theorem RT.mid {w w1 : World} {N M g : Nat} {lv : Value} {T : Tb} (H : RT w g lv T) (hb : Mid N M w w1) (hM : M ≤ g) : RT w1 g lv T := by
  have hl := H.lt
  refine ⟨H.bx.block (hb.block _ (by omega) (Or.inr (by omega))), H.nt.block (hb.block _ (by omega) (Or.inr (by omega))), ?_, H.wf⟩
  have hr := H.row
  refine ⟨hr.1, ?_⟩
  rcases hr.2 with h | ⟨b, cap, cur, rfl, hb', hc, r⟩
  · exact Or.inl h
  · have hbl : b < w.heap.size := (Array.getElem?_eq_some_iff.1 hc).1
    exact Or.inr ⟨b, cap, cur, rfl, hb', (hb.block b hbl (Or.inr (by omega))).trans hc, r⟩
theorem mid_of_below {w w1 : World} (hb : Below w.heap.size w w1) (N : Nat) : Mid N N w w1 := ⟨hb.os, hb.tape, hb.output, hb.size, fun k hk _ => hb.block k hk⟩
theorem RT.on {w w1 : World} {g : Nat} {lv : Value} {T : Tb} (H : RT w g lv T) (hb : Below w.heap.size w w1) : RT w1 g lv T := H.mid (mid_of_below hb g) (Nat.le_refl _)
theorem RT.drew {w : World} {g : Nat} {lv : Value} {T : Tb} (H : RT w g lv T) : RT w.drew g lv T := ⟨⟨H.bx.lt, H.bx.at_, H.bx.th⟩, ⟨H.nt.lt, H.nt.at_, H.nt.th⟩, H.row, H.wf⟩
theorem mml_length : ∀ l : List Mm, (mml l).length = l.length * 3
  | [] => rfl
  | m :: r => by
    have := mml_length r
    unfold mml at this ⊢
    simp at this ⊢
    omega
theorem mml_append (a b : List Mm) : mml (a ++ b) = mml a ++ mml b := by simp [mml]
theorem mml_get : ∀ (l : List Mm) (j : Nat) (m : Mm), l[j]? = some m → (mml l)[3 * j]? = some (.int .i64 m.v) ∧ (mml l)[3 * j + 1]? = some (.int .i64 m.p) ∧ (mml l)[3 * j + 2]? = some (.bool m.t)
  | [], j, m, h => by simp at h
  | x :: r, 0, m, h => by
    simp at h
    subst h
    exact ⟨rfl, rfl, rfl⟩
  | x :: r, j + 1, m, h => by
    have := mml_get r j m (by simpa using h)
    have e : mml (x :: r) = .int .i64 x.v :: .int .i64 x.p :: .bool x.t :: mml r := rfl
    rw [e, show 3 * (j + 1) = 3 * j + 3 by omega, show 3 * j + 3 + 1 = (3 * j + 1) + 3 by omega, show 3 * j + 3 + 2 = (3 * j + 2) + 3 by omega]
    simpa using this
theorem mml_set : ∀ (l : List Mm) (j : Nat) (m : Mm) (t : Bool), l[j]? = some m → (mml l).set (3 * j + 2) (.bool t) = mml (l.set j ⟨m.v, m.p, t⟩)
  | [], j, m, t, h => by simp at h
  | x :: r, 0, m, t, h => by
    simp at h
    subst h
    rfl
  | x :: r, j + 1, m, t, h => by
    have := mml_set r j m t (by simpa using h)
    have e : mml (x :: r) = .int .i64 x.v :: .int .i64 x.p :: .bool x.t :: mml r := rfl
    rw [e, show 3 * (j + 1) + 2 = (3 * j + 2) + 3 by omega]
    simp only [List.set_cons_succ, this]
    rfl
end Go.Proofs.Ytelinahpneikiaa
