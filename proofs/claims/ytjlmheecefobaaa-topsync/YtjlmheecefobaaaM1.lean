/- Memory: the program's map of stations: this block is the map of this list of entries, in the order in which they were put in. -/
import Derived.Test.YtjlmheecefobaaaPj
import Derived.Test.YtjlmheecefobaaaA2
import Derived.Maps.Keyed
import Derived.DeepKeys4
import Derived.Laws.OwnMore
namespace Go.Proofs.Ytjlmheecefobaaa
open Go.RowKit Go.MapKept
open Go.ChangeMaps (setBlock heap_setBlock_same heap_setBlock_other)

theorem Try.laidOut1 : laidOutB Try.prog = true := by kernel_rfl
theorem Try.row83 : (83 : TypeId) < Try.prog.types.size := of_decide_eq_true (by kernel_rfl)
theorem Try.wide83 : (match Try.prog.underlying 83 with | some (.array _ _) | some (.struct _) => true | _ => false) = true := by rw [Try.underlying83]
theorem Try.cells83 : Try.prog.cellsOf 83 = 7 := by kernel_rfl
theorem Try.size83 : (Try.prog.info? 83).map (·.size) = some 7 := by kernel_rfl
set_option maxRecDepth 100000 in
theorem Try.law83 : WideMaps.KeyLaw Try.prog 83 := deep_law_laid Try.laidOut1 (m := 3) (by omega) Try.row83 (by kernel_rfl) Try.wide83
theorem Try.keyed : Maps.Keyed Try.prog 83 := Maps.Keyed.of_law Try.law83
theorem Try.keyType83 : Try.prog.keyType 83 = true := by kernel_rfl
def kcl (v : Int) (m : Mc) : List Value := .int .i64 v :: mcl m
def KC (v : Int) (m : Mc) : Array Value := (kcl v m).toArray
def KV (v : Int) (m : Mc) : Value := .agg (KC v m)
theorem wf_i64 {x : Int} (h : I64 x) : (Lit.int .i64 x).wf = true := by
  have := h.1; have := h.2
  simp [Lit.wf, IntKind.min, IntKind.max, IntKind.signed, IntKind.bits]
  omega
theorem wf_u8 {x : Int} (h0 : 0 ≤ x) (h1 : x < 256) : (Lit.int .u8 x).wf = true := by
  simp [Lit.wf, IntKind.min, IntKind.max, IntKind.signed, IntKind.bits]
  omega
def klits (v : Int) (m : Mc) : List Lit := [.int .i64 v, .int .u8 m.a, .int .u8 m.b, .int .u8 m.c, .int .u8 m.d, .int .u8 m.e, .int .u8 m.f]
theorem keyLits5 {x : Int} (h0 : 0 ≤ x) (h1 : x < 256) (m : Nat) : Try.prog.keyLits (m + 1) 5 [.int .u8 x] = some [.int .u8 x] := by
  simp [Program.keyLits, Try.underlying5, wf_u8 h0 h1]
theorem keyLits3 {x : Int} (h : I64 x) (m : Nat) : Try.prog.keyLits (m + 1) 3 [.int .i64 x] = some [.int .i64 x] := by
  simp [Program.keyLits, Try.underlying3, wf_i64 h]
theorem keyLits34 {x : Mc} (h : Mok x) (m : Nat) : Try.prog.keyLits (m + 2) 34 (mcl x) = some [.int .u8 x.a, .int .u8 x.b, .int .u8 x.c, .int .u8 x.d, .int .u8 x.e, .int .u8 x.f] := by
  obtain ⟨l0, u0, l1, u1, l2, u2, l3, u3, l4, u4, l5, u5⟩ := h
  have e0 := keyLits5 l0 u0 m; have e1 := keyLits5 l1 u1 m; have e2 := keyLits5 l2 u2 m; have e3 := keyLits5 l3 u3 m; have e4 := keyLits5 l4 u4 m; have e5 := keyLits5 l5 u5 m
  rw [Program.keyLits.eq_def]
  simp [Try.underlying34, Try.cells34, Try.cells5, mcl, show List.range 6 = [0, 1, 2, 3, 4, 5] from rfl, e0, e1, e2, e3, e4, e5]
theorem keyLits83 {v : Int} {x : Mc} (hv : I64 v) (h : Mok x) (m : Nat) : Try.prog.keyLits (m + 3) 83 (kcl v x) = some (klits v x) := by
  have e0 := keyLits3 hv (m + 1)
  have e1 := keyLits34 h m
  have e2 : List.take 6 (mcl x) = mcl x := rfl
  rw [Program.keyLits.eq_def]
  simp [Try.underlying83, Try.cells83, Try.cells34, Try.cells3, kcl, klits, e0, e1, e2, mcl_length]
theorem keyOf83 {v : Int} {x : Mc} (hv : I64 v) (h : Mok x) : ∃ kl, keyOf Try.prog 83 (KV v x) = some kl := by
  have hr := Try.row83
  obtain ⟨m, hm⟩ : ∃ m, Try.prog.types.size + 1 = m + 3 := by
    generalize Try.prog.types.size = q at hr
    exact ⟨q - 2, by have : 83 < q := hr; omega⟩
  have hf : (KV v x).formed Try.prog 83 = true := by simp [KV, KC, kcl, mcl, Value.formed, Try.underlying83, Try.cells83]
  refine ⟨.string (keyBytes (klits v x)), ?_⟩
  simp only [keyOf, Try.underlying83, Try.keyType83, hf, hm]
  rw [show (KV v x).cells.toList = kcl v x from rfl, keyLits83 hv h]
  rfl
/-- The program's map. -/
def Mp (w : World) (b : Nat) (l : List En) : Prop :=
  ∃ es clock, w.heap[b]? = some (.map es clock) ∧ Stamped es clock ∧ (es.toList.map fun e => (e.key, e.val)) = l.map fun x => (KV x.v x.m, .agg (EC x))
theorem KV_inj {v v' : Int} {m m' : Mc} (h : KV v m = KV v' m') : v = v' ∧ m = m' := by
  cases m; cases m'
  simp [KV, KC, kcl, mcl] at h
  obtain ⟨h1, h2, h3, h4, h5, h6, h7⟩ := h
  exact ⟨h1, by rw [h2, h3, h4, h5, h6, h7]⟩
theorem mp_get {es : Array MapEntry} {l : List En} (h : (es.toList.map fun e => (e.key, e.val)) = l.map fun x => (KV x.v x.m, .agg (EC x))) {j : Nat} {e : MapEntry} (hj : es.toList[j]? = some e) : ∃ x, l[j]? = some x ∧ e.key = KV x.v x.m ∧ e.val = .agg (EC x) := by
  have h1 := congrArg (fun x => x[j]?) h
  simp only [List.getElem?_map, hj, Option.map_some] at h1
  cases hm : l[j]? with
  | none => rw [hm] at h1; simp at h1
  | some m =>
    rw [hm] at h1
    simp at h1
    exact ⟨m, rfl, h1.1, h1.2⟩
theorem mp_keys {es : Array MapEntry} {l : List En} (h : (es.toList.map fun e => (e.key, e.val)) = l.map fun x => (KV x.v x.m, .agg (EC x))) (hS : Ok l) : ∀ e ∈ es.toList, ∃ kl, keyOf Try.prog 83 e.key = some kl := by
  intro e he
  obtain ⟨j, hj⟩ := List.getElem?_of_mem he
  obtain ⟨m, hm, hk, _⟩ := mp_get h hj
  have := hS m (List.mem_of_getElem? hm)
  rw [hk]
  exact keyOf83 this.v this.m
/-- Where the key stands, or that it does not. -/
theorem mp_find (w : World) {es : Array MapEntry} {l : List En} (h : (es.toList.map fun e => (e.key, e.val)) = l.map fun x => (KV x.v x.m, .agg (EC x))) (hS : Ok l) (hA : Apt l) {v : Int} {m : Mc} (hv : I64 v) (hm : Mok m) :
    ((Instr.findKey 83 (KV v m) es.toList).run Try.prog w = .ok none w ∧ (∀ e ∈ es.toList, e.key ≠ KV v m) ∧ hs l v m = false) ∨
    ∃ e, (Instr.findKey 83 (KV v m) es.toList).run Try.prog w = .ok (some (ix l v m, e.val)) w ∧ es.toList[ix l v m]? = some e ∧ e.key = KV v m ∧ hs l v m = true := by
  obtain ⟨kl, hkl⟩ := keyOf83 hv hm
  rcases Try.keyed.find w hkl es.toList (mp_keys h hS) with ⟨h1, h2⟩ | ⟨j, e, h1, h2, h3⟩
  · refine Or.inl ⟨h1, h2, ?_⟩
    rw [Bool.eq_false_iff]
    intro hc
    have hg := ix_get l v m hc
    have hk := (ky_iff _ _ _).1 (lk_ky l v m hc)
    have hh := congrArg (fun x => x[ix l v m]?) h
    simp only [List.getElem?_map, hg, Option.map_some] at hh
    cases he : es.toList[ix l v m]? with
    | none => rw [he] at hh; simp at hh
    | some e =>
      rw [he] at hh
      simp only [Option.map_some, Option.some.injEq, Prod.mk.injEq] at hh
      have := hh.1
      rw [hk.1, hk.2] at this
      exact h2 e (List.mem_of_getElem? he) this
  · obtain ⟨x, hx, hk, hval⟩ := mp_get h h2
    have e1 := KV_inj (hk.symm.trans h3)
    obtain ⟨i1, i2, i3⟩ := ix_of_get' hA hS hm hx ((ky_iff x v m).2 e1)
    subst i1
    exact Or.inr ⟨e, h1, h2, h3, i2⟩
theorem grown_setBlock {w : World} {b : Nat} {es : Array MapEntry} {clock : Nat} {o' : Obj} (hb : w.heap[b]? = some (.map es clock)) : w.grownBy (setBlock w b o') (some b) :=
  ⟨rfl, rfl, rfl, by simp [setBlock], fun i _ hi => heap_setBlock_other hb _ (fun e => hi (by rw [e]))⟩
theorem Mp.put {w : World} {b : Nat} {l : List En} (h : Mp w b l) (hS : Ok l) (hA : Apt l) {x : En} (hx : Eok x) :
    ∃ w', (Instr.mapUpdate 81 (.map (some b)) (KV x.v x.m) (.agg (EC x))).run Try.prog w = .ok () w' ∧ Mp w' b (pt l x) ∧ w.grownBy w' (some b) := by
  obtain ⟨es, clock, hb, hst, hl⟩ := h
  obtain ⟨kl, hkl⟩ := keyOf83 hx.v hx.m
  rcases mp_find w hl hS hA hx.v hx.m with ⟨h1, h2, h3⟩ | ⟨e0, h1, h2, h3, h5⟩
  · refine ⟨setBlock w b (.map (es.push ⟨KV x.v x.m, .agg (EC x), clock⟩) (clock + 1)), ?_, ⟨_, _, heap_setBlock_same hb _, stamped_push hst h2, ?_⟩, grown_setBlock hb⟩
    · simp [Instr.mapUpdate, run_underlying Try.underlying81, MapKept.run_getObj_map hb, Try.keyed.check w false hkl, h1, MapKept.run_setObj_map _ hb, Result.andThen, setBlock]
    · rw [pt, h3, if_neg (by simp), Array.toList_push, List.map_append, List.map_append, hl]
      rfl
  · have hj : es[ix l x.v x.m]? = some e0 := by simpa using h2
    have hkeyf : ∀ e', es[ix l x.v x.m]? = some e' → ({ e' with key := KV x.v x.m, val := .agg (EC x) } : MapEntry).key = e'.key := fun e' he' => by rw [hj] at he'; cases he'; exact h3.symm
    refine ⟨setBlock w b (.map (es.modify (ix l x.v x.m) (fun e' => { e' with key := KV x.v x.m, val := .agg (EC x) })) clock), ?_, ⟨_, _, heap_setBlock_same hb _, stamped_modify hst _ _ (fun _ _ => rfl) (fun e' _ he' => hkeyf e' he'), ?_⟩, grown_setBlock hb⟩
    · simp [Instr.mapUpdate, run_underlying Try.underlying81, MapKept.run_getObj_map hb, Try.keyed.check w false hkl, h1, hj, h3, Try.keyed.stays w hkl, MapKept.run_setObj_map _ hb, Result.andThen, setBlock]
    · rw [pt, h5, if_pos rfl, Array.toList_modify, ChangeMaps.modify_eq_set _ _ _ _ h2, List.map_set, List.map_set, hl]
theorem Mp.drop {w : World} {b : Nat} {l : List En} (h : Mp w b l) (hS : Ok l) (hA : Apt l) {v : Int} {m : Mc} (hv : I64 v) (hm : Mok m) (ty : TypeId) :
    ∃ w', (Builtin.delete_ #[81, 83] ty #[.map (some b), KV v m]).run Try.prog w = .ok (.tuple #[]) w' ∧ Mp w' b (rm l v m) ∧ w.grownBy w' (some b) := by
  obtain ⟨es, clock, hb, hst, hl⟩ := h
  obtain ⟨kl, hkl⟩ := keyOf83 hv hm
  rcases mp_find w hl hS hA hv hm with ⟨h1, h2, h3⟩ | ⟨e0, h1, h2, h3, h5⟩
  · refine ⟨setBlock w b (.map es clock), ?_, ⟨_, _, heap_setBlock_same hb _, hst, ?_⟩, grown_setBlock hb⟩
    · simp [Builtin.delete_, run_underlying Try.underlying81, MapKept.run_getObj_map hb, Try.keyed.check w _ hkl, h1, MapKept.run_setObj_map _ hb, Result.andThen, setBlock]
    · rw [rm_no h3, hl]
  · have hjs : ix l v m < es.size := by have := (List.getElem?_eq_some_iff.1 h2).1; simpa using this
    have hsub : (es.eraseIdxIfInBounds (ix l v m)).toList = es.toList.eraseIdx (ix l v m) := by
      unfold Array.eraseIdxIfInBounds
      rw [dif_pos hjs]
      simp
    refine ⟨setBlock w b (.map (es.eraseIdxIfInBounds (ix l v m)) clock), ?_, ⟨_, _, heap_setBlock_same hb _, stamped_erase hst _, ?_⟩, grown_setBlock hb⟩
    · simp [Builtin.delete_, run_underlying Try.underlying81, MapKept.run_getObj_map hb, Try.keyed.check w _ hkl, h1, MapKept.run_setObj_map _ hb, Result.andThen, setBlock]
    · rw [hsub, rm_erase hA hS hm, ChangeMaps.map_eraseIdx, ChangeMaps.map_eraseIdx, hl]
theorem Mp.block {w w1 : World} {b : Nat} {l : List En} (h : Mp w b l) (e : w1.heap[b]? = w.heap[b]?) : Mp w1 b l := by
  obtain ⟨es, clock, hb, r⟩ := h
  exact ⟨es, clock, e.trans hb, r⟩
theorem Mp.lt {w : World} {b : Nat} {l : List En} (h : Mp w b l) : b < w.heap.size := by
  obtain ⟨es, clock, hb, _⟩ := h
  exact (Array.getElem?_eq_some_iff.1 hb).1
theorem Mp.on {w w1 : World} {b : Nat} {l : List En} (h : Mp w b l) (hb : Below w.heap.size w w1) : Mp w1 b l := h.block (hb.block b h.lt)
theorem Mp.drew {w : World} {b : Nat} {l : List En} (h : Mp w b l) : Mp w.drew b l := h.block rfl
theorem mp_new (w : World) : Mp (w.alloc (.map #[] 0)) w.heap.size [] := ⟨#[], 0, (MapKept.heap_alloc w _).1, stamped_empty 0, rfl⟩
end Go.Proofs.Ytjlmheecefobaaa
