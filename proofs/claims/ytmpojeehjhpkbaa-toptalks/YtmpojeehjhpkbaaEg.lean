/- Contracts of Tag and Untag, as the program and as the document has them; results that lie in memory. -/
import Derived.Test.YtmpojeehjhpkbaaE5
import Derived.Laws.ResultCell
namespace Go.Proofs.Ytmpojeehjhpkbaa
open Go.RowKit

theorem res_frame {fn : Func} {p : Tmp} (h : fn.results = #[.cell p 26]) {tmps : Array Value} {w : World} {k : Nat} {f : Fd} {b : Value} (hp : tmps.getD p undef = .pointer (some ⟨k, 0, none⟩)) (hA : AtF w k f b) :
    (results fn tmps).run Try.prog w = .ok (.agg #[.int .u8 f.d0, .int .u8 f.d1, .int .u8 f.d2, .int .u8 f.d3, .int .u8 f.d4, .int .u8 f.d5, .int .u8 f.s0, .int .u8 f.s1, .int .u8 f.s2, .int .u8 f.s3, .int .u8 f.s4, .int .u8 f.s5, .bool f.tg, .int .i64 f.vl, .int .i64 f.pr, .int .i64 f.ty, b]) w := by
  have hl := run_loadVar_mid (P := Try.prog) w k 0 26 _ _ hA.all Try.underlying26 rfl Try.size26
  have hp' : tmps[p]?.getD undef = .pointer (some ⟨k, 0, none⟩) := by simpa using hp
  simp only [results, h]
  simp [hp', asAddr, hl]
theorem res_frame_tmp {fn : Func} {p u : Tmp} (h : fn.results = #[.cell p 26, .tmp u]) {tmps : Array Value} {w : World} {k : Nat} {f : Fd} {b : Value} (hp : tmps.getD p undef = .pointer (some ⟨k, 0, none⟩)) (hA : AtF w k f b) :
    (results fn tmps).run Try.prog w = .ok (.tuple #[.agg #[.int .u8 f.d0, .int .u8 f.d1, .int .u8 f.d2, .int .u8 f.d3, .int .u8 f.d4, .int .u8 f.d5, .int .u8 f.s0, .int .u8 f.s1, .int .u8 f.s2, .int .u8 f.s3, .int .u8 f.s4, .int .u8 f.s5, .bool f.tg, .int .i64 f.vl, .int .i64 f.pr, .int .i64 f.ty, b], tmps.getD u undef]) w := by
  have hl := run_loadVar_mid (P := Try.prog) w k 0 26 _ _ hA.all Try.underlying26 rfl Try.size26
  rw [results_cell_tmp h, hp]
  simp [asAddr, Result.andThen, hl]
theorem Byt.kept {w w1 : World} {k : Nat} {ao : Option Addr} {n c : Nat} {ns : List Int} (h : Byt w ao n c ns) (hne : ∀ b o, ao = some ⟨b, o, none⟩ → b ≠ k) (hg : w.grownBy w1 (some k)) : Byt w1 ao n c ns :=
  ⟨h.len, h.nil, fun j hj => by
    obtain ⟨b, o, e, hc⟩ := h.cell j hj
    exact ⟨b, o, e, hg.cell hc (fun e2 => hne b o e (Option.some.inj e2))⟩, h.le, h.mx, h.rng⟩
theorem AtF.kept {w w1 : World} {k r : Nat} {f : Fd} {b : Value} (h : AtF w k f b) (hne : k ≠ r) (hg : w.grownBy w1 (some r)) : AtF w1 k f b := by
  have hn : ∀ i, some (⟨k, i, none⟩ : Addr).block ≠ some r := fun i e => hne (Option.some.inj e)
  exact ⟨Nat.lt_of_lt_of_le h.lt hg.size, hg.cell h.c0 (hn 0), hg.cell h.c1 (hn 1), hg.cell h.c2 (hn 2), hg.cell h.c3 (hn 3), hg.cell h.c4 (hn 4), hg.cell h.c5 (hn 5), hg.cell h.c6 (hn 6), hg.cell h.c7 (hn 7), hg.cell h.c8 (hn 8), hg.cell h.c9 (hn 9), hg.cell h.c10 (hn 10), hg.cell h.c11 (hn 11), hg.cell h.c12 (hn 12), hg.cell h.c13 (hn 13), hg.cell h.c14 (hn 14), hg.cell h.c15 (hn 15), hg.cell h.c16 (hn 16)⟩
theorem setCell_grown (w : World) (k i : Nat) (v : Value) : w.grownBy (w.setCell ⟨k, i, none⟩ v) (some k) := setCells_grown k [v] i w
theorem AtF.set16 {w : World} {k : Nat} {f : Fd} {b : Value} (h : AtF w k f b) (v : Value) : AtF (w.setCell ⟨k, 16, none⟩ v) k f v := by
  have e : ∀ i, i ≠ 16 → (w.setCell ⟨k, 16, none⟩ v).cell? ⟨k, i, none⟩ = w.cell? ⟨k, i, none⟩ := fun i hi => World.cell?_setCell_other _ _ _ _ (fun e => hi (congrArg Addr.off e).symm)
  exact ⟨by simpa [World.setCell] using h.lt, by rw [e 0 (by omega)]; exact h.c0, by rw [e 1 (by omega)]; exact h.c1, by rw [e 2 (by omega)]; exact h.c2, by rw [e 3 (by omega)]; exact h.c3, by rw [e 4 (by omega)]; exact h.c4, by rw [e 5 (by omega)]; exact h.c5, by rw [e 6 (by omega)]; exact h.c6, by rw [e 7 (by omega)]; exact h.c7, by rw [e 8 (by omega)]; exact h.c8, by rw [e 9 (by omega)]; exact h.c9, by rw [e 10 (by omega)]; exact h.c10, by rw [e 11 (by omega)]; exact h.c11, by rw [e 12 (by omega)]; exact h.c12, by rw [e 13 (by omega)]; exact h.c13, by rw [e 14 (by omega)]; exact h.c14, by rw [e 15 (by omega)]; exact h.c15, World.cell?_setCell_same _ _ _ h.c16⟩
theorem there_on {w w1 : World} {k n : Nat} (h : w.there k 0 n) (hk : k < w.heap.size) (hb : Below w.heap.size w w1) : w1.there k 0 n := fun j hj =>
  ⟨by rw [hb.cell (p := ⟨k, 0 + j, none⟩) hk]; exact (h j hj).1, by rw [hb.frozen (p := ⟨k, 0 + j, none⟩) hk]; exact (h j hj).2⟩
theorem there_kept {w w1 : World} {k r n : Nat} (h : w.there k 0 n) (hk : k < w.heap.size) (hne : k ≠ r) (hg : w.grownBy w1 (some r)) : w1.there k 0 n := fun j hj => by
  have hb : w1.heap[k]? = w.heap[k]? := hg.block k hk (fun e => hne (Option.some.inj e))
  exact ⟨by rw [World.cell?_of_block (a := ⟨k, 0 + j, none⟩) hb]; exact (h j hj).1, by rw [World.frozen?_of_block (a := ⟨k, 0 + j, none⟩) hb]; exact (h j hj).2⟩
theorem there_new (w : World) (cs : Array Value) (e : TypeId) : (w.alloc (.cells cs e)).there w.heap.size 0 cs.size := fun j hj => by
  rw [Nat.zero_add]
  have hg : (w.alloc (.cells cs e)).heap[w.heap.size]? = some (.cells cs e (0, 0)) := heap_alloc_new w _
  refine ⟨?_, ?_⟩
  · rw [cell_of_row _ _ j _ _ _ hg, Array.getElem?_eq_getElem hj]; rfl
  · show (match (w.alloc (.cells cs e)).heap[w.heap.size]? with | some (.cells _ _ (lo, hi)) => decide (lo ≤ j) && decide (j < hi) | _ => false) = false
    rw [hg]
    simp
theorem below_grown {B : Nat} {w w1 w2 : World} {k : Nat} (hb : Below B w w1) (hg : w1.grownBy w2 (some k)) (hk : B ≤ k) (hs : B ≤ w1.heap.size) : Below B w w2 :=
  hb.grown hg hs (fun r hr => by have := Option.some.inj hr; omega)
theorem own_fresh {w : World} {base : Nat} {v : Value} {n : Nat} {ns : List Int} (h : w.ownsRow base 5 1 v n (ns.map (Value.int .u8))) (hr : Rng ns) : ∃ ao c, v = .slice ao n c ∧ Byt w ao n c ns ∧ ∀ b o, ao = some ⟨b, o, none⟩ → base ≤ b := by
  obtain ⟨ao, c, rfl, hb⟩ := own_byt h hr
  refine ⟨ao, c, rfl, hb, fun b o e => ?_⟩
  subst e
  exact (h.lt b rfl).1
set_option maxRecDepth 100000 in
set_option maxHeartbeats 1000000 in
theorem cloneF (ao : Option Addr) (n c : Nat) (ns : List Int) (w : World) (h : Byt w ao n c ns) (hn : n ≤ 5000) :
    Calls Try.prog 31 #[.slice ao n c] w fun e w' => ∃ ao' c', e = .returned (.slice ao' n c') ∧ Byt w' ao' n c' ns ∧ (∀ b o, ao' = some ⟨b, o, none⟩ → w.heap.size ≤ b) ∧ Below w.heap.size w w' := by
  have q24 : ∀ (w : World) (a : Option Addr) (n c n' c' : Nat), (binOp .eql 24 (.slice a n c) (.slice none n' c')).run Try.prog w = .ok (.bool a.isNone) w := fun w a n c n' c' => Lib.run_eql_slice_nil w _ _ a n c n' c' Try.underlying24
  cases ao with
  | none =>
    obtain ⟨rfl, rfl⟩ := h.nil rfl
    go_enter Try.func31, Try.ntmps31
    go_wp2
    go_ret
    exact ⟨none, 0, rfl, h, fun b o e => (by cases e), Below.refl _ _⟩
  | some ad =>
    obtain ⟨i0, hi, hz0, hz1, hz2⟩ := info_parts Try.info5
    have hlen := h.len
    have hsrc := hide (h.alloc (.cells #[] 5)).src
    have hown : (w.alloc (.cells #[] 5)).ownsRow w.heap.size 5 1 (.slice (some ⟨w.heap.size, 0, none⟩) 0 0) 0 [] := World.ownsRow_made w #[] 0 (Nat.le_refl _) (Nat.zero_le _) rfl
    have HO := hide hown
    clear hown
    go_enter Try.func31, Try.ntmps31
    go_wp2_with (at_builtin; refine wpList_append_own _ rfl (.tmp 5) (.tmp 6) 24 rfl w.heap.size 5 i0 (.int .u8 0) 1 1 Try.underlying24 hi hz0 hz1 hz2 rfl (by decide) (.slice (some ⟨w.heap.size, 0, none⟩) 0 0) 0 [] rfl HO.out ad n c (ns.map (Value.int .u8)) rfl (by simp [hlen]) hsrc.out (one_u8 ns) (by unfold maxLen; omega) (by omega) (by simp) ?_)
    intro v' w1 hown1 hgrow _
    have hB : Below w.heap.size w w1 := (below_alloc w _).grown hgrow (by simp) (fun k hk => by have := Option.some.inj hk; simp at this; omega)
    obtain ⟨ao', c', hv, hbyt, hfr⟩ := own_fresh hown1 h.rng
    have HF := hide hfr
    have HV := hide hv
    clear hgrow hown1 hsrc HO hv hfr
    go_wp2
    go_ret
    exact ⟨ao', c', by rw [HV.out]; rfl, hbyt, HF.out, hB⟩

/-- A frame without a tag, and with one. -/
def ut (f : Fd) : Fd := { f with tg := false, vl := 0, pr := 0 }
def tgf (f : Fd) (v p : Int) : Fd := { f with tg := true, vl := v, pr := p }
theorem ut_B {f : Fd} (h : FdB f) : FdB (ut f) := ⟨h.a, h.b⟩
theorem tgf_B {f : Fd} (h : FdB f) (v p : Int) : FdB (tgf f v p) := ⟨h.a, h.b⟩

end Go.Proofs.Ytmpojeehjhpkbaa
