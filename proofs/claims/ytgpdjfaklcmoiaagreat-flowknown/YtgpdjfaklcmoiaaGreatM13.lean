/- Contracts: the document's Members; SameInts. · Memory: the program's bridge. · What goes out, of a list of ports: plain; what the rounds of a loop over a function leave as it was. · Contracts: hasPort, State, Set, Vlans, Stations, Counts, Learned of the program's bridge. · The iterator of the ports that may send, for every loop body. · What the body of the loop over the ports wants: loads, builds inside a round; its invariant; Out of the program for any frame; senders. · Contracts: the closures that say which ports are meant. · Contract: the loop over the ports, for Relay. · Contracts: Relay and learn of the program's bridge. -/
import Derived.Test.YtgpdjfaklcmoiaaGreatM03
import Derived.Test.YtgpdjfaklcmoiaaGreatM12
import Derived.RangeFuncBox
import Derived.RangeFuncLeaves
import Derived.RangeFuncNested
import Derived.Shelf.Abstract
import Derived.WalkKit
import Derived.OwnWalkIn
import Derived.TacticsInMore
import Derived.LoopNIn
import Derived.LoopIn
import Derived.Sort.QuietIn
import Derived.Maps.AppendAt
/- Contracts: the document's Members; SameInts. -/
namespace Go.Proofs.YtgpdjfaklcmoiaaGreat
open Go.RowKit Go.PlainAid

theorem drewB {N : Nat} {w w1 : World} (h : Below N w w1) (q : Nat) : Below N w (w1.drewN q) := by
  induction q with
  | zero => exact h
  | succ q ih => exact ih.drew
theorem eq_of_all {xs ys : List Int} {n : Nat} (h1 : xs.length = n) (h2 : ys.length = n) (h : ∀ j, j < n → xs.getD j 0 = ys.getD j 0) : xs = ys := by
  apply List.ext_getElem?
  intro j
  by_cases hj : j < n
  · have := h j hj
    rw [List.getD_eq_getElem?_getD, List.getD_eq_getElem?_getD, List.getElem?_eq_getElem (by omega), List.getElem?_eq_getElem (by omega)] at this
    rw [List.getElem?_eq_getElem (by omega), List.getElem?_eq_getElem (by omega)]
    simpa using this
  · rw [List.getElem?_eq_none (by omega), List.getElem?_eq_none (by omega)]
set_option maxRecDepth 100000 in
set_option maxHeartbeats 4000000 in
theorem same12 (A B : Nat) (ao bo : Option Addr) (n m c d : Nat) (xs ys : List Int) (w : World) (hx : Its w A ao n c xs) (hy : Its w B bo m d ys) :
    Calls Tryz.prog 30 #[.slice ao n c, .slice bo m d] w fun e w' => e = .returned (.bool (decide (xs = ys))) ∧ Below w.heap.size w w' := by
  have lx := hx.len
  have ly := hy.len
  have mx := hx.le
  have mx' := hx.mx
  have my := hy.le
  have my' := hy.mx
  unfold maxLen at mx' my'
  have HX := hide hx
  have HY := hide hy
  clear hx hy
  by_cases hnm : n = m
  · subst hnm
    go_enter Tryz.func30, Tryz.ntmps30
    go_wp2
    go_loopw [5] (fun i wr => ∃ k : Nat, k ≤ n ∧ i = .int .i64 k ∧ (∀ j, j < k → xs.getD j 0 = ys.getD j 0) ∧ Below w.heap.size w wr) (fun i _ => n - (intOf i).toNat)
    case atStart => exact ⟨0, Nat.zero_le _, rfl, fun j hj => by omega, Below.refl _ _⟩
    case round =>
      obtain ⟨k, hk, rfl, hE, hB⟩ := hrel
      by_cases hlt : k < n
      · have hlt' : (k : Int) < n := by omega
        have X := HX.out.on hB
        have Y := HY.out.on hB
        obtain ⟨b1, o1, rfl, hc1, -⟩ := X.at (by omega)
        obtain ⟨b2, o2, rfl, hc2, -⟩ := Y.at (by omega)
        have x1 := hc1 k hlt
        have y1 := hc2 k hlt
        have HE := hide hE
        have HB := hide hB
        clear hc1 hc2 X Y hE hB
        by_cases hxy : xs.getD k 0 = ys.getD k 0
        · have HK := hide hxy
          rw [hxy] at x1
          clear hxy
          generalize ys.getD k 0 = y at x1 y1
          have e9 : (y != y) = false := by simp
          go_wp2
          go_quiet (fail)
          go_wp2
          go_roundw
          case rel => exact ⟨k + 1, by omega, by go_num, fun j hj => by
            by_cases hjk : j = k
            · subst hjk; exact HK.out
            · exact HE.out j (by omega), drewB HB.out _⟩
          case measure => simp [intOf]; omega
        · have HK : Hid (¬ xs = ys) := hide (fun e => hxy (by rw [e]))
          have e9 : (xs.getD k 0 != ys.getD k 0) = true := by simpa using hxy
          clear hxy
          generalize ys.getD k 0 = y at *
          generalize xs.getD k 0 = x at *
          go_wp2
          go_quiet (fail)
          go_wp2
          go_ret
          exact ⟨ret_bool (by simp [HK.out]), drewB HB.out _⟩
      · have HK : Hid (xs = ys) := hide (eq_of_all lx ly (fun j hj => hE j (by omega)))
        have HB := hide hB
        clear hE hB
        go_wp2
        go_ret
        exact ⟨ret_bool (by simp [HK.out]), HB.out⟩
  · have HK : Hid (¬ xs = ys) := hide (fun e => hnm (by rw [← lx, ← ly, e]))
    have h9 : ((n : Int) != m) = true := by simp; omega
    clear hnm
    go_enter Tryz.func30, Tryz.ntmps30
    go_wp2
    go_ret
    exact ⟨ret_bool (by simp [HK.out]), Below.refl _ _⟩
end Go.Proofs.YtgpdjfaklcmoiaaGreat
/- Memory: the program's bridge. -/
namespace Go.Proofs.YtgpdjfaklcmoiaaGreat
open Go.RowKit Go.PlainAid

/-- Where the program's bridge lies: its blocks are lo up to hi; itself at g, its ports' states at gs; the VLANs' table at h, the stations' at hf. -/
structure PAd where
  lo : Nat
  hi : Nat
  g : Nat
  gs : Nat
  h : Nat
  hf : Nat
def pbc (A : PAd) (B : Br) : List Value := [.pointer (some ⟨A.h + 2, 0, none⟩), .pointer (some ⟨A.hf + 1, 0, none⟩), .slice (some ⟨A.gs, 0, none⟩) (B.n + 1) (B.n + 1)] ++ (nsl B.ct ++ nsl B.ln)
structure PB (w : World) (A : PAd) (B : Br) : Prop where
  bx : Box w A.g (pbc A B)
  ss : Box w A.gs (nsl B.st)
  pv : PT w A.h B.V
  pf : ∃ ps, PF w A.hf ps B.F
  wf : Bw B
  o : A.lo ≤ A.h ∧ A.h + 3 ≤ A.hf ∧ A.hf + 2 ≤ A.gs ∧ A.hf + 2 ≤ A.g ∧ A.gs ≠ A.g ∧ A.gs < A.hi ∧ A.g < A.hi ∧ A.hi ≤ w.heap.size
theorem PB.keepS {w w1 : World} {A : PAd} {B : Br} (H : PB w A B) (hs : w.heap.size ≤ w1.heap.size) (e : ∀ k, A.lo ≤ k → k < A.hi → w1.heap[k]? = w.heap[k]?) : PB w1 A B := by
  have o := H.o
  refine ⟨H.bx.block (e _ (by omega) (by omega)), H.ss.block (e _ (by omega) (by omega)), H.pv.keep (fun k h1 h2 => e k (by omega) (by omega)), ?_, H.wf, by omega⟩
  obtain ⟨ps, hp⟩ := H.pf
  exact ⟨ps, hp.keep (fun k h1 h2 => e k (by omega) (by omega))⟩
theorem heap_size_of {w w1 : World} {n : Nat} (h0 : 0 < n) (hn : n ≤ w.heap.size) (e : w1.heap[n - 1]? = w.heap[n - 1]?) : n ≤ w1.heap.size := by
  have h1 : w.heap[n - 1]? = some (w.heap[n - 1]'(by omega)) := Array.getElem?_eq_getElem (by omega)
  rw [h1] at e
  have := (Array.getElem?_eq_some_iff.1 e).1
  omega
theorem PB.keep {w w1 : World} {A : PAd} {B : Br} (H : PB w A B) (e : ∀ k, A.lo ≤ k → k < A.hi → w1.heap[k]? = w.heap[k]?) : PB w1 A B := by
  have o := H.o
  refine ⟨H.bx.block (e _ (by omega) (by omega)), H.ss.block (e _ (by omega) (by omega)), H.pv.keep (fun k h1 h2 => e k (by omega) (by omega)), ?_, H.wf, ⟨by omega, by omega, by omega, by omega, by omega, by omega, by omega, heap_size_of (by omega) o.2.2.2.2.2.2.2 (e _ (by omega) (by omega))⟩⟩
  obtain ⟨ps, hp⟩ := H.pf
  exact ⟨ps, hp.keep (fun k h1 h2 => e k (by omega) (by omega))⟩
theorem PB.lt {w : World} {A : PAd} {B : Br} (H : PB w A B) : A.lo ≤ A.h ∧ A.h + 3 ≤ A.hi ∧ A.lo ≤ A.hf ∧ A.hf + 2 ≤ A.hi ∧ A.hi ≤ w.heap.size := by
  have o := H.o
  omega
theorem PB.on {w w1 : World} {A : PAd} {B : Br} (H : PB w A B) (hb : Below w.heap.size w w1) : PB w1 A B := H.keep (fun k _ h2 => hb.block k (by have := H.lt; omega))
theorem PB.drew {w : World} {A : PAd} {B : Br} (H : PB w A B) : PB w.drew A B := H.keep (fun _ _ _ => rfl)
theorem PB.vlan {w w1 : World} {A : PAd} {B : Br} {V' : Tb} (H : PB w A B) (R : PT w1 A.h V') (M : Mid A.h (A.h + 3) w w1) (hn : V'.n = B.V.n) : PB w1 A { B with V := V' } := by
  have o := H.o
  have e : ∀ k, k < A.hi → k < A.h ∨ A.h + 3 ≤ k → w1.heap[k]? = w.heap[k]? := fun k h1 h2 => M.block k (by omega) h2
  have s := M.size
  have b := H.wf
  refine ⟨H.bx.block (e _ (by omega) (by omega)), H.ss.block (e _ (by omega) (by omega)), R, ?_, ⟨b.n1, b.n2, hn.trans b.vn, R.wf, b.fw, b.sl, b.ss, b.cl, b.cs, b.ll, b.ls⟩, by omega⟩
  obtain ⟨ps, hp⟩ := H.pf
  exact ⟨ps, hp.keep (fun k h1 h2 => e k (by omega) (by omega))⟩
theorem PB.fdb {w w1 : World} {A : PAd} {B : Br} {ps : List En} {F' : FT} (H : PB w A B) (R : PF w1 A.hf ps F') (M : Mid A.hf (A.hf + 2) w w1) (_hn : F'.n = B.F.n) : PB w1 A { B with F := F' } := by
  have o := H.o
  have e : ∀ k, k < A.hi → k < A.hf ∨ A.hf + 2 ≤ k → w1.heap[k]? = w.heap[k]? := fun k h1 h2 => M.block k (by omega) h2
  have s := M.size
  have b := H.wf
  exact ⟨H.bx.block (e _ (by omega) (by omega)), H.ss.block (e _ (by omega) (by omega)), H.pv.keep (fun k h1 h2 => e k (by omega) (by omega)), ⟨ps, R⟩, ⟨b.n1, b.n2, b.vn, b.vw, R.wf, b.sl, b.ss, b.cl, b.cs, b.ll, b.ls⟩, by omega⟩
theorem pbc_get (A : PAd) (B : Br) (h : B.ct.length = 9) {j : Nat} (hj : j < B.ln.length) : (pbc A B)[12 + j]? = some (.int .i64 (B.ln.getD j 0)) := by
  unfold pbc
  rw [List.getElem?_append_right (by simp; omega), List.getElem?_append_right (by simp [nsl, h]; omega)]
  have e : 12 + j - [Value.pointer (some ⟨A.h + 2, 0, none⟩), .pointer (some ⟨A.hf + 1, 0, none⟩), .slice (some ⟨A.gs, 0, none⟩) (B.n + 1) (B.n + 1)].length - (nsl B.ct).length = j := by simp [nsl, h]; omega
  rw [e]
  exact nsl_get hj
theorem pbc_getC (A : PAd) (B : Br) {j : Nat} (hj : j < B.ct.length) : (pbc A B)[3 + j]? = some (.int .i64 (B.ct.getD j 0)) := by
  unfold pbc
  rw [List.getElem?_append_right (by simp), List.getElem?_append_left (by simp [nsl]; omega)]
  have e : 3 + j - [Value.pointer (some ⟨A.h + 2, 0, none⟩), .pointer (some ⟨A.hf + 1, 0, none⟩), .slice (some ⟨A.gs, 0, none⟩) (B.n + 1) (B.n + 1)].length = j := by simp
  rw [e]
  exact nsl_get hj
theorem pbc_len (A : PAd) (B : Br) (h : B.ct.length = 9) (h2 : B.ln.length = 3) : (pbc A B).length = 15 := by simp [pbc, nsl, h, h2]
theorem pbc_setL (A : PAd) (B : Br) (h : B.ct.length = 9) (j : Nat) (x : Int) : (pbc A B).set (12 + j) (.int .i64 x) = pbc A { B with ln := B.ln.set j x } := by
  unfold pbc
  rw [List.set_append_right _ _ (by simp; omega), List.set_append_right _ _ (by simp [nsl, h]; omega)]
  have e : 12 + j - [Value.pointer (some ⟨A.h + 2, 0, none⟩), .pointer (some ⟨A.hf + 1, 0, none⟩), .slice (some ⟨A.gs, 0, none⟩) (B.n + 1) (B.n + 1)].length - (nsl B.ct).length = j := by simp [nsl, h]; omega
  rw [e, nsl_set]
theorem pbc_setC (A : PAd) (B : Br) {j : Nat} (hj : j < B.ct.length) (x : Int) : (pbc A B).set (3 + j) (.int .i64 x) = pbc A { B with ct := B.ct.set j x } := by
  unfold pbc
  rw [List.set_append_right _ _ (by simp), List.set_append_left _ _ (by simp [nsl]; omega)]
  have e : 3 + j - [Value.pointer (some ⟨A.h + 2, 0, none⟩), .pointer (some ⟨A.hf + 1, 0, none⟩), .slice (some ⟨A.gs, 0, none⟩) (B.n + 1) (B.n + 1)].length = j := by simp
  rw [e, nsl_set]
theorem mid_grownP {N M k : Nat} {w w1 : World} (g : w.grownBy w1 (some k)) (h1 : N ≤ k) (h2 : k < M) : Mid N M w w1 := (Mid.refl N M w).grown g (Or.inr ⟨h1, h2⟩)
/-- A count of learning, or of causes, was written. -/
theorem PB.own {w : World} {A : PAd} {B B' : Br} (H : PB w A B) {j : Nat} {x : Value} (hj : j < (pbc A B).length) (e : (pbc A B).set j x = pbc A B') (hV : B'.V = B.V) (hF : B'.F = B.F) (hS : B'.st = B.st) (hw : Bw B') :
    PB (w.setCell ⟨A.g, j, none⟩ x) A B' ∧ Mid A.lo A.hi w (w.setCell ⟨A.g, j, none⟩ x) := by
  have g := setCell_grown w A.g j x
  have o := H.o
  have kk : ∀ i, i < A.hi → i ≠ A.g → (w.setCell ⟨A.g, j, none⟩ x).heap[i]? = w.heap[i]? := fun i hi h1 => g.block i (by omega) (fun e => h1 (Option.some.inj e))
  have s := g.size
  refine ⟨⟨by rw [← e]; exact H.bx.setAt hj x, by rw [hS]; exact H.ss.block (kk _ (by omega) (by omega)), by rw [hV]; exact H.pv.keep (fun k h1 h2 => kk k (by omega) (by omega)), ?_, hw, by omega⟩, mid_grownP g (by omega) (by omega)⟩
  obtain ⟨ps, hp⟩ := H.pf
  rw [hF]
  exact ⟨ps, hp.keep (fun k h1 h2 => kk k (by omega) (by omega))⟩
theorem PB.incL {w : World} {A : PAd} {B : Br} (H : PB w A B) {j : Nat} (hj : j < 3) (hs : ∀ x ∈ B.ln, x + 1 < 1000000) :
    PB (w.setCell ⟨A.g, 12 + j, none⟩ (.int .i64 (B.ln.getD j 0 + 1))) A { B with ln := inc B.ln j } ∧ Mid A.lo A.hi w (w.setCell ⟨A.g, 12 + j, none⟩ (.int .i64 (B.ln.getD j 0 + 1))) := by
  have b := H.wf
  have hm : B.ln.getD j 0 ∈ B.ln := by
    rw [List.getD_eq_getElem?_getD, List.getElem?_eq_getElem (by rw [b.ll]; exact hj)]
    exact List.getElem_mem _
  have h1 := hs _ hm
  have h0 := (b.ls _ hm).1
  exact H.own (B' := { B with ln := inc B.ln j }) (by rw [pbc_len _ _ b.cl b.ll]; omega) (pbc_setL A B b.cl j _) rfl rfl rfl ⟨b.n1, b.n2, b.vn, b.vw, b.fw, b.sl, b.ss, b.cl, b.cs, by simp [inc, b.ll], sml_set b.ls _ (by omega) (by omega)⟩
theorem PB.incC {w : World} {A : PAd} {B : Br} (H : PB w A B) {j : Nat} (hj : j < 9) (hs : ∀ x ∈ B.ct, x + 1 < 1000000) :
    PB (w.setCell ⟨A.g, 3 + j, none⟩ (.int .i64 (B.ct.getD j 0 + 1))) A { B with ct := inc B.ct j } ∧ Mid A.lo A.hi w (w.setCell ⟨A.g, 3 + j, none⟩ (.int .i64 (B.ct.getD j 0 + 1))) := by
  have b := H.wf
  have hm : B.ct.getD j 0 ∈ B.ct := by
    rw [List.getD_eq_getElem?_getD, List.getElem?_eq_getElem (by rw [b.cl]; exact hj)]
    exact List.getElem_mem _
  have h1 := hs _ hm
  have h0 := (b.cs _ hm).1
  exact H.own (B' := { B with ct := inc B.ct j }) (by rw [pbc_len _ _ b.cl b.ll]; omega) (pbc_setC A B (by rw [b.cl]; exact hj) _) rfl rfl rfl ⟨b.n1, b.n2, b.vn, b.vw, b.fw, b.sl, b.ss, by simp [inc, b.cl], sml_set b.cs _ (by omega) (by omega), b.ll, b.ls⟩
/-- A state was set. -/
theorem PB.setS {w : World} {A : PAd} {B : Br} (H : PB w A B) {k : Nat} {s : Int} (hp : hasP B.n k = true) (hs : isS s = true) :
    PB (w.setCell ⟨A.gs, k, none⟩ (.int .i64 s)) A (tSet B k s) ∧ Mid A.lo A.hi w (w.setCell ⟨A.gs, k, none⟩ (.int .i64 s)) := by
  have e : tSet B k s = { B with st := B.st.set k s } := by unfold tSet; rw [hp, hs, Int.toNat_natCast]; rfl
  have g := setCell_grown w A.gs k (.int .i64 s)
  have o := H.o
  have kk : ∀ i, i < A.hi → i ≠ A.gs → (w.setCell ⟨A.gs, k, none⟩ (.int .i64 s)).heap[i]? = w.heap[i]? := fun i hi h1 => g.block i (by omega) (fun e => h1 (Option.some.inj e))
  have hk : k < B.st.length := by have := (hasP_iff _ _).1 hp; rw [H.wf.sl]; omega
  have sz := g.size
  rw [e]
  refine ⟨⟨H.bx.block (kk _ (by omega) (by omega)), ?_, H.pv.keep (fun k h1 h2 => kk k (by omega) (by omega)), ?_, ?_, by omega⟩, mid_grownP g (by omega) (by omega)⟩
  · have b := H.ss.setAt (j := k) (by simp [nsl]; exact hk) (.int .i64 s)
    rw [nsl_set] at b
    exact b
  · obtain ⟨ps, hp⟩ := H.pf
    exact ⟨ps, hp.keep (fun k h1 h2 => kk k (by omega) (by omega))⟩
  · have b := H.wf
    refine ⟨b.n1, b.n2, b.vn, b.vw, b.fw, by simp [b.sl], fun x hx => ?_, b.cl, b.cs, b.ll, b.ls⟩
    rcases List.mem_or_eq_of_mem_set hx with hx | rfl
    · exact b.ss x hx
    · exact (isS_iff _).1 hs
/-- What the program's bridge hands out: all of it new. -/
def OwnO (w : World) (ao : Option Addr) (xs : List Ow) : Prop := (∀ b o, ao = some ⟨b, o, none⟩ → w.heap.size ≤ b) ∧ ∀ x ∈ xs, ∀ b o, x.a = some ⟨b, o, none⟩ → 0 < x.n → w.heap.size ≤ b
end Go.Proofs.YtgpdjfaklcmoiaaGreat
/- What goes out, of a list of ports: plain; what the rounds of a loop over a function leave as it was. -/
namespace Go.Proofs.YtgpdjfaklcmoiaaGreat
open Go.RowKit Go.PlainAid

def okP (B : Br) (u p : Int) : Bool := (p != u) && (sta B p == 2)
def sel (B : Br) (u : Int) (l : List Int) : List Int := l.filter (okP B u)
def ols (B : Br) (v : Int) (f : Fd) (M : Int → Bool) : List Int → List Ot
  | [] => []
  | p :: r => (if M p && (ouE B.V v p f == 0) then [⟨p, ouF B.V v p f⟩] else []) ++ ols B v f M r
theorem ols_append (B : Br) (v : Int) (f : Fd) (M : Int → Bool) (a b : List Int) : ols B v f M (a ++ b) = ols B v f M a ++ ols B v f M b := by
  induction a with
  | nil => rfl
  | cons p r ih => rw [List.cons_append, ols, ols, ih, List.append_assoc]
theorem ols_one (B : Br) (v : Int) (f : Fd) (M : Int → Bool) (p : Int) : ols B v f M [p] = if M p && (ouE B.V v p f == 0) then [⟨p, ouF B.V v p f⟩] else [] := by
  rw [ols, ols, List.append_nil]
theorem ols_len (B : Br) (v : Int) (f : Fd) (M : Int → Bool) : ∀ l : List Int, (ols B v f M l).length ≤ l.length
  | [] => Nat.le_refl _
  | p :: r => by
    have := ols_len B v f M r
    rw [ols, List.length_append, List.length_cons]
    split
    · simp; omega
    · simp; omega
theorem sel_append (B : Br) (u : Int) (a b : List Int) : sel B u (a ++ b) = sel B u a ++ sel B u b := by simp [sel]
theorem sel_len (B : Br) (u : Int) (l : List Int) : (sel B u l).length ≤ l.length := by unfold sel; exact List.length_filter_le _ _
theorem sel_yes {B : Br} {u p : Int} (h : okP B u p = true) (l : List Int) : sel B u (l ++ [p]) = sel B u l ++ [p] := by
  rw [sel_append]; simp [sel, h]
theorem sel_no {B : Br} {u p : Int} (h : okP B u p = false) (l : List Int) : sel B u (l ++ [p]) = sel B u l := by
  rw [sel_append]; simp [sel, h]
theorem sta_zero (B : Br) : sta B 0 = 0 := by unfold sta; rw [(hasP_no _ _).2 (by omega)]; rfl
theorem ouE_no {T : Tb} (_h : Wf T) {v p : Int} (f : Fd) (hh : hs T.l v p = false) : (ouE T v p f == 0) = false := by
  unfold ouE
  rw [hh]
  split <;> rfl
/-- What goes out at those ports is what the document's Relay tells. -/
theorem ols_rly {B : Br} (H : Bw B) (v u t : Int) (f : Fd) (M : Int → Bool) (hM : ∀ p : Int, 1 ≤ p → sta B p = 2 → M p = (t == 0 || p == t)) : ∀ k, k ≤ B.n → ols B v f M (sel B u (mbs B.V.l v (k + 1))) = rly B v u t f k
  | 0, _ => by
    have e : mbs B.V.l v (0 + 1) = [] ∨ mbs B.V.l v (0 + 1) = [] ++ [((0 : Nat) : Int)] := by
      unfold mbs
      split
      · exact Or.inr rfl
      · exact Or.inl rfl
    rcases e with e | e
    · rw [e]; rfl
    · rw [e, sel_no (by unfold okP; rw [show ((0 : Nat) : Int) = 0 from rfl, sta_zero]; simp)]
      rfl
  | k + 1, hk => by
    have ih := ols_rly H v u t f M hM k (by omega)
    have hp : hasP B.n ((k + 1 : Nat) : Int) = true := (hasP_iff _ _).2 (by omega)
    have hs1 : sta B ((k + 1 : Nat) : Int) = B.st.getD (k + 1) 0 := by unfold sta; rw [hp, if_pos rfl, Int.toNat_natCast]
    have hm : may B v u t f ((k + 1 : Nat) : Int) = (!(((k + 1 : Nat) : Int) == u) && ((t == 0 || ((k + 1 : Nat) : Int) == t) && (sta B ((k + 1 : Nat) : Int) == 2 && ouE B.V v ((k + 1 : Nat) : Int) f == 0))) := by
      unfold may; rw [hs1, Int.toNat_natCast]
    have hM1 := hM ((k + 1 : Nat) : Int) (by omega)
    rw [rly]
    generalize hP : ((k + 1 : Nat) : Int) = P at *
    rcases Bool.eq_false_or_eq_true (hs B.V.l v P) with h1 | h1
    · have e1 : mbs B.V.l v (k + 1 + 1) = mbs B.V.l v (k + 1) ++ [P] := by rw [mbs, hP, h1]; rfl
      rw [e1]
      rcases Bool.eq_false_or_eq_true (okP B u P) with h2 | h2
      · rw [sel_yes h2, ols_append, ols_one, ih]
        congr 1
        unfold okP at h2
        rw [Bool.and_eq_true, beq_iff_eq] at h2
        rw [hM1 h2.2, hm, h2.2]
        have h3 : (P == u) = false := by simpa [bne] using h2.1
        rw [h3]
        simp
      · rw [sel_no h2, ih]
        have h3 : may B v u t f P = false := by
          rw [hm]
          unfold okP at h2
          rw [Bool.and_eq_false_iff] at h2
          rcases h2 with h2 | h2
          · have h4 : (P == u) = true := by simpa [bne] using h2
            rw [h4]; rfl
          · rw [h2]; simp
        rw [h3, if_neg (by simp), List.append_nil]
    · have e1 : mbs B.V.l v (k + 1 + 1) = mbs B.V.l v (k + 1) := by rw [mbs, hP, h1]; rfl
      have h3 : may B v u t f P = false := by rw [hm, ouE_no H.vw f h1]; simp
      rw [e1, ih, h3, if_neg (by simp), List.append_nil]
theorem ols_none {B : Br} (v u : Int) (f : Fd) (M : Int → Bool) (hM : ∀ p : Int, sta B p = 2 → M p = false) (l : List Int) : ols B v f M (sel B u l) = [] := by
  have : ∀ l : List Int, (∀ p ∈ l, M p = false) → ols B v f M l = [] := fun l => by
    induction l with
    | nil => intro _; rfl
    | cons p r ih =>
      intro h
      rw [ols, h p (List.mem_cons_self ..), ih (fun q hq => h q (List.mem_cons_of_mem _ hq))]
      rfl
  refine this _ (fun p hp => hM p ?_)
  have := (List.mem_filter.1 hp).2
  unfold okP at this
  rw [Bool.and_eq_true, beq_iff_eq] at this
  exact this.2

theorem cells_of_cell {w : World} {k j : Nat} {v : Value} (h : w.cell? ⟨k, j, none⟩ = some v) : ∀ o, w.heap[k]? = some o → o.isCells = true := by
  intro o ho
  unfold World.cell? at h
  simp only [ho] at h
  cases o <;> simp_all [Obj.isCells]
theorem grown_cells {A B : World} {row : Option Nat} {k j : Nat} {v : Value} (h : A.cell? ⟨k, j, none⟩ = some v) (g : A.grownBy B row) (hr : ∀ r, row = some r → ∃ o : Obj, A.heap[r]? = some o ∧ o.isCells = false) : B.heap[k]? = A.heap[k]? := by
  refine g.block k (World.block_lt_of_cell? A _ h) (fun e => ?_)
  obtain ⟨o, ho, hc⟩ := hr k e.symm
  rw [cells_of_cell h o ho] at hc
  cases hc
theorem grown_none {A B : World} (h : Below A.heap.size A B) : A.grownBy B none := ⟨h.os, h.tape, h.output, h.size, fun i hi _ => h.block i hi⟩
/-- The row to which the slice at a place belongs. -/
def rowOf (W : World) (b : Nat) : Option Nat := (W.cell? ⟨b, 0, none⟩).bind Value.ownBlock
theorem rowOf_eq {W W' : World} {b : Nat} (h : W'.heap[b]? = W.heap[b]?) : rowOf W' b = rowOf W b := by
  unfold rowOf
  rw [World.cell?_of_block (a := ⟨b, 0, none⟩) h]
/-- What a round leaves as it was: all but the slice at lB, and its row. -/
structure KpO (N0 lB : Nat) (A B : World) : Prop where
  size : A.heap.size ≤ B.heap.size
  keep : ∀ k, k < A.heap.size → k ≠ lB → rowOf A lB ≠ some k → (k < N0 ∨ ∀ o, A.heap[k]? = some o → o.isCells = true) → B.heap[k]? = A.heap[k]?
  row : ∀ k, rowOf B lB = some k → rowOf A lB = some k ∨ A.heap.size ≤ k
theorem KpO.refl (N0 lB : Nat) (A : World) : KpO N0 lB A A := ⟨Nat.le_refl _, fun _ _ _ _ _ => rfl, fun _ h => Or.inl h⟩
theorem KpO.trans {N0 lB : Nat} {A B C : World} (h : KpO N0 lB A B) (k : KpO N0 lB B C) : KpO N0 lB A C := by
  refine ⟨Nat.le_trans h.size k.size, fun i h1 h2 h3 h4 => ?_, fun i hi => ?_⟩
  · have e := h.keep i h1 h2 h3 h4
    have s := h.size
    refine (k.keep i (by omega) h2 (fun hr => ?_) (by rw [e]; exact h4)).trans e
    rcases h.row i hr with hr | hr
    · exact h3 hr
    · omega
  · have s := h.size
    rcases k.row i hi with hr | hr
    · rcases h.row i hr with hr | hr
      · exact Or.inl hr
      · exact Or.inr hr
    · exact Or.inr (by omega)
theorem KpO.putObj {N0 lB l : Nat} (W : World) {o : Obj} (o' : Obj) (hl : N0 ≤ l) (hb : lB < N0) (h : W.heap[l]? = some o) (hc : o.isCells = false) : KpO N0 lB W (W.putObj l o') :=
  ⟨by simp, fun k h1 h2 h3 h4 => World.putObj_heap_other (fun e => by
    subst e
    rcases h4 with h4 | h4
    · omega
    · rw [h4 o h] at hc; cases hc), fun k hk => Or.inl (by rwa [rowOf_eq (World.putObj_heap_other (by omega))] at hk)⟩
theorem KpO.below {N0 lB : Nat} {A B : World} (h : Below A.heap.size A B) (hl : lB < A.heap.size) : KpO N0 lB A B :=
  ⟨h.size, fun k h1 _ _ _ => h.block k h1, fun k hk => Or.inl (by rwa [rowOf_eq (h.block lB hl)] at hk)⟩
theorem callsRound {l n : Nat} {P : Program} {f : FuncId} {args : Array Value} {w : World} {R : Ending → World → Prop} (h : Calls P f args w R) : CallsIn (Fence.wide.inRound l) n P f args w R := callsIn_wide.2 h

theorem wpIn_then {c : Code} {F : Fence} {n : Nat} {P : Program} {Q : Exit → Act → World → Prop} {a : Act} {w : World} (K : Act → World → Prop) (h : c.wpIn F n P (Exit.then K (fun _ _ _ => False)) a w) (hq : ∀ a w, K a w → Q .normal a w) : c.wpIn F n P Q a w :=
  wpIn_mono h (fun e a w h => by cases e <;> first | exact hq _ _ h | exact h.elim)

theorem wideFn {f : FuncId} {A : Prop} (h : A) : Fence.wide.fn f ∧ A := ⟨trivial, h⟩
theorem skipFn {F : Fence} {A : Prop} (h : A) : (∀ f : FuncId, (none : Option FuncId) = some f → F.fn f) ∧ A := ⟨fun _ hf => (by cases hf), h⟩

theorem opsIn_round {P : Program} {ops : Array Oper} {Q : Exit → Act → World → Prop} {l n : Nat} (hnd : ∀ (i : Nat) (o : Oper), ops[i]? = some o → ∀ c, o.op ≠ Op.defer c) (hQ : ¬ LetsOut Q) :
    ∀ (is : List Nat) (a : Act) (w : World), wpOps P ops Q is a w → wpOpsIn (Fence.wide.inRound l) n P ops Q is a w
  | [], a, w, h => h
  | i :: rest, a, w, h => by
    have ih := opsIn_round (P := P) (l := l) (n := n) hnd hQ rest
    unfold wpOps at h
    unfold wpOpsIn
    cases ho : ops[i]? with
    | none =>
      simp only [ho] at h ⊢
      exact ih a w h
    | some o =>
      simp only [ho] at h ⊢
      by_cases hw : Region.wanted o (yielded ops a.tmps) = true
      · rw [if_pos hw] at h ⊢
        rcases h with h | ⟨_, h⟩
        · refine ⟨fun _ _ => trivial, ?_⟩
          rw [Oper.semAt_eq _ _ _ (hnd i o ho)]
          unfold Oper.wp at h
          generalize (execOp a.eval o).run P w = r at *
          cases r with
          | ok x w' =>
            cases x <;> simp only [Oper.upon] at h <;> simp only [Oper.uponIn]
            case value => exact ih _ _ h
            case skip => exact ih _ _ h
            case defer => exact ih _ _ h
            case enter f args =>
              refine ⟨fun h => (by cases h), (callsRound h).mono (fun e w'' he => ?_)⟩
              cases e with
              | returned v => exact ih _ _ he
              | panicked c => exact he
              | outgrown => exact he
            case row row args =>
              refine ⟨fun h => (by cases h), ?_⟩
              intro c cs _
              obtain ⟨v, w'', r, s⟩ := h c cs
              exact ⟨v, w'', ih _ _ r, (StepsIn.of_steps s).mono (fun m _ => fenced_wide P m)⟩
          | halt x w' =>
            cases x <;> simp only [Oper.upon] at h <;> simp only [Oper.uponIn]
            case panic => exact h
        · exact absurd h hQ
      · rw [if_neg hw] at h ⊢
        exact ⟨fun _ _ => trivial, ih _ _ h⟩
/-- A region that draws its order, in a round: as ahead of no fence. -/
theorem region_round {P : Program} {ops : Array Oper} {Q : Exit → Act → World → Prop} {l n id : Nat} {a : Act} {w : World} (hm : P.follows .mixedOrders = true) (hnd : ∀ (i : Nat) (o : Oper), ops[i]? = some o → ∀ c, o.op ≠ Op.defer c) (hQ : ¬ LetsOut Q)
    {S : World → Prop} (hS : S w.drew) (h : S w.drew → wpAnyH P .any ops Q S ops.size (Array.replicate ops.size false) a w.drew) : (Code.region id ops true).wpIn (Fence.wide.inRound l) n P Q a w :=
  wpIn_region_draw fun t => by
    simp only [Region.schedule, hm, Bool.true_or, if_true]
    exact opsIn_round hnd hQ _ a _ (wpAny_sound ops.size t _ a _ (wpAny_of_held _ _ _ _ (h hS)))
theorem noDefers {ops : Array Oper} (h : ops.all (fun o => match o.op with | Op.defer _ => false | _ => true) = true) : ∀ (i : Nat) (o : Oper), ops[i]? = some o → ∀ c, o.op ≠ Op.defer c := by
  intro i o ho c hc
  obtain ⟨hi, rfl⟩ := Array.getElem?_eq_some_iff.1 ho
  have := (Array.all_eq_true.1 h) i hi
  rw [hc] at this
  cases this
end Go.Proofs.YtgpdjfaklcmoiaaGreat
/- Contracts: hasPort, State, Set, Vlans, Stations, Counts, Learned of the program's bridge. -/
namespace Go.Proofs.YtgpdjfaklcmoiaaGreat
open Go.RowKit Go.PlainAid

set_option maxRecDepth 100000 in
set_option maxHeartbeats 1000000 in
theorem hasPortQ (A : PAd) (B : Br) (p : Int) (w : World) (H : PB w A B) : Calls Tryz.prog 55 #[.pointer (some ⟨A.g, 0, none⟩), .int .i64 p] w fun e w' => e = .returned (.bool (hasP B.n p)) ∧ w' = w := by
  have c2 := H.bx.cell 2 _ rfl
  clear H
  by_cases h1 : 1 ≤ p
  · by_cases h2 : p ≤ B.n
    · have e : hasP B.n p = true := (hasP_iff _ _).2 ⟨h1, h2⟩
      have h3 : p < ((B.n + 1 : Nat) : Int) := by omega
      have h4 : p < (B.n : Int) + 1 := by omega
      rw [e]
      clear e
      go_enter Tryz.func55, Tryz.ntmps55
      go_wp2
      go_ret
      exact ⟨ret_bool (by first | rfl | simp [h3] | simp [h4]), rfl⟩
    · have e : hasP B.n p = false := (hasP_no _ _).2 (by omega)
      have h3 : ¬ p < ((B.n + 1 : Nat) : Int) := by omega
      have h4 : ¬ p < (B.n : Int) + 1 := by omega
      rw [e]
      clear e
      go_enter Tryz.func55, Tryz.ntmps55
      go_wp2
      go_ret
      exact ⟨ret_bool (by first | rfl | simp [h3] | simp [h4] | (simp; omega)), rfl⟩
  · have e : hasP B.n p = false := (hasP_no _ _).2 (by omega)
    rw [e]
    clear e
    go_enter Tryz.func55, Tryz.ntmps55
    go_wp2
    go_ret
    exact ⟨ret_bool (by first | rfl | simp), rfl⟩
set_option maxRecDepth 100000 in
set_option maxHeartbeats 1000000 in
theorem stateQ (A : PAd) (B : Br) (p : Int) (w : World) (H : PB w A B) : Calls Tryz.prog 22 #[.pointer (some ⟨A.g, 0, none⟩), .int .i64 p] w fun e w' => e = .returned (.int .i64 (sta B p)) ∧ w' = w := by
  have q1 := fun w H => hasPortQ A B p w H
  have c2 := H.bx.cell 2 _ rfl
  rcases Bool.eq_false_or_eq_true (hasP B.n p) with hp | hp
  · obtain ⟨k, rfl, hk, e⟩ := st_get H.wf hp
    have n1 := H.ss.cell k _ (nsl_get hk)
    have hl : (k : Int) < ((B.n + 1 : Nat) : Int) := by rw [H.wf.sl] at hk; omega
    have hl2 : (k : Int) < (B.n : Int) + 1 := by omega
    have HH := hide H
    rw [hp] at q1
    rw [e]
    clear H e hp hk
    generalize B.st.getD k 0 = x at *
    go_enter Tryz.func22, Tryz.ntmps22
    go_wp2_with (first | (go_at_call 55; refine (q1 _ HH.out).mono ?_; rintro e w' ⟨rfl, rfl⟩))
    go_ret
    exact ⟨rfl, rfl⟩
  · have e : sta B p = 0 := by unfold sta; rw [hp]; rfl
    have HH := hide H
    rw [hp] at q1
    rw [e]
    clear H e hp
    go_enter Tryz.func22, Tryz.ntmps22
    go_wp2_with (first | (go_at_call 55; refine (q1 _ HH.out).mono ?_; rintro e w' ⟨rfl, rfl⟩))
    go_ret
    exact ⟨rfl, rfl⟩
set_option maxRecDepth 100000 in
set_option maxHeartbeats 1000000 in
theorem setQ (A : PAd) (B : Br) (p s : Int) (w : World) (H : PB w A B) : Calls Tryz.prog 31 #[.pointer (some ⟨A.g, 0, none⟩), .int .i64 p, .int .i64 s] w fun e w' => e = .returned (.int .i64 (eSet B p s)) ∧ PB w' A (tSet B p s) ∧ Mid A.lo A.hi w w' := by
  have q1 := fun w H => hasPortQ A B p w H
  have c2 := H.bx.cell 2 _ rfl
  rcases Bool.eq_false_or_eq_true (hasP B.n p) with hp | hp
  · rcases Bool.eq_false_or_eq_true (isS s) with hs | hs
    · obtain ⟨k, rfl, hk, -⟩ := st_get H.wf hp
      have n1 := H.ss.cell k _ (nsl_get hk)
      have f1 := H.ss.free k (by simp [nsl]; exact hk)
      have F := hide (H.setS hp hs)
      have e : eSet B k s = 0 := by unfold eSet; rw [hp, hs]; rfl
      have hl : (k : Int) < ((B.n + 1 : Nat) : Int) := by rw [H.wf.sl] at hk; omega
      have hl2 : (k : Int) < (B.n : Int) + 1 := by omega
      have HH := hide H
      obtain ⟨s1, s2⟩ := (isS_iff s).1 hs
      have s3 : ¬ s < 0 := by omega
      have s4 : ¬ 2 < s := by omega
      rw [hp] at q1
      rw [e]
      clear H e hp hk hs s1 s2
      go_enter Tryz.func31, Tryz.ntmps31
      go_wp2_with (first | (go_at_call 55; refine (q1 _ HH.out).mono ?_; rintro e w' ⟨rfl, rfl⟩))
      go_ret
      exact ⟨rfl, F.out⟩
    · have e : eSet B p s = 1 := by unfold eSet; rw [hs, Bool.and_false]; rfl
      have e2 : tSet B p s = B := by unfold tSet; rw [hs, Bool.and_false]; rfl
      have HH := hide H
      have hs2 : s < 0 ∨ (¬ s < 0 ∧ 2 < s) := by
        have : ¬ (0 ≤ s ∧ s ≤ 2) := fun h => by rw [(isS_iff s).2 h] at hs; cases hs
        omega
      rw [hp] at q1
      rw [e, e2]
      clear H e e2 hp hs
      rcases hs2 with s1 | ⟨s1, s2⟩
      all_goals
        go_enter Tryz.func31, Tryz.ntmps31
        go_wp2_with (first | (go_at_call 55; refine (q1 _ HH.out).mono ?_; rintro e w' ⟨rfl, rfl⟩))
        go_ret
        exact ⟨rfl, HH.out, Mid.refl _ _ _⟩
  · have e : eSet B p s = 1 := by unfold eSet; rw [hp]; rfl
    have e2 : tSet B p s = B := by unfold tSet; rw [hp]; rfl
    have HH := hide H
    rw [hp] at q1
    rw [e, e2]
    clear H e e2 hp
    go_enter Tryz.func31, Tryz.ntmps31
    go_wp2_with (first | (go_at_call 55; refine (q1 _ HH.out).mono ?_; rintro e w' ⟨rfl, rfl⟩))
    go_ret
    exact ⟨rfl, HH.out, Mid.refl _ _ _⟩
set_option maxRecDepth 100000 in
set_option maxHeartbeats 1000000 in
theorem vlansQ (A : PAd) (B : Br) (w : World) (H : PB w A B) : Calls Tryz.prog 20 #[.pointer (some ⟨A.g, 0, none⟩)] w fun e w' => e = .returned (.pointer (some ⟨A.h + 2, 0, none⟩)) ∧ w' = w := by
  have c0 := H.bx.cell 0 _ rfl
  clear H
  go_enter Tryz.func20, Tryz.ntmps20
  go_wp2
  go_ret
  exact ⟨rfl, rfl⟩
set_option maxRecDepth 100000 in
set_option maxHeartbeats 1000000 in
theorem stationsQ (A : PAd) (B : Br) (w : World) (H : PB w A B) : Calls Tryz.prog 23 #[.pointer (some ⟨A.g, 0, none⟩)] w fun e w' => e = .returned (.pointer (some ⟨A.hf + 1, 0, none⟩)) ∧ w' = w := by
  have c0 := H.bx.cell 1 _ rfl
  clear H
  go_enter Tryz.func23, Tryz.ntmps23
  go_wp2
  go_ret
  exact ⟨rfl, rfl⟩
end Go.Proofs.YtgpdjfaklcmoiaaGreat
/- The iterator of the ports that may send, for every loop body. -/
namespace Go.Proofs.YtgpdjfaklcmoiaaGreat
open Go.RowKit Go.PlainAid Go.Shelf
attribute [local go_sem] Oper.semAt_some

set_option maxRecDepth 100000 in
set_option maxHeartbeats 4000000 in
theorem each107_in (n : Nat) (hn : 1 ≤ n) (l bB vB uB lB N0 : Nat) (A : PAd) (B : Br) (v u : Int) (J Jx : List Int → World → Prop) (hv : I64 v)
    (hN : lB < N0 ∧ bB < N0 ∧ vB < N0 ∧ uB < N0 ∧ A.hi ≤ N0 ∧ bB ≠ lB ∧ vB ≠ lB ∧ uB ≠ lB ∧ A.hi ≤ lB)
    (hY : ∀ pre x W, J pre W → pre.length < (mbs B.V.l v B.V.n).length → YieldAt Fence.wide (n - 1) Tryz.prog l #[.int .i64 x] W fun e W' =>
      (e = .returned (.bool true) ∧ J (pre ++ [x]) W' ∧ KpO N0 lB W W') ∨ (e = .returned (.bool false) ∧ Jx (pre ++ [x]) W'))
    (W : World) (hJ : AbidesFrom W.heap.size J) (hW : N0 ≤ W.heap.size) (hb : Box W bB [.pointer (some ⟨A.g, 0, none⟩)]) (hvB : Box W vB [.int .i64 v]) (hu : Box W uB [.int .i64 u]) (P : PB W A B) (hr0 : rowOf W lB = none) (h0 : J [] W) :
    CallsIn Fence.wide n Tryz.prog 107 #[.func (.yield l) #[] #[], .pointer (some ⟨bB, 0, none⟩), .pointer (some ⟨vB, 0, none⟩), .pointer (some ⟨uB, 0, none⟩)] W fun e W' => (∃ v, e = .returned v) ∧
      ((∃ xs : List Int, xs = sel B u (mbs B.V.l v B.V.n) ∧ J xs W') ∨ (∃ pre : List Int, True ∧ Jx pre W')) := by
  have c0 := hb.cell 0 _ rfl
  have c1 := P.bx.cell 0 _ rfl
  have c2 := hvB.cell 0 _ rfl
  have HS := hide (And.intro hb (And.intro hvB hu))
  have HP := hide P
  have HV := hide hv
  have HJ0 := hide h0
  have HL := hide (mbs_len B.V.l v B.V.n)
  have HVN : Hid (B.V.n ≤ 64) := hide (by have := P.wf.vn; have := P.wf.n2; omega)
  have hmem := fun W H => members13 A.h B.V v W hv H
  clear hb hvB hu P hv
  refine callsIn_of_wp Tryz.func107 rfl trivial ?_ rfl
  simp only [Tryz.ntmps107, List.size_toArray, List.length_cons, List.length_nil, Nat.reduceAdd, Nat.reduceSub, Array.replicate_succ, Array.replicate_zero, List.push_toArray, List.append_toArray, List.nil_append, List.cons_append]
  gi_wp2_with fail
  refine wpIn_then (fun a w' => ∃ ao c, a = ⟨#[.func (.yield l) #[] #[], .pointer (some ⟨bB, 0, none⟩), .pointer (some ⟨vB, 0, none⟩), .pointer (some ⟨uB, 0, none⟩), undef, undef, undef, .pointer (some ⟨A.g, 0, none⟩), .pointer (some ⟨A.g, 0, none⟩), .pointer (some ⟨A.g, 0, none⟩), .pointer (some ⟨A.h + 2, 0, none⟩), .int .i64 v, .slice ao (mbs B.V.l v B.V.n).length c, .int .i64 (mbs B.V.l v B.V.n).length, .int .i64 0, undef, undef, undef, undef, undef, undef, undef, undef, undef, undef, undef, undef, undef, undef, undef, undef, undef, undef, undef], []⟩ ∧ Its w' W.heap.size ao (mbs B.V.l v B.V.n).length c (mbs B.V.l v B.V.n) ∧ Below W.heap.size W w') (wpIn_wide.2 ?_) ?_
  · refine wp_region_held_drew (S := fun w' => w'.cell? ⟨bB, 0, none⟩ = some (.pointer (some ⟨A.g, 0, none⟩)) ∧ w'.cell? ⟨A.g, 0, none⟩ = some (.pointer (some ⟨A.h + 2, 0, none⟩)) ∧ w'.cell? ⟨vB, 0, none⟩ = some (.int .i64 v)) (by kernel_rfl) ⟨c0, c1, c2⟩ (fun hHeld => ?_)
    refine wpAnyH_take (i := 0) (v := .pointer (some ⟨A.g, 0, none⟩)) rfl (by kernel_rfl) (by kernel_rfl) (by kernel_rfl) (fun _ _ _ h => h) (Or.inl ⟨by rfl, ?_⟩) hHeld ?_
    · intro W hW; (try dsimp only at hW); have hc := hW.1; clear hW; go_simp
    change wpAnyH _ _ _ _ _ _ _ ⟨#[.func (.yield l) #[] #[],.pointer (some ⟨bB, 0, none⟩),.pointer (some ⟨vB, 0, none⟩),.pointer (some ⟨uB, 0, none⟩),_,_,_,.pointer (some ⟨A.g, 0, none⟩),_,_,_,_,_,_,_,_,_,_,_,_,_,_,_,_,_,_,_,_,_,_,_,_,_,_], []⟩ _
    refine wpAnyH_take (i := 1) (v := .pointer (some ⟨A.g, 0, none⟩)) rfl (by kernel_rfl) (by kernel_rfl) (by kernel_rfl) (fun _ _ _ h => h) (Or.inl ⟨by rfl, ?_⟩) hHeld ?_
    · intro W hW; (try dsimp only at hW); go_simp
    change wpAnyH _ _ _ _ _ _ _ ⟨#[.func (.yield l) #[] #[],.pointer (some ⟨bB, 0, none⟩),.pointer (some ⟨vB, 0, none⟩),.pointer (some ⟨uB, 0, none⟩),_,_,_,.pointer (some ⟨A.g, 0, none⟩),.pointer (some ⟨A.g, 0, none⟩),_,_,_,_,_,_,_,_,_,_,_,_,_,_,_,_,_,_,_,_,_,_,_,_,_], []⟩ _
    refine wpAnyH_take (i := 2) (v := .pointer (some ⟨A.g, 0, none⟩)) rfl (by kernel_rfl) (by kernel_rfl) (by kernel_rfl) (fun _ _ _ h => h) (Or.inl ⟨by rfl, ?_⟩) hHeld ?_
    · intro W hW; (try dsimp only at hW); go_simp
    change wpAnyH _ _ _ _ _ _ _ ⟨#[.func (.yield l) #[] #[],.pointer (some ⟨bB, 0, none⟩),.pointer (some ⟨vB, 0, none⟩),.pointer (some ⟨uB, 0, none⟩),_,_,_,.pointer (some ⟨A.g, 0, none⟩),.pointer (some ⟨A.g, 0, none⟩),.pointer (some ⟨A.g, 0, none⟩),_,_,_,_,_,_,_,_,_,_,_,_,_,_,_,_,_,_,_,_,_,_,_,_], []⟩ _
    refine wpAnyH_take (i := 3) (v := .pointer (some ⟨A.h + 2, 0, none⟩)) rfl (by kernel_rfl) (by kernel_rfl) (by kernel_rfl) (fun _ _ _ h => h) (Or.inl ⟨by rfl, ?_⟩) hHeld ?_
    · intro W hW; (try dsimp only at hW); have hc := hW.2.1; clear hW; go_simp
    change wpAnyH _ _ _ _ _ _ _ ⟨#[.func (.yield l) #[] #[],.pointer (some ⟨bB, 0, none⟩),.pointer (some ⟨vB, 0, none⟩),.pointer (some ⟨uB, 0, none⟩),_,_,_,.pointer (some ⟨A.g, 0, none⟩),.pointer (some ⟨A.g, 0, none⟩),.pointer (some ⟨A.g, 0, none⟩),.pointer (some ⟨A.h + 2, 0, none⟩),_,_,_,_,_,_,_,_,_,_,_,_,_,_,_,_,_,_,_,_,_,_,_], []⟩ _
    refine wpAnyH_take (i := 4) (v := .int .i64 v) rfl (by kernel_rfl) (by kernel_rfl) (by kernel_rfl) (fun _ _ _ h => h) (Or.inl ⟨by rfl, ?_⟩) hHeld ?_
    · intro W hW; (try dsimp only at hW); have hc := hW.2.2; clear hW; go_simp
    change wpAnyH _ _ _ _ _ _ _ ⟨#[.func (.yield l) #[] #[],.pointer (some ⟨bB, 0, none⟩),.pointer (some ⟨vB, 0, none⟩),.pointer (some ⟨uB, 0, none⟩),_,_,_,.pointer (some ⟨A.g, 0, none⟩),.pointer (some ⟨A.g, 0, none⟩),.pointer (some ⟨A.g, 0, none⟩),.pointer (some ⟨A.h + 2, 0, none⟩),.int .i64 v,_,_,_,_,_,_,_,_,_,_,_,_,_,_,_,_,_,_,_,_,_,_], []⟩ _
    refine wpAnyH_take (i := 7) (v := .int .i64 0) rfl (by kernel_rfl) (by kernel_rfl) (by kernel_rfl) (fun _ _ _ h => h) (Or.inl ⟨by rfl, ?_⟩) hHeld ?_
    · intro W hW; (try dsimp only at hW); go_simp
    change wpAnyH _ _ _ _ _ _ _ ⟨#[.func (.yield l) #[] #[],.pointer (some ⟨bB, 0, none⟩),.pointer (some ⟨vB, 0, none⟩),.pointer (some ⟨uB, 0, none⟩),_,_,_,.pointer (some ⟨A.g, 0, none⟩),.pointer (some ⟨A.g, 0, none⟩),.pointer (some ⟨A.g, 0, none⟩),.pointer (some ⟨A.h + 2, 0, none⟩),.int .i64 v,_,_,.int .i64 0,_,_,_,_,_,_,_,_,_,_,_,_,_,_,_,_,_,_,_], []⟩ _
    refine wpAnyH_ready (rs := [5]) (by kernel_rfl) (by simp) ?_
    refine AllReadyH.cons rfl (fun K hK => ?_) AllReadyH.nil
    go_simp
    refine (hmem _ HP.out.drew.pv).mono ?_
    rintro e w2 ⟨ao, c, rfl, hI, hB⟩
    have hb0 : Below W.heap.size W w2 := ⟨hB.os, hB.tape, hB.output, hB.size, hB.block⟩
    have s0 := HS.out.1.lt
    have sg := HP.out.bx.lt
    have sv := HS.out.2.1.lt
    refine hK.out _ _ ⟨(hb0.cell (p := ⟨bB, 0, none⟩) s0).trans c0, (hb0.cell (p := ⟨A.g, 0, none⟩) sg).trans c1, (hb0.cell (p := ⟨vB, 0, none⟩) sv).trans c2⟩ (fun hHeld => ?_)
    have HI := hide hI
    have HB0 := hide hb0
    clear hK K hI hB hb0 s0 sg sv hmem
    change wpAnyH _ _ _ _ _ _ _ ⟨#[.func (.yield l) #[] #[],.pointer (some ⟨bB, 0, none⟩),.pointer (some ⟨vB, 0, none⟩),.pointer (some ⟨uB, 0, none⟩),_,_,_,.pointer (some ⟨A.g, 0, none⟩),.pointer (some ⟨A.g, 0, none⟩),.pointer (some ⟨A.g, 0, none⟩),.pointer (some ⟨A.h + 2, 0, none⟩),.int .i64 v,.slice ao (mbs B.V.l v B.V.n).length c,_,.int .i64 0,_,_,_,_,_,_,_,_,_,_,_,_,_,_,_,_,_,_,_], []⟩ _
    refine wpAnyH_take (i := 6) (v := .int .i64 (mbs B.V.l v B.V.n).length) rfl (by kernel_rfl) (by kernel_rfl) (by kernel_rfl) (fun _ _ _ h => h) (Or.inl ⟨by rfl, ?_⟩) hHeld ?_
    · intro W hW; (try dsimp only at hW); go_simp
    change wpAnyH _ _ _ _ _ _ _ ⟨#[.func (.yield l) #[] #[],.pointer (some ⟨bB, 0, none⟩),.pointer (some ⟨vB, 0, none⟩),.pointer (some ⟨uB, 0, none⟩),_,_,_,.pointer (some ⟨A.g, 0, none⟩),.pointer (some ⟨A.g, 0, none⟩),.pointer (some ⟨A.g, 0, none⟩),.pointer (some ⟨A.h + 2, 0, none⟩),.int .i64 v,.slice ao (mbs B.V.l v B.V.n).length c,.int .i64 (mbs B.V.l v B.V.n).length,.int .i64 0,_,_,_,_,_,_,_,_,_,_,_,_,_,_,_,_,_,_,_], []⟩ _
    refine wpAnyH_done (by kernel_rfl) ?_ _
    exact ⟨ao, c, rfl, HI.out, HB0.out⟩
  rintro a1 W1 ⟨ao, c, rfl, hI, hB1⟩
  have HI := hide hI
  have HB1 := hide hB1
  obtain ⟨N1, hN1⟩ : ∃ N1, N1 = W1.heap.size := ⟨_, rfl⟩
  have hJ1 : J [] W1 := hJ _ W W1 none HJ0.out (grown_none hB1) (fun r e => by cases e)
  have HS1 := hide (And.intro (HS.out.1.on hB1) (And.intro (HS.out.2.1.on hB1) (HS.out.2.2.on hB1)))
  have HP1 := hide (HP.out.on hB1)
  have hr1 : ∀ k, rowOf W1 lB = some k → N1 ≤ k := fun k hk => by
    rw [rowOf_eq (hB1.block lB (by omega)), hr0] at hk
    cases hk
  have HNW : Hid (N0 ≤ W.heap.size) := hide hW
  have HW1 : Hid (W.heap.size ≤ N1) := hide (by rw [hN1]; exact hB1.size)
  have HNN := hide hN
  have HN1 := hide hN1
  have HJJ := hide hJ
  have HYY := hide hY
  clear hI hB1 HS HP HJ0 hr0 h0 c0 c1 c2 hmem hW hN hN1 hJ hY
  generalize hmb : mbs B.V.l v B.V.n = mb at *
  have HL2 : Hid (mb.length ≤ 64) := hide (by have := HL.out; have := HVN.out; omega)
  have HMB := hide hmb
  clear hmb HL HVN
  gi_wp2_with fail
  gi_loopw [6, 14] (fun _ i wr => ∃ k : Nat, k ≤ mb.length ∧ i = .int .i64 k ∧ J (sel B u (mb.take k)) wr ∧ (Box wr bB [.pointer (some ⟨A.g, 0, none⟩)] ∧ Box wr vB [.int .i64 v] ∧ Box wr uB [.int .i64 u]) ∧ PB wr A B ∧ Its wr W.heap.size ao mb.length c mb ∧ (∀ k, rowOf wr lB = some k → N1 ≤ k) ∧ N1 ≤ wr.heap.size ∧ (∀ b o, ao = some ⟨b, o, none⟩ → 0 < mb.length → b < N1)) (fun _ i _ => mb.length - (intOf i).toNat)
  case atStart => exact ⟨0, Nat.zero_le _, rfl, hJ1, HS1.out, HP1.out, HI.out, hr1, by rw [HN1.out]; exact Nat.le_refl _, fun b o e hp => by
    obtain ⟨b', o', e', hB', hc'⟩ := HI.out.cell 0 hp
    rw [e] at e'
    cases e'
    rw [HN1.out]
    exact World.block_lt_of_cell? _ _ hc'⟩
  case round =>
    obtain ⟨k, hk1, rfl, hJk, hS2, hP2, hI2, hr2, hn2, hab⟩ := hrel
    have HJK := hide hJk
    have HS2 := hide hS2
    have HP2 := hide hP2
    have HI2 := hide hI2
    have HR2 := hide hr2
    have HN2 := hide hn2
    have HAB := hide hab
    clear hJk hS2 hP2 hI2 hr2 hn2 hab hJ1 HS1 HP1 HI hr1
    by_cases hkl : k < mb.length
    · obtain ⟨x, hx⟩ : ∃ x, mb[k]? = some x := ⟨_, List.getElem?_eq_getElem hkl⟩
      obtain ⟨b, o, rfl, hbl, hc⟩ := HI2.out.cell k hkl
      rw [show mb.getD k 0 = x by rw [List.getD_eq_getElem?_getD, hx]; rfl] at hc
      have hlt : (k : Int) < (mb.length : Int) := by omega
      have hge : (0 : Int) ≤ (k : Int) := by omega
      have e1 : IntKind.i64.wrap ((k : Int) + 1) = (k : Int) + 1 := IntWalk.i64_in _ (by have := HL2.out; omega)
      have HTK : Hid (mb.take (k + 1) = mb.take k ++ [x]) := hide (by rw [List.take_add_one, hx]; rfl)
      have hpl : Hid ((sel B u (mb.take k)).length < mb.length) := hide (by have := sel_len B u (mb.take k); rw [List.length_take] at this; omega)
      have c3 := HS2.out.2.2.cell 0 _ rfl
      have c4 := HS2.out.1.cell 0 _ rfl
      have hbN : b < N1 := HAB.out b o rfl (by omega)
      have HC := hide hc
      have HBL := hide hbl
      have HBN := hide hbN
      clear hx hbl hbN
      rcases Bool.eq_false_or_eq_true (x != u) with h1 | h1
      · have hst := fun W H => stateQ A B x W H
        rcases Bool.eq_false_or_eq_true (sta B x == 2) with h2 | h2
        · have HSX : Hid (sel B u (mb.take (k + 1)) = sel B u (mb.take k) ++ [x]) := hide (by rw [HTK.out]; exact sel_yes (by unfold okP; rw [h1, h2]; rfl) _)
          obtain ⟨fn, tmps, assign, body, hy, hR⟩ := HYY.out _ x wr HJK.out hpl.out
          have HR := hide hR
          clear hR
          gi_wp2_with (first | (with_reducible refine skipFn ?_) | (refine ⟨trivial, ?_⟩; gi_at_call 22; refine (callsIn_wide.2 (hst _ HP2.out)).mono ?_; rintro e wr ⟨rfl, rfl⟩))
          refine HR.out.mono ?_
          rintro e W3 (⟨rfl, hJ4, hk3⟩ | ⟨rfl, hJx3⟩)
          · have hn := HNN.out
            have hw1 := HW1.out
            have hn2 := HN2.out
            have hnw := HNW.out
            have hbl := HBL.out
            have hbn := HBN.out
            have kk : ∀ i, i < N0 → i ≠ lB → W3.heap[i]? = wr.heap[i]? := fun i h1 h2 => hk3.keep i (by omega) h2 (fun e => by have := HR2.out i e; omega) (Or.inl h1)
            have kb : W3.heap[b]? = wr.heap[b]? := hk3.keep b (by omega) (by omega) (fun e => by have := HR2.out b e; omega) (Or.inr (cells_of_cell HC.out ·))
            have HP3 : Hid (PB W3 A B) := hide (HP2.out.keep (fun i h1 h2 => kk i (by omega) (by omega)))
            have HS3 : Hid (Box W3 bB [.pointer (some ⟨A.g, 0, none⟩)] ∧ Box W3 vB [.int .i64 v] ∧ Box W3 uB [.int .i64 u]) := hide ⟨HS2.out.1.block (kk _ (by omega) (by omega)), HS2.out.2.1.block (kk _ (by omega) (by omega)), HS2.out.2.2.block (kk _ (by omega) (by omega))⟩
            have HI3 : Hid (Its W3 W.heap.size (some ⟨b, o, none⟩) mb.length c mb) := hide ⟨HI2.out.len, HI2.out.nil, fun j hj => by
              obtain ⟨b', o', e', h1, h2⟩ := HI2.out.cell j hj
              cases e'
              exact ⟨b, o, rfl, h1, by rw [World.cell?_of_block (a := ⟨b, o + j, none⟩) kb]; exact h2⟩, HI2.out.le, HI2.out.mx⟩
            have HR3 : Hid (∀ k, rowOf W3 lB = some k → N1 ≤ k) := hide (fun i hi => by
              rcases hk3.row i hi with h | h
              · exact HR2.out i h
              · omega)
            have HN3 : Hid (N1 ≤ W3.heap.size) := hide (Nat.le_trans HN2.out hk3.size)
            clear kk kb hk3 hn hw1 hn2 hnw hbl hbn
            gi_wp2
            go_roundw
            case rel => exact ⟨k + 1, by omega, by go_num, by rw [HSX.out]; exact hJ4, HS3.out, HP3.out, HI3.out, HR3.out, HN3.out, HAB.out⟩
            case measure => simp [intOf]; omega
          · gi_wp2
            refine bodyPost_ret (results_none rfl _ _ _) rfl ?_
            exact ⟨⟨_, rfl⟩, .inr ⟨_, trivial, hJx3⟩⟩
        · have HSX : Hid (sel B u (mb.take (k + 1)) = sel B u (mb.take k)) := hide (by rw [HTK.out]; exact sel_no (by unfold okP; rw [h1, h2]; rfl) _)
          gi_wp2_with (first | (with_reducible refine skipFn ?_) | (refine ⟨trivial, ?_⟩; gi_at_call 22; refine (callsIn_wide.2 (hst _ HP2.out)).mono ?_; rintro e wr ⟨rfl, rfl⟩))
          go_roundw
          case rel => exact ⟨k + 1, by omega, by go_num, by rw [HSX.out]; exact HJK.out, HS2.out, HP2.out, HI2.out, HR2.out, HN2.out, HAB.out⟩
          case measure => simp [intOf]; omega
      · have HSX : Hid (sel B u (mb.take (k + 1)) = sel B u (mb.take k)) := hide (by rw [HTK.out]; exact sel_no (by unfold okP; rw [h1]; rfl) _)
        gi_wp2_with (first | (with_reducible refine skipFn ?_) | (with_reducible refine wideFn ?_))
        go_roundw
        case rel => exact ⟨k + 1, by omega, by go_num, by rw [HSX.out]; exact HJK.out, HS2.out, HP2.out, HI2.out, HR2.out, HN2.out, HAB.out⟩
        case measure => simp [intOf]; omega
    · have hlt : ¬ (k : Int) < (mb.length : Int) := by omega
      have hall : mb.take k = mb := List.take_of_length_le (by omega)
      rw [hall] at HJK
      clear hall
      gi_wp2
      go_end0
      exact ⟨⟨_, rfl⟩, .inl (by rw [HMB.out]; exact HJK.out)⟩
end Go.Proofs.YtgpdjfaklcmoiaaGreat
/- What the body of the loop over the ports wants: loads, builds inside a round; its invariant; Out of the program for any frame; senders. -/
namespace Go.Proofs.YtgpdjfaklcmoiaaGreat
open Go.RowKit Go.PlainAid Go.Shelf
attribute [local go_sem] Oper.semAt_some

section
theorem wplin_frame {F : Fence} {n : Nat} {ops : Array Oper} {rest : List Oper} {o : Oper} {a : Act} {w : World} {Q : Exit → Act → World → Prop} (hgd : o.guard = none) (x : Operand) (ho : o.op = .load 38 x) {k : Nat} {p : Fd} {s : Value} (hA : Box w k (fcl p s)) (hx : a.eval x = .pointer (some ⟨k, 0, none⟩))
    (h : wpListIn F n Tryz.prog ops Q rest (a.put o.dst (.agg (FC p s))) w) : wpListIn F n Tryz.prog ops Q (o :: rest) a w := by
  refine wpListIn_plain hgd fun K hK => ?_
  have hl := run_loadAt_mid (P := Tryz.prog) w k 0 38 _ _ hA.at_ Tryz.underlying38 rfl Tryz.size38
  unfold Oper.wpIn
  refine ⟨by simp [Oper.about, ho], ?_⟩
  rw [Oper.semAt_plain F _ _ (by rw [ho]; intro c hc; cases hc)]
  simp only [execOp, ho, hx, hl, Sem.run_bind, Sem.run_pure, Result.andThen_ok]
  exact hK _ _ h
theorem wplin_bO {F : Fence} {n : Nat} {ops : Array Oper} {rest : List Oper} {o : Oper} {a : Act} {w : World} {Q : Exit → Act → World → Prop} (hgd : o.guard = none) (x y : Operand) (p : Int) (f : Fd) (s : Option Addr) (m c : Nat) (ho : o.op = .build 57 #[(0, x), (1, y)]) (hx : a.eval x = .int .i64 p) (hy : a.eval y = .agg (FC f (.slice s m c)))
    (h : wpListIn F n Tryz.prog ops Q rest (a.put o.dst (.agg (OC ⟨⟨p, f⟩, s, m, c⟩))) w) : wpListIn F n Tryz.prog ops Q (o :: rest) a w := by
  refine wpListIn_plain hgd fun K hK => ?_
  unfold Oper.wpIn
  refine ⟨by simp [Oper.about, ho], ?_⟩
  rw [Oper.semAt_plain F _ _ (by rw [ho]; intro c hc; cases hc)]
  simp only [execOp, ho, List.map_toArray, List.map_cons, List.map_nil, hx, hy, run_bO, Sem.run_bind, Sem.run_pure, Result.andThen_ok]
  exact hK _ _ h
theorem wplin_bsO {F : Fence} {n : Nat} {ops : Array Oper} {rest : List Oper} {o : Oper} {a : Act} {w : World} {Q : Exit → Act → World → Prop} (hgd : o.guard = none) (x : Operand) (e : Ow) (ho : o.op = .buildSlice 48 1 #[(0, x)]) (hx : a.eval x = .agg (OC e))
    (h : wpListIn F n Tryz.prog ops Q rest (a.put o.dst (.slice (some ⟨w.heap.size, 0, none⟩) 1 1)) (w.alloc (.cells (OC e) 57))) : wpListIn F n Tryz.prog ops Q (o :: rest) a w := by
  refine wpListIn_plain hgd fun K hK => ?_
  unfold Oper.wpIn
  refine ⟨by simp [Oper.about, ho], ?_⟩
  rw [Oper.semAt_plain F _ _ (by rw [ho]; intro c hc; cases hc)]
  simp only [execOp, ho, List.map_toArray, List.map_cons, List.map_nil, hx, run_bsO, Sem.run_bind, Sem.run_pure, Result.andThen_ok]
  exact hK _ _ h
theorem wplin_oapp {F : Fence} {n : Nat} {ops : Array Oper} {rest : List Oper} {o : Oper} {a : Act} {w : World} {Q : Exit → Act → World → Prop} (hgd : o.guard = none) (hty : o.type = 48) (s x : Operand)
    (ho : o.op = .call { callee := .builtin .append, args := #[s, x], argTypes := #[48, 48] })
    (base : Nat) (v : Value) (k : Nat) (xs : List Ow) (hs : a.eval s = v) (hown : w.ownsRow base 57 18 v k (ocs xs)) (ad : Addr) (e : Ow) (hx : a.eval x = .slice (some ad) 1 1)
    (hn : ∀ j u, (ocl e)[j]? = some u → w.cell? (ad.add j) = some u) (h1 : k ≤ 100000) (hbase : base ≤ w.heap.size)
    (h : ∀ v' w', w'.ownsRow base 57 18 v' (k + 1) (ocs (xs ++ [e])) → w.grownBy w' v.ownBlock → (v'.ownBlock = v.ownBlock ∨ v'.ownBlock = some w.heap.size) → wpListIn F n Tryz.prog ops Q rest (a.put o.dst v') w') : wpListIn F n Tryz.prog ops Q (o :: rest) a w := by
  obtain ⟨i0, hi, hz0, hz1, hz2⟩ := info_parts Tryz.info57
  obtain ⟨v', w', hr, h2, h3, -, h4⟩ := run_append_own_at (P := Tryz.prog) w base 48 48 57 i0 _ 18 72 Tryz.underlying48 hi hz0 hz1 hz2 rfl (by decide) v k (ocs xs) hown ad 1 1 (ocl e) rfl hn (one_ocl e) (by unfold maxLen; omega) (by omega) hbase
  have hk := h v' w' (by rw [ocs_append]; simpa [ocs] using h2) h3 h4
  refine wpListIn_plain hgd fun K hK => ?_
  unfold Oper.wpIn
  refine ⟨by simp [Oper.about, ho, resolve, Target.leads, Sem.run_pure], ?_⟩
  rw [Oper.semAt_plain F _ _ (by rw [ho]; intro c hc; cases hc)]
  simp only [execOp, ho, hty, resolve, invoke, builtin, Sem.run_bind, Sem.run_pure, Result.andThen_ok, List.map_toArray, List.map_cons, List.map_nil, hs, hx, hr]
  exact hK _ _ hk
end
theorem row_lower {w : World} {base base' : Nat} {e : TypeId} {z n : Nat} {v : Value} {xs : List Value} (h : w.ownsRow base e z v n xs) (hb : base' ≤ base) : w.ownsRow base' e z v n xs := by
  refine ⟨h.1, ?_⟩
  rcases h.2 with h | ⟨b, cap, cur, rfl, hb', hc, r⟩
  · exact Or.inl h
  · exact Or.inr ⟨b, cap, cur, rfl, Nat.le_trans hb hb', hc, r⟩
theorem rt_len {f : Fd} (h : rt f = true) : f.bs.length ≤ 1500 := by
  unfold rt at h
  simp only [Bool.and_eq_true, decide_eq_true_eq] at h
  have := h.1.2
  omega
/-- Out, whatever the frame. -/
theorem outQ (h : Nat) (T : Tb) (v p : Int) (f : Fd) (a : Option Addr) (n c : Nat) (w : World) (P : PT w h T) (hY : Byt w a n c f.bs) :
    Calls Tryz.prog 85 #[.pointer (some ⟨h + 2, 0, none⟩), .int .i64 v, .int .i64 p, .agg (FC f (.slice a n c))] w (OuP T v p f w) := by
  rcases Bool.eq_false_or_eq_true (rt f) with hr | hr
  · exact out19 h T v p f a n c w P hY (by have := rt_len hr; have := hY.len; omega)
  · exact out19_arg h T v p f a n c w P hY.len (by rw [hr, Bool.and_false])
/-- What the loop over the ports has so far. -/
def Iow (b : Nat) (w W3 : World) (L : List Int → List Ot) (pre : List Int) (W : World) : Prop :=
  ∃ (lv : Value) (xs : List Ow), Boxed W (b + 4) 48 lv ∧ W.ownsRow (b + 8) 57 18 lv xs.length (ocs xs) ∧ xs.map Ow.o = L pre ∧ (∀ x ∈ xs, Byt W x.a x.n x.c x.o.f.bs) ∧ (∀ x ∈ xs, ∀ k o, x.a = some ⟨k, o, none⟩ → 0 < x.n → b + 8 ≤ k ∧ lv.ownBlock ≠ some k) ∧ Below b w W ∧ b + 8 ≤ W.heap.size ∧ (∀ k, k < b + 8 → k ≠ b + 4 → W.heap[k]? = W3.heap[k]?)
theorem byt_keep {w w1 : World} {ao : Option Addr} {n c : Nat} {ns : List Int} (h : Byt w ao n c ns) (hb : ∀ b o v, ao = some ⟨b, o, none⟩ → 0 < n → w.cell? ⟨b, o, none⟩ = some v → w1.heap[b]? = w.heap[b]?) : Byt w1 ao n c ns :=
  ⟨h.len, h.nil, fun j hj => by
    obtain ⟨b, o, e, hc⟩ := h.cell j hj
    obtain ⟨b', o', e', hc'⟩ := h.cell 0 (by omega)
    rw [e] at e'
    cases e'
    refine ⟨b, o, e, ?_⟩
    rw [World.cell?_of_block (a := ⟨b, o + j, none⟩) (hb b o _ e (by omega) (by rw [Nat.add_zero] at hc'; exact hc'))]
    exact hc, h.le, h.mx, h.rng⟩
theorem io_own (b : Nat) (w W3 : World) (L : List Int → List Ot) : OwnFrom (b + 8) (Iow b w W3 L) := by
  rintro pre W W' row ⟨lv, xs, h1, h2, h3, h4, h5, h6, h7, h8⟩ g hr
  refine ⟨lv, xs, (g.block (b + 4) h1.lt (fun e => by have := (hr _ e.symm).1; omega)).trans h1, h2.kept g ?_, h3, fun x hx => ?_, h5, h6.grown g (by omega) (fun k e => by have := (hr k e).1; omega), Nat.le_trans h7 g.size, fun k hk hk2 => (g.block k (by omega) (fun e => by have := (hr _ e.symm).1; omega)).trans (h8 k hk hk2)⟩
  · rcases h2.2 with ⟨rfl, _⟩ | ⟨g', cap, cur, rfl, _, hgb, _⟩
    · exact .inl rfl
    · refine .inr fun e' => ?_
      obtain ⟨_, o, ho, hc⟩ := hr g' (by simpa [Value.ownBlock] using e'.symm)
      rw [hgb] at ho
      cases ho
      cases hc
  · exact byt_keep (h4 x hx) (fun k o v e hp hc => grown_cells hc g (fun r e => (hr r e).2))
theorem io_on {b : Nat} {w W3 W W' : World} {L : List Int → List Ot} {pre : List Int} (h : Iow b w W3 L pre W) (hb : Below W.heap.size W W') : Iow b w W3 L pre W' :=
  io_own b w W3 L pre W W' none h (grown_none hb) (fun r e => by cases e)
theorem io_row {b : Nat} {w W3 W : World} {L : List Int → List Ot} {pre : List Int} (h : Iow b w W3 L pre W) : ∀ k, rowOf W (b + 4) = some k → b + 8 ≤ k := by
  obtain ⟨lv, xs, h1, h2, -⟩ := h
  intro k hk
  unfold rowOf at hk
  rw [h1.cell] at hk
  exact (h2.lt k hk).1
theorem keepsFrom_of {B : Nat} {W W' : World} (h : Below W.heap.size W W') : KeepsFrom B W W' := ⟨h.size, fun k o _ ho _ => by rw [h.block k (Array.getElem?_eq_some_iff.1 ho).1]; exact ho⟩
set_option maxRecDepth 100000 in
set_option maxHeartbeats 2000000 in
theorem senders_in (F : Fence) (n : Nat) (h32 : F.fn 84) (hro : F.round = none) (p : Option Addr) (v u : Int) (w : World) :
    CallsIn F n Tryz.prog 84 #[.pointer p, .int .i64 v, .int .i64 u] w fun e w' => e = .returned (.func (.func 107) #[] #[.pointer (some ⟨w.heap.size, 0, none⟩), .pointer (some ⟨w.heap.size + 1, 0, none⟩), .pointer (some ⟨w.heap.size + 1 + 1, 0, none⟩)]) ∧ w' = ((w.alloc (.cells #[.pointer p] 26)).alloc (.cells #[.int .i64 v] 3)).alloc (.cells #[.int .i64 u] 3) := by
  refine callsIn_of_wp Tryz.func84 rfl h32 ?_ hro
  simp only [Tryz.ntmps84, List.size_toArray, List.length_cons, List.length_nil, Nat.reduceAdd, Nat.reduceSub, Array.replicate_succ, Array.replicate_zero, List.push_toArray, List.append_toArray, List.nil_append, List.cons_append]
  gi_wp2
  go_ret
  exact ⟨by simp, rfl⟩
/-- Blocks laid one behind another. -/
def allocs (w : World) (l : List Obj) : World := l.foldl World.alloc w
theorem allocs_size (w : World) (l : List Obj) : (allocs w l).heap.size = w.heap.size + l.length := by
  unfold allocs
  induction l generalizing w with
  | nil => rfl
  | cons o r ih => rw [List.foldl_cons, ih, World.size_alloc, List.length_cons]; omega
theorem allocs_below (w : World) (l : List Obj) : Below w.heap.size w (allocs w l) := by
  unfold allocs
  induction l generalizing w with
  | nil => exact Below.refl _ _
  | cons o r ih =>
    rw [List.foldl_cons]
    have := below_alloc w o
    exact this.trans ((ih (w.alloc o)).mono this.size)
theorem allocs_get (w : World) (l : List Obj) : ∀ (i : Nat) (o : Obj), l[i]? = some o → ∃ w0 : World, w0.heap.size = w.heap.size + i ∧ (allocs w l).heap[w.heap.size + i]? = (w0.alloc o).heap[w.heap.size + i]? := by
  unfold allocs
  induction l generalizing w with
  | nil => intro i o h; simp at h
  | cons o r ih =>
    intro i o' h
    rw [List.foldl_cons]
    cases i with
    | zero =>
      obtain rfl : o = o' := by simpa using h
      refine ⟨w, rfl, ?_⟩
      exact (allocs_below (w.alloc o) r).block _ (by simp)
    | succ i =>
      obtain ⟨w0, h1, h2⟩ := ih (w.alloc o) i o' (by simpa using h)
      rw [World.size_alloc] at h1 h2
      refine ⟨w0, by omega, ?_⟩
      rw [show w.heap.size + (i + 1) = w.heap.size + 1 + i by omega]
      exact h2
theorem allocs_box {w : World} {l : List Obj} {i : Nat} {cs : List Value} {t : TypeId} (h : l[i]? = some (.cells cs.toArray t (0, 0))) : Box (allocs w l) (w.heap.size + i) cs := by
  obtain ⟨w0, h1, h2⟩ := allocs_get w l i _ h
  have b := Box.new w0 cs t
  rw [h1] at b
  exact b.block h2
end Go.Proofs.YtgpdjfaklcmoiaaGreat
/- Contracts: the closures that say which ports are meant. -/
namespace Go.Proofs.YtgpdjfaklcmoiaaGreat
open Go.RowKit Go.PlainAid Go.Shelf

set_option maxRecDepth 100000 in
set_option maxHeartbeats 1000000 in
theorem meantA (kt : Nat) (t x : Int) (W : World) (h : Box W kt [.int .i64 t]) : Calls Tryz.prog 59 #[.int .i64 x, .pointer (some ⟨kt, 0, none⟩)] W fun e w' => e = .returned (.bool (t == 0 || x == t)) ∧ w' = W := by
  have c0 := h.cell 0 _ rfl
  clear h
  rcases Bool.eq_false_or_eq_true (t == 0) with h1 | h1
  · rw [h1, Bool.true_or]
    go_enter Tryz.func59, Tryz.ntmps59
    go_wp2
    go_ret
    exact ⟨rfl, rfl⟩
  · rw [h1, Bool.false_or]
    go_enter Tryz.func59, Tryz.ntmps59
    go_wp2
    go_ret
    exact ⟨rfl, rfl⟩
set_option maxRecDepth 100000 in
set_option maxHeartbeats 1000000 in
theorem meantB (kk ks : Nat) (kn : Bool) (y : En) (x : Int) (W : World) (h : Box W kk [.bool kn] ∧ Box W ks (ecl y)) : Calls Tryz.prog 81 #[.int .i64 x, .pointer (some ⟨kk, 0, none⟩), .pointer (some ⟨ks, 0, none⟩)] W fun e w' => e = .returned (.bool (!kn || x == y.p)) ∧ w' = W := by
  have c0 := h.1.cell 0 _ rfl
  have c1 := h.2.cell 7 _ rfl
  clear h
  cases kn
  · go_enter Tryz.func81, Tryz.ntmps81
    go_wp2
    go_ret
    exact ⟨rfl, rfl⟩
  · rw [show (!true || x == y.p) = (x == y.p) from rfl]
    go_enter Tryz.func81, Tryz.ntmps81
    go_wp2
    go_ret
    exact ⟨rfl, rfl⟩
end Go.Proofs.YtgpdjfaklcmoiaaGreat
/- Contract: the loop over the ports, for Relay. -/
namespace Go.Proofs.YtgpdjfaklcmoiaaGreat
open Go.RowKit Go.PlainAid Go.Shelf
attribute [local go_sem] Oper.semAt_some ZF

set_option maxRecDepth 100000 in
set_option maxHeartbeats 8000000 in
theorem outsA (A : PAd) (B : Br) (v u : Int) (f : Fd) (a : Option Addr) (n c : Nat) (kt : Nat) (t : Int) (w : World) (H : PB w A B) (hY : Byt w a n c f.bs) (hv : I64 v) (hX : Box w kt [.int .i64 t]) :
    Calls Tryz.prog 58 #[.pointer (some ⟨A.g, 0, none⟩), .int .i64 v, .int .i64 u, .agg (FC f (.slice a n c)), .func (.func 59) #[] #[.pointer (some ⟨kt, 0, none⟩)]] w fun e w' => ∃ ao xs cc, e = .returned (.slice ao xs.length cc) ∧ Ots w' ao xs.length cc xs ∧ xs.map Ow.o = ols B v f (fun p : Int => (t == 0 || p == t)) (sel B u (mbs B.V.l v B.V.n)) ∧ Below w.heap.size w w' ∧ OwnO w ao xs := by
  obtain ⟨i0, hi, hz0, hz1, hz2⟩ := info_parts Tryz.info57
  obtain ⟨b, hb⟩ : ∃ b, b = w.heap.size := ⟨_, rfl⟩
  obtain ⟨z, hz⟩ : ∃ z, z = allocs w [.cells #[.pointer (some ⟨A.g, 0, none⟩)] 26, .cells #[.int .i64 v] 3, .cells (FC f (.slice a n c)) 38, .cells #[.func (.func 59) #[] #[.pointer (some ⟨kt, 0, none⟩)]] 102, .cells #[.slice none 0 0] 48, .cells #[.pointer (some ⟨A.g, 0, none⟩)] 26, .cells #[.int .i64 v] 3, .cells #[.int .i64 u] 3] := ⟨_, rfl⟩
  have hze : (((((((w.alloc (.cells #[.pointer (some ⟨A.g, 0, none⟩)] 26)).alloc (.cells #[.int .i64 v] 3)).alloc (.cells (FC f (.slice a n c)) 38)).alloc (.cells #[.func (.func 59) #[] #[.pointer (some ⟨kt, 0, none⟩)]] 102)).alloc (.cells #[.slice none 0 0] 48)).alloc (.cells #[.pointer (some ⟨A.g, 0, none⟩)] 26)).alloc (.cells #[.int .i64 v] 3)).alloc (.cells #[.int .i64 u] 3) = z := hz.symm
  have zs : z.heap.size = b + 8 := by rw [hz, allocs_size, hb]; rfl
  have zb : Below b w z := by rw [hz, hb]; exact allocs_below _ _
  have z0 : Box z b [.pointer (some ⟨A.g, 0, none⟩)] := by rw [hz, hb]; exact allocs_box (i := 0) (t := 26) rfl
  have z1 : Box z (b + 1) [.int .i64 v] := by rw [hz, hb]; exact allocs_box (i := 1) (t := 3) rfl
  have z2 : Box z (b + 2) (fcl f (.slice a n c)) := by rw [hz, hb]; exact allocs_box (i := 2) (t := 38) rfl
  have z3 : Box z (b + 3) [.func (.func 59) #[] #[.pointer (some ⟨kt, 0, none⟩)]] := by rw [hz, hb]; exact allocs_box (i := 3) (t := 102) rfl
  have z4 : Boxed z (b + 4) 48 (.slice none 0 0) := by
    obtain ⟨w0, h1, h2⟩ := allocs_get w [.cells #[.pointer (some ⟨A.g, 0, none⟩)] 26, .cells #[.int .i64 v] 3, .cells (FC f (.slice a n c)) 38, .cells #[.func (.func 59) #[] #[.pointer (some ⟨kt, 0, none⟩)]] 102, .cells #[.slice none 0 0] 48, .cells #[.pointer (some ⟨A.g, 0, none⟩)] 26, .cells #[.int .i64 v] 3, .cells #[.int .i64 u] 3] 4 _ rfl
    rw [← hz, ← hb] at h2
    have h3 := Boxed.new w0 48 (.slice none 0 0)
    rw [h1, ← hb] at h3
    exact h2.trans h3
  have z5 : Box z (b + 5) [.pointer (some ⟨A.g, 0, none⟩)] := by rw [hz, hb]; exact allocs_box (i := 5) (t := 26) rfl
  have z6 : Box z (b + 6) [.int .i64 v] := by rw [hz, hb]; exact allocs_box (i := 6) (t := 3) rfl
  have z7 : Box z (b + 7) [.int .i64 u] := by rw [hz, hb]; exact allocs_box (i := 7) (t := 3) rfl
  have hlt := H.lt
  have hkt : kt < b := by rw [hb]; exact hX.lt
  have ZP := hide (H.on (by rw [← hb]; exact zb))
  have ZY := hide (hY.on (by rw [← hb]; exact zb))
  have ZYL : Hid (∀ b' o, a = some ⟨b', o, none⟩ → 0 < n → b' < b) := hide (fun b' o e hp => by rw [hb]; exact hY.lt b' o e hp)
  have ZX : Hid (Box z kt [.int .i64 t]) := hide (by exact hX.on (by rw [← hb]; exact zb))
  have hbA : A.hi ≤ b := by omega
  have HZ := hide hz
  have HVI := hide hv
  have HL := hide (mbs_len B.V.l v B.V.n)
  have HVN : Hid (B.V.n ≤ 64) := hide (by have := H.wf.vn; have := H.wf.n2; omega)
  clear H hY hlt hX hv hz
  refine (callsIn_wide (n := 6)).1 ?_
  refine callsIn_of_wp_marks Tryz.func58 rfl trivial ?_ rfl
  simp only [Tryz.ntmps58, List.size_toArray, List.length_cons, List.length_nil, Nat.reduceAdd, Nat.reduceSub, Array.replicate_succ, Array.replicate_zero, List.push_toArray, List.append_toArray, List.nil_append, List.cons_append]
  gi_wp2_with (refine ⟨trivial, ?_⟩; gi_at_call 84; refine (senders_in _ _ trivial rfl _ _ _ _).mono ?_; rintro e w' ⟨rfl, rfl⟩)
  rw [← hb]
  clear hze
  have HB := hide hb
  clear hb
  have sq9 : SeqStopsK Fence.wide (6 - 1) Tryz.prog 107 #[.pointer (some ⟨b + 5, 0, none⟩), .pointer (some ⟨b + 6, 0, none⟩), .pointer (some ⟨b + 7, 0, none⟩)] (fun x : Int => #[Value.int .i64 x]) (KpO (b + 8) (b + 4)) (fun xs => xs = sel B u (mbs B.V.l v B.V.n)) (fun _ => True) (mbs B.V.l v B.V.n).length z := fun l J Jx W hW hJ _ hY h0 =>
    each107_in (6 - 1) (by omega) l (b + 5) (b + 6) (b + 7) (b + 4) (b + 8) A B v u J Jx HVI.out (by omega) hY W hJ (by rw [← zs]; exact hW.size) (z5.on hW) (z6.on hW) (z7.on hW) (ZP.out.on hW) (by
      unfold rowOf
      rw [World.cell?_of_block (a := ⟨b + 4, 0, none⟩) (hW.block (b + 4) (by omega)), z4.cell]
      rfl) h0
  refine wpIn_rangeFunc_ownH (α := Int) rfl (by omega) (gf := 107) (lb := #[.pointer (some ⟨b + 5, 0, none⟩), .pointer (some ⟨b + 6, 0, none⟩), .pointer (some ⟨b + 7, 0, none⟩)]) rfl trivial (enters_of Tryz.func107 (by kernel_rfl) rfl)
    sq9 (fun h1 h2 => h1.trans h2) (fun W l o o' hl h hc _ => KpO.putObj W o' (by rw [← zs]; exact hl) (by omega) h hc) (Below.refl _ _) (fun _ => rfl)
    (Iow b w z (fun pre => ols B v f (fun p : Int => (t == 0 || p == t)) pre)) (fun _ _ _ => False) (by rw [zs]; exact io_own b w z _) (fun _ _ _ _ _ hs _ _ => hs)
    ⟨_, [], z4, World.ownsRow_nil _ _ _ _, rfl, fun x hx => (by cases hx), fun x hx => (by cases hx), zb, by omega, fun _ _ _ => rfl⟩
    (fun x a' _ => a' = ⟨#[.pointer (some ⟨A.g, 0, none⟩), .int .i64 v, .int .i64 u, .agg (FC f (.slice a n c)), .func (.func 59) #[] #[.pointer (some ⟨kt, 0, none⟩)], .pointer (some ⟨b, 0, none⟩), .pointer (some ⟨b + 1, 0, none⟩), undef, .pointer (some ⟨b + 2, 0, none⟩), .pointer (some ⟨b + 3, 0, none⟩), .slice none 0 0, .pointer (some ⟨b + 4, 0, none⟩), .int .i64 x, undef, undef, .pointer (some ⟨A.g, 0, none⟩), .int .i64 v, .int .i64 u, .func (.func 107) #[] #[.pointer (some ⟨b + 5, 0, none⟩), .pointer (some ⟨b + 6, 0, none⟩), .pointer (some ⟨b + 7, 0, none⟩)], .int .i64 x, undef, undef, undef, undef, undef, undef, undef, undef, undef, undef, undef, undef, undef, undef, undef, undef, undef, undef, undef, undef, undef, undef, undef, undef], []⟩) (fun _ _ _ _ _ _ hs _ _ => hs) ?cA ?cB ?cD ?cS
  case cA =>
    intro l pre x W K hI hK
    have HI := hide hI
    have HKK := hide hK
    clear hI hK
    gi_wp2
    exact HKK.out _ W (KeepsFrom.refl _ _) (KpO.refl _ _ _) HI.out rfl
  case cB =>
    rintro l pre x a' wr hl ⟨rec, hrec⟩ hI rfl hpl
    have hir := io_row hI
    have HII := hide hI
    obtain ⟨lv, xs, i1, i2, i3, i4, i5, i6, i7, i8⟩ := hI
    have W0 := hide (z0.block (i8 b (by omega) (by omega)))
    have W1 := hide (z1.block (i8 (b + 1) (by omega) (by omega)))
    have W2 := hide (z2.block (i8 (b + 2) (by omega) (by omega)))
    have W3 := hide (z3.block (i8 (b + 3) (by omega) (by omega)))
    have WP := hide (ZP.out.keep (fun k h1 h2 => i8 k (by omega) (by omega)))
    have WY := hide (byt_keep ZY.out (fun b' o v e hp _ => i8 b' (by have := ZYL.out b' o e hp; omega) (by have := ZYL.out b' o e hp; omega)))
    have WX : Hid (Box wr kt [.int .i64 t]) := hide (by exact ZX.out.block (i8 kt (by omega) (by omega)))
    have HIR := hide hir
    have c3 := W3.out.cell 0 _ rfl
    have hmt := fun W h => meantA kt t x W h
    have hpl2 : Hid (pre.length ≤ 64) := hide (by have := HL.out; have := HVN.out; omega)
    have HXS : Hid (xs.length ≤ 64) := hide (by
      have h1 := congrArg List.length i3
      rw [List.length_map] at h1
      dsimp only at h1
      have h2 := ols_len B v f (fun p : Int => (t == 0 || p == t)) pre
      have := hpl2.out
      omega)
    have I1 := hide i1
    have I2 := hide i2
    have I3 := hide i3
    have I4 := hide i4
    have I5 := hide i5
    have I6 := hide i6
    have I7 := hide i7
    have I8 := hide i8
    clear z0 z1 z2 z3 z4 z5 z6 z7 hir i1 i2 i3 i4 i5 i6 i7 i8 sq9 hpl hrec
    rcases Bool.eq_false_or_eq_true ((fun p : Int => (t == 0 || p == t)) x) with hM | hM
    rotate_left
    · dsimp only at hM
      have HN : Hid (ols B v f (fun p : Int => (t == 0 || p == t)) (pre ++ [x]) = ols B v f (fun p : Int => (t == 0 || p == t)) pre) := hide (by rw [ols_append, ols_one, hM, Bool.false_and, if_neg (by simp), List.append_nil])
      have hmq := hmt _ WX.out
      rw [hM] at hmq
      have HMQ := hide hmq
      clear hmq hmt
      gi_wp2_with (refine ⟨trivial, ?_⟩; gi_at_call 59; refine (callsRound HMQ.out).mono ?_; rintro e w' ⟨rfl, hw⟩; obtain rfl : wr = w' := hw.symm)
      exact ⟨KeepsFrom.refl _ _, KpO.refl _ _ _, lv, xs, I1.out, I2.out, by rw [I3.out]; exact HN.out.symm, I4.out, I5.out, I6.out, I7.out, I8.out⟩
    have hmq := hmt _ WX.out
    dsimp only at hM
    have HMX := hide hM
    rw [hM] at hmq
    have HMQ := hide hmq
    clear hmq hmt hM
    gi_wp2_with (refine ⟨trivial, ?_⟩; gi_at_call 59; refine (callsRound HMQ.out).mono ?_; rintro e w' ⟨rfl, hw⟩; obtain rfl : wr = w' := hw.symm)
    have SS : Hid (∀ z : World, Below wr.heap.size wr z → (z.cell? ⟨b, 0, none⟩ = some (.pointer (some ⟨A.g, 0, none⟩)) ∧ z.cell? ⟨A.g, 0, none⟩ = some (.pointer (some ⟨A.h + 2, 0, none⟩)) ∧ z.cell? ⟨b + 1, 0, none⟩ = some (.int .i64 v) ∧ Box z (b + 2) (fcl f (.slice a n c))) ∧ PB z A B ∧ Byt z a n c f.bs) := hide (fun z q => ⟨⟨(W0.out.on q).cell 0 _ rfl, (WP.out.on q).bx.cell 0 _ rfl, (W1.out.on q).cell 0 _ rfl, W2.out.on q⟩, WP.out.on q, WY.out.on q⟩)
    have BW : Hid (Below wr.heap.size wr wr.drew) := hide ⟨rfl, rfl, rfl, Nat.le_refl _, fun _ _ => rfl⟩
    clear c3
    refine wpIn_then (fun a' w' => ∃ k13 a1 m1 c1, a' = ⟨#[.pointer (some ⟨A.g, 0, none⟩), .int .i64 v, .int .i64 u, .agg (FC f (.slice a n c)), .func (.func 59) #[] #[.pointer (some ⟨kt, 0, none⟩)], .pointer (some ⟨b, 0, none⟩), .pointer (some ⟨b + 1, 0, none⟩), undef, .pointer (some ⟨b + 2, 0, none⟩), .pointer (some ⟨b + 3, 0, none⟩), .slice none 0 0, .pointer (some ⟨b + 4, 0, none⟩), .int .i64 x, .pointer (some ⟨k13, 0, none⟩), .int .i64 (ouE B.V v x f), .pointer (some ⟨A.g, 0, none⟩), .int .i64 v, .int .i64 u, .func (.func 107) #[] #[.pointer (some ⟨b + 5, 0, none⟩), .pointer (some ⟨b + 6, 0, none⟩), .pointer (some ⟨b + 7, 0, none⟩)], .int .i64 x, .func (.func 59) #[] #[.pointer (some ⟨kt, 0, none⟩)], .int .i64 x, .bool true, .bool false, .tuple #[.agg (FC (ouF B.V v x f) (.slice a1 m1 c1)), .int .i64 (ouE B.V v x f)], .pointer (some ⟨A.g, 0, none⟩), .pointer (some ⟨A.g, 0, none⟩), .pointer (some ⟨A.g, 0, none⟩), .pointer (some ⟨A.h + 2, 0, none⟩), .int .i64 v, .int .i64 x, .agg (FC f (.slice a n c)), .tuple #[.agg (FC (ouF B.V v x f) (.slice a1 m1 c1)), .int .i64 (ouE B.V v x f)], .agg (FC (ouF B.V v x f) (.slice a1 m1 c1)), .int .i64 (ouE B.V v x f), undef, undef, undef, undef, undef, undef, undef, undef, undef], []⟩ ∧ Box w' k13 (fcl (ouF B.V v x f) (.slice a1 m1 c1)) ∧ Byt w' a1 m1 c1 (ouF B.V v x f).bs ∧ (∀ b' o, a1 = some ⟨b', o, none⟩ → wr.heap.size ≤ b') ∧ wr.heap.size ≤ k13 ∧ Below wr.heap.size wr w') (region_round (S := fun w' => w'.cell? ⟨b, 0, none⟩ = some (.pointer (some ⟨A.g, 0, none⟩)) ∧ w'.cell? ⟨A.g, 0, none⟩ = some (.pointer (some ⟨A.h + 2, 0, none⟩)) ∧ w'.cell? ⟨b + 1, 0, none⟩ = some (.int .i64 v) ∧ Box w' (b + 2) (fcl f (.slice a n c))) (by kernel_rfl) (noDefers (by kernel_rfl)) (fun ⟨_, _, h⟩ => h) (SS.out _ BW.out).1 (fun hHeld => ?_)) ?_
    · generalize wr.drew = u0 at *
      refine wpAnyH_take (i := 0) (v := .pointer (some ⟨A.g, 0, none⟩)) rfl (by kernel_rfl) (by kernel_rfl) (by kernel_rfl) (fun _ _ _ h => h) (Or.inl ⟨by rfl, ?_⟩) hHeld ?_
      · intro W hW; (try dsimp only at hW); have hc := hW.1; clear hW; go_simp
      change wpAnyH _ _ _ _ _ _ _ ⟨#[.pointer (some ⟨A.g, 0, none⟩),.int .i64 v,.int .i64 u,.agg (FC f (.slice a n c)),.func (.func 59) #[] #[.pointer (some ⟨kt, 0, none⟩)],.pointer (some ⟨b, 0, none⟩),.pointer (some ⟨b + 1, 0, none⟩),_,.pointer (some ⟨b + 2, 0, none⟩),.pointer (some ⟨b + 3, 0, none⟩),.slice none 0 0,.pointer (some ⟨b + 4, 0, none⟩),.int .i64 x,_,_,.pointer (some ⟨A.g, 0, none⟩),.int .i64 v,.int .i64 u,.func (.func 107) #[] #[.pointer (some ⟨b + 5, 0, none⟩), .pointer (some ⟨b + 6, 0, none⟩), .pointer (some ⟨b + 7, 0, none⟩)],.int .i64 x,.func (.func 59) #[] #[.pointer (some ⟨kt, 0, none⟩)],.int .i64 x,.bool true,.bool false,_,.pointer (some ⟨A.g, 0, none⟩),_,_,_,_,_,_,_,_,_,_,_,_,_,_,_,_,_,_], []⟩ _
      refine wpAnyH_take (i := 1) (v := .pointer (some ⟨A.g, 0, none⟩)) rfl (by kernel_rfl) (by kernel_rfl) (by kernel_rfl) (fun _ _ _ h => h) (Or.inl ⟨by rfl, ?_⟩) hHeld ?_
      · intro W hW; (try dsimp only at hW); go_simp
      change wpAnyH _ _ _ _ _ _ _ ⟨#[.pointer (some ⟨A.g, 0, none⟩),.int .i64 v,.int .i64 u,.agg (FC f (.slice a n c)),.func (.func 59) #[] #[.pointer (some ⟨kt, 0, none⟩)],.pointer (some ⟨b, 0, none⟩),.pointer (some ⟨b + 1, 0, none⟩),_,.pointer (some ⟨b + 2, 0, none⟩),.pointer (some ⟨b + 3, 0, none⟩),.slice none 0 0,.pointer (some ⟨b + 4, 0, none⟩),.int .i64 x,_,_,.pointer (some ⟨A.g, 0, none⟩),.int .i64 v,.int .i64 u,.func (.func 107) #[] #[.pointer (some ⟨b + 5, 0, none⟩), .pointer (some ⟨b + 6, 0, none⟩), .pointer (some ⟨b + 7, 0, none⟩)],.int .i64 x,.func (.func 59) #[] #[.pointer (some ⟨kt, 0, none⟩)],.int .i64 x,.bool true,.bool false,_,.pointer (some ⟨A.g, 0, none⟩),.pointer (some ⟨A.g, 0, none⟩),_,_,_,_,_,_,_,_,_,_,_,_,_,_,_,_,_], []⟩ _
      refine wpAnyH_take (i := 2) (v := .pointer (some ⟨A.g, 0, none⟩)) rfl (by kernel_rfl) (by kernel_rfl) (by kernel_rfl) (fun _ _ _ h => h) (Or.inl ⟨by rfl, ?_⟩) hHeld ?_
      · intro W hW; (try dsimp only at hW); go_simp
      change wpAnyH _ _ _ _ _ _ _ ⟨#[.pointer (some ⟨A.g, 0, none⟩),.int .i64 v,.int .i64 u,.agg (FC f (.slice a n c)),.func (.func 59) #[] #[.pointer (some ⟨kt, 0, none⟩)],.pointer (some ⟨b, 0, none⟩),.pointer (some ⟨b + 1, 0, none⟩),_,.pointer (some ⟨b + 2, 0, none⟩),.pointer (some ⟨b + 3, 0, none⟩),.slice none 0 0,.pointer (some ⟨b + 4, 0, none⟩),.int .i64 x,_,_,.pointer (some ⟨A.g, 0, none⟩),.int .i64 v,.int .i64 u,.func (.func 107) #[] #[.pointer (some ⟨b + 5, 0, none⟩), .pointer (some ⟨b + 6, 0, none⟩), .pointer (some ⟨b + 7, 0, none⟩)],.int .i64 x,.func (.func 59) #[] #[.pointer (some ⟨kt, 0, none⟩)],.int .i64 x,.bool true,.bool false,_,.pointer (some ⟨A.g, 0, none⟩),.pointer (some ⟨A.g, 0, none⟩),.pointer (some ⟨A.g, 0, none⟩),_,_,_,_,_,_,_,_,_,_,_,_,_,_,_,_], []⟩ _
      refine wpAnyH_take (i := 3) (v := .pointer (some ⟨A.h + 2, 0, none⟩)) rfl (by kernel_rfl) (by kernel_rfl) (by kernel_rfl) (fun _ _ _ h => h) (Or.inl ⟨by rfl, ?_⟩) hHeld ?_
      · intro W hW; (try dsimp only at hW); have hc := hW.2.1; clear hW; go_simp
      change wpAnyH _ _ _ _ _ _ _ ⟨#[.pointer (some ⟨A.g, 0, none⟩),.int .i64 v,.int .i64 u,.agg (FC f (.slice a n c)),.func (.func 59) #[] #[.pointer (some ⟨kt, 0, none⟩)],.pointer (some ⟨b, 0, none⟩),.pointer (some ⟨b + 1, 0, none⟩),_,.pointer (some ⟨b + 2, 0, none⟩),.pointer (some ⟨b + 3, 0, none⟩),.slice none 0 0,.pointer (some ⟨b + 4, 0, none⟩),.int .i64 x,_,_,.pointer (some ⟨A.g, 0, none⟩),.int .i64 v,.int .i64 u,.func (.func 107) #[] #[.pointer (some ⟨b + 5, 0, none⟩), .pointer (some ⟨b + 6, 0, none⟩), .pointer (some ⟨b + 7, 0, none⟩)],.int .i64 x,.func (.func 59) #[] #[.pointer (some ⟨kt, 0, none⟩)],.int .i64 x,.bool true,.bool false,_,.pointer (some ⟨A.g, 0, none⟩),.pointer (some ⟨A.g, 0, none⟩),.pointer (some ⟨A.g, 0, none⟩),.pointer (some ⟨A.h + 2, 0, none⟩),_,_,_,_,_,_,_,_,_,_,_,_,_,_,_], []⟩ _
      refine wpAnyH_take (i := 4) (v := .int .i64 v) rfl (by kernel_rfl) (by kernel_rfl) (by kernel_rfl) (fun _ _ _ h => h) (Or.inl ⟨by rfl, ?_⟩) hHeld ?_
      · intro W hW; (try dsimp only at hW); have hc := hW.2.2.1; clear hW; go_simp
      change wpAnyH _ _ _ _ _ _ _ ⟨#[.pointer (some ⟨A.g, 0, none⟩),.int .i64 v,.int .i64 u,.agg (FC f (.slice a n c)),.func (.func 59) #[] #[.pointer (some ⟨kt, 0, none⟩)],.pointer (some ⟨b, 0, none⟩),.pointer (some ⟨b + 1, 0, none⟩),_,.pointer (some ⟨b + 2, 0, none⟩),.pointer (some ⟨b + 3, 0, none⟩),.slice none 0 0,.pointer (some ⟨b + 4, 0, none⟩),.int .i64 x,_,_,.pointer (some ⟨A.g, 0, none⟩),.int .i64 v,.int .i64 u,.func (.func 107) #[] #[.pointer (some ⟨b + 5, 0, none⟩), .pointer (some ⟨b + 6, 0, none⟩), .pointer (some ⟨b + 7, 0, none⟩)],.int .i64 x,.func (.func 59) #[] #[.pointer (some ⟨kt, 0, none⟩)],.int .i64 x,.bool true,.bool false,_,.pointer (some ⟨A.g, 0, none⟩),.pointer (some ⟨A.g, 0, none⟩),.pointer (some ⟨A.g, 0, none⟩),.pointer (some ⟨A.h + 2, 0, none⟩),.int .i64 v,_,_,_,_,_,_,_,_,_,_,_,_,_,_], []⟩ _
      refine wpAnyH_take (i := 5) (v := .int .i64 x) rfl (by kernel_rfl) (by kernel_rfl) (by kernel_rfl) (fun _ _ _ h => h) (Or.inl ⟨by rfl, ?_⟩) hHeld ?_
      · intro W hW; (try dsimp only at hW); go_simp
      change wpAnyH _ _ _ _ _ _ _ ⟨#[.pointer (some ⟨A.g, 0, none⟩),.int .i64 v,.int .i64 u,.agg (FC f (.slice a n c)),.func (.func 59) #[] #[.pointer (some ⟨kt, 0, none⟩)],.pointer (some ⟨b, 0, none⟩),.pointer (some ⟨b + 1, 0, none⟩),_,.pointer (some ⟨b + 2, 0, none⟩),.pointer (some ⟨b + 3, 0, none⟩),.slice none 0 0,.pointer (some ⟨b + 4, 0, none⟩),.int .i64 x,_,_,.pointer (some ⟨A.g, 0, none⟩),.int .i64 v,.int .i64 u,.func (.func 107) #[] #[.pointer (some ⟨b + 5, 0, none⟩), .pointer (some ⟨b + 6, 0, none⟩), .pointer (some ⟨b + 7, 0, none⟩)],.int .i64 x,.func (.func 59) #[] #[.pointer (some ⟨kt, 0, none⟩)],.int .i64 x,.bool true,.bool false,_,.pointer (some ⟨A.g, 0, none⟩),.pointer (some ⟨A.g, 0, none⟩),.pointer (some ⟨A.g, 0, none⟩),.pointer (some ⟨A.h + 2, 0, none⟩),.int .i64 v,.int .i64 x,_,_,_,_,_,_,_,_,_,_,_,_,_], []⟩ _
      refine wpAnyH_take (i := 6) (v := .agg (FC f (.slice a n c))) rfl (by kernel_rfl) (by kernel_rfl) (by kernel_rfl) (fun _ _ _ h => h) (yieldsIf_load_mid (by rfl) 38 (.tmp 8) rfl (b + 2) 0 rfl (fcl f (.slice a n c)) _ (fun W hW => hW.2.2.2.at_) Tryz.underlying38 rfl Tryz.size38) hHeld ?_
      change wpAnyH _ _ _ _ _ _ _ ⟨#[.pointer (some ⟨A.g, 0, none⟩),.int .i64 v,.int .i64 u,.agg (FC f (.slice a n c)),.func (.func 59) #[] #[.pointer (some ⟨kt, 0, none⟩)],.pointer (some ⟨b, 0, none⟩),.pointer (some ⟨b + 1, 0, none⟩),_,.pointer (some ⟨b + 2, 0, none⟩),.pointer (some ⟨b + 3, 0, none⟩),.slice none 0 0,.pointer (some ⟨b + 4, 0, none⟩),.int .i64 x,_,_,.pointer (some ⟨A.g, 0, none⟩),.int .i64 v,.int .i64 u,.func (.func 107) #[] #[.pointer (some ⟨b + 5, 0, none⟩), .pointer (some ⟨b + 6, 0, none⟩), .pointer (some ⟨b + 7, 0, none⟩)],.int .i64 x,.func (.func 59) #[] #[.pointer (some ⟨kt, 0, none⟩)],.int .i64 x,.bool true,.bool false,_,.pointer (some ⟨A.g, 0, none⟩),.pointer (some ⟨A.g, 0, none⟩),.pointer (some ⟨A.g, 0, none⟩),.pointer (some ⟨A.h + 2, 0, none⟩),.int .i64 v,.int .i64 x,.agg (FC f (.slice a n c)),_,_,_,_,_,_,_,_,_,_,_,_], []⟩ _
      refine wpAnyH_ready (rs := [7, 11]) (by kernel_rfl) (by simp) ?_
      refine AllReadyH.cons rfl (fun K hK => ?_) (AllReadyH.cons rfl (fun K hK => ?_) AllReadyH.nil)
      · skip
        go_simp
        refine (outQ A.h B.V v x f a n c _ (SS.out _ BW.out).2.1.pv (SS.out _ BW.out).2.2).mono ?_
        rintro e u1 ⟨a1, m1, c1, rfl, Y1, ha1, b1⟩
        have HA1 : Hid (∀ b' o, a1 = some ⟨b', o, none⟩ → wr.heap.size ≤ b') := hide (fun b' o e => Nat.le_trans BW.out.size (ha1 b' o e))
        replace BW := hide (belowOn BW.out b1)
        refine hK.out _ _ (SS.out _ BW.out).1 (fun hHeld => ?_)
        have HY4 := hide Y1
        clear hK K b1 Y1 ha1
        change wpAnyH _ _ _ _ _ _ _ ⟨#[.pointer (some ⟨A.g, 0, none⟩),.int .i64 v,.int .i64 u,.agg (FC f (.slice a n c)),.func (.func 59) #[] #[.pointer (some ⟨kt, 0, none⟩)],.pointer (some ⟨b, 0, none⟩),.pointer (some ⟨b + 1, 0, none⟩),_,.pointer (some ⟨b + 2, 0, none⟩),.pointer (some ⟨b + 3, 0, none⟩),.slice none 0 0,.pointer (some ⟨b + 4, 0, none⟩),.int .i64 x,_,_,.pointer (some ⟨A.g, 0, none⟩),.int .i64 v,.int .i64 u,.func (.func 107) #[] #[.pointer (some ⟨b + 5, 0, none⟩), .pointer (some ⟨b + 6, 0, none⟩), .pointer (some ⟨b + 7, 0, none⟩)],.int .i64 x,.func (.func 59) #[] #[.pointer (some ⟨kt, 0, none⟩)],.int .i64 x,.bool true,.bool false,_,.pointer (some ⟨A.g, 0, none⟩),.pointer (some ⟨A.g, 0, none⟩),.pointer (some ⟨A.g, 0, none⟩),.pointer (some ⟨A.h + 2, 0, none⟩),.int .i64 v,.int .i64 x,.agg (FC f (.slice a n c)),.tuple #[.agg (FC (ouF B.V v x f) (.slice a1 m1 c1)), .int .i64 (ouE B.V v x f)],_,_,_,_,_,_,_,_,_,_,_], []⟩ _
        refine wpAnyH_take (i := 8) (v := .tuple #[.agg (FC (ouF B.V v x f) (.slice a1 m1 c1)), .int .i64 (ouE B.V v x f)]) rfl (by kernel_rfl) (by kernel_rfl) (by kernel_rfl) (fun _ _ _ h => h) (Or.inl ⟨by rfl, ?_⟩) hHeld ?_
        · intro W hW; (try dsimp only at hW); go_simp
        change wpAnyH _ _ _ _ _ _ _ ⟨#[.pointer (some ⟨A.g, 0, none⟩),.int .i64 v,.int .i64 u,.agg (FC f (.slice a n c)),.func (.func 59) #[] #[.pointer (some ⟨kt, 0, none⟩)],.pointer (some ⟨b, 0, none⟩),.pointer (some ⟨b + 1, 0, none⟩),_,.pointer (some ⟨b + 2, 0, none⟩),.pointer (some ⟨b + 3, 0, none⟩),.slice none 0 0,.pointer (some ⟨b + 4, 0, none⟩),.int .i64 x,_,_,.pointer (some ⟨A.g, 0, none⟩),.int .i64 v,.int .i64 u,.func (.func 107) #[] #[.pointer (some ⟨b + 5, 0, none⟩), .pointer (some ⟨b + 6, 0, none⟩), .pointer (some ⟨b + 7, 0, none⟩)],.int .i64 x,.func (.func 59) #[] #[.pointer (some ⟨kt, 0, none⟩)],.int .i64 x,.bool true,.bool false,.tuple #[.agg (FC (ouF B.V v x f) (.slice a1 m1 c1)), .int .i64 (ouE B.V v x f)],.pointer (some ⟨A.g, 0, none⟩),.pointer (some ⟨A.g, 0, none⟩),.pointer (some ⟨A.g, 0, none⟩),.pointer (some ⟨A.h + 2, 0, none⟩),.int .i64 v,.int .i64 x,.agg (FC f (.slice a n c)),.tuple #[.agg (FC (ouF B.V v x f) (.slice a1 m1 c1)), .int .i64 (ouE B.V v x f)],_,_,_,_,_,_,_,_,_,_,_], []⟩ _
        refine wpAnyH_take (i := 9) (v := .agg (FC (ouF B.V v x f) (.slice a1 m1 c1))) rfl (by kernel_rfl) (by kernel_rfl) (by kernel_rfl) (fun _ _ _ h => h) (Or.inl ⟨by rfl, ?_⟩) hHeld ?_
        · intro W hW; (try dsimp only at hW); go_simp
        change wpAnyH _ _ _ _ _ _ _ ⟨#[.pointer (some ⟨A.g, 0, none⟩),.int .i64 v,.int .i64 u,.agg (FC f (.slice a n c)),.func (.func 59) #[] #[.pointer (some ⟨kt, 0, none⟩)],.pointer (some ⟨b, 0, none⟩),.pointer (some ⟨b + 1, 0, none⟩),_,.pointer (some ⟨b + 2, 0, none⟩),.pointer (some ⟨b + 3, 0, none⟩),.slice none 0 0,.pointer (some ⟨b + 4, 0, none⟩),.int .i64 x,_,_,.pointer (some ⟨A.g, 0, none⟩),.int .i64 v,.int .i64 u,.func (.func 107) #[] #[.pointer (some ⟨b + 5, 0, none⟩), .pointer (some ⟨b + 6, 0, none⟩), .pointer (some ⟨b + 7, 0, none⟩)],.int .i64 x,.func (.func 59) #[] #[.pointer (some ⟨kt, 0, none⟩)],.int .i64 x,.bool true,.bool false,.tuple #[.agg (FC (ouF B.V v x f) (.slice a1 m1 c1)), .int .i64 (ouE B.V v x f)],.pointer (some ⟨A.g, 0, none⟩),.pointer (some ⟨A.g, 0, none⟩),.pointer (some ⟨A.g, 0, none⟩),.pointer (some ⟨A.h + 2, 0, none⟩),.int .i64 v,.int .i64 x,.agg (FC f (.slice a n c)),.tuple #[.agg (FC (ouF B.V v x f) (.slice a1 m1 c1)), .int .i64 (ouE B.V v x f)],.agg (FC (ouF B.V v x f) (.slice a1 m1 c1)),_,_,_,_,_,_,_,_,_,_], []⟩ _
        refine wpAnyH_take (i := 10) (v := .int .i64 (ouE B.V v x f)) rfl (by kernel_rfl) (by kernel_rfl) (by kernel_rfl) (fun _ _ _ h => h) (Or.inl ⟨by rfl, ?_⟩) hHeld ?_
        · intro W hW; (try dsimp only at hW); go_simp
        change wpAnyH _ _ _ _ _ _ _ ⟨#[.pointer (some ⟨A.g, 0, none⟩),.int .i64 v,.int .i64 u,.agg (FC f (.slice a n c)),.func (.func 59) #[] #[.pointer (some ⟨kt, 0, none⟩)],.pointer (some ⟨b, 0, none⟩),.pointer (some ⟨b + 1, 0, none⟩),_,.pointer (some ⟨b + 2, 0, none⟩),.pointer (some ⟨b + 3, 0, none⟩),.slice none 0 0,.pointer (some ⟨b + 4, 0, none⟩),.int .i64 x,_,_,.pointer (some ⟨A.g, 0, none⟩),.int .i64 v,.int .i64 u,.func (.func 107) #[] #[.pointer (some ⟨b + 5, 0, none⟩), .pointer (some ⟨b + 6, 0, none⟩), .pointer (some ⟨b + 7, 0, none⟩)],.int .i64 x,.func (.func 59) #[] #[.pointer (some ⟨kt, 0, none⟩)],.int .i64 x,.bool true,.bool false,.tuple #[.agg (FC (ouF B.V v x f) (.slice a1 m1 c1)), .int .i64 (ouE B.V v x f)],.pointer (some ⟨A.g, 0, none⟩),.pointer (some ⟨A.g, 0, none⟩),.pointer (some ⟨A.g, 0, none⟩),.pointer (some ⟨A.h + 2, 0, none⟩),.int .i64 v,.int .i64 x,.agg (FC f (.slice a n c)),.tuple #[.agg (FC (ouF B.V v x f) (.slice a1 m1 c1)), .int .i64 (ouE B.V v x f)],.agg (FC (ouF B.V v x f) (.slice a1 m1 c1)),.int .i64 (ouE B.V v x f),_,_,_,_,_,_,_,_,_], []⟩ _
        refine wpAnyH_ready (rs := [11]) (by kernel_rfl) (by simp) ?_
        refine AllReadyH.cons rfl (fun K hK => ?_) AllReadyH.nil
        go_simp
        have bz := Box.new u1 (fcl zeroF (.slice none 0 0)) 38
        have HYK : Hid (∀ b o, a1 = some ⟨b, o, none⟩ → 0 < m1 → b ≠ u1.heap.size) := hide (fun b o e hp => by have := HY4.out.lt b o e hp; omega)
        have HK13 : Hid (wr.heap.size ≤ u1.heap.size) := hide BW.out.size
        replace BW := hide (belowOn BW.out (below_alloc u1 (.cells (FC zeroF (.slice none 0 0)) 38)))
        replace HY4 := hide (HY4.out.on (below_alloc u1 (.cells (FC zeroF (.slice none 0 0)) 38)))
        have bz' : Box (u1.alloc (.cells (FC zeroF (.slice none 0 0)) 38)) u1.heap.size (fcl zeroF (.slice none 0 0)) := bz
        replace bz := bz'
        clear bz'
        generalize (u1.alloc (.cells (FC zeroF (.slice none 0 0)) 38)) = u2 at *
        generalize u1.heap.size = k13 at *
        refine hK.out _ _ (SS.out _ BW.out).1 (fun hHeld => ?_)
        clear hK K
        change wpAnyH _ _ _ _ _ _ _ ⟨#[.pointer (some ⟨A.g, 0, none⟩),.int .i64 v,.int .i64 u,.agg (FC f (.slice a n c)),.func (.func 59) #[] #[.pointer (some ⟨kt, 0, none⟩)],.pointer (some ⟨b, 0, none⟩),.pointer (some ⟨b + 1, 0, none⟩),_,.pointer (some ⟨b + 2, 0, none⟩),.pointer (some ⟨b + 3, 0, none⟩),.slice none 0 0,.pointer (some ⟨b + 4, 0, none⟩),.int .i64 x,.pointer (some ⟨k13, 0, none⟩),_,.pointer (some ⟨A.g, 0, none⟩),.int .i64 v,.int .i64 u,.func (.func 107) #[] #[.pointer (some ⟨b + 5, 0, none⟩), .pointer (some ⟨b + 6, 0, none⟩), .pointer (some ⟨b + 7, 0, none⟩)],.int .i64 x,.func (.func 59) #[] #[.pointer (some ⟨kt, 0, none⟩)],.int .i64 x,.bool true,.bool false,.tuple #[.agg (FC (ouF B.V v x f) (.slice a1 m1 c1)), .int .i64 (ouE B.V v x f)],.pointer (some ⟨A.g, 0, none⟩),.pointer (some ⟨A.g, 0, none⟩),.pointer (some ⟨A.g, 0, none⟩),.pointer (some ⟨A.h + 2, 0, none⟩),.int .i64 v,.int .i64 x,.agg (FC f (.slice a n c)),.tuple #[.agg (FC (ouF B.V v x f) (.slice a1 m1 c1)), .int .i64 (ouE B.V v x f)],.agg (FC (ouF B.V v x f) (.slice a1 m1 c1)),.int .i64 (ouE B.V v x f),_,_,_,_,_,_,_,_,_], []⟩ _
        refine wpAnyH_ready (rs := [12]) (by kernel_rfl) (by simp) ?_
        refine AllReadyH.cons rfl (fun K hK => ?_) AllReadyH.nil
        rw [if_pos (by rfl)]
        refine wp_store_mid 38 (.tmp 13) (.tmp 33) rfl k13 0 (FC (ouF B.V v x f) (.slice a1 m1 c1)) rfl rfl bz.th Tryz.size38 (one_fcl _ _ rfl) ?_
        have G3 := setCells_grown k13 (fcl (ouF B.V v x f) (.slice a1 m1 c1)) 0 u2
        have bf := bz.self (cs' := fcl (ouF B.V v x f) (.slice a1 m1 c1)) rfl
        have BW3 := below_grown BW.out G3 HK13.out BW.out.size
        have Y3 := HY4.out.kept (k := k13) HYK.out G3
        have e4 : World.setCells u2 k13 0 (FC (ouF B.V v x f) (.slice a1 m1 c1)).toList = World.setCells u2 k13 0 (fcl (ouF B.V v x f) (.slice a1 m1 c1)) := rfl
        rw [e4]
        generalize World.setCells u2 k13 0 (fcl (ouF B.V v x f) (.slice a1 m1 c1)) = u9 at *
        refine hK.out _ _ (SS.out _ BW3).1 (fun hHeld => ?_)
        have BW9 := hide BW3
        have HY9 := hide Y3
        have HF9 := hide bf
        clear hK K G3 bf BW3 Y3 e4 bz HY4 HYK BW
        change wpAnyH _ _ _ _ _ _ _ ⟨#[.pointer (some ⟨A.g, 0, none⟩),.int .i64 v,.int .i64 u,.agg (FC f (.slice a n c)),.func (.func 59) #[] #[.pointer (some ⟨kt, 0, none⟩)],.pointer (some ⟨b, 0, none⟩),.pointer (some ⟨b + 1, 0, none⟩),_,.pointer (some ⟨b + 2, 0, none⟩),.pointer (some ⟨b + 3, 0, none⟩),.slice none 0 0,.pointer (some ⟨b + 4, 0, none⟩),.int .i64 x,.pointer (some ⟨k13, 0, none⟩),_,.pointer (some ⟨A.g, 0, none⟩),.int .i64 v,.int .i64 u,.func (.func 107) #[] #[.pointer (some ⟨b + 5, 0, none⟩), .pointer (some ⟨b + 6, 0, none⟩), .pointer (some ⟨b + 7, 0, none⟩)],.int .i64 x,.func (.func 59) #[] #[.pointer (some ⟨kt, 0, none⟩)],.int .i64 x,.bool true,.bool false,.tuple #[.agg (FC (ouF B.V v x f) (.slice a1 m1 c1)), .int .i64 (ouE B.V v x f)],.pointer (some ⟨A.g, 0, none⟩),.pointer (some ⟨A.g, 0, none⟩),.pointer (some ⟨A.g, 0, none⟩),.pointer (some ⟨A.h + 2, 0, none⟩),.int .i64 v,.int .i64 x,.agg (FC f (.slice a n c)),.tuple #[.agg (FC (ouF B.V v x f) (.slice a1 m1 c1)), .int .i64 (ouE B.V v x f)],.agg (FC (ouF B.V v x f) (.slice a1 m1 c1)),.int .i64 (ouE B.V v x f),_,_,_,_,_,_,_,_,_], []⟩ _
        refine wpAnyH_take (i := 13) (v := .int .i64 (ouE B.V v x f)) rfl (by kernel_rfl) (by kernel_rfl) (by kernel_rfl) (fun _ _ _ h => h) (Or.inl ⟨by rfl, ?_⟩) hHeld ?_
        · intro W hW; (try dsimp only at hW); go_simp
        change wpAnyH _ _ _ _ _ _ _ ⟨#[.pointer (some ⟨A.g, 0, none⟩),.int .i64 v,.int .i64 u,.agg (FC f (.slice a n c)),.func (.func 59) #[] #[.pointer (some ⟨kt, 0, none⟩)],.pointer (some ⟨b, 0, none⟩),.pointer (some ⟨b + 1, 0, none⟩),_,.pointer (some ⟨b + 2, 0, none⟩),.pointer (some ⟨b + 3, 0, none⟩),.slice none 0 0,.pointer (some ⟨b + 4, 0, none⟩),.int .i64 x,.pointer (some ⟨k13, 0, none⟩),.int .i64 (ouE B.V v x f),.pointer (some ⟨A.g, 0, none⟩),.int .i64 v,.int .i64 u,.func (.func 107) #[] #[.pointer (some ⟨b + 5, 0, none⟩), .pointer (some ⟨b + 6, 0, none⟩), .pointer (some ⟨b + 7, 0, none⟩)],.int .i64 x,.func (.func 59) #[] #[.pointer (some ⟨kt, 0, none⟩)],.int .i64 x,.bool true,.bool false,.tuple #[.agg (FC (ouF B.V v x f) (.slice a1 m1 c1)), .int .i64 (ouE B.V v x f)],.pointer (some ⟨A.g, 0, none⟩),.pointer (some ⟨A.g, 0, none⟩),.pointer (some ⟨A.g, 0, none⟩),.pointer (some ⟨A.h + 2, 0, none⟩),.int .i64 v,.int .i64 x,.agg (FC f (.slice a n c)),.tuple #[.agg (FC (ouF B.V v x f) (.slice a1 m1 c1)), .int .i64 (ouE B.V v x f)],.agg (FC (ouF B.V v x f) (.slice a1 m1 c1)),.int .i64 (ouE B.V v x f),_,_,_,_,_,_,_,_,_], []⟩ _
        refine wpAnyH_done (by kernel_rfl) ?_ _
        exact ⟨k13, a1, m1, c1, rfl, HF9.out, HY9.out, HA1.out, HK13.out, BW9.out⟩
      · skip
        go_simp
        have bz0 : Box (u0.alloc (.cells (FC zeroF (.slice none 0 0)) 38)) u0.heap.size (fcl zeroF (.slice none 0 0)) := Box.new u0 (fcl zeroF (.slice none 0 0)) 38
        have HK13 : Hid (wr.heap.size ≤ u0.heap.size) := hide BW.out.size
        have HKL : Hid (u0.heap.size < (u0.alloc (.cells (FC zeroF (.slice none 0 0)) 38)).heap.size) := hide (by simp)
        replace BW := hide (belowOn BW.out (below_alloc u0 (.cells (FC zeroF (.slice none 0 0)) 38)))
        generalize (u0.alloc (.cells (FC zeroF (.slice none 0 0)) 38)) = u1 at *
        generalize u0.heap.size = k13 at *
        refine hK.out _ _ (SS.out _ BW.out).1 (fun hHeld => ?_)
        clear hK K
        change wpAnyH _ _ _ _ _ _ _ ⟨#[.pointer (some ⟨A.g, 0, none⟩),.int .i64 v,.int .i64 u,.agg (FC f (.slice a n c)),.func (.func 59) #[] #[.pointer (some ⟨kt, 0, none⟩)],.pointer (some ⟨b, 0, none⟩),.pointer (some ⟨b + 1, 0, none⟩),_,.pointer (some ⟨b + 2, 0, none⟩),.pointer (some ⟨b + 3, 0, none⟩),.slice none 0 0,.pointer (some ⟨b + 4, 0, none⟩),.int .i64 x,.pointer (some ⟨k13, 0, none⟩),_,.pointer (some ⟨A.g, 0, none⟩),.int .i64 v,.int .i64 u,.func (.func 107) #[] #[.pointer (some ⟨b + 5, 0, none⟩), .pointer (some ⟨b + 6, 0, none⟩), .pointer (some ⟨b + 7, 0, none⟩)],.int .i64 x,.func (.func 59) #[] #[.pointer (some ⟨kt, 0, none⟩)],.int .i64 x,.bool true,.bool false,_,.pointer (some ⟨A.g, 0, none⟩),.pointer (some ⟨A.g, 0, none⟩),.pointer (some ⟨A.g, 0, none⟩),.pointer (some ⟨A.h + 2, 0, none⟩),.int .i64 v,.int .i64 x,.agg (FC f (.slice a n c)),_,_,_,_,_,_,_,_,_,_,_,_], []⟩ _
        refine wpAnyH_ready (rs := [7]) (by kernel_rfl) (by simp) ?_
        refine AllReadyH.cons rfl (fun K hK => ?_) AllReadyH.nil
        go_simp
        refine (outQ A.h B.V v x f a n c _ (SS.out _ BW.out).2.1.pv (SS.out _ BW.out).2.2).mono ?_
        rintro e u2 ⟨a1, m1, c1, rfl, Y1, ha1, b1⟩
        have HA1 : Hid (∀ b' o, a1 = some ⟨b', o, none⟩ → wr.heap.size ≤ b') := hide (fun b' o e => Nat.le_trans BW.out.size (ha1 b' o e))
        replace BW := hide (belowOn BW.out b1)
        have bz := bz0.on b1
        refine hK.out _ _ (SS.out _ BW.out).1 (fun hHeld => ?_)
        have HY4 := hide Y1
        have HYK : Hid (∀ b o, a1 = some ⟨b, o, none⟩ → 0 < m1 → b ≠ k13) := hide (fun b o e hp => by have := ha1 b o e; have := HKL.out; omega)
        clear hK K b1 Y1 bz0 ha1
        change wpAnyH _ _ _ _ _ _ _ ⟨#[.pointer (some ⟨A.g, 0, none⟩),.int .i64 v,.int .i64 u,.agg (FC f (.slice a n c)),.func (.func 59) #[] #[.pointer (some ⟨kt, 0, none⟩)],.pointer (some ⟨b, 0, none⟩),.pointer (some ⟨b + 1, 0, none⟩),_,.pointer (some ⟨b + 2, 0, none⟩),.pointer (some ⟨b + 3, 0, none⟩),.slice none 0 0,.pointer (some ⟨b + 4, 0, none⟩),.int .i64 x,.pointer (some ⟨k13, 0, none⟩),_,.pointer (some ⟨A.g, 0, none⟩),.int .i64 v,.int .i64 u,.func (.func 107) #[] #[.pointer (some ⟨b + 5, 0, none⟩), .pointer (some ⟨b + 6, 0, none⟩), .pointer (some ⟨b + 7, 0, none⟩)],.int .i64 x,.func (.func 59) #[] #[.pointer (some ⟨kt, 0, none⟩)],.int .i64 x,.bool true,.bool false,_,.pointer (some ⟨A.g, 0, none⟩),.pointer (some ⟨A.g, 0, none⟩),.pointer (some ⟨A.g, 0, none⟩),.pointer (some ⟨A.h + 2, 0, none⟩),.int .i64 v,.int .i64 x,.agg (FC f (.slice a n c)),.tuple #[.agg (FC (ouF B.V v x f) (.slice a1 m1 c1)), .int .i64 (ouE B.V v x f)],_,_,_,_,_,_,_,_,_,_,_], []⟩ _
        refine wpAnyH_take (i := 8) (v := .tuple #[.agg (FC (ouF B.V v x f) (.slice a1 m1 c1)), .int .i64 (ouE B.V v x f)]) rfl (by kernel_rfl) (by kernel_rfl) (by kernel_rfl) (fun _ _ _ h => h) (Or.inl ⟨by rfl, ?_⟩) hHeld ?_
        · intro W hW; (try dsimp only at hW); go_simp
        change wpAnyH _ _ _ _ _ _ _ ⟨#[.pointer (some ⟨A.g, 0, none⟩),.int .i64 v,.int .i64 u,.agg (FC f (.slice a n c)),.func (.func 59) #[] #[.pointer (some ⟨kt, 0, none⟩)],.pointer (some ⟨b, 0, none⟩),.pointer (some ⟨b + 1, 0, none⟩),_,.pointer (some ⟨b + 2, 0, none⟩),.pointer (some ⟨b + 3, 0, none⟩),.slice none 0 0,.pointer (some ⟨b + 4, 0, none⟩),.int .i64 x,.pointer (some ⟨k13, 0, none⟩),_,.pointer (some ⟨A.g, 0, none⟩),.int .i64 v,.int .i64 u,.func (.func 107) #[] #[.pointer (some ⟨b + 5, 0, none⟩), .pointer (some ⟨b + 6, 0, none⟩), .pointer (some ⟨b + 7, 0, none⟩)],.int .i64 x,.func (.func 59) #[] #[.pointer (some ⟨kt, 0, none⟩)],.int .i64 x,.bool true,.bool false,.tuple #[.agg (FC (ouF B.V v x f) (.slice a1 m1 c1)), .int .i64 (ouE B.V v x f)],.pointer (some ⟨A.g, 0, none⟩),.pointer (some ⟨A.g, 0, none⟩),.pointer (some ⟨A.g, 0, none⟩),.pointer (some ⟨A.h + 2, 0, none⟩),.int .i64 v,.int .i64 x,.agg (FC f (.slice a n c)),.tuple #[.agg (FC (ouF B.V v x f) (.slice a1 m1 c1)), .int .i64 (ouE B.V v x f)],_,_,_,_,_,_,_,_,_,_,_], []⟩ _
        refine wpAnyH_take (i := 9) (v := .agg (FC (ouF B.V v x f) (.slice a1 m1 c1))) rfl (by kernel_rfl) (by kernel_rfl) (by kernel_rfl) (fun _ _ _ h => h) (Or.inl ⟨by rfl, ?_⟩) hHeld ?_
        · intro W hW; (try dsimp only at hW); go_simp
        change wpAnyH _ _ _ _ _ _ _ ⟨#[.pointer (some ⟨A.g, 0, none⟩),.int .i64 v,.int .i64 u,.agg (FC f (.slice a n c)),.func (.func 59) #[] #[.pointer (some ⟨kt, 0, none⟩)],.pointer (some ⟨b, 0, none⟩),.pointer (some ⟨b + 1, 0, none⟩),_,.pointer (some ⟨b + 2, 0, none⟩),.pointer (some ⟨b + 3, 0, none⟩),.slice none 0 0,.pointer (some ⟨b + 4, 0, none⟩),.int .i64 x,.pointer (some ⟨k13, 0, none⟩),_,.pointer (some ⟨A.g, 0, none⟩),.int .i64 v,.int .i64 u,.func (.func 107) #[] #[.pointer (some ⟨b + 5, 0, none⟩), .pointer (some ⟨b + 6, 0, none⟩), .pointer (some ⟨b + 7, 0, none⟩)],.int .i64 x,.func (.func 59) #[] #[.pointer (some ⟨kt, 0, none⟩)],.int .i64 x,.bool true,.bool false,.tuple #[.agg (FC (ouF B.V v x f) (.slice a1 m1 c1)), .int .i64 (ouE B.V v x f)],.pointer (some ⟨A.g, 0, none⟩),.pointer (some ⟨A.g, 0, none⟩),.pointer (some ⟨A.g, 0, none⟩),.pointer (some ⟨A.h + 2, 0, none⟩),.int .i64 v,.int .i64 x,.agg (FC f (.slice a n c)),.tuple #[.agg (FC (ouF B.V v x f) (.slice a1 m1 c1)), .int .i64 (ouE B.V v x f)],.agg (FC (ouF B.V v x f) (.slice a1 m1 c1)),_,_,_,_,_,_,_,_,_,_], []⟩ _
        refine wpAnyH_take (i := 10) (v := .int .i64 (ouE B.V v x f)) rfl (by kernel_rfl) (by kernel_rfl) (by kernel_rfl) (fun _ _ _ h => h) (Or.inl ⟨by rfl, ?_⟩) hHeld ?_
        · intro W hW; (try dsimp only at hW); go_simp
        change wpAnyH _ _ _ _ _ _ _ ⟨#[.pointer (some ⟨A.g, 0, none⟩),.int .i64 v,.int .i64 u,.agg (FC f (.slice a n c)),.func (.func 59) #[] #[.pointer (some ⟨kt, 0, none⟩)],.pointer (some ⟨b, 0, none⟩),.pointer (some ⟨b + 1, 0, none⟩),_,.pointer (some ⟨b + 2, 0, none⟩),.pointer (some ⟨b + 3, 0, none⟩),.slice none 0 0,.pointer (some ⟨b + 4, 0, none⟩),.int .i64 x,.pointer (some ⟨k13, 0, none⟩),_,.pointer (some ⟨A.g, 0, none⟩),.int .i64 v,.int .i64 u,.func (.func 107) #[] #[.pointer (some ⟨b + 5, 0, none⟩), .pointer (some ⟨b + 6, 0, none⟩), .pointer (some ⟨b + 7, 0, none⟩)],.int .i64 x,.func (.func 59) #[] #[.pointer (some ⟨kt, 0, none⟩)],.int .i64 x,.bool true,.bool false,.tuple #[.agg (FC (ouF B.V v x f) (.slice a1 m1 c1)), .int .i64 (ouE B.V v x f)],.pointer (some ⟨A.g, 0, none⟩),.pointer (some ⟨A.g, 0, none⟩),.pointer (some ⟨A.g, 0, none⟩),.pointer (some ⟨A.h + 2, 0, none⟩),.int .i64 v,.int .i64 x,.agg (FC f (.slice a n c)),.tuple #[.agg (FC (ouF B.V v x f) (.slice a1 m1 c1)), .int .i64 (ouE B.V v x f)],.agg (FC (ouF B.V v x f) (.slice a1 m1 c1)),.int .i64 (ouE B.V v x f),_,_,_,_,_,_,_,_,_], []⟩ _
        refine wpAnyH_ready (rs := [12]) (by kernel_rfl) (by simp) ?_
        refine AllReadyH.cons rfl (fun K hK => ?_) AllReadyH.nil
        rw [if_pos (by rfl)]
        refine wp_store_mid 38 (.tmp 13) (.tmp 33) rfl k13 0 (FC (ouF B.V v x f) (.slice a1 m1 c1)) rfl rfl bz.th Tryz.size38 (one_fcl _ _ rfl) ?_
        have G3 := setCells_grown k13 (fcl (ouF B.V v x f) (.slice a1 m1 c1)) 0 u2
        have bf := bz.self (cs' := fcl (ouF B.V v x f) (.slice a1 m1 c1)) rfl
        have BW3 := below_grown BW.out G3 HK13.out BW.out.size
        have Y3 := HY4.out.kept (k := k13) HYK.out G3
        have e4 : World.setCells u2 k13 0 (FC (ouF B.V v x f) (.slice a1 m1 c1)).toList = World.setCells u2 k13 0 (fcl (ouF B.V v x f) (.slice a1 m1 c1)) := rfl
        rw [e4]
        generalize World.setCells u2 k13 0 (fcl (ouF B.V v x f) (.slice a1 m1 c1)) = u9 at *
        refine hK.out _ _ (SS.out _ BW3).1 (fun hHeld => ?_)
        have BW9 := hide BW3
        have HY9 := hide Y3
        have HF9 := hide bf
        clear hK K G3 bf BW3 Y3 e4 bz HY4 HYK BW
        change wpAnyH _ _ _ _ _ _ _ ⟨#[.pointer (some ⟨A.g, 0, none⟩),.int .i64 v,.int .i64 u,.agg (FC f (.slice a n c)),.func (.func 59) #[] #[.pointer (some ⟨kt, 0, none⟩)],.pointer (some ⟨b, 0, none⟩),.pointer (some ⟨b + 1, 0, none⟩),_,.pointer (some ⟨b + 2, 0, none⟩),.pointer (some ⟨b + 3, 0, none⟩),.slice none 0 0,.pointer (some ⟨b + 4, 0, none⟩),.int .i64 x,.pointer (some ⟨k13, 0, none⟩),_,.pointer (some ⟨A.g, 0, none⟩),.int .i64 v,.int .i64 u,.func (.func 107) #[] #[.pointer (some ⟨b + 5, 0, none⟩), .pointer (some ⟨b + 6, 0, none⟩), .pointer (some ⟨b + 7, 0, none⟩)],.int .i64 x,.func (.func 59) #[] #[.pointer (some ⟨kt, 0, none⟩)],.int .i64 x,.bool true,.bool false,.tuple #[.agg (FC (ouF B.V v x f) (.slice a1 m1 c1)), .int .i64 (ouE B.V v x f)],.pointer (some ⟨A.g, 0, none⟩),.pointer (some ⟨A.g, 0, none⟩),.pointer (some ⟨A.g, 0, none⟩),.pointer (some ⟨A.h + 2, 0, none⟩),.int .i64 v,.int .i64 x,.agg (FC f (.slice a n c)),.tuple #[.agg (FC (ouF B.V v x f) (.slice a1 m1 c1)), .int .i64 (ouE B.V v x f)],.agg (FC (ouF B.V v x f) (.slice a1 m1 c1)),.int .i64 (ouE B.V v x f),_,_,_,_,_,_,_,_,_], []⟩ _
        refine wpAnyH_take (i := 13) (v := .int .i64 (ouE B.V v x f)) rfl (by kernel_rfl) (by kernel_rfl) (by kernel_rfl) (fun _ _ _ h => h) (Or.inl ⟨by rfl, ?_⟩) hHeld ?_
        · intro W hW; (try dsimp only at hW); go_simp
        change wpAnyH _ _ _ _ _ _ _ ⟨#[.pointer (some ⟨A.g, 0, none⟩),.int .i64 v,.int .i64 u,.agg (FC f (.slice a n c)),.func (.func 59) #[] #[.pointer (some ⟨kt, 0, none⟩)],.pointer (some ⟨b, 0, none⟩),.pointer (some ⟨b + 1, 0, none⟩),_,.pointer (some ⟨b + 2, 0, none⟩),.pointer (some ⟨b + 3, 0, none⟩),.slice none 0 0,.pointer (some ⟨b + 4, 0, none⟩),.int .i64 x,.pointer (some ⟨k13, 0, none⟩),.int .i64 (ouE B.V v x f),.pointer (some ⟨A.g, 0, none⟩),.int .i64 v,.int .i64 u,.func (.func 107) #[] #[.pointer (some ⟨b + 5, 0, none⟩), .pointer (some ⟨b + 6, 0, none⟩), .pointer (some ⟨b + 7, 0, none⟩)],.int .i64 x,.func (.func 59) #[] #[.pointer (some ⟨kt, 0, none⟩)],.int .i64 x,.bool true,.bool false,.tuple #[.agg (FC (ouF B.V v x f) (.slice a1 m1 c1)), .int .i64 (ouE B.V v x f)],.pointer (some ⟨A.g, 0, none⟩),.pointer (some ⟨A.g, 0, none⟩),.pointer (some ⟨A.g, 0, none⟩),.pointer (some ⟨A.h + 2, 0, none⟩),.int .i64 v,.int .i64 x,.agg (FC f (.slice a n c)),.tuple #[.agg (FC (ouF B.V v x f) (.slice a1 m1 c1)), .int .i64 (ouE B.V v x f)],.agg (FC (ouF B.V v x f) (.slice a1 m1 c1)),.int .i64 (ouE B.V v x f),_,_,_,_,_,_,_,_,_], []⟩ _
        refine wpAnyH_done (by kernel_rfl) ?_ _
        exact ⟨k13, a1, m1, c1, rfl, HF9.out, HY9.out, HA1.out, HK13.out, BW9.out⟩
    rintro a2 w9 ⟨k13, a1, m1, c1, rfl, hf9, hy9, ha1, hk13, bw9⟩
    clear SS BW W0 W1 W2 W3 WP WY WX HMQ
    have HF9 := hide hf9
    have HY9 := hide hy9
    have HA1 := hide ha1
    have BW9 := hide bw9
    have HIO9 := hide (io_on HII.out bw9)
    have HNX : Hid (ols B v f (fun p : Int => (t == 0 || p == t)) (pre ++ [x]) = ols B v f (fun p : Int => (t == 0 || p == t)) pre ++ (if (ouE B.V v x f == 0) then [⟨x, ouF B.V v x f⟩] else [])) := hide (by rw [ols_append, ols_one, HMX.out, Bool.true_and])
    clear hf9 hy9 ha1 hk13 bw9
    generalize ouF B.V v x f = F at *
    generalize ouE B.V v x f = E at *
    have L1 := hide I2.out.lt
    rcases Bool.eq_false_or_eq_true (E == 0) with h7 | h7
    rotate_left
    · rw [h7, if_neg (by simp), List.append_nil] at HNX
      gi_wp2
      refine ⟨keepsFrom_of BW9.out, KpO.below BW9.out (by have := I7.out; omega), ?_⟩
      obtain ⟨lv', xs', j1, j2, j3, j4⟩ := HIO9.out
      exact ⟨lv', xs', j1, j2, by rw [j3]; exact HNX.out.symm, j4⟩
    rw [h7, if_pos rfl] at HNX
    have J1 : Hid (Boxed w9 (b + 4) 48 lv) := hide ((BW9.out.block _ I1.out.lt).trans I1.out)
    have J2 := hide (row_keep I2.out (fun r hr => BW9.out.block r (I2.out.lt r hr).2))
    have J4 : Hid (∀ y ∈ xs, Byt w9 y.a y.n y.c y.o.f.bs) := hide (fun y hy => (I4.out y hy).on BW9.out)
    obtain ⟨ao0, cc0, hlv⟩ := own_form J2.out
    have hc := J1.out.cell
    have HS9 : Hid (b + 8 ≤ w9.heap.size) := hide (Nat.le_trans I7.out BW9.out.size)
    have hnew : ∀ (j : Nat) (u : Value), (ocl ⟨⟨x, F⟩, a1, m1, c1⟩)[j]? = some u → (w9.alloc (.cells (OC ⟨⟨x, F⟩, a1, m1, c1⟩) 57)).cell? ((⟨w9.heap.size, 0, none⟩ : Addr).add j) = some u := fun j u hj => by
      rw [Addr.add_lit, Nat.zero_add, World.cell?_alloc_at _ _ _ _ rfl]
      show (ocl ⟨⟨x, F⟩, a1, m1, c1⟩).toArray[j]? = some u
      rw [List.getElem?_toArray]; exact hj
    have HN := hide hnew
    clear hnew HIO9
    subst hlv
    have tk1 : True := trivial
    have tk2 : True := trivial
    have tk3 : True := trivial
    have tk4 : True := trivial
    gi_wp2_with (first | (have _t := tk1; refine wplin_frame rfl (.tmp 13) rfl HF9.out rfl ?_; clear tk1) | (have _t := tk2; refine wplin_bO rfl (.tmp 38) (.tmp 39) x F a1 m1 c1 rfl rfl rfl ?_; clear tk2) | (have _t := tk3; refine wplin_bsO rfl (.tmp 40) ⟨⟨x, F⟩, a1, m1, c1⟩ rfl rfl ?_; clear tk3) | (have _t := tk4; gi_at_builtin; refine wplin_oapp rfl rfl (.tmp 37) (.tmp 41) rfl (b + 8) _ _ _ rfl (J2.out.alloc _) ⟨w9.heap.size, 0, none⟩ ⟨⟨x, F⟩, a1, m1, c1⟩ rfl HN.out (by have := HXS.out; omega) (by have := HS9.out; simp; omega) ?_; clear tk4; intro v' w1 hown' hgrow hat; obtain ⟨g', cap', rfl⟩ := ownsRow_succ hown'; have hap := J1.out.appended (n₀ := b + 4) (by decide) (row_lower J2.out (by omega)) (by have := HS9.out; omega) (Nat.le_refl _) (row_lower hown' (by omega)) hgrow; have HAP := hide hap; have HOW := hide hown'; have HGR := hide hgrow; have HAT := hide hat; have hc1 := hap.1.cell; have hf1 := hap.1.frozen; clear hap hown' hgrow hat hc))
    obtain ⟨hv1, hv2, -, hk2, hb2⟩ := HAP.out
    have s9 := HS9.out
    have sw := BW9.out.size
    have kk : ∀ k, k < w9.heap.size → k ≠ b + 4 → Value.ownBlock (.slice ao0 xs.length cc0) ≠ some k → (w1.setCell ⟨b + 4, 0, none⟩ (.slice (some ⟨g', 0, none⟩) (xs.length + 1) cap')).heap[k]? = w9.heap[k]? := fun k h1 h2 h3 =>
      (Below.heap_setCell w1 ⟨b + 4, 0, none⟩ (.slice (some ⟨g', 0, none⟩) (xs.length + 1) cap') k (fun e => h2 e)).trans ((HGR.out.block k (by simp; omega) (fun e => h3 e.symm)).trans ((below_alloc w9 _).block k h1))
    have g1 : some g' = Value.ownBlock (.slice ao0 xs.length cc0) ∨ some g' = some (w9.heap.size + 1) := by
      rcases HAT.out with h | h
      · exact Or.inl h
      · exact Or.inr (by simpa [Value.ownBlock] using h)
    refine ⟨⟨Nat.le_trans sw hk2.size, fun k o _ hk ho => hk2.same k o (by rw [BW9.out.block k (Array.getElem?_eq_some_iff.1 hk).1]; exact hk) ho⟩, (KpO.below BW9.out (by have := I7.out; omega)).trans ⟨hk2.size, fun k h1 h2 h3 _ => kk k h1 h2 (fun e => h3 (by unfold rowOf; rw [J1.out.cell]; exact e)), fun k hk => ?_⟩, ?_⟩
    · unfold rowOf at hk ⊢
      rw [hv2.cell] at hk
      rw [J1.out.cell]
      have hk' : g' = k := by simpa [Value.ownBlock] using hk
      rcases g1 with h | h
      · left
        rw [← hk']
        exact h.symm
      · right
        have := Option.some.inj h
        omega
    · refine ⟨.slice (some ⟨g', 0, none⟩) (xs.length + 1) cap', xs ++ [⟨⟨x, F⟩, a1, m1, c1⟩], hv2, ?_, ?_, fun y hy => ?_, fun y hy k o he hp => ?_, ?_, Nat.le_trans s9 hk2.size, fun k h1 h2 => ?_⟩
      · have h9 := HOW.out.kept (grownBy_setCell' w1 (b + 4) (.slice (some ⟨g', 0, none⟩) (xs.length + 1) cap')) (.inr (hv1.not_row (by decide) HOW.out).symm)
        rw [List.length_append]
        exact h9
      · rw [List.map_append, I3.out]
        exact HNX.out.symm
      · have hown : ∀ k o, y.a = some ⟨k, o, none⟩ → 0 < y.n → b + 8 ≤ k ∧ Value.ownBlock (.slice ao0 xs.length cc0) ≠ some k := fun k o he hp => by
          rcases List.mem_append.1 hy with hy | hy
          · exact I5.out y hy k o he hp
          · obtain rfl := List.mem_singleton.1 hy
            have h1 := HA1.out k o he
            have h2 := I7.out
            exact ⟨by omega, fun e => by have := (L1.out k e).2; omega⟩
        have hby : Byt w9 y.a y.n y.c y.o.f.bs := by
          rcases List.mem_append.1 hy with hy | hy
          · exact J4.out y hy
          · obtain rfl := List.mem_singleton.1 hy
            exact HY9.out
        exact byt_keep hby (fun k o v he hp hc => kk k (World.block_lt_of_cell? _ _ hc) (by have := (hown k o he hp).1; omega) (hown k o he hp).2)
      · have hown : b + 8 ≤ k ∧ Value.ownBlock (.slice ao0 xs.length cc0) ≠ some k ∧ k < w9.heap.size := by
          rcases List.mem_append.1 hy with hy | hy
          · have h1 := I5.out y hy k o he hp
            exact ⟨h1.1, h1.2, (J4.out y hy).lt k o he hp⟩
          · obtain rfl := List.mem_singleton.1 hy
            have h1 := HA1.out k o he
            have h2 := I7.out
            exact ⟨by omega, fun e => by have := (L1.out k e).2; omega, HY9.out.lt k o he hp⟩
        refine ⟨hown.1, fun e => ?_⟩
        have hk' : g' = k := by simpa [Value.ownBlock] using e
        rcases g1 with h | h
        · exact hown.2.1 (by rw [← hk']; exact h.symm)
        · have := Option.some.inj h
          omega
      · exact (I6.out.trans (BW9.out.mono (by have := I7.out; omega))).trans (hb2.mono (by omega))
      · refine (kk k (by omega) h2 (fun e => ?_)).trans ((BW9.out.block k (by have := I7.out; omega)).trans (I8.out k h1 h2))
        have := (L1.out k e).1
        omega
  case cD =>
    rintro D xs0 W hD rfl ⟨lv, xs, i1, i2, i3, i4, i5, i6, i7, i8⟩ hK
    have hc := i1.cell
    obtain ⟨ao0, cc0, hlv⟩ := own_form i2
    subst hlv
    have I2 := hide i2
    have I3 := hide i3
    have I4 := hide i4
    have I5 := hide i5
    have I6 := hide i6
    have HK := hide hK
    clear hK i1 i2 i3 i4 i5 i6 i8
    gi_wp2
    refine ⟨by simp, .inl ⟨_, _, rfl, run_takeDeferred HK.out, ?_⟩⟩
    have hr3 := ownsRow_putObj I2.out (.deferred none) HK.out rfl
    have hy3 : ∀ y ∈ xs, Byt (W.putObj D (.deferred none)) y.a y.n y.c y.o.f.bs := fun y hy => byt_keep (I4.out y hy) (fun k o v he hp hc => World.putObj_heap_other (fun e => by
      have h1 := cells_of_cell hc _ (by rw [e]; exact HK.out)
      cases h1))
    obtain ⟨ao, c9, e9, hE⟩ := row_ots hr3 hy3
    injection e9 with e1 e2 e3
    subst e1 e3
    refine ⟨_, results_tmp rfl _ _ _, ao0, xs, cc0, by simp, hE, I3.out, ?_, ?_, fun y hy b' o he hp => ?_⟩
    · rw [← HB.out]
      exact I6.out.trans ⟨rfl, rfl, rfl, by simp, fun k hk => World.putObj_heap_other (by omega)⟩
    · intro b' o he
      subst he
      have := (I2.out.lt b' (by rfl)).1
      rw [← HB.out]
      omega
    · have := (I5.out y hy b' o he hp).1
      rw [← HB.out]
      omega
  case cS =>
    rintro D c pre W _ _ h _
    exact h.elim
end Go.Proofs.YtgpdjfaklcmoiaaGreat
/- Contracts: Relay and learn of the program's bridge. -/
namespace Go.Proofs.YtgpdjfaklcmoiaaGreat
open Go.RowKit Go.PlainAid

theorem OwnO.from {w z : World} {ao : Option Addr} {xs : List Ow} (h : OwnO z ao xs) (hs : w.heap.size ≤ z.heap.size) : OwnO w ao xs :=
  ⟨fun b o e => Nat.le_trans hs (h.1 b o e), fun x hx b o e hp => Nat.le_trans hs (h.2 x hx b o e hp)⟩
set_option maxRecDepth 100000 in
set_option maxHeartbeats 4000000 in
theorem relayQ (A : PAd) (B : Br) (v u t : Int) (f : Fd) (a : Option Addr) (n c : Nat) (w : World) (H : PB w A B) (hY : Byt w a n c f.bs) (hv : I64 v) :
    Calls Tryz.prog 26 #[.pointer (some ⟨A.g, 0, none⟩), .int .i64 v, .int .i64 u, .int .i64 t, .agg (FC f (.slice a n c))] w fun e w' => ∃ ao xs cc, e = .returned (.slice ao xs.length cc) ∧ Ots w' ao xs.length cc xs ∧ xs.map Ow.o = rly B v u t f B.n ∧ Below w.heap.size w w' ∧ OwnO w ao xs := by
  have b0 := below_alloc w (.cells #[.int .i64 t] 3)
  have b1 := below_alloc (w.alloc (.cells #[.int .i64 t] 3)) (.cells (FC f (.slice a n c)) 38)
  have T0 : Box ((w.alloc (.cells #[.int .i64 t] 3)).alloc (.cells (FC f (.slice a n c)) 38)) w.heap.size [.int .i64 t] := (Box.new w [.int .i64 t] 3).alloc _
  have X0 : Box ((w.alloc (.cells #[.int .i64 t] 3)).alloc (.cells (FC f (.slice a n c)) 38)) (w.heap.size + 1) (fcl f (.slice a n c)) := by
    have := Box.new (w.alloc (.cells #[.int .i64 t] 3)) (fcl f (.slice a n c)) 38
    rw [World.size_alloc] at this
    exact this
  have HB := hide (belowOn b0 b1)
  have HT := hide T0
  have HX := hide X0
  have HP := hide (H.on HB.out)
  have HY := hide (hY.on HB.out)
  have HV := hide hv
  have HE : Hid (ols B v f (fun p : Int => (t == 0 || p == t)) (sel B u (mbs B.V.l v B.V.n)) = rly B v u t f B.n) := hide (by rw [H.wf.vn]; exact ols_rly H.wf v u t f _ (fun _ _ _ => rfl) B.n (Nat.le_refl _))
  clear b0 b1 T0 X0 H hY hv
  have tk1 : True := trivial
  go_enter Tryz.func26, Tryz.ntmps26
  go_wp2_with (first | (have _t := tk1; refine wpl_frame (.tmp 9) rfl HX.out ?_ ?_ ?_; rfl; rfl; clear tk1))
  generalize ((w.alloc (.cells #[.int .i64 t] 3)).alloc (.cells (FC f (.slice a n c)) 38)) = z0 at *
  refine (outsA A B v u f a n c w.heap.size t z0 HP.out HY.out HV.out HT.out).mono ?_
  rintro e z1 ⟨ao, xs, cc, rfl, hO, hm, hb, hown⟩
  have HO := hide hO
  have HM := hide hm
  have HB1 := hide (belowOn HB.out hb)
  have HOW := hide (hown.from HB.out.size)
  clear hO hm hb hown HB HT HX HP HY HV
  go_wp2
  go_ret
  exact ⟨ao, xs, cc, rfl, HO.out, HM.out.trans HE.out, HB1.out, HOW.out⟩
theorem mid_wide0 {a b N M : Nat} {w w1 : World} (h : Mid a b w w1) (h1 : N ≤ a) (h2 : b ≤ M) : Mid N M w w1 := ⟨h.os, h.tape, h.output, h.size, fun i hi ho => h.block i hi (by omega)⟩
section
set_option maxRecDepth 100000 in
set_option maxHeartbeats 4000000 in
theorem learnQ (A : PAd) (B : Br) (v : Int) (m : Mc) (p t : Int) (w : World) (hm : Mok m) (H : PB w A B) (hs : ∀ x ∈ B.ln, x + 1 < 1000000) :
    Calls Tryz.prog 80 #[.pointer (some ⟨A.g, 0, none⟩), .int .i64 v, .agg (MC m), .int .i64 p, .int .i64 t] w fun e w' => e = .returned (.tuple #[]) ∧ PB w' A (lrn B v m p t) ∧ Mid A.lo A.hi w w' := by
  have B0 := below_alloc w (.cells (MC m) 35)
  have HX := hide (box_m w m)
  have HC : Hid (Mid A.lo A.hi w (w.alloc (.cells (MC m) 35))) := hide (Mid.on (Mid.refl _ _ _) B0)
  have HR := hide (H.on B0)
  have HKX : Hid (A.hi ≤ w.heap.size) := hide H.lt.2.2.2.2
  have HS := hide hs
  have HM := hide hm
  clear H hs hm B0
  go_enter Tryz.func80, Tryz.ntmps80
  go_wp2_with fail
  generalize w.alloc (.cells (MC m) 35) = w1 at *
  obtain ⟨kx, hkx⟩ : ∃ kx, kx = w.heap.size := ⟨_, rfl⟩
  rw [← hkx] at HX HKX ⊢
  clear hkx
  refine wp_region_held_drew (S := fun w' => w'.cell? ⟨A.g, 1, none⟩ = some (.pointer (some ⟨A.hf + 1, 0, none⟩)) ∧ Box w' kx (mcl m)) (by kernel_rfl) ⟨HR.out.bx.cell 1 _ rfl, HX.out.drew⟩ (fun hHeld => ?_)
  replace HR := hide HR.out.drew
  replace HC := hide (Mid.on HC.out (⟨rfl, rfl, rfl, Nat.le_refl _, fun _ _ => rfl⟩ : Below w1.heap.size w1 w1.drew))
  clear HX
  generalize w1.drew = u0 at *
  refine wpAnyH_take (i := 0) (v := .pointer (some ⟨A.g, 0, none⟩)) rfl (by kernel_rfl) (by kernel_rfl) (by kernel_rfl) (fun _ _ _ h => h) (Or.inl ⟨by rfl, ?_⟩) hHeld ?_
  · intro W hW; (try dsimp only at hW); go_simp
  change wpAnyH _ _ _ _ _ _ _ ⟨#[.pointer (some ⟨A.g, 0, none⟩),.int .i64 v,_,.int .i64 p,.int .i64 t,_,_,.pointer (some ⟨kx, 0, none⟩),_,_,_,_,_,.pointer (some ⟨A.g, 0, none⟩),_,_,_,_,_,_,_,_,_,_,_,_,_,_,_,_,_,_,_,_,_,_,_,_,_,_,_,_,_,_,_,_,_,_,_,_,_,_,_,_,_,_,_,_,_,_], []⟩ _
  refine wpAnyH_take (i := 1) (v := .pointer (some ⟨A.g, 0, none⟩)) rfl (by kernel_rfl) (by kernel_rfl) (by kernel_rfl) (fun _ _ _ h => h) (Or.inl ⟨by rfl, ?_⟩) hHeld ?_
  · intro W hW; (try dsimp only at hW); go_simp
  change wpAnyH _ _ _ _ _ _ _ ⟨#[.pointer (some ⟨A.g, 0, none⟩),.int .i64 v,_,.int .i64 p,.int .i64 t,_,_,.pointer (some ⟨kx, 0, none⟩),_,_,_,_,_,.pointer (some ⟨A.g, 0, none⟩),.pointer (some ⟨A.g, 0, none⟩),_,_,_,_,_,_,_,_,_,_,_,_,_,_,_,_,_,_,_,_,_,_,_,_,_,_,_,_,_,_,_,_,_,_,_,_,_,_,_,_,_,_,_,_,_], []⟩ _
  refine wpAnyH_take (i := 2) (v := .pointer (some ⟨A.g, 1, none⟩)) rfl (by kernel_rfl) (by kernel_rfl) (by kernel_rfl) (fun _ _ _ h => h) (Or.inl ⟨by rfl, ?_⟩) hHeld ?_
  · intro W hW; (try dsimp only at hW); go_simp
  change wpAnyH _ _ _ _ _ _ _ ⟨#[.pointer (some ⟨A.g, 0, none⟩),.int .i64 v,_,.int .i64 p,.int .i64 t,_,_,.pointer (some ⟨kx, 0, none⟩),_,_,_,_,_,.pointer (some ⟨A.g, 0, none⟩),.pointer (some ⟨A.g, 0, none⟩),.pointer (some ⟨A.g, 1, none⟩),_,_,_,_,_,_,_,_,_,_,_,_,_,_,_,_,_,_,_,_,_,_,_,_,_,_,_,_,_,_,_,_,_,_,_,_,_,_,_,_,_,_,_,_], []⟩ _
  refine wpAnyH_take (i := 3) (v := .pointer (some ⟨A.hf + 1, 0, none⟩)) rfl (by kernel_rfl) (by kernel_rfl) (by kernel_rfl) (fun _ _ _ h => h) (Or.inl ⟨by rfl, ?_⟩) hHeld ?_
  · intro W hW; (try dsimp only at hW); have hc := hW.1; clear hW; go_simp
  change wpAnyH _ _ _ _ _ _ _ ⟨#[.pointer (some ⟨A.g, 0, none⟩),.int .i64 v,_,.int .i64 p,.int .i64 t,_,_,.pointer (some ⟨kx, 0, none⟩),_,_,_,_,_,.pointer (some ⟨A.g, 0, none⟩),.pointer (some ⟨A.g, 0, none⟩),.pointer (some ⟨A.g, 1, none⟩),.pointer (some ⟨A.hf + 1, 0, none⟩),_,_,_,_,_,_,_,_,_,_,_,_,_,_,_,_,_,_,_,_,_,_,_,_,_,_,_,_,_,_,_,_,_,_,_,_,_,_,_,_,_,_,_], []⟩ _
  refine wpAnyH_take (i := 4) (v := .int .i64 v) rfl (by kernel_rfl) (by kernel_rfl) (by kernel_rfl) (fun _ _ _ h => h) (Or.inl ⟨by rfl, ?_⟩) hHeld ?_
  · intro W hW; (try dsimp only at hW); go_simp
  change wpAnyH _ _ _ _ _ _ _ ⟨#[.pointer (some ⟨A.g, 0, none⟩),.int .i64 v,_,.int .i64 p,.int .i64 t,_,_,.pointer (some ⟨kx, 0, none⟩),_,_,_,_,_,.pointer (some ⟨A.g, 0, none⟩),.pointer (some ⟨A.g, 0, none⟩),.pointer (some ⟨A.g, 1, none⟩),.pointer (some ⟨A.hf + 1, 0, none⟩),.int .i64 v,_,_,_,_,_,_,_,_,_,_,_,_,_,_,_,_,_,_,_,_,_,_,_,_,_,_,_,_,_,_,_,_,_,_,_,_,_,_,_,_,_,_], []⟩ _
  refine wpAnyH_take (i := 5) (v := .agg (MC m)) rfl (by kernel_rfl) (by kernel_rfl) (by kernel_rfl) (fun _ _ _ h => h) (yieldsIf_load_mid (by rfl) 35 (.tmp 7) rfl kx 0 rfl (mcl m) _ (fun W hW => hW.2.at_) Tryz.underlying35 rfl Tryz.size35) hHeld ?_
  change wpAnyH _ _ _ _ _ _ _ ⟨#[.pointer (some ⟨A.g, 0, none⟩),.int .i64 v,_,.int .i64 p,.int .i64 t,_,_,.pointer (some ⟨kx, 0, none⟩),_,_,_,_,_,.pointer (some ⟨A.g, 0, none⟩),.pointer (some ⟨A.g, 0, none⟩),.pointer (some ⟨A.g, 1, none⟩),.pointer (some ⟨A.hf + 1, 0, none⟩),.int .i64 v,.agg (MC m),_,_,_,_,_,_,_,_,_,_,_,_,_,_,_,_,_,_,_,_,_,_,_,_,_,_,_,_,_,_,_,_,_,_,_,_,_,_,_,_,_], []⟩ _
  refine wpAnyH_take (i := 6) (v := .int .i64 p) rfl (by kernel_rfl) (by kernel_rfl) (by kernel_rfl) (fun _ _ _ h => h) (Or.inl ⟨by rfl, ?_⟩) hHeld ?_
  · intro W hW; (try dsimp only at hW); go_simp
  change wpAnyH _ _ _ _ _ _ _ ⟨#[.pointer (some ⟨A.g, 0, none⟩),.int .i64 v,_,.int .i64 p,.int .i64 t,_,_,.pointer (some ⟨kx, 0, none⟩),_,_,_,_,_,.pointer (some ⟨A.g, 0, none⟩),.pointer (some ⟨A.g, 0, none⟩),.pointer (some ⟨A.g, 1, none⟩),.pointer (some ⟨A.hf + 1, 0, none⟩),.int .i64 v,.agg (MC m),.int .i64 p,_,_,_,_,_,_,_,_,_,_,_,_,_,_,_,_,_,_,_,_,_,_,_,_,_,_,_,_,_,_,_,_,_,_,_,_,_,_,_,_], []⟩ _
  refine wpAnyH_take (i := 7) (v := .int .i64 t) rfl (by kernel_rfl) (by kernel_rfl) (by kernel_rfl) (fun _ _ _ h => h) (Or.inl ⟨by rfl, ?_⟩) hHeld ?_
  · intro W hW; (try dsimp only at hW); go_simp
  change wpAnyH _ _ _ _ _ _ _ ⟨#[.pointer (some ⟨A.g, 0, none⟩),.int .i64 v,_,.int .i64 p,.int .i64 t,_,_,.pointer (some ⟨kx, 0, none⟩),_,_,_,_,_,.pointer (some ⟨A.g, 0, none⟩),.pointer (some ⟨A.g, 0, none⟩),.pointer (some ⟨A.g, 1, none⟩),.pointer (some ⟨A.hf + 1, 0, none⟩),.int .i64 v,.agg (MC m),.int .i64 p,.int .i64 t,_,_,_,_,_,_,_,_,_,_,_,_,_,_,_,_,_,_,_,_,_,_,_,_,_,_,_,_,_,_,_,_,_,_,_,_,_,_,_], []⟩ _
  refine wpAnyH_ready (rs := [8]) (by kernel_rfl) (by simp) ?_
  refine AllReadyH.cons rfl (fun K hK => ?_) AllReadyH.nil
  go_simp
  obtain ⟨ps, hpf⟩ := HR.out.pf
  refine (learn16 A.hf ps B.F v m p t _ HM.out hpf).mono ?_
  rintro e u1 ⟨rfl, ⟨ps', F1⟩, F2⟩
  have R1 := HR.out.fdb F1 F2 (by unfold lT sT; (repeat' split) <;> rfl)
  have hlt := HR.out.lt
  have hg2 := R1.bx.cell 1 _ rfl
  have hx2 : Box u1 kx (mcl m) := hHeld.2.block (F2.block _ hHeld.2.lt (by have := HKX.out; omega))
  replace HC := hide (HC.out.trans (mid_wide0 F2 hlt.2.2.1 hlt.2.2.2.1))
  have HR1 := hide R1
  refine hK.out _ _ ⟨hg2, hx2⟩ (fun hHeld => ?_)
  clear hK K R1 F1 F2 HR hg2 hx2 hpf hlt
  change wpAnyH _ _ _ _ _ _ _ ⟨#[.pointer (some ⟨A.g, 0, none⟩),.int .i64 v,_,.int .i64 p,.int .i64 t,_,_,.pointer (some ⟨kx, 0, none⟩),_,_,_,_,_,.pointer (some ⟨A.g, 0, none⟩),.pointer (some ⟨A.g, 0, none⟩),.pointer (some ⟨A.g, 1, none⟩),.pointer (some ⟨A.hf + 1, 0, none⟩),.int .i64 v,.agg (MC m),.int .i64 p,.int .i64 t,.tuple #[.int .i64 (lK B.F v m p t), .int .i64 (lE B.F v m p t)],_,_,_,_,_,_,_,_,_,_,_,_,_,_,_,_,_,_,_,_,_,_,_,_,_,_,_,_,_,_,_,_,_,_,_,_,_,_], []⟩ _
  refine wpAnyH_take (i := 9) (v := .tuple #[.int .i64 (lK B.F v m p t), .int .i64 (lE B.F v m p t)]) rfl (by kernel_rfl) (by kernel_rfl) (by kernel_rfl) (fun _ _ _ h => h) (Or.inl ⟨by rfl, ?_⟩) hHeld ?_
  · intro W hW; (try dsimp only at hW); go_simp
  change wpAnyH _ _ _ _ _ _ _ ⟨#[.pointer (some ⟨A.g, 0, none⟩),.int .i64 v,_,.int .i64 p,.int .i64 t,_,_,.pointer (some ⟨kx, 0, none⟩),_,_,_,_,.tuple #[.int .i64 (lK B.F v m p t), .int .i64 (lE B.F v m p t)],.pointer (some ⟨A.g, 0, none⟩),.pointer (some ⟨A.g, 0, none⟩),.pointer (some ⟨A.g, 1, none⟩),.pointer (some ⟨A.hf + 1, 0, none⟩),.int .i64 v,.agg (MC m),.int .i64 p,.int .i64 t,.tuple #[.int .i64 (lK B.F v m p t), .int .i64 (lE B.F v m p t)],_,_,_,_,_,_,_,_,_,_,_,_,_,_,_,_,_,_,_,_,_,_,_,_,_,_,_,_,_,_,_,_,_,_,_,_,_,_], []⟩ _
  refine wpAnyH_take (i := 10) (v := .int .i64 (lK B.F v m p t)) rfl (by kernel_rfl) (by kernel_rfl) (by kernel_rfl) (fun _ _ _ h => h) (Or.inl ⟨by rfl, ?_⟩) hHeld ?_
  · intro W hW; (try dsimp only at hW); go_simp
  change wpAnyH _ _ _ _ _ _ _ ⟨#[.pointer (some ⟨A.g, 0, none⟩),.int .i64 v,_,.int .i64 p,.int .i64 t,_,_,.pointer (some ⟨kx, 0, none⟩),_,_,_,_,.tuple #[.int .i64 (lK B.F v m p t), .int .i64 (lE B.F v m p t)],.pointer (some ⟨A.g, 0, none⟩),.pointer (some ⟨A.g, 0, none⟩),.pointer (some ⟨A.g, 1, none⟩),.pointer (some ⟨A.hf + 1, 0, none⟩),.int .i64 v,.agg (MC m),.int .i64 p,.int .i64 t,.tuple #[.int .i64 (lK B.F v m p t), .int .i64 (lE B.F v m p t)],.int .i64 (lK B.F v m p t),_,_,_,_,_,_,_,_,_,_,_,_,_,_,_,_,_,_,_,_,_,_,_,_,_,_,_,_,_,_,_,_,_,_,_,_,_], []⟩ _
  refine wpAnyH_take (i := 11) (v := .int .i64 (lE B.F v m p t)) rfl (by kernel_rfl) (by kernel_rfl) (by kernel_rfl) (fun _ _ _ h => h) (Or.inl ⟨by rfl, ?_⟩) hHeld ?_
  · intro W hW; (try dsimp only at hW); go_simp
  change wpAnyH _ _ _ _ _ _ _ ⟨#[.pointer (some ⟨A.g, 0, none⟩),.int .i64 v,_,.int .i64 p,.int .i64 t,_,_,.pointer (some ⟨kx, 0, none⟩),_,_,_,_,.tuple #[.int .i64 (lK B.F v m p t), .int .i64 (lE B.F v m p t)],.pointer (some ⟨A.g, 0, none⟩),.pointer (some ⟨A.g, 0, none⟩),.pointer (some ⟨A.g, 1, none⟩),.pointer (some ⟨A.hf + 1, 0, none⟩),.int .i64 v,.agg (MC m),.int .i64 p,.int .i64 t,.tuple #[.int .i64 (lK B.F v m p t), .int .i64 (lE B.F v m p t)],.int .i64 (lK B.F v m p t),.int .i64 (lE B.F v m p t),_,_,_,_,_,_,_,_,_,_,_,_,_,_,_,_,_,_,_,_,_,_,_,_,_,_,_,_,_,_,_,_,_,_,_,_], []⟩ _
  refine wpAnyH_take (i := 12) (v := .int .i64 (lK B.F v m p t)) rfl (by kernel_rfl) (by kernel_rfl) (by kernel_rfl) (fun _ _ _ h => h) (Or.inl ⟨by rfl, ?_⟩) hHeld ?_
  · intro W hW; (try dsimp only at hW); go_simp
  change wpAnyH _ _ _ _ _ _ _ ⟨#[.pointer (some ⟨A.g, 0, none⟩),.int .i64 v,_,.int .i64 p,.int .i64 t,_,_,.pointer (some ⟨kx, 0, none⟩),_,_,.int .i64 (lK B.F v m p t),_,.tuple #[.int .i64 (lK B.F v m p t), .int .i64 (lE B.F v m p t)],.pointer (some ⟨A.g, 0, none⟩),.pointer (some ⟨A.g, 0, none⟩),.pointer (some ⟨A.g, 1, none⟩),.pointer (some ⟨A.hf + 1, 0, none⟩),.int .i64 v,.agg (MC m),.int .i64 p,.int .i64 t,.tuple #[.int .i64 (lK B.F v m p t), .int .i64 (lE B.F v m p t)],.int .i64 (lK B.F v m p t),.int .i64 (lE B.F v m p t),_,_,_,_,_,_,_,_,_,_,_,_,_,_,_,_,_,_,_,_,_,_,_,_,_,_,_,_,_,_,_,_,_,_,_,_], []⟩ _
  refine wpAnyH_take (i := 13) (v := .int .i64 (lE B.F v m p t)) rfl (by kernel_rfl) (by kernel_rfl) (by kernel_rfl) (fun _ _ _ h => h) (Or.inl ⟨by rfl, ?_⟩) hHeld ?_
  · intro W hW; (try dsimp only at hW); go_simp
  change wpAnyH _ _ _ _ _ _ _ ⟨#[.pointer (some ⟨A.g, 0, none⟩),.int .i64 v,_,.int .i64 p,.int .i64 t,_,_,.pointer (some ⟨kx, 0, none⟩),_,_,.int .i64 (lK B.F v m p t),.int .i64 (lE B.F v m p t),.tuple #[.int .i64 (lK B.F v m p t), .int .i64 (lE B.F v m p t)],.pointer (some ⟨A.g, 0, none⟩),.pointer (some ⟨A.g, 0, none⟩),.pointer (some ⟨A.g, 1, none⟩),.pointer (some ⟨A.hf + 1, 0, none⟩),.int .i64 v,.agg (MC m),.int .i64 p,.int .i64 t,.tuple #[.int .i64 (lK B.F v m p t), .int .i64 (lE B.F v m p t)],.int .i64 (lK B.F v m p t),.int .i64 (lE B.F v m p t),_,_,_,_,_,_,_,_,_,_,_,_,_,_,_,_,_,_,_,_,_,_,_,_,_,_,_,_,_,_,_,_,_,_,_,_], []⟩ _
  refine wpAnyH_done (by kernel_rfl) ?_ _
  clear hHeld
  have b := HR1.out.wf
  have hL : ({ B with F := lT B.F v m p t } : Br).ln = B.ln := rfl
  have c14 := HR1.out.bx.cell 14 _ (pbc_get _ _ b.cl (j := 2) (by rw [b.ll]; omega))
  have f14 := HR1.out.bx.free 14 (by rw [pbc_len _ _ b.cl b.ll]; omega)
  have F2 := hide (HR1.out.incL (j := 2) (by omega) HS.out)
  have c12 := HR1.out.bx.cell 12 _ (pbc_get _ _ b.cl (j := 0) (by rw [b.ll]; omega))
  have f12 := HR1.out.bx.free 12 (by rw [pbc_len _ _ b.cl b.ll]; omega)
  have F0 := hide (HR1.out.incL (j := 0) (by omega) HS.out)
  have c13 := HR1.out.bx.cell 13 _ (pbc_get _ _ b.cl (j := 1) (by rw [b.ll]; omega))
  have f13 := HR1.out.bx.free 13 (by rw [pbc_len _ _ b.cl b.ll]; omega)
  have F1 := hide (HR1.out.incL (j := 1) (by omega) HS.out)
  have hk := lK_012 B.F v m p t
  have el : ∀ j, j < 3 → IntKind.i64.wrap (B.ln.getD j 0 + 1) = B.ln.getD j 0 + 1 := fun j hj => by
    have hm : B.ln.getD j 0 ∈ B.ln := by
      rw [List.getD_eq_getElem?_getD, List.getElem?_eq_getElem (by have := b.ll; rw [hL] at this; rw [this]; exact hj)]
      exact List.getElem_mem _
    have h1 := HS.out _ hm
    have h0 := (b.ls _ hm).1
    exact IntWalk.i64_in _ (by omega)
  have e0 := el 0 (by omega)
  have e1 := el 1 (by omega)
  have e2 := el 2 (by omega)
  rw [hL] at c12 c13 c14 F0 F1 F2
  have HLR : Hid (lrn B v m p t = { B with F := lT B.F v m p t, ln := if lE B.F v m p t = 0 then (if 0 < lK B.F v m p t then inc B.ln (lK B.F v m p t - 1).toNat else B.ln) else inc B.ln 2 }) := hide rfl
  generalize lE B.F v m p t = rE at *
  generalize lK B.F v m p t = rK at *
  generalize lT B.F v m p t = rT at *
  have HRX := HR1
  clear b hL el HR1 HKX
  generalize B.ln.getD 0 0 = y0 at *
  generalize B.ln.getD 1 0 = y1 at *
  generalize B.ln.getD 2 0 = y2 at *
  have md : ∀ z : World, Mid A.lo A.hi z z.drew := fun z => Mid.on (Mid.refl _ _ _) ⟨rfl, rfl, rfl, Nat.le_refl _, fun _ _ => rfl⟩
  by_cases hE : rE = 0
  · subst hE
    rcases hk with rfl | rfl | rfl
    · go_wp2
      go_end0
      exact ⟨rfl, by rw [HLR.out]; exact HRX.out, HC.out⟩
    · go_wp2_with fail
      go_region
      go_wp2
      go_end0
      exact ⟨rfl, by rw [HLR.out]; exact F0.out.1.drew, (HC.out.trans F0.out.2).trans (md _)⟩
    · go_wp2_with fail
      go_region
      go_wp2
      go_end0
      exact ⟨rfl, by rw [HLR.out]; exact F1.out.1.drew, (HC.out.trans F1.out.2).trans (md _)⟩
  · have hE2 : (rE != 0) = true := by simp [hE]
    rw [if_neg hE] at HLR
    go_wp2_with fail
    go_region
    go_wp2
    go_end0
    exact ⟨rfl, by rw [HLR.out]; exact F2.out.1.drew, (HC.out.trans F2.out.2).trans (md _)⟩
end
end Go.Proofs.YtgpdjfaklcmoiaaGreat
