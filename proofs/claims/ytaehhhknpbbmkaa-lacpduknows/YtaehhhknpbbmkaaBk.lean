/- A block whose cells are all known; the cells of a LACPDU one by one. -/
import Derived.Test.YtaehhhknpbbmkaaA1
namespace Go.Proofs.Ytaehhhknpbbmkaa
open Go.RowKit

theorem LC0 (l : Lac) : (LC l)[0]? = some (.int .i64 l.a.sp) := rfl
theorem LC1 (l : Lac) : (LC l)[1]? = some (.int .u8 l.a.m0) := rfl
theorem LC2 (l : Lac) : (LC l)[2]? = some (.int .u8 l.a.m1) := rfl
theorem LC3 (l : Lac) : (LC l)[3]? = some (.int .u8 l.a.m2) := rfl
theorem LC4 (l : Lac) : (LC l)[4]? = some (.int .u8 l.a.m3) := rfl
theorem LC5 (l : Lac) : (LC l)[5]? = some (.int .u8 l.a.m4) := rfl
theorem LC6 (l : Lac) : (LC l)[6]? = some (.int .u8 l.a.m5) := rfl
theorem LC7 (l : Lac) : (LC l)[7]? = some (.int .i64 l.a.ky) := rfl
theorem LC8 (l : Lac) : (LC l)[8]? = some (.int .i64 l.a.pp) := rfl
theorem LC9 (l : Lac) : (LC l)[9]? = some (.int .i64 l.a.po) := rfl
theorem LC10 (l : Lac) : (LC l)[10]? = some (.int .i64 l.a.st) := rfl
theorem LC11 (l : Lac) : (LC l)[11]? = some (.int .i64 l.p.sp) := rfl
theorem LC12 (l : Lac) : (LC l)[12]? = some (.int .u8 l.p.m0) := rfl
theorem LC13 (l : Lac) : (LC l)[13]? = some (.int .u8 l.p.m1) := rfl
theorem LC14 (l : Lac) : (LC l)[14]? = some (.int .u8 l.p.m2) := rfl
theorem LC15 (l : Lac) : (LC l)[15]? = some (.int .u8 l.p.m3) := rfl
theorem LC16 (l : Lac) : (LC l)[16]? = some (.int .u8 l.p.m4) := rfl
theorem LC17 (l : Lac) : (LC l)[17]? = some (.int .u8 l.p.m5) := rfl
theorem LC18 (l : Lac) : (LC l)[18]? = some (.int .i64 l.p.ky) := rfl
theorem LC19 (l : Lac) : (LC l)[19]? = some (.int .i64 l.p.pp) := rfl
theorem LC20 (l : Lac) : (LC l)[20]? = some (.int .i64 l.p.po) := rfl
theorem LC21 (l : Lac) : (LC l)[21]? = some (.int .i64 l.p.st) := rfl
/-- A block whose cells are all known. -/
structure Blk (w : World) (k : Nat) (C : Array Value) : Prop where
  lt : k < w.heap.size
  all : ∀ j, w.cell? ⟨k, j, none⟩ = C[j]?
theorem Blk.new (w : World) (C : Array Value) (e : TypeId) : Blk (w.alloc (.cells C e)) w.heap.size C :=
  ⟨by simp, fun j => World.cell?_alloc_at _ _ _ _ rfl⟩
theorem Blk.on {w w1 : World} {k : Nat} {C : Array Value} (h : Blk w k C) (hb : Below w.heap.size w w1) : Blk w1 k C :=
  ⟨Nat.lt_of_lt_of_le h.lt hb.size, fun j => (hb.cell (p := ⟨k, j, none⟩) h.lt).trans (h.all j)⟩
theorem Blk.drew {w : World} {k : Nat} {C : Array Value} (h : Blk w k C) : Blk w.drew k C := ⟨h.lt, h.all⟩
theorem Blk.drewN {w : World} {k : Nat} {C : Array Value} (h : Blk w k C) (n : Nat) : Blk (w.drewN n) k C := ⟨h.lt, h.all⟩
theorem Blk.lac {w : World} {k : Nat} {l : Lac} (h : Blk w k (LC l)) : w.rangeAt k 0 (lcl l) := fun j v hj => by
  rw [Nat.zero_add, h.all j]
  simpa [LC] using hj
end Go.Proofs.Ytaehhhknpbbmkaa
