/-
  No cell of these rows narrows 'for every input' (looked for: loops, veiled, ifaces, maps, wideKeys, modest, calm, conditions, laid).
  DERIVED. THE GIVEN ROWS OF THIS SEAT. 6 by the template 'for every input the law returns true; each argument reads behind the call as it read before'; 0 by the template 'total and deterministic' (their statements: YtaehhhknpbbmkaaTotals.lean).
  GIVEN WITH THE SEED: the statements are not yours to turn. If you find one false, say at which input.
  Laid BY PROGRAM, IN A SANDBOX (cutbox-rows.mjs): the forced cells as the released guide's own fill.sh prints them over the translation 49d07fbb7cb1e883… (all of the seat's roots in one cut). By AI agents, Wed Nov 11 2026. No macro, syntax, notation, axiom, sorry.
-/
import Derived.Test.YtaehhhknpbbmkaaChecked
import GoSem.Claim
import GoSem.ClaimJoined
import GoSem.ClaimMapViews
import Derived.JoinedTies
import Derived.KernelRfl
namespace Go.Proofs.Ytaehhhknpbbmkaa
/- THE CELL 'sum', in the pinned program and in every row, IS THE sha256 OF THE DUMP (.gsa) THAT YtaehhhknpbbmkaaProg.lean LOADS. Nothing in Lean hashes anything: it is a label: what it is worth is what the hold of that sum in a sandbox is worth. -/
noncomputable def Try.pinned : Pinned := { name := "ytaehhhknpbbmkaa", sum := "49d07fbb7cb1e883943f42319a0c17c7116a36472e0c5d929f1e75c5cf60834e", checked := Try.checked }
namespace Rows
def none {H : Type} : Left H := { results := [], args := [] }

/-- 'gemellaw04.LacpduEncodes': WHATEVER THE INPUT: true; the input reads as it did. -/
def lacpduEncodesSpec : ChangeSpec := { name := "lacpduEncodes", fn := fun _ => fun
  | [d] => { results := [.lit (.bool true)], args := [d] }
  | _ => none }
def lacpduEncodesRow : OpenClaim := { program := "ytaehhhknpbbmkaa", sum := "49d07fbb7cb1e883943f42319a0c17c7116a36472e0c5d929f1e75c5cf60834e", func := "gemel/gemellaw04.LacpduEncodes", spec := "lacpduEncodes", apart := false }
def LacpduEncodesSaid : Prop := lacpduEncodesRow.holds Try.pinned (OpenSpec.ofChange lacpduEncodesSpec)

/-- ITS FALSE NEIGHBOUR: 'it returns false'. Refute it at one input. -/
def lacpduEncodesWrong : ChangeSpec := { name := "lacpduEncodes", fn := fun _ => fun
  | [d] => { results := [.lit (.bool false)], args := [d] }
  | _ => none }
def LacpduEncodesWrongFalsely : Prop := lacpduEncodesRow.holds Try.pinned (OpenSpec.ofChange lacpduEncodesWrong)

/-- 'gemellaw04.LacpduDecodes': WHATEVER THE INPUT: true; the input reads as it did. -/
def lacpduDecodesSpec : ChangeSpec := { name := "lacpduDecodes", fn := fun _ => fun
  | [d] => { results := [.lit (.bool true)], args := [d] }
  | _ => none }
def lacpduDecodesRow : OpenClaim := { program := "ytaehhhknpbbmkaa", sum := "49d07fbb7cb1e883943f42319a0c17c7116a36472e0c5d929f1e75c5cf60834e", func := "gemel/gemellaw04.LacpduDecodes", spec := "lacpduDecodes", unfollowed := true, recurses := true, apart := false }
def LacpduDecodesSaid : Prop := lacpduDecodesRow.holds Try.pinned (OpenSpec.ofChange lacpduDecodesSpec)

/-- ITS FALSE NEIGHBOUR: 'it returns false'. Refute it at one input. -/
def lacpduDecodesWrong : ChangeSpec := { name := "lacpduDecodes", fn := fun _ => fun
  | [d] => { results := [.lit (.bool false)], args := [d] }
  | _ => none }
def LacpduDecodesWrongFalsely : Prop := lacpduDecodesRow.holds Try.pinned (OpenSpec.ofChange lacpduDecodesWrong)

/-- 'gemellaw04.LacpduKnows': WHATEVER THE INPUT: true; the input reads as it did. -/
def lacpduKnowsSpec : ChangeSpec := { name := "lacpduKnows", fn := fun _ => fun
  | [d1, d2] => { results := [.lit (.bool true)], args := [d1, d2] }
  | _ => none }
def lacpduKnowsRow : OpenClaim := { program := "ytaehhhknpbbmkaa", sum := "49d07fbb7cb1e883943f42319a0c17c7116a36472e0c5d929f1e75c5cf60834e", func := "gemel/gemellaw04.LacpduKnows", spec := "lacpduKnows", apart := false }
def LacpduKnowsSaid : Prop := lacpduKnowsRow.holds Try.pinned (OpenSpec.ofChange lacpduKnowsSpec)

/-- ITS FALSE NEIGHBOUR: 'it returns false'. Refute it at one input. -/
def lacpduKnowsWrong : ChangeSpec := { name := "lacpduKnows", fn := fun _ => fun
  | [d1, d2] => { results := [.lit (.bool false)], args := [d1, d2] }
  | _ => none }
def LacpduKnowsWrongFalsely : Prop := lacpduKnowsRow.holds Try.pinned (OpenSpec.ofChange lacpduKnowsWrong)

/-- 'gemellaw04.LacpduBack': WHATEVER THE INPUT: true; the input reads as it did. -/
def lacpduBackSpec : ChangeSpec := { name := "lacpduBack", fn := fun _ => fun
  | [d1, d2] => { results := [.lit (.bool true)], args := [d1, d2] }
  | _ => none }
def lacpduBackRow : OpenClaim := { program := "ytaehhhknpbbmkaa", sum := "49d07fbb7cb1e883943f42319a0c17c7116a36472e0c5d929f1e75c5cf60834e", func := "gemel/gemellaw04.LacpduBack", spec := "lacpduBack", unfollowed := true, recurses := true, apart := false }
def LacpduBackSaid : Prop := lacpduBackRow.holds Try.pinned (OpenSpec.ofChange lacpduBackSpec)

/-- ITS FALSE NEIGHBOUR: 'it returns false'. Refute it at one input. -/
def lacpduBackWrong : ChangeSpec := { name := "lacpduBack", fn := fun _ => fun
  | [d1, d2] => { results := [.lit (.bool false)], args := [d1, d2] }
  | _ => none }
def LacpduBackWrongFalsely : Prop := lacpduBackRow.holds Try.pinned (OpenSpec.ofChange lacpduBackWrong)

/-- 'gemellaw04.LacpduOrder': WHATEVER THE INPUT: true; the input reads as it did. -/
def lacpduOrderSpec : ChangeSpec := { name := "lacpduOrder", fn := fun _ => fun
  | [d1, d2, d3] => { results := [.lit (.bool true)], args := [d1, d2, d3] }
  | _ => none }
def lacpduOrderRow : OpenClaim := { program := "ytaehhhknpbbmkaa", sum := "49d07fbb7cb1e883943f42319a0c17c7116a36472e0c5d929f1e75c5cf60834e", func := "gemel/gemellaw04.LacpduOrder", spec := "lacpduOrder", apart := false }
def LacpduOrderSaid : Prop := lacpduOrderRow.holds Try.pinned (OpenSpec.ofChange lacpduOrderSpec)

/-- ITS FALSE NEIGHBOUR: 'it returns false'. Refute it at one input. -/
def lacpduOrderWrong : ChangeSpec := { name := "lacpduOrder", fn := fun _ => fun
  | [d1, d2, d3] => { results := [.lit (.bool false)], args := [d1, d2, d3] }
  | _ => none }
def LacpduOrderWrongFalsely : Prop := lacpduOrderRow.holds Try.pinned (OpenSpec.ofChange lacpduOrderWrong)

/-- 'gemellaw04.LacpduOnce': WHATEVER THE INPUT: true; the input reads as it did. -/
def lacpduOnceSpec : ChangeSpec := { name := "lacpduOnce", fn := fun _ => fun
  | [d1, d2] => { results := [.lit (.bool true)], args := [d1, d2] }
  | _ => none }
def lacpduOnceRow : OpenClaim := { program := "ytaehhhknpbbmkaa", sum := "49d07fbb7cb1e883943f42319a0c17c7116a36472e0c5d929f1e75c5cf60834e", func := "gemel/gemellaw04.LacpduOnce", spec := "lacpduOnce", apart := false }
def LacpduOnceSaid : Prop := lacpduOnceRow.holds Try.pinned (OpenSpec.ofChange lacpduOnceSpec)

/-- ITS FALSE NEIGHBOUR: 'it returns false'. Refute it at one input. -/
def lacpduOnceWrong : ChangeSpec := { name := "lacpduOnce", fn := fun _ => fun
  | [d1, d2] => { results := [.lit (.bool false)], args := [d1, d2] }
  | _ => none }
def LacpduOnceWrongFalsely : Prop := lacpduOnceRow.holds Try.pinned (OpenSpec.ofChange lacpduOnceWrong)

/- THE SECOND FORM. 'bulk': how many values and letters a reading holds, each counted each time it is reached (what is shared counts as often as it is met; a slice's spare places count too). A statement '..UptoSaid' is the law's where the arguments, and the package variables that the reading takes, are together of bulk at most 1048576: NARROWER than '..Said'. Prove '..Said' where nothing that the law and all that it calls make is longer than what came in: it says more and counts as full. Else prove '..UptoSaid'. A law counts once. -/
mutual
def uptoBulk {H : Type} : DataW H → Nat
  | .lit (.string bytes) => bytes.length + 1
  | .lit _ => 1
  | .nil => 1
  | .ptr d => uptoBulk d + 1
  | .slice elems spare => uptoBulkAll elems + uptoBulkAll spare + 1
  | .agg parts => uptoBulkAll parts + 1
  | .iface _ d => uptoBulk d + 1
  | .map entries => uptoBulkEntries entries + 1
  | .held _ => 1
def uptoBulkAll {H : Type} : List (DataW H) → Nat
  | [] => 0
  | d :: r => uptoBulk d + uptoBulkAll r
def uptoBulkEntries {H : Type} : List (Lit × DataW H) → Nat
  | [] => 0
  | x :: r => uptoBulkEntry x + uptoBulkEntries r
def uptoBulkEntry {H : Type} : Lit × DataW H → Nat
  | (.string bytes, d) => bytes.length + uptoBulk d + 1
  | (_, d) => uptoBulk d + 1
 end
def uptoSmall : (H : Type) → List (DataW H) → Bool := fun _ ds => decide (uptoBulkAll ds ≤ 1048576)
def OpenSpec.upto (s : _root_.Go.ChangeSpec) : _root_.Go.OpenSpec := { _root_.Go.OpenSpec.ofChange s with cond := some uptoSmall }

/-- 'gemellaw04.LacpduEncodes', WHERE WHAT IT READS IS OF BULK AT MOST 1048576: true; the input reads as it did. -/
def lacpduEncodesUptoRow : OpenClaim := { program := "ytaehhhknpbbmkaa", sum := "49d07fbb7cb1e883943f42319a0c17c7116a36472e0c5d929f1e75c5cf60834e", func := "gemel/gemellaw04.LacpduEncodes", spec := "lacpduEncodes", apart := false, narrowed := true }
def LacpduEncodesUptoSaid : Prop := lacpduEncodesUptoRow.holds Try.pinned (OpenSpec.upto lacpduEncodesSpec)

/-- 'gemellaw04.LacpduDecodes', WHERE WHAT IT READS IS OF BULK AT MOST 1048576: true; the input reads as it did. -/
def lacpduDecodesUptoRow : OpenClaim := { program := "ytaehhhknpbbmkaa", sum := "49d07fbb7cb1e883943f42319a0c17c7116a36472e0c5d929f1e75c5cf60834e", func := "gemel/gemellaw04.LacpduDecodes", spec := "lacpduDecodes", unfollowed := true, recurses := true, apart := false, narrowed := true }
def LacpduDecodesUptoSaid : Prop := lacpduDecodesUptoRow.holds Try.pinned (OpenSpec.upto lacpduDecodesSpec)

/-- 'gemellaw04.LacpduKnows', WHERE WHAT IT READS IS OF BULK AT MOST 1048576: true; the input reads as it did. -/
def lacpduKnowsUptoRow : OpenClaim := { program := "ytaehhhknpbbmkaa", sum := "49d07fbb7cb1e883943f42319a0c17c7116a36472e0c5d929f1e75c5cf60834e", func := "gemel/gemellaw04.LacpduKnows", spec := "lacpduKnows", apart := false, narrowed := true }
def LacpduKnowsUptoSaid : Prop := lacpduKnowsUptoRow.holds Try.pinned (OpenSpec.upto lacpduKnowsSpec)

/-- 'gemellaw04.LacpduBack', WHERE WHAT IT READS IS OF BULK AT MOST 1048576: true; the input reads as it did. -/
def lacpduBackUptoRow : OpenClaim := { program := "ytaehhhknpbbmkaa", sum := "49d07fbb7cb1e883943f42319a0c17c7116a36472e0c5d929f1e75c5cf60834e", func := "gemel/gemellaw04.LacpduBack", spec := "lacpduBack", unfollowed := true, recurses := true, apart := false, narrowed := true }
def LacpduBackUptoSaid : Prop := lacpduBackUptoRow.holds Try.pinned (OpenSpec.upto lacpduBackSpec)

/-- 'gemellaw04.LacpduOrder', WHERE WHAT IT READS IS OF BULK AT MOST 1048576: true; the input reads as it did. -/
def lacpduOrderUptoRow : OpenClaim := { program := "ytaehhhknpbbmkaa", sum := "49d07fbb7cb1e883943f42319a0c17c7116a36472e0c5d929f1e75c5cf60834e", func := "gemel/gemellaw04.LacpduOrder", spec := "lacpduOrder", apart := false, narrowed := true }
def LacpduOrderUptoSaid : Prop := lacpduOrderUptoRow.holds Try.pinned (OpenSpec.upto lacpduOrderSpec)

/-- 'gemellaw04.LacpduOnce', WHERE WHAT IT READS IS OF BULK AT MOST 1048576: true; the input reads as it did. -/
def lacpduOnceUptoRow : OpenClaim := { program := "ytaehhhknpbbmkaa", sum := "49d07fbb7cb1e883943f42319a0c17c7116a36472e0c5d929f1e75c5cf60834e", func := "gemel/gemellaw04.LacpduOnce", spec := "lacpduOnce", apart := false, narrowed := true }
def LacpduOnceUptoSaid : Prop := lacpduOnceUptoRow.holds Try.pinned (OpenSpec.upto lacpduOnceSpec)

end Rows
end Go.Proofs.Ytaehhhknpbbmkaa
