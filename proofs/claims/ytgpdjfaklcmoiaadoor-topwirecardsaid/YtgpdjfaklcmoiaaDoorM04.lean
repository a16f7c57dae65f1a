/- Contracts of All; of forget and its closure. · Contracts of Age, FlushPort, FlushVlan. -/
import Derived.Test.YtgpdjfaklcmoiaaDoorM02
/- Contracts of All; of forget and its closure. -/
namespace Go.Proofs.YtgpdjfaklcmoiaaDoor
open Go.RowKit Go.PlainAid

section
end
section
end
/-- What is asked for, and is not Static. -/
def gof (f : En → Bool) (x : En) : Bool := !x.s && f x
end Go.Proofs.YtgpdjfaklcmoiaaDoor
/- Contracts of Age, FlushPort, FlushVlan. -/
namespace Go.Proofs.YtgpdjfaklcmoiaaDoor
open Go.RowKit Go.PlainAid

def gA (a b : Int) (x : En) : Bool := decide (x.t ≤ a - b)
def gT (T : FT) (f : En → Bool) : FT := ⟨T.n, T.l.filter (fun x => !gof f x)⟩
def aOk (a b : Int) : Bool := isT a && isT b
def aT (T : FT) (a b : Int) : FT := if aOk a b then gT T (gA a b) else T
section
end
end Go.Proofs.YtgpdjfaklcmoiaaDoor
