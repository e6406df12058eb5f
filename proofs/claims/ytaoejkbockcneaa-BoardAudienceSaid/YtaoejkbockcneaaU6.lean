/- Board: what a law's text wants of the library. -/
import Derived.Test.YtaoejkbockcneaaU5
import Derived.ProofKit
import Derived.Lib.SmallJoins
import Derived.Deep.Slices
namespace Go.Proofs.Ytaoejkbockcneaa.Bd
theorem own : ownKnob Try.prog.godebug = Option.none := by kernel_rfl
end Go.Proofs.Ytaoejkbockcneaa.Bd
