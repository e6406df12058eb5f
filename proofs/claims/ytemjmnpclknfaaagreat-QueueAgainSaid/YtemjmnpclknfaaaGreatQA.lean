/- Ready: Open. -/
import Derived.Test.YtemjmnpclknfaaaGreatQ8
import Derived.Test.YtemjmnpclknfaaaGreatQ3
namespace Go.Proofs.YtemjmnpclknfaaaGreat.P
open Go.RowKit
set_option maxRecDepth 20000
set_option linter.unusedVariables false
set_option linter.unusedSimpArgs false

abbrev okN (x : Nat) : Prop := 1 ≤ x ∧ x ≤ 2147483647
end Go.Proofs.YtemjmnpclknfaaaGreat.P
