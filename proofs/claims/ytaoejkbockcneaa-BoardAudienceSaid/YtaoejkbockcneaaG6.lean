/- Friend: others, by another closure. -/
import Derived.Test.YtaoejkbockcneaaG3
namespace Go.Proofs.Ytaoejkbockcneaa
open Go.RowKit Go.Maps
set_option maxRecDepth 20000
set_option linter.unusedVariables false
set_option linter.unusedSimpArgs false

end Go.Proofs.Ytaoejkbockcneaa
