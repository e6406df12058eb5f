/- Sort: a row of numbers. -/
import Derived.Test.YtemjmnpclknfaaaGreatRows
import Derived.WalkKit
import Derived.Below
import Derived.Carry
import Derived.OpenShut
import Derived.WalkSmall
import Derived.Outline
import Derived.BigQuiet
import Derived.Lib.Hide
import Derived.Laws.StructEq
import Derived.OrdersHeld
import Derived.LoopTactic
import Derived.Deep.QuietTactic
import Derived.Deep.RegionLaw
import Derived.Deep.RegionHeld3
import Derived.Deep.DeepCutAuto
import Derived.IntWalk
import Derived.StillTailTactics
namespace Go.Proofs.YtemjmnpclknfaaaGreat.Z
open Go.RowKit
theorem lt_of_block {w : World} {G : Nat} {o : Obj} (h : w.heap[G]? = some o) : G < w.heap.size := (Array.getElem?_eq_some_iff.1 h).1
def un (l : List Nat) : List Value := l.map fun x : Nat => .int .u32 (x : Int)
end Go.Proofs.YtemjmnpclknfaaaGreat.Z
