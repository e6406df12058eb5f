/- Board: BoardRuns' walk, with the sort. -/
import Derived.Test.YtaoejkbockcneaaW6
import Derived.Test.YtaoejkbockcneaaUC
namespace Go.Proofs.Ytaoejkbockcneaa.Bd
open Go.RowKit Go.Maps
set_option linter.unusedVariables false

theorem runs_any (u : Option Addr × Nat) (acts : List Ac3) (w : World) (hs : As3 w w.heap.size u.1 acts) (hl : acts.length ≤ 9223372036854775807) (hwf : ∀ e ∈ acts, e.2.1 < 4294967296) :
    Calls Try.prog 8 #[.slice u.1 acts.length u.2] w fun r w' => r = .returned (.bool true) ∧ Below w.heap.size w w' := runs_walk (Lib.hid sortOk) u acts w hs hl hwf
end Go.Proofs.Ytaoejkbockcneaa.Bd
