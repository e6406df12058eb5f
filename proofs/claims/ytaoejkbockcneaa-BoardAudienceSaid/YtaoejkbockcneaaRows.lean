/-
  No cell of these rows narrows 'for every input' (looked for: loops, veiled, ifaces, maps, wideKeys, modest, calm, conditions, laid).
  DERIVED. THE GIVEN ROWS OF THIS SEAT. 9 by the template 'for every input the law returns true; each argument reads behind the call as it read before'; 0 by the template 'total and deterministic' (their statements: YtaoejkbockcneaaTotals.lean).
  GIVEN WITH THE SEED: the statements are not yours to turn. If you find one false, say at which input.
  Laid BY PROGRAM, IN A SANDBOX (cutbox-rows.mjs): the forced cells as the released guide's own fill.sh prints them over the translation c8e28e244f53fb01… (all of the seat's roots in one cut). By AI agents, Wed Nov 11 2026. No macro, syntax, notation, axiom, sorry.
-/
import Derived.Test.YtaoejkbockcneaaChecked
import GoSem.Claim
import GoSem.ClaimJoined
import GoSem.ClaimMapViews
import Derived.JoinedTies
import Derived.KernelRfl
namespace Go.Proofs.Ytaoejkbockcneaa
/- THE CELL 'sum', in the pinned program and in every row, IS THE sha256 OF THE DUMP (.gsa) THAT YtaoejkbockcneaaProg.lean LOADS. Nothing in Lean hashes anything: it is a label: what it is worth is what the hold of that sum in a sandbox is worth. -/
noncomputable def Try.pinned : Pinned := { name := "ytaoejkbockcneaa", sum := "c8e28e244f53fb011305342be74389b692e28358e372d4c960f6cf49d3ad1e1d", checked := Try.checked }
namespace Rows
def none {H : Type} : Left H := { results := [], args := [] }

/-- 'tiltyardlaw08.TimerRuns': WHATEVER THE INPUT: true; the input reads as it did. -/
def timerRunsSpec : ChangeSpec := { name := "timerRuns", fn := fun _ => fun
  | [d] => { results := [.lit (.bool true)], args := [d] }
  | _ => none }
def timerRunsRow : OpenClaim := { program := "ytaoejkbockcneaa", sum := "c8e28e244f53fb011305342be74389b692e28358e372d4c960f6cf49d3ad1e1d", func := "tiltyard/tiltyardlaw08.TimerRuns", spec := "timerRuns", unfollowed := true, recurses := true, plainKeys := false, apart := false }
def TimerRunsSaid : Prop := timerRunsRow.holds Try.pinned (OpenSpec.ofChange timerRunsSpec)

/-- ITS FALSE NEIGHBOUR: 'it returns false'. Refute it at one input. -/
def timerRunsWrong : ChangeSpec := { name := "timerRuns", fn := fun _ => fun
  | [d] => { results := [.lit (.bool false)], args := [d] }
  | _ => none }
def TimerRunsWrongFalsely : Prop := timerRunsRow.holds Try.pinned (OpenSpec.ofChange timerRunsWrong)

/-- 'tiltyardlaw08.TimerAdds': WHATEVER THE INPUT: true; the input reads as it did. -/
def timerAddsSpec : ChangeSpec := { name := "timerAdds", fn := fun _ => fun
  | [d1, d2] => { results := [.lit (.bool true)], args := [d1, d2] }
  | _ => none }
def timerAddsRow : OpenClaim := { program := "ytaoejkbockcneaa", sum := "c8e28e244f53fb011305342be74389b692e28358e372d4c960f6cf49d3ad1e1d", func := "tiltyard/tiltyardlaw08.TimerAdds", spec := "timerAdds", unfollowed := true, recurses := true, plainKeys := false, apart := false }
def TimerAddsSaid : Prop := timerAddsRow.holds Try.pinned (OpenSpec.ofChange timerAddsSpec)

/-- ITS FALSE NEIGHBOUR: 'it returns false'. Refute it at one input. -/
def timerAddsWrong : ChangeSpec := { name := "timerAdds", fn := fun _ => fun
  | [d1, d2] => { results := [.lit (.bool false)], args := [d1, d2] }
  | _ => none }
def TimerAddsWrongFalsely : Prop := timerAddsRow.holds Try.pinned (OpenSpec.ofChange timerAddsWrong)

/-- 'tiltyardlaw08.TimerOrder': WHATEVER THE INPUT: true; the input reads as it did. -/
def timerOrderSpec : ChangeSpec := { name := "timerOrder", fn := fun _ => fun
  | [d1, d2] => { results := [.lit (.bool true)], args := [d1, d2] }
  | _ => none }
def timerOrderRow : OpenClaim := { program := "ytaoejkbockcneaa", sum := "c8e28e244f53fb011305342be74389b692e28358e372d4c960f6cf49d3ad1e1d", func := "tiltyard/tiltyardlaw08.TimerOrder", spec := "timerOrder", unfollowed := true, recurses := true, plainKeys := false, apart := false }
def TimerOrderSaid : Prop := timerOrderRow.holds Try.pinned (OpenSpec.ofChange timerOrderSpec)

/-- ITS FALSE NEIGHBOUR: 'it returns false'. Refute it at one input. -/
def timerOrderWrong : ChangeSpec := { name := "timerOrder", fn := fun _ => fun
  | [d1, d2] => { results := [.lit (.bool false)], args := [d1, d2] }
  | _ => none }
def TimerOrderWrongFalsely : Prop := timerOrderRow.holds Try.pinned (OpenSpec.ofChange timerOrderWrong)

/-- 'tiltyardlaw08.TimerAnew': WHATEVER THE INPUT: true; the input reads as it did. -/
def timerAnewSpec : ChangeSpec := { name := "timerAnew", fn := fun _ => fun
  | [d1, d2, d3] => { results := [.lit (.bool true)], args := [d1, d2, d3] }
  | _ => none }
def timerAnewRow : OpenClaim := { program := "ytaoejkbockcneaa", sum := "c8e28e244f53fb011305342be74389b692e28358e372d4c960f6cf49d3ad1e1d", func := "tiltyard/tiltyardlaw08.TimerAnew", spec := "timerAnew", unfollowed := true, recurses := true, plainKeys := false, apart := false }
def TimerAnewSaid : Prop := timerAnewRow.holds Try.pinned (OpenSpec.ofChange timerAnewSpec)

/-- ITS FALSE NEIGHBOUR: 'it returns false'. Refute it at one input. -/
def timerAnewWrong : ChangeSpec := { name := "timerAnew", fn := fun _ => fun
  | [d1, d2, d3] => { results := [.lit (.bool false)], args := [d1, d2, d3] }
  | _ => none }
def TimerAnewWrongFalsely : Prop := timerAnewRow.holds Try.pinned (OpenSpec.ofChange timerAnewWrong)

/-- 'tiltyardlaw08.TimerNil': WHATEVER THE INPUT: true; the input reads as it did. -/
def timerNilSpec : ChangeSpec := { name := "timerNil", fn := fun _ => fun
  | [d1, d2, d3] => { results := [.lit (.bool true)], args := [d1, d2, d3] }
  | _ => none }
def timerNilRow : OpenClaim := { program := "ytaoejkbockcneaa", sum := "c8e28e244f53fb011305342be74389b692e28358e372d4c960f6cf49d3ad1e1d", func := "tiltyard/tiltyardlaw08.TimerNil", spec := "timerNil", unfollowed := true, recurses := true, plainKeys := false, apart := false }
def TimerNilSaid : Prop := timerNilRow.holds Try.pinned (OpenSpec.ofChange timerNilSpec)

/-- ITS FALSE NEIGHBOUR: 'it returns false'. Refute it at one input. -/
def timerNilWrong : ChangeSpec := { name := "timerNil", fn := fun _ => fun
  | [d1, d2, d3] => { results := [.lit (.bool false)], args := [d1, d2, d3] }
  | _ => none }
def TimerNilWrongFalsely : Prop := timerNilRow.holds Try.pinned (OpenSpec.ofChange timerNilWrong)

/-- 'tiltyardlaw14.BoardRuns': WHATEVER THE INPUT: true; the input reads as it did. -/
def boardRunsSpec : ChangeSpec := { name := "boardRuns", fn := fun _ => fun
  | [d] => { results := [.lit (.bool true)], args := [d] }
  | _ => none }
def boardRunsRow : OpenClaim := { program := "ytaoejkbockcneaa", sum := "c8e28e244f53fb011305342be74389b692e28358e372d4c960f6cf49d3ad1e1d", func := "tiltyard/tiltyardlaw14.BoardRuns", spec := "boardRuns", unfollowed := true, recurses := true, plainKeys := false, apart := false }
def BoardRunsSaid : Prop := boardRunsRow.holds Try.pinned (OpenSpec.ofChange boardRunsSpec)

/-- ITS FALSE NEIGHBOUR: 'it returns false'. Refute it at one input. -/
def boardRunsWrong : ChangeSpec := { name := "boardRuns", fn := fun _ => fun
  | [d] => { results := [.lit (.bool false)], args := [d] }
  | _ => none }
def BoardRunsWrongFalsely : Prop := boardRunsRow.holds Try.pinned (OpenSpec.ofChange boardRunsWrong)

/-- 'tiltyardlaw14.BoardAudience': WHATEVER THE INPUT: true; the input reads as it did. -/
def boardAudienceSpec : ChangeSpec := { name := "boardAudience", fn := fun _ => fun
  | [d1, d2, d3] => { results := [.lit (.bool true)], args := [d1, d2, d3] }
  | _ => none }
def boardAudienceRow : OpenClaim := { program := "ytaoejkbockcneaa", sum := "c8e28e244f53fb011305342be74389b692e28358e372d4c960f6cf49d3ad1e1d", func := "tiltyard/tiltyardlaw14.BoardAudience", spec := "boardAudience", unfollowed := true, recurses := true, plainKeys := false, apart := false }
def BoardAudienceSaid : Prop := boardAudienceRow.holds Try.pinned (OpenSpec.ofChange boardAudienceSpec)

/-- ITS FALSE NEIGHBOUR: 'it returns false'. Refute it at one input. -/
def boardAudienceWrong : ChangeSpec := { name := "boardAudience", fn := fun _ => fun
  | [d1, d2, d3] => { results := [.lit (.bool false)], args := [d1, d2, d3] }
  | _ => none }
def BoardAudienceWrongFalsely : Prop := boardAudienceRow.holds Try.pinned (OpenSpec.ofChange boardAudienceWrong)

/-- 'tiltyardlaw14.BoardKnows': WHATEVER THE INPUT: true; the input reads as it did. -/
def boardKnowsSpec : ChangeSpec := { name := "boardKnows", fn := fun _ => fun
  | [d1, d2] => { results := [.lit (.bool true)], args := [d1, d2] }
  | _ => none }
def boardKnowsRow : OpenClaim := { program := "ytaoejkbockcneaa", sum := "c8e28e244f53fb011305342be74389b692e28358e372d4c960f6cf49d3ad1e1d", func := "tiltyard/tiltyardlaw14.BoardKnows", spec := "boardKnows", unfollowed := true, recurses := true, plainKeys := false, apart := false }
def BoardKnowsSaid : Prop := boardKnowsRow.holds Try.pinned (OpenSpec.ofChange boardKnowsSpec)

/-- ITS FALSE NEIGHBOUR: 'it returns false'. Refute it at one input. -/
def boardKnowsWrong : ChangeSpec := { name := "boardKnows", fn := fun _ => fun
  | [d1, d2] => { results := [.lit (.bool false)], args := [d1, d2] }
  | _ => none }
def BoardKnowsWrongFalsely : Prop := boardKnowsRow.holds Try.pinned (OpenSpec.ofChange boardKnowsWrong)

/-- 'tiltyardlaw14.BoardHides': WHATEVER THE INPUT: true; the input reads as it did. -/
def boardHidesSpec : ChangeSpec := { name := "boardHides", fn := fun _ => fun
  | [d1, d2, d3] => { results := [.lit (.bool true)], args := [d1, d2, d3] }
  | _ => none }
def boardHidesRow : OpenClaim := { program := "ytaoejkbockcneaa", sum := "c8e28e244f53fb011305342be74389b692e28358e372d4c960f6cf49d3ad1e1d", func := "tiltyard/tiltyardlaw14.BoardHides", spec := "boardHides", unfollowed := true, recurses := true, plainKeys := false, apart := false }
def BoardHidesSaid : Prop := boardHidesRow.holds Try.pinned (OpenSpec.ofChange boardHidesSpec)

/-- ITS FALSE NEIGHBOUR: 'it returns false'. Refute it at one input. -/
def boardHidesWrong : ChangeSpec := { name := "boardHides", fn := fun _ => fun
  | [d1, d2, d3] => { results := [.lit (.bool false)], args := [d1, d2, d3] }
  | _ => none }
def BoardHidesWrongFalsely : Prop := boardHidesRow.holds Try.pinned (OpenSpec.ofChange boardHidesWrong)

/- THE SECOND FORM. 'bulk': how many values and letters a reading holds, each counted each time it is reached (what is shared counts as often as it is met; a slice's spare places count too). A statement '..UptoSaid' is the law's where the arguments, and the package variables that the reading takes, are together of bulk at most 1048576: NARROWER than '..Said'. Prove '..Said' where nothing that the law and all that it calls make is longer than what came in: it says more and counts as full. Else prove '..UptoSaid'. A law counts once. -/
mutual
def uptoBulk {H : Type} : DataW H → Nat
  | .lit (.string bytes) => bytes.length + 1
  | .lit _ => 1
  | .nil => 1
  | .ptr d => uptoBulk d + 1
  | .slice elems spare => uptoBulkAll elems + uptoBulkAll spare + 1
  | .agg parts => uptoBulkAll parts + 1
  | .iface _ d => uptoBulk d + 1
  | .map entries => uptoBulkEntries entries + 1
  | .held _ => 1
def uptoBulkAll {H : Type} : List (DataW H) → Nat
  | [] => 0
  | d :: r => uptoBulk d + uptoBulkAll r
def uptoBulkEntries {H : Type} : List (Lit × DataW H) → Nat
  | [] => 0
  | x :: r => uptoBulkEntry x + uptoBulkEntries r
def uptoBulkEntry {H : Type} : Lit × DataW H → Nat
  | (.string bytes, d) => bytes.length + uptoBulk d + 1
  | (_, d) => uptoBulk d + 1
 end
def uptoSmall : (H : Type) → List (DataW H) → Bool := fun _ ds => decide (uptoBulkAll ds ≤ 1048576)
def OpenSpec.upto (s : _root_.Go.ChangeSpec) : _root_.Go.OpenSpec := { _root_.Go.OpenSpec.ofChange s with cond := some uptoSmall }

/-- 'tiltyardlaw08.TimerRuns', WHERE WHAT IT READS IS OF BULK AT MOST 1048576: true; the input reads as it did. -/
def timerRunsUptoRow : OpenClaim := { program := "ytaoejkbockcneaa", sum := "c8e28e244f53fb011305342be74389b692e28358e372d4c960f6cf49d3ad1e1d", func := "tiltyard/tiltyardlaw08.TimerRuns", spec := "timerRuns", unfollowed := true, recurses := true, plainKeys := false, apart := false, narrowed := true }
def TimerRunsUptoSaid : Prop := timerRunsUptoRow.holds Try.pinned (OpenSpec.upto timerRunsSpec)

/-- 'tiltyardlaw08.TimerAdds', WHERE WHAT IT READS IS OF BULK AT MOST 1048576: true; the input reads as it did. -/
def timerAddsUptoRow : OpenClaim := { program := "ytaoejkbockcneaa", sum := "c8e28e244f53fb011305342be74389b692e28358e372d4c960f6cf49d3ad1e1d", func := "tiltyard/tiltyardlaw08.TimerAdds", spec := "timerAdds", unfollowed := true, recurses := true, plainKeys := false, apart := false, narrowed := true }
def TimerAddsUptoSaid : Prop := timerAddsUptoRow.holds Try.pinned (OpenSpec.upto timerAddsSpec)

/-- 'tiltyardlaw08.TimerOrder', WHERE WHAT IT READS IS OF BULK AT MOST 1048576: true; the input reads as it did. -/
def timerOrderUptoRow : OpenClaim := { program := "ytaoejkbockcneaa", sum := "c8e28e244f53fb011305342be74389b692e28358e372d4c960f6cf49d3ad1e1d", func := "tiltyard/tiltyardlaw08.TimerOrder", spec := "timerOrder", unfollowed := true, recurses := true, plainKeys := false, apart := false, narrowed := true }
def TimerOrderUptoSaid : Prop := timerOrderUptoRow.holds Try.pinned (OpenSpec.upto timerOrderSpec)

/-- 'tiltyardlaw08.TimerAnew', WHERE WHAT IT READS IS OF BULK AT MOST 1048576: true; the input reads as it did. -/
def timerAnewUptoRow : OpenClaim := { program := "ytaoejkbockcneaa", sum := "c8e28e244f53fb011305342be74389b692e28358e372d4c960f6cf49d3ad1e1d", func := "tiltyard/tiltyardlaw08.TimerAnew", spec := "timerAnew", unfollowed := true, recurses := true, plainKeys := false, apart := false, narrowed := true }
def TimerAnewUptoSaid : Prop := timerAnewUptoRow.holds Try.pinned (OpenSpec.upto timerAnewSpec)

/-- 'tiltyardlaw08.TimerNil', WHERE WHAT IT READS IS OF BULK AT MOST 1048576: true; the input reads as it did. -/
def timerNilUptoRow : OpenClaim := { program := "ytaoejkbockcneaa", sum := "c8e28e244f53fb011305342be74389b692e28358e372d4c960f6cf49d3ad1e1d", func := "tiltyard/tiltyardlaw08.TimerNil", spec := "timerNil", unfollowed := true, recurses := true, plainKeys := false, apart := false, narrowed := true }
def TimerNilUptoSaid : Prop := timerNilUptoRow.holds Try.pinned (OpenSpec.upto timerNilSpec)

/-- 'tiltyardlaw14.BoardRuns', WHERE WHAT IT READS IS OF BULK AT MOST 1048576: true; the input reads as it did. -/
def boardRunsUptoRow : OpenClaim := { program := "ytaoejkbockcneaa", sum := "c8e28e244f53fb011305342be74389b692e28358e372d4c960f6cf49d3ad1e1d", func := "tiltyard/tiltyardlaw14.BoardRuns", spec := "boardRuns", unfollowed := true, recurses := true, plainKeys := false, apart := false, narrowed := true }
def BoardRunsUptoSaid : Prop := boardRunsUptoRow.holds Try.pinned (OpenSpec.upto boardRunsSpec)

/-- 'tiltyardlaw14.BoardAudience', WHERE WHAT IT READS IS OF BULK AT MOST 1048576: true; the input reads as it did. -/
def boardAudienceUptoRow : OpenClaim := { program := "ytaoejkbockcneaa", sum := "c8e28e244f53fb011305342be74389b692e28358e372d4c960f6cf49d3ad1e1d", func := "tiltyard/tiltyardlaw14.BoardAudience", spec := "boardAudience", unfollowed := true, recurses := true, plainKeys := false, apart := false, narrowed := true }
def BoardAudienceUptoSaid : Prop := boardAudienceUptoRow.holds Try.pinned (OpenSpec.upto boardAudienceSpec)

/-- 'tiltyardlaw14.BoardKnows', WHERE WHAT IT READS IS OF BULK AT MOST 1048576: true; the input reads as it did. -/
def boardKnowsUptoRow : OpenClaim := { program := "ytaoejkbockcneaa", sum := "c8e28e244f53fb011305342be74389b692e28358e372d4c960f6cf49d3ad1e1d", func := "tiltyard/tiltyardlaw14.BoardKnows", spec := "boardKnows", unfollowed := true, recurses := true, plainKeys := false, apart := false, narrowed := true }
def BoardKnowsUptoSaid : Prop := boardKnowsUptoRow.holds Try.pinned (OpenSpec.upto boardKnowsSpec)

/-- 'tiltyardlaw14.BoardHides', WHERE WHAT IT READS IS OF BULK AT MOST 1048576: true; the input reads as it did. -/
def boardHidesUptoRow : OpenClaim := { program := "ytaoejkbockcneaa", sum := "c8e28e244f53fb011305342be74389b692e28358e372d4c960f6cf49d3ad1e1d", func := "tiltyard/tiltyardlaw14.BoardHides", spec := "boardHides", unfollowed := true, recurses := true, plainKeys := false, apart := false, narrowed := true }
def BoardHidesUptoSaid : Prop := boardHidesUptoRow.holds Try.pinned (OpenSpec.upto boardHidesSpec)

end Rows
end Go.Proofs.Ytaoejkbockcneaa
