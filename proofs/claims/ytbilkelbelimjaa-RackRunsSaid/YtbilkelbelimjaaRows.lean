/-
  No cell of these rows narrows 'for every input' (looked for: loops, veiled, ifaces, maps, wideKeys, modest, calm, conditions, laid).
  DERIVED. THE GIVEN ROWS OF THIS SEAT. 9 by the template 'for every input the law returns true; each argument reads behind the call as it read before'; 0 by the template 'total and deterministic' (their statements: YtbilkelbelimjaaTotals.lean).
  GIVEN WITH THE SEED: the statements are not yours to turn. If you find one false, say at which input.
  Laid BY PROGRAM, IN A SANDBOX (cutbox-rows.mjs): the forced cells as the released guide's own fill.sh prints them over the translation b26d73c2fb9a72de… (all of the seat's roots in one cut). By AI agents, Wed Nov 11 2026. No macro, syntax, notation, axiom, sorry.
-/
import Derived.Test.YtbilkelbelimjaaChecked
import GoSem.Claim
import GoSem.ClaimJoined
import GoSem.ClaimMapViews
import Derived.JoinedTies
import Derived.KernelRfl
namespace Go.Proofs.Ytbilkelbelimjaa
/- THE CELL 'sum', in the pinned program and in every row, IS THE sha256 OF THE DUMP (.gsa) THAT YtbilkelbelimjaaProg.lean LOADS. Nothing in Lean hashes anything: it is a label: what it is worth is what the hold of that sum in a sandbox is worth. -/
noncomputable def Try.pinned : Pinned := { name := "ytbilkelbelimjaa", sum := "b26d73c2fb9a72dec2f1259cbcf92d515c631c00e4243a50a980ea41f9669800", checked := Try.checked }
namespace Rows
def none {H : Type} : Left H := { results := [], args := [] }

/-- 'tiltyardlaw07.RackRuns': WHATEVER THE INPUT: true; the input reads as it did. -/
def rackRunsSpec : ChangeSpec := { name := "rackRuns", fn := fun _ => fun
  | [d1, d2] => { results := [.lit (.bool true)], args := [d1, d2] }
  | _ => none }
def rackRunsRow : OpenClaim := { program := "ytbilkelbelimjaa", sum := "b26d73c2fb9a72dec2f1259cbcf92d515c631c00e4243a50a980ea41f9669800", func := "tiltyard/tiltyardlaw07.RackRuns", spec := "rackRuns", inPlace := ["slices.overlaps[uint32]", "slices.overlaps[int]"], unfollowed := true, recurses := true, apart := false }
def RackRunsSaid : Prop := rackRunsRow.holds Try.pinned (OpenSpec.ofChange rackRunsSpec)

/-- ITS FALSE NEIGHBOUR: 'it returns false'. Refute it at one input. -/
def rackRunsWrong : ChangeSpec := { name := "rackRuns", fn := fun _ => fun
  | [d1, d2] => { results := [.lit (.bool false)], args := [d1, d2] }
  | _ => none }
def RackRunsWrongFalsely : Prop := rackRunsRow.holds Try.pinned (OpenSpec.ofChange rackRunsWrong)

/-- 'tiltyardlaw07.RackOrder': WHATEVER THE INPUT: true; the input reads as it did. -/
def rackOrderSpec : ChangeSpec := { name := "rackOrder", fn := fun _ => fun
  | [d1, d2] => { results := [.lit (.bool true)], args := [d1, d2] }
  | _ => none }
def rackOrderRow : OpenClaim := { program := "ytbilkelbelimjaa", sum := "b26d73c2fb9a72dec2f1259cbcf92d515c631c00e4243a50a980ea41f9669800", func := "tiltyard/tiltyardlaw07.RackOrder", spec := "rackOrder", inPlace := ["slices.overlaps[uint32]", "slices.overlaps[string]", "slices.overlaps[int]"], unfollowed := true, recurses := true, apart := false }
def RackOrderSaid : Prop := rackOrderRow.holds Try.pinned (OpenSpec.ofChange rackOrderSpec)

/-- ITS FALSE NEIGHBOUR: 'it returns false'. Refute it at one input. -/
def rackOrderWrong : ChangeSpec := { name := "rackOrder", fn := fun _ => fun
  | [d1, d2] => { results := [.lit (.bool false)], args := [d1, d2] }
  | _ => none }
def RackOrderWrongFalsely : Prop := rackOrderRow.holds Try.pinned (OpenSpec.ofChange rackOrderWrong)

/-- 'tiltyardlaw07.RackBound': WHATEVER THE INPUT: true; the input reads as it did. -/
def rackBoundSpec : ChangeSpec := { name := "rackBound", fn := fun _ => fun
  | [d1, d2] => { results := [.lit (.bool true)], args := [d1, d2] }
  | _ => none }
def rackBoundRow : OpenClaim := { program := "ytbilkelbelimjaa", sum := "b26d73c2fb9a72dec2f1259cbcf92d515c631c00e4243a50a980ea41f9669800", func := "tiltyard/tiltyardlaw07.RackBound", spec := "rackBound", inPlace := ["slices.overlaps[uint32]", "slices.overlaps[int]"], unfollowed := true, recurses := true, apart := false }
def RackBoundSaid : Prop := rackBoundRow.holds Try.pinned (OpenSpec.ofChange rackBoundSpec)

/-- ITS FALSE NEIGHBOUR: 'it returns false'. Refute it at one input. -/
def rackBoundWrong : ChangeSpec := { name := "rackBound", fn := fun _ => fun
  | [d1, d2] => { results := [.lit (.bool false)], args := [d1, d2] }
  | _ => none }
def RackBoundWrongFalsely : Prop := rackBoundRow.holds Try.pinned (OpenSpec.ofChange rackBoundWrong)

/-- 'tiltyardlaw07.RackFree': WHATEVER THE INPUT: true; the input reads as it did. -/
def rackFreeSpec : ChangeSpec := { name := "rackFree", fn := fun _ => fun
  | [d1, d2] => { results := [.lit (.bool true)], args := [d1, d2] }
  | _ => none }
def rackFreeRow : OpenClaim := { program := "ytbilkelbelimjaa", sum := "b26d73c2fb9a72dec2f1259cbcf92d515c631c00e4243a50a980ea41f9669800", func := "tiltyard/tiltyardlaw07.RackFree", spec := "rackFree", inPlace := ["slices.overlaps[uint32]", "slices.overlaps[byte]", "slices.overlaps[int]"], unfollowed := true, recurses := true, apart := false }
def RackFreeSaid : Prop := rackFreeRow.holds Try.pinned (OpenSpec.ofChange rackFreeSpec)

/-- ITS FALSE NEIGHBOUR: 'it returns false'. Refute it at one input. -/
def rackFreeWrong : ChangeSpec := { name := "rackFree", fn := fun _ => fun
  | [d1, d2] => { results := [.lit (.bool false)], args := [d1, d2] }
  | _ => none }
def RackFreeWrongFalsely : Prop := rackFreeRow.holds Try.pinned (OpenSpec.ofChange rackFreeWrong)

/-- 'tiltyardlaw07.RackNil': WHATEVER THE INPUT: true; the input reads as it did. -/
def rackNilSpec : ChangeSpec := { name := "rackNil", fn := fun _ => fun
  | [d1, d2] => { results := [.lit (.bool true)], args := [d1, d2] }
  | _ => none }
def rackNilRow : OpenClaim := { program := "ytbilkelbelimjaa", sum := "b26d73c2fb9a72dec2f1259cbcf92d515c631c00e4243a50a980ea41f9669800", func := "tiltyard/tiltyardlaw07.RackNil", spec := "rackNil", inPlace := ["slices.overlaps[uint32]", "slices.overlaps[int]"], unfollowed := true, recurses := true, apart := false }
def RackNilSaid : Prop := rackNilRow.holds Try.pinned (OpenSpec.ofChange rackNilSpec)

/-- ITS FALSE NEIGHBOUR: 'it returns false'. Refute it at one input. -/
def rackNilWrong : ChangeSpec := { name := "rackNil", fn := fun _ => fun
  | [d1, d2] => { results := [.lit (.bool false)], args := [d1, d2] }
  | _ => none }
def RackNilWrongFalsely : Prop := rackNilRow.holds Try.pinned (OpenSpec.ofChange rackNilWrong)

/-- 'tiltyardlaw10.SessionRuns': WHATEVER THE INPUT: true; the input reads as it did. -/
def sessionRunsSpec : ChangeSpec := { name := "sessionRuns", fn := fun _ => fun
  | [d1, d2, d3] => { results := [.lit (.bool true)], args := [d1, d2, d3] }
  | _ => none }
def sessionRunsRow : OpenClaim := { program := "ytbilkelbelimjaa", sum := "b26d73c2fb9a72dec2f1259cbcf92d515c631c00e4243a50a980ea41f9669800", func := "tiltyard/tiltyardlaw10.SessionRuns", spec := "sessionRuns", inPlace := ["slices.overlaps[uint32]", "slices.overlaps[tiltyard/session.place]"], recurses := true, apart := false }
def SessionRunsSaid : Prop := sessionRunsRow.holds Try.pinned (OpenSpec.ofChange sessionRunsSpec)

/-- ITS FALSE NEIGHBOUR: 'it returns false'. Refute it at one input. -/
def sessionRunsWrong : ChangeSpec := { name := "sessionRuns", fn := fun _ => fun
  | [d1, d2, d3] => { results := [.lit (.bool false)], args := [d1, d2, d3] }
  | _ => none }
def SessionRunsWrongFalsely : Prop := sessionRunsRow.holds Try.pinned (OpenSpec.ofChange sessionRunsWrong)

/-- 'tiltyardlaw10.SessionOne': WHATEVER THE INPUT: true; the input reads as it did. -/
def sessionOneSpec : ChangeSpec := { name := "sessionOne", fn := fun _ => fun
  | [d] => { results := [.lit (.bool true)], args := [d] }
  | _ => none }
def sessionOneRow : OpenClaim := { program := "ytbilkelbelimjaa", sum := "b26d73c2fb9a72dec2f1259cbcf92d515c631c00e4243a50a980ea41f9669800", func := "tiltyard/tiltyardlaw10.SessionOne", spec := "sessionOne", inPlace := ["slices.overlaps[uint32]", "slices.overlaps[tiltyard/session.place]"], recurses := true, apart := false }
def SessionOneSaid : Prop := sessionOneRow.holds Try.pinned (OpenSpec.ofChange sessionOneSpec)

/-- ITS FALSE NEIGHBOUR: 'it returns false'. Refute it at one input. -/
def sessionOneWrong : ChangeSpec := { name := "sessionOne", fn := fun _ => fun
  | [d] => { results := [.lit (.bool false)], args := [d] }
  | _ => none }
def SessionOneWrongFalsely : Prop := sessionOneRow.holds Try.pinned (OpenSpec.ofChange sessionOneWrong)

/-- 'tiltyardlaw10.SessionIdle': WHATEVER THE INPUT: true; the input reads as it did. -/
def sessionIdleSpec : ChangeSpec := { name := "sessionIdle", fn := fun _ => fun
  | [d1, d2, d3] => { results := [.lit (.bool true)], args := [d1, d2, d3] }
  | _ => none }
def sessionIdleRow : OpenClaim := { program := "ytbilkelbelimjaa", sum := "b26d73c2fb9a72dec2f1259cbcf92d515c631c00e4243a50a980ea41f9669800", func := "tiltyard/tiltyardlaw10.SessionIdle", spec := "sessionIdle", inPlace := ["slices.overlaps[uint32]", "slices.overlaps[tiltyard/session.place]"], apart := false }
def SessionIdleSaid : Prop := sessionIdleRow.holds Try.pinned (OpenSpec.ofChange sessionIdleSpec)

/-- ITS FALSE NEIGHBOUR: 'it returns false'. Refute it at one input. -/
def sessionIdleWrong : ChangeSpec := { name := "sessionIdle", fn := fun _ => fun
  | [d1, d2, d3] => { results := [.lit (.bool false)], args := [d1, d2, d3] }
  | _ => none }
def SessionIdleWrongFalsely : Prop := sessionIdleRow.holds Try.pinned (OpenSpec.ofChange sessionIdleWrong)

/-- 'tiltyardlaw10.SessionNil': WHATEVER THE INPUT: true; the input reads as it did. -/
def sessionNilSpec : ChangeSpec := { name := "sessionNil", fn := fun _ => fun
  | [d] => { results := [.lit (.bool true)], args := [d] }
  | _ => none }
def sessionNilRow : OpenClaim := { program := "ytbilkelbelimjaa", sum := "b26d73c2fb9a72dec2f1259cbcf92d515c631c00e4243a50a980ea41f9669800", func := "tiltyard/tiltyardlaw10.SessionNil", spec := "sessionNil", inPlace := ["slices.overlaps[uint32]", "slices.overlaps[tiltyard/session.place]"], recurses := true, apart := false }
def SessionNilSaid : Prop := sessionNilRow.holds Try.pinned (OpenSpec.ofChange sessionNilSpec)

/-- ITS FALSE NEIGHBOUR: 'it returns false'. Refute it at one input. -/
def sessionNilWrong : ChangeSpec := { name := "sessionNil", fn := fun _ => fun
  | [d] => { results := [.lit (.bool false)], args := [d] }
  | _ => none }
def SessionNilWrongFalsely : Prop := sessionNilRow.holds Try.pinned (OpenSpec.ofChange sessionNilWrong)

/- THE SECOND FORM. 'bulk': how many values and letters a reading holds, each counted each time it is reached (what is shared counts as often as it is met; a slice's spare places count too). A statement '..UptoSaid' is the law's where the arguments, and the package variables that the reading takes, are together of bulk at most 1048576: NARROWER than '..Said'. Prove '..Said' where nothing that the law and all that it calls make is longer than what came in: it says more and counts as full. Else prove '..UptoSaid'. A law counts once. -/
mutual
def uptoBulk {H : Type} : DataW H → Nat
  | .lit (.string bytes) => bytes.length + 1
  | .lit _ => 1
  | .nil => 1
  | .ptr d => uptoBulk d + 1
  | .slice elems spare => uptoBulkAll elems + uptoBulkAll spare + 1
  | .agg parts => uptoBulkAll parts + 1
  | .iface _ d => uptoBulk d + 1
  | .map entries => uptoBulkEntries entries + 1
  | .held _ => 1
def uptoBulkAll {H : Type} : List (DataW H) → Nat
  | [] => 0
  | d :: r => uptoBulk d + uptoBulkAll r
def uptoBulkEntries {H : Type} : List (Lit × DataW H) → Nat
  | [] => 0
  | x :: r => uptoBulkEntry x + uptoBulkEntries r
def uptoBulkEntry {H : Type} : Lit × DataW H → Nat
  | (.string bytes, d) => bytes.length + uptoBulk d + 1
  | (_, d) => uptoBulk d + 1
 end
def uptoSmall : (H : Type) → List (DataW H) → Bool := fun _ ds => decide (uptoBulkAll ds ≤ 1048576)
def OpenSpec.upto (s : _root_.Go.ChangeSpec) : _root_.Go.OpenSpec := { _root_.Go.OpenSpec.ofChange s with cond := some uptoSmall }

/-- 'tiltyardlaw07.RackRuns', WHERE WHAT IT READS IS OF BULK AT MOST 1048576: true; the input reads as it did. -/
def rackRunsUptoRow : OpenClaim := { program := "ytbilkelbelimjaa", sum := "b26d73c2fb9a72dec2f1259cbcf92d515c631c00e4243a50a980ea41f9669800", func := "tiltyard/tiltyardlaw07.RackRuns", spec := "rackRuns", inPlace := ["slices.overlaps[uint32]", "slices.overlaps[int]"], unfollowed := true, recurses := true, apart := false, narrowed := true }
def RackRunsUptoSaid : Prop := rackRunsUptoRow.holds Try.pinned (OpenSpec.upto rackRunsSpec)

/-- 'tiltyardlaw07.RackOrder', WHERE WHAT IT READS IS OF BULK AT MOST 1048576: true; the input reads as it did. -/
def rackOrderUptoRow : OpenClaim := { program := "ytbilkelbelimjaa", sum := "b26d73c2fb9a72dec2f1259cbcf92d515c631c00e4243a50a980ea41f9669800", func := "tiltyard/tiltyardlaw07.RackOrder", spec := "rackOrder", inPlace := ["slices.overlaps[uint32]", "slices.overlaps[string]", "slices.overlaps[int]"], unfollowed := true, recurses := true, apart := false, narrowed := true }
def RackOrderUptoSaid : Prop := rackOrderUptoRow.holds Try.pinned (OpenSpec.upto rackOrderSpec)

/-- 'tiltyardlaw07.RackBound', WHERE WHAT IT READS IS OF BULK AT MOST 1048576: true; the input reads as it did. -/
def rackBoundUptoRow : OpenClaim := { program := "ytbilkelbelimjaa", sum := "b26d73c2fb9a72dec2f1259cbcf92d515c631c00e4243a50a980ea41f9669800", func := "tiltyard/tiltyardlaw07.RackBound", spec := "rackBound", inPlace := ["slices.overlaps[uint32]", "slices.overlaps[int]"], unfollowed := true, recurses := true, apart := false, narrowed := true }
def RackBoundUptoSaid : Prop := rackBoundUptoRow.holds Try.pinned (OpenSpec.upto rackBoundSpec)

/-- 'tiltyardlaw07.RackFree', WHERE WHAT IT READS IS OF BULK AT MOST 1048576: true; the input reads as it did. -/
def rackFreeUptoRow : OpenClaim := { program := "ytbilkelbelimjaa", sum := "b26d73c2fb9a72dec2f1259cbcf92d515c631c00e4243a50a980ea41f9669800", func := "tiltyard/tiltyardlaw07.RackFree", spec := "rackFree", inPlace := ["slices.overlaps[uint32]", "slices.overlaps[byte]", "slices.overlaps[int]"], unfollowed := true, recurses := true, apart := false, narrowed := true }
def RackFreeUptoSaid : Prop := rackFreeUptoRow.holds Try.pinned (OpenSpec.upto rackFreeSpec)

/-- 'tiltyardlaw07.RackNil', WHERE WHAT IT READS IS OF BULK AT MOST 1048576: true; the input reads as it did. -/
def rackNilUptoRow : OpenClaim := { program := "ytbilkelbelimjaa", sum := "b26d73c2fb9a72dec2f1259cbcf92d515c631c00e4243a50a980ea41f9669800", func := "tiltyard/tiltyardlaw07.RackNil", spec := "rackNil", inPlace := ["slices.overlaps[uint32]", "slices.overlaps[int]"], unfollowed := true, recurses := true, apart := false, narrowed := true }
def RackNilUptoSaid : Prop := rackNilUptoRow.holds Try.pinned (OpenSpec.upto rackNilSpec)

/-- 'tiltyardlaw10.SessionRuns', WHERE WHAT IT READS IS OF BULK AT MOST 1048576: true; the input reads as it did. -/
def sessionRunsUptoRow : OpenClaim := { program := "ytbilkelbelimjaa", sum := "b26d73c2fb9a72dec2f1259cbcf92d515c631c00e4243a50a980ea41f9669800", func := "tiltyard/tiltyardlaw10.SessionRuns", spec := "sessionRuns", inPlace := ["slices.overlaps[uint32]", "slices.overlaps[tiltyard/session.place]"], recurses := true, apart := false, narrowed := true }
def SessionRunsUptoSaid : Prop := sessionRunsUptoRow.holds Try.pinned (OpenSpec.upto sessionRunsSpec)

/-- 'tiltyardlaw10.SessionOne', WHERE WHAT IT READS IS OF BULK AT MOST 1048576: true; the input reads as it did. -/
def sessionOneUptoRow : OpenClaim := { program := "ytbilkelbelimjaa", sum := "b26d73c2fb9a72dec2f1259cbcf92d515c631c00e4243a50a980ea41f9669800", func := "tiltyard/tiltyardlaw10.SessionOne", spec := "sessionOne", inPlace := ["slices.overlaps[uint32]", "slices.overlaps[tiltyard/session.place]"], recurses := true, apart := false, narrowed := true }
def SessionOneUptoSaid : Prop := sessionOneUptoRow.holds Try.pinned (OpenSpec.upto sessionOneSpec)

/-- 'tiltyardlaw10.SessionIdle', WHERE WHAT IT READS IS OF BULK AT MOST 1048576: true; the input reads as it did. -/
def sessionIdleUptoRow : OpenClaim := { program := "ytbilkelbelimjaa", sum := "b26d73c2fb9a72dec2f1259cbcf92d515c631c00e4243a50a980ea41f9669800", func := "tiltyard/tiltyardlaw10.SessionIdle", spec := "sessionIdle", inPlace := ["slices.overlaps[uint32]", "slices.overlaps[tiltyard/session.place]"], apart := false, narrowed := true }
def SessionIdleUptoSaid : Prop := sessionIdleUptoRow.holds Try.pinned (OpenSpec.upto sessionIdleSpec)

/-- 'tiltyardlaw10.SessionNil', WHERE WHAT IT READS IS OF BULK AT MOST 1048576: true; the input reads as it did. -/
def sessionNilUptoRow : OpenClaim := { program := "ytbilkelbelimjaa", sum := "b26d73c2fb9a72dec2f1259cbcf92d515c631c00e4243a50a980ea41f9669800", func := "tiltyard/tiltyardlaw10.SessionNil", spec := "sessionNil", inPlace := ["slices.overlaps[uint32]", "slices.overlaps[tiltyard/session.place]"], recurses := true, apart := false, narrowed := true }
def SessionNilUptoSaid : Prop := sessionNilUptoRow.holds Try.pinned (OpenSpec.upto sessionNilSpec)

end Rows
end Go.Proofs.Ytbilkelbelimjaa
