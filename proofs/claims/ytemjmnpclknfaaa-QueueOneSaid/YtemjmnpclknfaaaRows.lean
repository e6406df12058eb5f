/-
  No cell of these rows narrows 'for every input' (looked for: loops, veiled, ifaces, maps, wideKeys, modest, calm, conditions, laid).
  DERIVED. THE GIVEN ROWS OF THIS SEAT. 5 by the template 'for every input the law returns true; each argument reads behind the call as it read before'; 0 by the template 'total and deterministic' (their statements: YtemjmnpclknfaaaTotals.lean).
  GIVEN WITH THE SEED: the statements are not yours to turn. If you find one false, say at which input.
  Laid BY PROGRAM, IN A SANDBOX (cutbox-rows.mjs): the forced cells as the released guide's own fill.sh prints them over the translation b72dce10121a3d9d… (all of the seat's roots in one cut). By AI agents, Wed Nov 11 2026. No macro, syntax, notation, axiom, sorry.
-/
import Derived.Test.YtemjmnpclknfaaaChecked
import GoSem.Claim
import GoSem.ClaimJoined
import GoSem.ClaimMapViews
import Derived.JoinedTies
import Derived.KernelRfl
namespace Go.Proofs.Ytemjmnpclknfaaa
/- THE CELL 'sum', in the pinned program and in every row, IS THE sha256 OF THE DUMP (.gsa) THAT YtemjmnpclknfaaaProg.lean LOADS. Nothing in Lean hashes anything: it is a label: what it is worth is what the hold of that sum in a sandbox is worth. -/
noncomputable def Try.pinned : Pinned := { name := "ytemjmnpclknfaaa", sum := "b72dce10121a3d9d9ff41908a2b6001f6a1118b763e718a7e95373eabd14ed5a", checked := Try.checked }
namespace Rows
def none {H : Type} : Left H := { results := [], args := [] }

/-- 'tiltyardlaw20.ReadyRuns': WHATEVER THE INPUT: true; the input reads as it did. -/
def readyRunsSpec : ChangeSpec := { name := "readyRuns", fn := fun _ => fun
  | [d1, d2] => { results := [.lit (.bool true)], args := [d1, d2] }
  | _ => none }
def readyRunsRow : OpenClaim := { program := "ytemjmnpclknfaaa", sum := "b72dce10121a3d9d9ff41908a2b6001f6a1118b763e718a7e95373eabd14ed5a", func := "tiltyard/tiltyardlaw20.ReadyRuns", spec := "readyRuns", inPlace := ["slices.overlaps[uint32]", "slices.overlaps[tiltyard/ready.asked]"], unfollowed := true, recurses := true, apart := false }
def ReadyRunsSaid : Prop := readyRunsRow.holds Try.pinned (OpenSpec.ofChange readyRunsSpec)

/-- ITS FALSE NEIGHBOUR: 'it returns false'. Refute it at one input. -/
def readyRunsWrong : ChangeSpec := { name := "readyRuns", fn := fun _ => fun
  | [d1, d2] => { results := [.lit (.bool false)], args := [d1, d2] }
  | _ => none }
def ReadyRunsWrongFalsely : Prop := readyRunsRow.holds Try.pinned (OpenSpec.ofChange readyRunsWrong)

/-- 'tiltyardlaw20.ReadyAll': WHATEVER THE INPUT: true; the input reads as it did. -/
def readyAllSpec : ChangeSpec := { name := "readyAll", fn := fun _ => fun
  | [d1, d2] => { results := [.lit (.bool true)], args := [d1, d2] }
  | _ => none }
def readyAllRow : OpenClaim := { program := "ytemjmnpclknfaaa", sum := "b72dce10121a3d9d9ff41908a2b6001f6a1118b763e718a7e95373eabd14ed5a", func := "tiltyard/tiltyardlaw20.ReadyAll", spec := "readyAll", inPlace := ["slices.overlaps[uint32]", "slices.overlaps[tiltyard/ready.asked]"], unfollowed := true, recurses := true, apart := false }
def ReadyAllSaid : Prop := readyAllRow.holds Try.pinned (OpenSpec.ofChange readyAllSpec)

/-- ITS FALSE NEIGHBOUR: 'it returns false'. Refute it at one input. -/
def readyAllWrong : ChangeSpec := { name := "readyAll", fn := fun _ => fun
  | [d1, d2] => { results := [.lit (.bool false)], args := [d1, d2] }
  | _ => none }
def ReadyAllWrongFalsely : Prop := readyAllRow.holds Try.pinned (OpenSpec.ofChange readyAllWrong)

/-- 'tiltyardlaw20.ReadyNo': WHATEVER THE INPUT: true; the input reads as it did. -/
def readyNoSpec : ChangeSpec := { name := "readyNo", fn := fun _ => fun
  | [d1, d2, d3] => { results := [.lit (.bool true)], args := [d1, d2, d3] }
  | _ => none }
def readyNoRow : OpenClaim := { program := "ytemjmnpclknfaaa", sum := "b72dce10121a3d9d9ff41908a2b6001f6a1118b763e718a7e95373eabd14ed5a", func := "tiltyard/tiltyardlaw20.ReadyNo", spec := "readyNo", inPlace := ["slices.overlaps[uint32]", "slices.overlaps[tiltyard/ready.asked]"], unfollowed := true, recurses := true, apart := false }
def ReadyNoSaid : Prop := readyNoRow.holds Try.pinned (OpenSpec.ofChange readyNoSpec)

/-- ITS FALSE NEIGHBOUR: 'it returns false'. Refute it at one input. -/
def readyNoWrong : ChangeSpec := { name := "readyNo", fn := fun _ => fun
  | [d1, d2, d3] => { results := [.lit (.bool false)], args := [d1, d2, d3] }
  | _ => none }
def ReadyNoWrongFalsely : Prop := readyNoRow.holds Try.pinned (OpenSpec.ofChange readyNoWrong)

/-- 'tiltyardlaw20.ReadyNil': WHATEVER THE INPUT: true; the input reads as it did. -/
def readyNilSpec : ChangeSpec := { name := "readyNil", fn := fun _ => fun
  | [d] => { results := [.lit (.bool true)], args := [d] }
  | _ => none }
def readyNilRow : OpenClaim := { program := "ytemjmnpclknfaaa", sum := "b72dce10121a3d9d9ff41908a2b6001f6a1118b763e718a7e95373eabd14ed5a", func := "tiltyard/tiltyardlaw20.ReadyNil", spec := "readyNil", inPlace := ["slices.overlaps[uint32]", "slices.overlaps[tiltyard/ready.asked]"], unfollowed := true, recurses := true, apart := false }
def ReadyNilSaid : Prop := readyNilRow.holds Try.pinned (OpenSpec.ofChange readyNilSpec)

/-- ITS FALSE NEIGHBOUR: 'it returns false'. Refute it at one input. -/
def readyNilWrong : ChangeSpec := { name := "readyNil", fn := fun _ => fun
  | [d] => { results := [.lit (.bool false)], args := [d] }
  | _ => none }
def ReadyNilWrongFalsely : Prop := readyNilRow.holds Try.pinned (OpenSpec.ofChange readyNilWrong)

/-- 'tiltyardlaw17.QueueOne': WHATEVER THE INPUT: true; the input reads as it did. -/
def queueOneSpec : ChangeSpec := { name := "queueOne", fn := fun _ => fun
  | [d] => { results := [.lit (.bool true)], args := [d] }
  | _ => none }
def queueOneRow : OpenClaim := { program := "ytemjmnpclknfaaa", sum := "b72dce10121a3d9d9ff41908a2b6001f6a1118b763e718a7e95373eabd14ed5a", func := "tiltyard/tiltyardlaw17.QueueOne", spec := "queueOne", inPlace := ["slices.overlaps[uint32]", "slices.overlaps[tiltyard/queue.Ticket]"], unfollowed := true, recurses := true, apart := false }
def QueueOneSaid : Prop := queueOneRow.holds Try.pinned (OpenSpec.ofChange queueOneSpec)

/-- ITS FALSE NEIGHBOUR: 'it returns false'. Refute it at one input. -/
def queueOneWrong : ChangeSpec := { name := "queueOne", fn := fun _ => fun
  | [d] => { results := [.lit (.bool false)], args := [d] }
  | _ => none }
def QueueOneWrongFalsely : Prop := queueOneRow.holds Try.pinned (OpenSpec.ofChange queueOneWrong)

/- THE SECOND FORM. 'bulk': how many values and letters a reading holds, each counted each time it is reached (what is shared counts as often as it is met; a slice's spare places count too). A statement '..UptoSaid' is the law's where the arguments, and the package variables that the reading takes, are together of bulk at most 1048576: NARROWER than '..Said'. Prove '..Said' where nothing that the law and all that it calls make is longer than what came in: it says more and counts as full. Else prove '..UptoSaid'. A law counts once. -/
mutual
def uptoBulk {H : Type} : DataW H → Nat
  | .lit (.string bytes) => bytes.length + 1
  | .lit _ => 1
  | .nil => 1
  | .ptr d => uptoBulk d + 1
  | .slice elems spare => uptoBulkAll elems + uptoBulkAll spare + 1
  | .agg parts => uptoBulkAll parts + 1
  | .iface _ d => uptoBulk d + 1
  | .map entries => uptoBulkEntries entries + 1
  | .held _ => 1
def uptoBulkAll {H : Type} : List (DataW H) → Nat
  | [] => 0
  | d :: r => uptoBulk d + uptoBulkAll r
def uptoBulkEntries {H : Type} : List (Lit × DataW H) → Nat
  | [] => 0
  | x :: r => uptoBulkEntry x + uptoBulkEntries r
def uptoBulkEntry {H : Type} : Lit × DataW H → Nat
  | (.string bytes, d) => bytes.length + uptoBulk d + 1
  | (_, d) => uptoBulk d + 1
 end
def uptoSmall : (H : Type) → List (DataW H) → Bool := fun _ ds => decide (uptoBulkAll ds ≤ 1048576)
def OpenSpec.upto (s : _root_.Go.ChangeSpec) : _root_.Go.OpenSpec := { _root_.Go.OpenSpec.ofChange s with cond := some uptoSmall }

/-- 'tiltyardlaw20.ReadyRuns', WHERE WHAT IT READS IS OF BULK AT MOST 1048576: true; the input reads as it did. -/
def readyRunsUptoRow : OpenClaim := { program := "ytemjmnpclknfaaa", sum := "b72dce10121a3d9d9ff41908a2b6001f6a1118b763e718a7e95373eabd14ed5a", func := "tiltyard/tiltyardlaw20.ReadyRuns", spec := "readyRuns", inPlace := ["slices.overlaps[uint32]", "slices.overlaps[tiltyard/ready.asked]"], unfollowed := true, recurses := true, apart := false, narrowed := true }
def ReadyRunsUptoSaid : Prop := readyRunsUptoRow.holds Try.pinned (OpenSpec.upto readyRunsSpec)

/-- 'tiltyardlaw20.ReadyAll', WHERE WHAT IT READS IS OF BULK AT MOST 1048576: true; the input reads as it did. -/
def readyAllUptoRow : OpenClaim := { program := "ytemjmnpclknfaaa", sum := "b72dce10121a3d9d9ff41908a2b6001f6a1118b763e718a7e95373eabd14ed5a", func := "tiltyard/tiltyardlaw20.ReadyAll", spec := "readyAll", inPlace := ["slices.overlaps[uint32]", "slices.overlaps[tiltyard/ready.asked]"], unfollowed := true, recurses := true, apart := false, narrowed := true }
def ReadyAllUptoSaid : Prop := readyAllUptoRow.holds Try.pinned (OpenSpec.upto readyAllSpec)

/-- 'tiltyardlaw20.ReadyNo', WHERE WHAT IT READS IS OF BULK AT MOST 1048576: true; the input reads as it did. -/
def readyNoUptoRow : OpenClaim := { program := "ytemjmnpclknfaaa", sum := "b72dce10121a3d9d9ff41908a2b6001f6a1118b763e718a7e95373eabd14ed5a", func := "tiltyard/tiltyardlaw20.ReadyNo", spec := "readyNo", inPlace := ["slices.overlaps[uint32]", "slices.overlaps[tiltyard/ready.asked]"], unfollowed := true, recurses := true, apart := false, narrowed := true }
def ReadyNoUptoSaid : Prop := readyNoUptoRow.holds Try.pinned (OpenSpec.upto readyNoSpec)

/-- 'tiltyardlaw20.ReadyNil', WHERE WHAT IT READS IS OF BULK AT MOST 1048576: true; the input reads as it did. -/
def readyNilUptoRow : OpenClaim := { program := "ytemjmnpclknfaaa", sum := "b72dce10121a3d9d9ff41908a2b6001f6a1118b763e718a7e95373eabd14ed5a", func := "tiltyard/tiltyardlaw20.ReadyNil", spec := "readyNil", inPlace := ["slices.overlaps[uint32]", "slices.overlaps[tiltyard/ready.asked]"], unfollowed := true, recurses := true, apart := false, narrowed := true }
def ReadyNilUptoSaid : Prop := readyNilUptoRow.holds Try.pinned (OpenSpec.upto readyNilSpec)

/-- 'tiltyardlaw17.QueueOne', WHERE WHAT IT READS IS OF BULK AT MOST 1048576: true; the input reads as it did. -/
def queueOneUptoRow : OpenClaim := { program := "ytemjmnpclknfaaa", sum := "b72dce10121a3d9d9ff41908a2b6001f6a1118b763e718a7e95373eabd14ed5a", func := "tiltyard/tiltyardlaw17.QueueOne", spec := "queueOne", inPlace := ["slices.overlaps[uint32]", "slices.overlaps[tiltyard/queue.Ticket]"], unfollowed := true, recurses := true, apart := false, narrowed := true }
def QueueOneUptoSaid : Prop := queueOneUptoRow.holds Try.pinned (OpenSpec.upto queueOneSpec)

end Rows
end Go.Proofs.Ytemjmnpclknfaaa
