/-
  No cell of these rows narrows 'for every input' (looked for: loops, veiled, ifaces, maps, wideKeys, modest, calm, conditions, laid).
  DERIVED. THE GIVEN ROWS OF THIS SEAT. 9 by the template 'for every input the law returns true; each argument reads behind the call as it read before'; 0 by the template 'total and deterministic' (their statements: YtpomddmeachbbaaTotals.lean).
  GIVEN WITH THE SEED: the statements are not yours to turn. If you find one false, say at which input.
  Laid BY PROGRAM, IN A SANDBOX (cutbox-rows.mjs): the forced cells as the released guide's own fill.sh prints them over the translation f8f1faece1582e58… (all of the seat's roots in one cut). By AI agents, Wed Nov 11 2026. No macro, syntax, notation, axiom, sorry.
-/
import Derived.Test.YtpomddmeachbbaaChecked
import GoSem.Claim
import GoSem.ClaimJoined
import GoSem.ClaimMapViews
import Derived.JoinedTies
import Derived.KernelRfl
namespace Go.Proofs.Ytpomddmeachbbaa
/- THE CELL 'sum', in the pinned program and in every row, IS THE sha256 OF THE DUMP (.gsa) THAT YtpomddmeachbbaaProg.lean LOADS. Nothing in Lean hashes anything: it is a label: what it is worth is what the hold of that sum in a sandbox is worth. -/
noncomputable def Try.pinned : Pinned := { name := "ytpomddmeachbbaa", sum := "f8f1faece1582e58129caf9463bf19cc5b9b9c963fd6a2b49a89ec231ca2faf3", checked := Try.checked }
namespace Rows
def none {H : Type} : Left H := { results := [], args := [] }

/-- 'tiltyardlaw11.PlanWrong': WHATEVER THE INPUT: true; the input reads as it did. -/
def planWrongSpec : ChangeSpec := { name := "planWrong", fn := fun _ => fun
  | [d1, d2] => { results := [.lit (.bool true)], args := [d1, d2] }
  | _ => none }
def planWrongRow : OpenClaim := { program := "ytpomddmeachbbaa", sum := "f8f1faece1582e58129caf9463bf19cc5b9b9c963fd6a2b49a89ec231ca2faf3", func := "tiltyard/tiltyardlaw11.PlanWrong", spec := "planWrong", unfollowed := true, recurses := true, plainKeys := false, apart := false }
def PlanWrongSaid : Prop := planWrongRow.holds Try.pinned (OpenSpec.ofChange planWrongSpec)

/-- ITS FALSE NEIGHBOUR: 'it returns false'. Refute it at one input. -/
def planWrongWrong : ChangeSpec := { name := "planWrong", fn := fun _ => fun
  | [d1, d2] => { results := [.lit (.bool false)], args := [d1, d2] }
  | _ => none }
def PlanWrongWrongFalsely : Prop := planWrongRow.holds Try.pinned (OpenSpec.ofChange planWrongWrong)

/-- 'tiltyardlaw11.PlanWindows': WHATEVER THE INPUT: true; the input reads as it did. -/
def planWindowsSpec : ChangeSpec := { name := "planWindows", fn := fun _ => fun
  | [d1, d2] => { results := [.lit (.bool true)], args := [d1, d2] }
  | _ => none }
def planWindowsRow : OpenClaim := { program := "ytpomddmeachbbaa", sum := "f8f1faece1582e58129caf9463bf19cc5b9b9c963fd6a2b49a89ec231ca2faf3", func := "tiltyard/tiltyardlaw11.PlanWindows", spec := "planWindows", unfollowed := true, recurses := true, plainKeys := false, apart := false }
def PlanWindowsSaid : Prop := planWindowsRow.holds Try.pinned (OpenSpec.ofChange planWindowsSpec)

/-- ITS FALSE NEIGHBOUR: 'it returns false'. Refute it at one input. -/
def planWindowsWrong : ChangeSpec := { name := "planWindows", fn := fun _ => fun
  | [d1, d2] => { results := [.lit (.bool false)], args := [d1, d2] }
  | _ => none }
def PlanWindowsWrongFalsely : Prop := planWindowsRow.holds Try.pinned (OpenSpec.ofChange planWindowsWrong)

/-- 'tiltyardlaw11.PlanUsual': WHATEVER THE INPUT: true; the input reads as it did. -/
def planUsualSpec : ChangeSpec := { name := "planUsual", fn := fun _ => fun
  | [d1, d2] => { results := [.lit (.bool true)], args := [d1, d2] }
  | _ => none }
def planUsualRow : OpenClaim := { program := "ytpomddmeachbbaa", sum := "f8f1faece1582e58129caf9463bf19cc5b9b9c963fd6a2b49a89ec231ca2faf3", func := "tiltyard/tiltyardlaw11.PlanUsual", spec := "planUsual", unfollowed := true, recurses := true, plainKeys := false, apart := false }
def PlanUsualSaid : Prop := planUsualRow.holds Try.pinned (OpenSpec.ofChange planUsualSpec)

/-- ITS FALSE NEIGHBOUR: 'it returns false'. Refute it at one input. -/
def planUsualWrong : ChangeSpec := { name := "planUsual", fn := fun _ => fun
  | [d1, d2] => { results := [.lit (.bool false)], args := [d1, d2] }
  | _ => none }
def PlanUsualWrongFalsely : Prop := planUsualRow.holds Try.pinned (OpenSpec.ofChange planUsualWrong)

/-- 'tiltyardlaw11.PlanWidens': WHATEVER THE INPUT: true; the input reads as it did. -/
def planWidensSpec : ChangeSpec := { name := "planWidens", fn := fun _ => fun
  | [d1, d2] => { results := [.lit (.bool true)], args := [d1, d2] }
  | _ => none }
def planWidensRow : OpenClaim := { program := "ytpomddmeachbbaa", sum := "f8f1faece1582e58129caf9463bf19cc5b9b9c963fd6a2b49a89ec231ca2faf3", func := "tiltyard/tiltyardlaw11.PlanWidens", spec := "planWidens", unfollowed := true, recurses := true, plainKeys := false, apart := false }
def PlanWidensSaid : Prop := planWidensRow.holds Try.pinned (OpenSpec.ofChange planWidensSpec)

/-- ITS FALSE NEIGHBOUR: 'it returns false'. Refute it at one input. -/
def planWidensWrong : ChangeSpec := { name := "planWidens", fn := fun _ => fun
  | [d1, d2] => { results := [.lit (.bool false)], args := [d1, d2] }
  | _ => none }
def PlanWidensWrongFalsely : Prop := planWidensRow.holds Try.pinned (OpenSpec.ofChange planWidensWrong)

/-- 'tiltyardlaw11.PlanRight': WHATEVER THE INPUT: true; the input reads as it did. -/
def planRightSpec : ChangeSpec := { name := "planRight", fn := fun _ => fun
  | [d1, d2, d3] => { results := [.lit (.bool true)], args := [d1, d2, d3] }
  | _ => none }
def planRightRow : OpenClaim := { program := "ytpomddmeachbbaa", sum := "f8f1faece1582e58129caf9463bf19cc5b9b9c963fd6a2b49a89ec231ca2faf3", func := "tiltyard/tiltyardlaw11.PlanRight", spec := "planRight", unfollowed := true, recurses := true, plainKeys := false, apart := false }
def PlanRightSaid : Prop := planRightRow.holds Try.pinned (OpenSpec.ofChange planRightSpec)

/-- ITS FALSE NEIGHBOUR: 'it returns false'. Refute it at one input. -/
def planRightWrong : ChangeSpec := { name := "planRight", fn := fun _ => fun
  | [d1, d2, d3] => { results := [.lit (.bool false)], args := [d1, d2, d3] }
  | _ => none }
def PlanRightWrongFalsely : Prop := planRightRow.holds Try.pinned (OpenSpec.ofChange planRightWrong)

/-- 'tiltyardlaw12.FriendRuns': WHATEVER THE INPUT: true; the input reads as it did. -/
def friendRunsSpec : ChangeSpec := { name := "friendRuns", fn := fun _ => fun
  | [d] => { results := [.lit (.bool true)], args := [d] }
  | _ => none }
def friendRunsRow : OpenClaim := { program := "ytpomddmeachbbaa", sum := "f8f1faece1582e58129caf9463bf19cc5b9b9c963fd6a2b49a89ec231ca2faf3", func := "tiltyard/tiltyardlaw12.FriendRuns", spec := "friendRuns", unfollowed := true, recurses := true, plainKeys := false, apart := false }
def FriendRunsSaid : Prop := friendRunsRow.holds Try.pinned (OpenSpec.ofChange friendRunsSpec)

/-- ITS FALSE NEIGHBOUR: 'it returns false'. Refute it at one input. -/
def friendRunsWrong : ChangeSpec := { name := "friendRuns", fn := fun _ => fun
  | [d] => { results := [.lit (.bool false)], args := [d] }
  | _ => none }
def FriendRunsWrongFalsely : Prop := friendRunsRow.holds Try.pinned (OpenSpec.ofChange friendRunsWrong)

/-- 'tiltyardlaw12.FriendBoth': WHATEVER THE INPUT: true; the input reads as it did. -/
def friendBothSpec : ChangeSpec := { name := "friendBoth", fn := fun _ => fun
  | [d1, d2] => { results := [.lit (.bool true)], args := [d1, d2] }
  | _ => none }
def friendBothRow : OpenClaim := { program := "ytpomddmeachbbaa", sum := "f8f1faece1582e58129caf9463bf19cc5b9b9c963fd6a2b49a89ec231ca2faf3", func := "tiltyard/tiltyardlaw12.FriendBoth", spec := "friendBoth", unfollowed := true, recurses := true, plainKeys := false, apart := false }
def FriendBothSaid : Prop := friendBothRow.holds Try.pinned (OpenSpec.ofChange friendBothSpec)

/-- ITS FALSE NEIGHBOUR: 'it returns false'. Refute it at one input. -/
def friendBothWrong : ChangeSpec := { name := "friendBoth", fn := fun _ => fun
  | [d1, d2] => { results := [.lit (.bool false)], args := [d1, d2] }
  | _ => none }
def FriendBothWrongFalsely : Prop := friendBothRow.holds Try.pinned (OpenSpec.ofChange friendBothWrong)

/-- 'tiltyardlaw12.FriendRefuses': WHATEVER THE INPUT: true; the input reads as it did. -/
def friendRefusesSpec : ChangeSpec := { name := "friendRefuses", fn := fun _ => fun
  | [d1, d2] => { results := [.lit (.bool true)], args := [d1, d2] }
  | _ => none }
def friendRefusesRow : OpenClaim := { program := "ytpomddmeachbbaa", sum := "f8f1faece1582e58129caf9463bf19cc5b9b9c963fd6a2b49a89ec231ca2faf3", func := "tiltyard/tiltyardlaw12.FriendRefuses", spec := "friendRefuses", unfollowed := true, recurses := true, plainKeys := false, apart := false }
def FriendRefusesSaid : Prop := friendRefusesRow.holds Try.pinned (OpenSpec.ofChange friendRefusesSpec)

/-- ITS FALSE NEIGHBOUR: 'it returns false'. Refute it at one input. -/
def friendRefusesWrong : ChangeSpec := { name := "friendRefuses", fn := fun _ => fun
  | [d1, d2] => { results := [.lit (.bool false)], args := [d1, d2] }
  | _ => none }
def FriendRefusesWrongFalsely : Prop := friendRefusesRow.holds Try.pinned (OpenSpec.ofChange friendRefusesWrong)

/-- 'tiltyardlaw12.FriendTold': WHATEVER THE INPUT: true; the input reads as it did. -/
def friendToldSpec : ChangeSpec := { name := "friendTold", fn := fun _ => fun
  | [d1, d2] => { results := [.lit (.bool true)], args := [d1, d2] }
  | _ => none }
def friendToldRow : OpenClaim := { program := "ytpomddmeachbbaa", sum := "f8f1faece1582e58129caf9463bf19cc5b9b9c963fd6a2b49a89ec231ca2faf3", func := "tiltyard/tiltyardlaw12.FriendTold", spec := "friendTold", unfollowed := true, recurses := true, plainKeys := false, apart := false }
def FriendToldSaid : Prop := friendToldRow.holds Try.pinned (OpenSpec.ofChange friendToldSpec)

/-- ITS FALSE NEIGHBOUR: 'it returns false'. Refute it at one input. -/
def friendToldWrong : ChangeSpec := { name := "friendTold", fn := fun _ => fun
  | [d1, d2] => { results := [.lit (.bool false)], args := [d1, d2] }
  | _ => none }
def FriendToldWrongFalsely : Prop := friendToldRow.holds Try.pinned (OpenSpec.ofChange friendToldWrong)

/- THE SECOND FORM. 'bulk': how many values and letters a reading holds, each counted each time it is reached (what is shared counts as often as it is met; a slice's spare places count too). A statement '..UptoSaid' is the law's where the arguments, and the package variables that the reading takes, are together of bulk at most 1048576: NARROWER than '..Said'. Prove '..Said' where nothing that the law and all that it calls make is longer than what came in: it says more and counts as full. Else prove '..UptoSaid'. A law counts once. -/
mutual
def uptoBulk {H : Type} : DataW H → Nat
  | .lit (.string bytes) => bytes.length + 1
  | .lit _ => 1
  | .nil => 1
  | .ptr d => uptoBulk d + 1
  | .slice elems spare => uptoBulkAll elems + uptoBulkAll spare + 1
  | .agg parts => uptoBulkAll parts + 1
  | .iface _ d => uptoBulk d + 1
  | .map entries => uptoBulkEntries entries + 1
  | .held _ => 1
def uptoBulkAll {H : Type} : List (DataW H) → Nat
  | [] => 0
  | d :: r => uptoBulk d + uptoBulkAll r
def uptoBulkEntries {H : Type} : List (Lit × DataW H) → Nat
  | [] => 0
  | x :: r => uptoBulkEntry x + uptoBulkEntries r
def uptoBulkEntry {H : Type} : Lit × DataW H → Nat
  | (.string bytes, d) => bytes.length + uptoBulk d + 1
  | (_, d) => uptoBulk d + 1
 end
def uptoSmall : (H : Type) → List (DataW H) → Bool := fun _ ds => decide (uptoBulkAll ds ≤ 1048576)
def OpenSpec.upto (s : _root_.Go.ChangeSpec) : _root_.Go.OpenSpec := { _root_.Go.OpenSpec.ofChange s with cond := some uptoSmall }

/-- 'tiltyardlaw11.PlanWrong', WHERE WHAT IT READS IS OF BULK AT MOST 1048576: true; the input reads as it did. -/
def planWrongUptoRow : OpenClaim := { program := "ytpomddmeachbbaa", sum := "f8f1faece1582e58129caf9463bf19cc5b9b9c963fd6a2b49a89ec231ca2faf3", func := "tiltyard/tiltyardlaw11.PlanWrong", spec := "planWrong", unfollowed := true, recurses := true, plainKeys := false, apart := false, narrowed := true }
def PlanWrongUptoSaid : Prop := planWrongUptoRow.holds Try.pinned (OpenSpec.upto planWrongSpec)

/-- 'tiltyardlaw11.PlanWindows', WHERE WHAT IT READS IS OF BULK AT MOST 1048576: true; the input reads as it did. -/
def planWindowsUptoRow : OpenClaim := { program := "ytpomddmeachbbaa", sum := "f8f1faece1582e58129caf9463bf19cc5b9b9c963fd6a2b49a89ec231ca2faf3", func := "tiltyard/tiltyardlaw11.PlanWindows", spec := "planWindows", unfollowed := true, recurses := true, plainKeys := false, apart := false, narrowed := true }
def PlanWindowsUptoSaid : Prop := planWindowsUptoRow.holds Try.pinned (OpenSpec.upto planWindowsSpec)

/-- 'tiltyardlaw11.PlanUsual', WHERE WHAT IT READS IS OF BULK AT MOST 1048576: true; the input reads as it did. -/
def planUsualUptoRow : OpenClaim := { program := "ytpomddmeachbbaa", sum := "f8f1faece1582e58129caf9463bf19cc5b9b9c963fd6a2b49a89ec231ca2faf3", func := "tiltyard/tiltyardlaw11.PlanUsual", spec := "planUsual", unfollowed := true, recurses := true, plainKeys := false, apart := false, narrowed := true }
def PlanUsualUptoSaid : Prop := planUsualUptoRow.holds Try.pinned (OpenSpec.upto planUsualSpec)

/-- 'tiltyardlaw11.PlanWidens', WHERE WHAT IT READS IS OF BULK AT MOST 1048576: true; the input reads as it did. -/
def planWidensUptoRow : OpenClaim := { program := "ytpomddmeachbbaa", sum := "f8f1faece1582e58129caf9463bf19cc5b9b9c963fd6a2b49a89ec231ca2faf3", func := "tiltyard/tiltyardlaw11.PlanWidens", spec := "planWidens", unfollowed := true, recurses := true, plainKeys := false, apart := false, narrowed := true }
def PlanWidensUptoSaid : Prop := planWidensUptoRow.holds Try.pinned (OpenSpec.upto planWidensSpec)

/-- 'tiltyardlaw11.PlanRight', WHERE WHAT IT READS IS OF BULK AT MOST 1048576: true; the input reads as it did. -/
def planRightUptoRow : OpenClaim := { program := "ytpomddmeachbbaa", sum := "f8f1faece1582e58129caf9463bf19cc5b9b9c963fd6a2b49a89ec231ca2faf3", func := "tiltyard/tiltyardlaw11.PlanRight", spec := "planRight", unfollowed := true, recurses := true, plainKeys := false, apart := false, narrowed := true }
def PlanRightUptoSaid : Prop := planRightUptoRow.holds Try.pinned (OpenSpec.upto planRightSpec)

/-- 'tiltyardlaw12.FriendRuns', WHERE WHAT IT READS IS OF BULK AT MOST 1048576: true; the input reads as it did. -/
def friendRunsUptoRow : OpenClaim := { program := "ytpomddmeachbbaa", sum := "f8f1faece1582e58129caf9463bf19cc5b9b9c963fd6a2b49a89ec231ca2faf3", func := "tiltyard/tiltyardlaw12.FriendRuns", spec := "friendRuns", unfollowed := true, recurses := true, plainKeys := false, apart := false, narrowed := true }
def FriendRunsUptoSaid : Prop := friendRunsUptoRow.holds Try.pinned (OpenSpec.upto friendRunsSpec)

/-- 'tiltyardlaw12.FriendBoth', WHERE WHAT IT READS IS OF BULK AT MOST 1048576: true; the input reads as it did. -/
def friendBothUptoRow : OpenClaim := { program := "ytpomddmeachbbaa", sum := "f8f1faece1582e58129caf9463bf19cc5b9b9c963fd6a2b49a89ec231ca2faf3", func := "tiltyard/tiltyardlaw12.FriendBoth", spec := "friendBoth", unfollowed := true, recurses := true, plainKeys := false, apart := false, narrowed := true }
def FriendBothUptoSaid : Prop := friendBothUptoRow.holds Try.pinned (OpenSpec.upto friendBothSpec)

/-- 'tiltyardlaw12.FriendRefuses', WHERE WHAT IT READS IS OF BULK AT MOST 1048576: true; the input reads as it did. -/
def friendRefusesUptoRow : OpenClaim := { program := "ytpomddmeachbbaa", sum := "f8f1faece1582e58129caf9463bf19cc5b9b9c963fd6a2b49a89ec231ca2faf3", func := "tiltyard/tiltyardlaw12.FriendRefuses", spec := "friendRefuses", unfollowed := true, recurses := true, plainKeys := false, apart := false, narrowed := true }
def FriendRefusesUptoSaid : Prop := friendRefusesUptoRow.holds Try.pinned (OpenSpec.upto friendRefusesSpec)

/-- 'tiltyardlaw12.FriendTold', WHERE WHAT IT READS IS OF BULK AT MOST 1048576: true; the input reads as it did. -/
def friendToldUptoRow : OpenClaim := { program := "ytpomddmeachbbaa", sum := "f8f1faece1582e58129caf9463bf19cc5b9b9c963fd6a2b49a89ec231ca2faf3", func := "tiltyard/tiltyardlaw12.FriendTold", spec := "friendTold", unfollowed := true, recurses := true, plainKeys := false, apart := false, narrowed := true }
def FriendToldUptoSaid : Prop := friendToldUptoRow.holds Try.pinned (OpenSpec.upto friendToldSpec)

end Rows
end Go.Proofs.Ytpomddmeachbbaa
