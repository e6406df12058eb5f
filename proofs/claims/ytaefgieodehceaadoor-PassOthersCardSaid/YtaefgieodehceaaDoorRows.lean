/-
  NARROWER THAN 'FOR EVERY INPUT', by the rows' own cells (each row's printed sentence says how): PassSeals: laid · PassTickets: laid · PassTokens: laid · PassBack: laid · PassOthers: laid · PassOld: laid · PassNil: laid.
  DERIVED. THE GIVEN ROWS OF THIS SEAT. 7 by the template 'for every input the law returns true; each argument reads behind the call as it read before'; 0 by the template 'total and deterministic' (their statements: YtaefgieodehceaaDoorTotals.lean).
  GIVEN WITH THE SEED: the statements are not yours to turn. If you find one false, say at which input.
  Laid BY PROGRAM, IN A SANDBOX (cutbox-rows.mjs): the forced cells as the released guide's own fill.sh prints them over the translation 081067edd943f274… (all of the seat's roots in one cut). By AI agents, Wed Nov 11 2026. No macro, syntax, notation, axiom, sorry.
-/
import Derived.Test.YtaefgieodehceaaDoorChecked
import GoSem.Claim
import GoSem.ClaimJoined
import GoSem.ClaimMapViews
import Derived.JoinedTies
import Derived.KernelRfl
namespace Go.Proofs.YtaefgieodehceaaDoor
/- THE CELL 'sum', in the pinned program and in every row, IS THE sha256 OF THE DUMP (.gsa) THAT YtaefgieodehceaaDoorProg.lean LOADS. Nothing in Lean hashes anything: it is a label: what it is worth is what the hold of that sum in a sandbox is worth. -/
noncomputable def Tryd.pinned : Pinned := { name := "ytaefgieodehceaadoor", sum := "081067edd943f274c85f3fd4e239fdad722d196cb14154791012a91819c2ce88", checked := Tryd.checked }
namespace Rows
def none {H : Type} : Left H := { results := [], args := [] }

/- WHAT THE LISTED PACKAGE-LEVEL VARIABLES READ AS WHEN THE CALL BEGINS. Each datum BY PROGRAM (the guide's laid-datum.mjs) off the statement by which the dump's own 'gosem.cut.vars' lays the variable. In a bare row this is a premise. The card (YtaefgieodehceaaDoorCards.lean) ties it to the program's text. -/
def laid_tiltyard_sha_firstWords {H : Type} : DataW H := .agg [.lit (.int .u32 1779033703), .lit (.int .u32 3144134277), .lit (.int .u32 1013904242), .lit (.int .u32 2773480762), .lit (.int .u32 1359893119), .lit (.int .u32 2600822924), .lit (.int .u32 528734635), .lit (.int .u32 1541459225)]
def laid_tiltyard_sha_roundWords {H : Type} : DataW H := .agg [.lit (.int .u32 1116352408), .lit (.int .u32 1899447441), .lit (.int .u32 3049323471), .lit (.int .u32 3921009573), .lit (.int .u32 961987163), .lit (.int .u32 1508970993), .lit (.int .u32 2453635748), .lit (.int .u32 2870763221), .lit (.int .u32 3624381080), .lit (.int .u32 310598401), .lit (.int .u32 607225278), .lit (.int .u32 1426881987), .lit (.int .u32 1925078388), .lit (.int .u32 2162078206), .lit (.int .u32 2614888103), .lit (.int .u32 3248222580), .lit (.int .u32 3835390401), .lit (.int .u32 4022224774), .lit (.int .u32 264347078), .lit (.int .u32 604807628), .lit (.int .u32 770255983), .lit (.int .u32 1249150122), .lit (.int .u32 1555081692), .lit (.int .u32 1996064986), .lit (.int .u32 2554220882), .lit (.int .u32 2821834349), .lit (.int .u32 2952996808), .lit (.int .u32 3210313671), .lit (.int .u32 3336571891), .lit (.int .u32 3584528711), .lit (.int .u32 113926993), .lit (.int .u32 338241895), .lit (.int .u32 666307205), .lit (.int .u32 773529912), .lit (.int .u32 1294757372), .lit (.int .u32 1396182291), .lit (.int .u32 1695183700), .lit (.int .u32 1986661051), .lit (.int .u32 2177026350), .lit (.int .u32 2456956037), .lit (.int .u32 2730485921), .lit (.int .u32 2820302411), .lit (.int .u32 3259730800), .lit (.int .u32 3345764771), .lit (.int .u32 3516065817), .lit (.int .u32 3600352804), .lit (.int .u32 4094571909), .lit (.int .u32 275423344), .lit (.int .u32 430227734), .lit (.int .u32 506948616), .lit (.int .u32 659060556), .lit (.int .u32 883997877), .lit (.int .u32 958139571), .lit (.int .u32 1322822218), .lit (.int .u32 1537002063), .lit (.int .u32 1747873779), .lit (.int .u32 1955562222), .lit (.int .u32 2024104815), .lit (.int .u32 2227730452), .lit (.int .u32 2361852424), .lit (.int .u32 2428436474), .lit (.int .u32 2756734187), .lit (.int .u32 3204031479), .lit (.int .u32 3329325298)]

/-- 'tiltyardlaw06.PassSeals': WHATEVER THE INPUT: true; the input reads as it did. -/
def passSealsSpec : ChangeSpec := { name := "passSeals", fn := fun _ => fun
  | [d1, d2, d3] => { results := [.lit (.bool true)], args := [d1, d2, d3] }
  | _ => none }
def passSealsRow : OpenClaim := { program := "ytaefgieodehceaadoor", sum := "081067edd943f274c85f3fd4e239fdad722d196cb14154791012a91819c2ce88", func := "tiltyard/tiltyardlaw06.PassSeals", spec := "passSeals", inPlace := ["internal/bytealg.CountString", "internal/bytealg.IndexByteString", "internal/bytealg.IndexString"], named := ["tiltyard/sha.firstWords", "tiltyard/sha.roundWords", "internal/bytealg.MaxLen"], apart := false, laid := [("tiltyard/sha.firstWords", laid_tiltyard_sha_firstWords), ("tiltyard/sha.roundWords", laid_tiltyard_sha_roundWords)] }
def PassSealsSaid : Prop := passSealsRow.holds Tryd.pinned (OpenSpec.ofChange passSealsSpec)

/-- ITS FALSE NEIGHBOUR: 'it returns false'. Refute it at one input. -/
def passSealsWrong : ChangeSpec := { name := "passSeals", fn := fun _ => fun
  | [d1, d2, d3] => { results := [.lit (.bool false)], args := [d1, d2, d3] }
  | _ => none }
def PassSealsWrongFalsely : Prop := passSealsRow.holds Tryd.pinned (OpenSpec.ofChange passSealsWrong)

/-- 'tiltyardlaw06.PassTickets': WHATEVER THE INPUT: true; the input reads as it did. -/
def passTicketsSpec : ChangeSpec := { name := "passTickets", fn := fun _ => fun
  | [d1, d2] => { results := [.lit (.bool true)], args := [d1, d2] }
  | _ => none }
def passTicketsRow : OpenClaim := { program := "ytaefgieodehceaadoor", sum := "081067edd943f274c85f3fd4e239fdad722d196cb14154791012a91819c2ce88", func := "tiltyard/tiltyardlaw06.PassTickets", spec := "passTickets", inPlace := ["internal/bytealg.CountString", "internal/bytealg.IndexByteString", "internal/bytealg.IndexString"], named := ["tiltyard/sha.firstWords", "tiltyard/sha.roundWords", "internal/bytealg.MaxLen"], apart := false, laid := [("tiltyard/sha.firstWords", laid_tiltyard_sha_firstWords), ("tiltyard/sha.roundWords", laid_tiltyard_sha_roundWords)] }
def PassTicketsSaid : Prop := passTicketsRow.holds Tryd.pinned (OpenSpec.ofChange passTicketsSpec)

/-- ITS FALSE NEIGHBOUR: 'it returns false'. Refute it at one input. -/
def passTicketsWrong : ChangeSpec := { name := "passTickets", fn := fun _ => fun
  | [d1, d2] => { results := [.lit (.bool false)], args := [d1, d2] }
  | _ => none }
def PassTicketsWrongFalsely : Prop := passTicketsRow.holds Tryd.pinned (OpenSpec.ofChange passTicketsWrong)

/-- 'tiltyardlaw06.PassTokens': WHATEVER THE INPUT: true; the input reads as it did. -/
def passTokensSpec : ChangeSpec := { name := "passTokens", fn := fun _ => fun
  | [d1, d2] => { results := [.lit (.bool true)], args := [d1, d2] }
  | _ => none }
def passTokensRow : OpenClaim := { program := "ytaefgieodehceaadoor", sum := "081067edd943f274c85f3fd4e239fdad722d196cb14154791012a91819c2ce88", func := "tiltyard/tiltyardlaw06.PassTokens", spec := "passTokens", inPlace := ["internal/bytealg.CountString", "internal/bytealg.IndexByteString", "internal/bytealg.IndexString"], named := ["tiltyard/sha.firstWords", "tiltyard/sha.roundWords", "internal/bytealg.MaxLen"], apart := false, laid := [("tiltyard/sha.firstWords", laid_tiltyard_sha_firstWords), ("tiltyard/sha.roundWords", laid_tiltyard_sha_roundWords)] }
def PassTokensSaid : Prop := passTokensRow.holds Tryd.pinned (OpenSpec.ofChange passTokensSpec)

/-- ITS FALSE NEIGHBOUR: 'it returns false'. Refute it at one input. -/
def passTokensWrong : ChangeSpec := { name := "passTokens", fn := fun _ => fun
  | [d1, d2] => { results := [.lit (.bool false)], args := [d1, d2] }
  | _ => none }
def PassTokensWrongFalsely : Prop := passTokensRow.holds Tryd.pinned (OpenSpec.ofChange passTokensWrong)

/-- 'tiltyardlaw06.PassBack': WHATEVER THE INPUT: true; the input reads as it did. -/
def passBackSpec : ChangeSpec := { name := "passBack", fn := fun _ => fun
  | [d1, d2, d3] => { results := [.lit (.bool true)], args := [d1, d2, d3] }
  | _ => none }
def passBackRow : OpenClaim := { program := "ytaefgieodehceaadoor", sum := "081067edd943f274c85f3fd4e239fdad722d196cb14154791012a91819c2ce88", func := "tiltyard/tiltyardlaw06.PassBack", spec := "passBack", inPlace := ["internal/bytealg.CountString", "internal/bytealg.IndexByteString", "internal/bytealg.IndexString"], named := ["tiltyard/sha.firstWords", "tiltyard/sha.roundWords", "internal/bytealg.MaxLen"], apart := false, laid := [("tiltyard/sha.firstWords", laid_tiltyard_sha_firstWords), ("tiltyard/sha.roundWords", laid_tiltyard_sha_roundWords)] }
def PassBackSaid : Prop := passBackRow.holds Tryd.pinned (OpenSpec.ofChange passBackSpec)

/-- ITS FALSE NEIGHBOUR: 'it returns false'. Refute it at one input. -/
def passBackWrong : ChangeSpec := { name := "passBack", fn := fun _ => fun
  | [d1, d2, d3] => { results := [.lit (.bool false)], args := [d1, d2, d3] }
  | _ => none }
def PassBackWrongFalsely : Prop := passBackRow.holds Tryd.pinned (OpenSpec.ofChange passBackWrong)

/-- 'tiltyardlaw06.PassOthers': WHATEVER THE INPUT: true; the input reads as it did. -/
def passOthersSpec : ChangeSpec := { name := "passOthers", fn := fun _ => fun
  | [d1, d2, d3] => { results := [.lit (.bool true)], args := [d1, d2, d3] }
  | _ => none }
def passOthersRow : OpenClaim := { program := "ytaefgieodehceaadoor", sum := "081067edd943f274c85f3fd4e239fdad722d196cb14154791012a91819c2ce88", func := "tiltyard/tiltyardlaw06.PassOthers", spec := "passOthers", inPlace := ["internal/bytealg.CountString", "internal/bytealg.IndexByteString", "internal/bytealg.IndexString"], named := ["tiltyard/sha.firstWords", "tiltyard/sha.roundWords", "internal/bytealg.MaxLen"], apart := false, laid := [("tiltyard/sha.firstWords", laid_tiltyard_sha_firstWords), ("tiltyard/sha.roundWords", laid_tiltyard_sha_roundWords)] }
def PassOthersSaid : Prop := passOthersRow.holds Tryd.pinned (OpenSpec.ofChange passOthersSpec)

/-- ITS FALSE NEIGHBOUR: 'it returns false'. Refute it at one input. -/
def passOthersWrong : ChangeSpec := { name := "passOthers", fn := fun _ => fun
  | [d1, d2, d3] => { results := [.lit (.bool false)], args := [d1, d2, d3] }
  | _ => none }
def PassOthersWrongFalsely : Prop := passOthersRow.holds Tryd.pinned (OpenSpec.ofChange passOthersWrong)

/-- 'tiltyardlaw06.PassOld': WHATEVER THE INPUT: true; the input reads as it did. -/
def passOldSpec : ChangeSpec := { name := "passOld", fn := fun _ => fun
  | [d1, d2, d3] => { results := [.lit (.bool true)], args := [d1, d2, d3] }
  | _ => none }
def passOldRow : OpenClaim := { program := "ytaefgieodehceaadoor", sum := "081067edd943f274c85f3fd4e239fdad722d196cb14154791012a91819c2ce88", func := "tiltyard/tiltyardlaw06.PassOld", spec := "passOld", inPlace := ["internal/bytealg.CountString", "internal/bytealg.IndexByteString", "internal/bytealg.IndexString"], named := ["tiltyard/sha.firstWords", "tiltyard/sha.roundWords", "internal/bytealg.MaxLen"], apart := false, laid := [("tiltyard/sha.firstWords", laid_tiltyard_sha_firstWords), ("tiltyard/sha.roundWords", laid_tiltyard_sha_roundWords)] }
def PassOldSaid : Prop := passOldRow.holds Tryd.pinned (OpenSpec.ofChange passOldSpec)

/-- ITS FALSE NEIGHBOUR: 'it returns false'. Refute it at one input. -/
def passOldWrong : ChangeSpec := { name := "passOld", fn := fun _ => fun
  | [d1, d2, d3] => { results := [.lit (.bool false)], args := [d1, d2, d3] }
  | _ => none }
def PassOldWrongFalsely : Prop := passOldRow.holds Tryd.pinned (OpenSpec.ofChange passOldWrong)

/-- 'tiltyardlaw06.PassNil': WHATEVER THE INPUT: true; the input reads as it did. -/
def passNilSpec : ChangeSpec := { name := "passNil", fn := fun _ => fun
  | [d1, d2, d3] => { results := [.lit (.bool true)], args := [d1, d2, d3] }
  | _ => none }
def passNilRow : OpenClaim := { program := "ytaefgieodehceaadoor", sum := "081067edd943f274c85f3fd4e239fdad722d196cb14154791012a91819c2ce88", func := "tiltyard/tiltyardlaw06.PassNil", spec := "passNil", inPlace := ["internal/bytealg.CountString", "internal/bytealg.IndexByteString", "internal/bytealg.IndexString"], named := ["internal/bytealg.MaxLen", "tiltyard/sha.firstWords", "tiltyard/sha.roundWords"], apart := false, laid := [("tiltyard/sha.firstWords", laid_tiltyard_sha_firstWords), ("tiltyard/sha.roundWords", laid_tiltyard_sha_roundWords)] }
def PassNilSaid : Prop := passNilRow.holds Tryd.pinned (OpenSpec.ofChange passNilSpec)

/-- ITS FALSE NEIGHBOUR: 'it returns false'. Refute it at one input. -/
def passNilWrong : ChangeSpec := { name := "passNil", fn := fun _ => fun
  | [d1, d2, d3] => { results := [.lit (.bool false)], args := [d1, d2, d3] }
  | _ => none }
def PassNilWrongFalsely : Prop := passNilRow.holds Tryd.pinned (OpenSpec.ofChange passNilWrong)

/- THE SECOND FORM. 'bulk': how many values and letters a reading holds, each counted each time it is reached (what is shared counts as often as it is met; a slice's spare places count too). A statement '..UptoSaid' is the law's where the arguments, and the package variables that the reading takes, are together of bulk at most 1048576: NARROWER than '..Said'. Prove '..Said' where nothing that the law and all that it calls make is longer than what came in: it says more and counts as full. Else prove '..UptoSaid'. A law counts once. -/
mutual
def uptoBulk {H : Type} : DataW H → Nat
  | .lit (.string bytes) => bytes.length + 1
  | .lit _ => 1
  | .nil => 1
  | .ptr d => uptoBulk d + 1
  | .slice elems spare => uptoBulkAll elems + uptoBulkAll spare + 1
  | .agg parts => uptoBulkAll parts + 1
  | .iface _ d => uptoBulk d + 1
  | .map entries => uptoBulkEntries entries + 1
  | .held _ => 1
def uptoBulkAll {H : Type} : List (DataW H) → Nat
  | [] => 0
  | d :: r => uptoBulk d + uptoBulkAll r
def uptoBulkEntries {H : Type} : List (Lit × DataW H) → Nat
  | [] => 0
  | x :: r => uptoBulkEntry x + uptoBulkEntries r
def uptoBulkEntry {H : Type} : Lit × DataW H → Nat
  | (.string bytes, d) => bytes.length + uptoBulk d + 1
  | (_, d) => uptoBulk d + 1
 end
def uptoSmall : (H : Type) → List (DataW H) → Bool := fun _ ds => decide (uptoBulkAll ds ≤ 1048576)
def OpenSpec.upto (s : _root_.Go.ChangeSpec) : _root_.Go.OpenSpec := { _root_.Go.OpenSpec.ofChange s with cond := some uptoSmall }

/-- 'tiltyardlaw06.PassSeals', WHERE WHAT IT READS IS OF BULK AT MOST 1048576: true; the input reads as it did. -/
def passSealsUptoRow : OpenClaim := { program := "ytaefgieodehceaadoor", sum := "081067edd943f274c85f3fd4e239fdad722d196cb14154791012a91819c2ce88", func := "tiltyard/tiltyardlaw06.PassSeals", spec := "passSeals", inPlace := ["internal/bytealg.CountString", "internal/bytealg.IndexByteString", "internal/bytealg.IndexString"], named := ["tiltyard/sha.firstWords", "tiltyard/sha.roundWords", "internal/bytealg.MaxLen"], apart := false, laid := [("tiltyard/sha.firstWords", laid_tiltyard_sha_firstWords), ("tiltyard/sha.roundWords", laid_tiltyard_sha_roundWords)], narrowed := true }
def PassSealsUptoSaid : Prop := passSealsUptoRow.holds Tryd.pinned (OpenSpec.upto passSealsSpec)

/-- 'tiltyardlaw06.PassTickets', WHERE WHAT IT READS IS OF BULK AT MOST 1048576: true; the input reads as it did. -/
def passTicketsUptoRow : OpenClaim := { program := "ytaefgieodehceaadoor", sum := "081067edd943f274c85f3fd4e239fdad722d196cb14154791012a91819c2ce88", func := "tiltyard/tiltyardlaw06.PassTickets", spec := "passTickets", inPlace := ["internal/bytealg.CountString", "internal/bytealg.IndexByteString", "internal/bytealg.IndexString"], named := ["tiltyard/sha.firstWords", "tiltyard/sha.roundWords", "internal/bytealg.MaxLen"], apart := false, laid := [("tiltyard/sha.firstWords", laid_tiltyard_sha_firstWords), ("tiltyard/sha.roundWords", laid_tiltyard_sha_roundWords)], narrowed := true }
def PassTicketsUptoSaid : Prop := passTicketsUptoRow.holds Tryd.pinned (OpenSpec.upto passTicketsSpec)

/-- 'tiltyardlaw06.PassTokens', WHERE WHAT IT READS IS OF BULK AT MOST 1048576: true; the input reads as it did. -/
def passTokensUptoRow : OpenClaim := { program := "ytaefgieodehceaadoor", sum := "081067edd943f274c85f3fd4e239fdad722d196cb14154791012a91819c2ce88", func := "tiltyard/tiltyardlaw06.PassTokens", spec := "passTokens", inPlace := ["internal/bytealg.CountString", "internal/bytealg.IndexByteString", "internal/bytealg.IndexString"], named := ["tiltyard/sha.firstWords", "tiltyard/sha.roundWords", "internal/bytealg.MaxLen"], apart := false, laid := [("tiltyard/sha.firstWords", laid_tiltyard_sha_firstWords), ("tiltyard/sha.roundWords", laid_tiltyard_sha_roundWords)], narrowed := true }
def PassTokensUptoSaid : Prop := passTokensUptoRow.holds Tryd.pinned (OpenSpec.upto passTokensSpec)

/-- 'tiltyardlaw06.PassBack', WHERE WHAT IT READS IS OF BULK AT MOST 1048576: true; the input reads as it did. -/
def passBackUptoRow : OpenClaim := { program := "ytaefgieodehceaadoor", sum := "081067edd943f274c85f3fd4e239fdad722d196cb14154791012a91819c2ce88", func := "tiltyard/tiltyardlaw06.PassBack", spec := "passBack", inPlace := ["internal/bytealg.CountString", "internal/bytealg.IndexByteString", "internal/bytealg.IndexString"], named := ["tiltyard/sha.firstWords", "tiltyard/sha.roundWords", "internal/bytealg.MaxLen"], apart := false, laid := [("tiltyard/sha.firstWords", laid_tiltyard_sha_firstWords), ("tiltyard/sha.roundWords", laid_tiltyard_sha_roundWords)], narrowed := true }
def PassBackUptoSaid : Prop := passBackUptoRow.holds Tryd.pinned (OpenSpec.upto passBackSpec)

/-- 'tiltyardlaw06.PassOthers', WHERE WHAT IT READS IS OF BULK AT MOST 1048576: true; the input reads as it did. -/
def passOthersUptoRow : OpenClaim := { program := "ytaefgieodehceaadoor", sum := "081067edd943f274c85f3fd4e239fdad722d196cb14154791012a91819c2ce88", func := "tiltyard/tiltyardlaw06.PassOthers", spec := "passOthers", inPlace := ["internal/bytealg.CountString", "internal/bytealg.IndexByteString", "internal/bytealg.IndexString"], named := ["tiltyard/sha.firstWords", "tiltyard/sha.roundWords", "internal/bytealg.MaxLen"], apart := false, laid := [("tiltyard/sha.firstWords", laid_tiltyard_sha_firstWords), ("tiltyard/sha.roundWords", laid_tiltyard_sha_roundWords)], narrowed := true }
def PassOthersUptoSaid : Prop := passOthersUptoRow.holds Tryd.pinned (OpenSpec.upto passOthersSpec)

/-- 'tiltyardlaw06.PassOld', WHERE WHAT IT READS IS OF BULK AT MOST 1048576: true; the input reads as it did. -/
def passOldUptoRow : OpenClaim := { program := "ytaefgieodehceaadoor", sum := "081067edd943f274c85f3fd4e239fdad722d196cb14154791012a91819c2ce88", func := "tiltyard/tiltyardlaw06.PassOld", spec := "passOld", inPlace := ["internal/bytealg.CountString", "internal/bytealg.IndexByteString", "internal/bytealg.IndexString"], named := ["tiltyard/sha.firstWords", "tiltyard/sha.roundWords", "internal/bytealg.MaxLen"], apart := false, laid := [("tiltyard/sha.firstWords", laid_tiltyard_sha_firstWords), ("tiltyard/sha.roundWords", laid_tiltyard_sha_roundWords)], narrowed := true }
def PassOldUptoSaid : Prop := passOldUptoRow.holds Tryd.pinned (OpenSpec.upto passOldSpec)

/-- 'tiltyardlaw06.PassNil', WHERE WHAT IT READS IS OF BULK AT MOST 1048576: true; the input reads as it did. -/
def passNilUptoRow : OpenClaim := { program := "ytaefgieodehceaadoor", sum := "081067edd943f274c85f3fd4e239fdad722d196cb14154791012a91819c2ce88", func := "tiltyard/tiltyardlaw06.PassNil", spec := "passNil", inPlace := ["internal/bytealg.CountString", "internal/bytealg.IndexByteString", "internal/bytealg.IndexString"], named := ["internal/bytealg.MaxLen", "tiltyard/sha.firstWords", "tiltyard/sha.roundWords"], apart := false, laid := [("tiltyard/sha.firstWords", laid_tiltyard_sha_firstWords), ("tiltyard/sha.roundWords", laid_tiltyard_sha_roundWords)], narrowed := true }
def PassNilUptoSaid : Prop := passNilUptoRow.holds Tryd.pinned (OpenSpec.upto passNilSpec)

end Rows
end Go.Proofs.YtaefgieodehceaaDoor
