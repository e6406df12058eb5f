/-
  DERIVED. GIVEN WITH THE SEED: THE CARDS: each row of YtbnmblhpoaaegaaDoorRows.lean that lists a variable, with what it lists TIED to the program's text (the seventh form; the later family's looks); each row that meets fmt, with fmt's text TOLD by the authors' own Lean function (tested against real Go, not proved from fmt's source: count such statements apart). THE CARD IS WHAT COUNTS. Prove the row's statement (the work); the ties are given (YtbnmblhpoaaegaaDoorTie.lean); close each card by the builder's one call (the guide's Derived/Test/ToyasCard.lean, 'card_holds'). Laid BY PROGRAM, IN A SANDBOX (cutbox-door.mjs). By AI agents, Wed Nov 11 2026. No macro, syntax, notation, axiom, sorry.
-/
import Derived.Test.YtbnmblhpoaaegaaDoorRows
import GoSem.ClaimSeven
namespace Go.Proofs.YtbnmblhpoaaegaaDoor
namespace Rows

/-- THE TIED CARD OF 'tiltyardlaw02.ShaSteps'. -/
def shaStepsCard : Claim7 := { stood := { row := shaStepsRow, standIns := [], harness := (true, "345d267e89112dd928c1513b20b3d28d62799f969f43ab67b129619319bbb78c"), looks := false }, kinds := [], alts := [], laidByText := true, laidKinds := [.data, .data], laidTests := true, laidLooks := .later }
def ShaStepsCardSaid : Prop := Claim7.holds Tryd.pinned (.plain (OpenSpec.ofChange shaStepsSpec)) shaStepsCard

/-- THE TIED CARD OF 'tiltyardlaw02.ShaSums'. -/
def shaSumsCard : Claim7 := { stood := { row := shaSumsRow, standIns := [], harness := (true, "345d267e89112dd928c1513b20b3d28d62799f969f43ab67b129619319bbb78c"), looks := false }, kinds := [], alts := [], laidByText := true, laidKinds := [.data, .data], laidTests := true, laidLooks := .later }
def ShaSumsCardSaid : Prop := Claim7.holds Tryd.pinned (.plain (OpenSpec.ofChange shaSumsSpec)) shaSumsCard

/-- THE TIED CARD OF 'tiltyardlaw02.ShaParts'. -/
def shaPartsCard : Claim7 := { stood := { row := shaPartsRow, standIns := [], harness := (true, "345d267e89112dd928c1513b20b3d28d62799f969f43ab67b129619319bbb78c"), looks := false }, kinds := [], alts := [], laidByText := true, laidKinds := [.data, .data], laidTests := true, laidLooks := .later }
def ShaPartsCardSaid : Prop := Claim7.holds Tryd.pinned (.plain (OpenSpec.ofChange shaPartsSpec)) shaPartsCard

/-- THE TIED CARD OF 'tiltyardlaw02.ShaKept'. -/
def shaKeptCard : Claim7 := { stood := { row := shaKeptRow, standIns := [], harness := (true, "345d267e89112dd928c1513b20b3d28d62799f969f43ab67b129619319bbb78c"), looks := false }, kinds := [], alts := [], laidByText := true, laidKinds := [.data, .data], laidTests := true, laidLooks := .later }
def ShaKeptCardSaid : Prop := Claim7.holds Tryd.pinned (.plain (OpenSpec.ofChange shaKeptSpec)) shaKeptCard

/-- THE TIED CARD OF 'tiltyardlaw02.ShaChain'. -/
def shaChainCard : Claim7 := { stood := { row := shaChainRow, standIns := [], harness := (true, "345d267e89112dd928c1513b20b3d28d62799f969f43ab67b129619319bbb78c"), looks := false }, kinds := [], alts := [], laidByText := true, laidKinds := [.data, .data], laidTests := true, laidLooks := .later }
def ShaChainCardSaid : Prop := Claim7.holds Tryd.pinned (.plain (OpenSpec.ofChange shaChainSpec)) shaChainCard

/-- THE TIED CARD OF 'tiltyardlaw03.MacTags'. -/
def macTagsCard : Claim7 := { stood := { row := macTagsRow, standIns := [], harness := (true, "345d267e89112dd928c1513b20b3d28d62799f969f43ab67b129619319bbb78c"), looks := false }, kinds := [], alts := [], laidByText := true, laidKinds := [.data, .data], laidTests := true, laidLooks := .later }
def MacTagsCardSaid : Prop := Claim7.holds Tryd.pinned (.plain (OpenSpec.ofChange macTagsSpec)) macTagsCard

/-- THE TIED CARD OF 'tiltyardlaw03.MacFits'. -/
def macFitsCard : Claim7 := { stood := { row := macFitsRow, standIns := [], harness := (true, "345d267e89112dd928c1513b20b3d28d62799f969f43ab67b129619319bbb78c"), looks := false }, kinds := [], alts := [], laidByText := true, laidKinds := [.data, .data], laidTests := true, laidLooks := .later }
def MacFitsCardSaid : Prop := Claim7.holds Tryd.pinned (.plain (OpenSpec.ofChange macFitsSpec)) macFitsCard

/-- THE TIED CARD OF 'tiltyardlaw03.MacMade'. -/
def macMadeCard : Claim7 := { stood := { row := macMadeRow, standIns := [], harness := (true, "345d267e89112dd928c1513b20b3d28d62799f969f43ab67b129619319bbb78c"), looks := false }, kinds := [], alts := [], laidByText := true, laidKinds := [.data, .data], laidTests := true, laidLooks := .later }
def MacMadeCardSaid : Prop := Claim7.holds Tryd.pinned (.plain (OpenSpec.ofChange macMadeSpec)) macMadeCard

/-- THE TIED CARD OF 'tiltyardlaw03.MacKeys'. -/
def macKeysCard : Claim7 := { stood := { row := macKeysRow, standIns := [], harness := (true, "345d267e89112dd928c1513b20b3d28d62799f969f43ab67b129619319bbb78c"), looks := false }, kinds := [], alts := [], laidByText := true, laidKinds := [.data, .data], laidTests := true, laidLooks := .later }
def MacKeysCardSaid : Prop := Claim7.holds Tryd.pinned (.plain (OpenSpec.ofChange macKeysSpec)) macKeysCard

/-- THE TIED CARD OF 'tiltyardlaw03.MacOwn'. -/
def macOwnCard : Claim7 := { stood := { row := macOwnRow, standIns := [], harness := (true, "345d267e89112dd928c1513b20b3d28d62799f969f43ab67b129619319bbb78c"), looks := false }, kinds := [], alts := [], laidByText := true, laidKinds := [.data, .data], laidTests := true, laidLooks := .later }
def MacOwnCardSaid : Prop := Claim7.holds Tryd.pinned (.plain (OpenSpec.ofChange macOwnSpec)) macOwnCard

/-- THE TIED CARD OF 'tiltyardlaw03.MacKept'. -/
def macKeptCard : Claim7 := { stood := { row := macKeptRow, standIns := [], harness := (true, "345d267e89112dd928c1513b20b3d28d62799f969f43ab67b129619319bbb78c"), looks := false }, kinds := [], alts := [], laidByText := true, laidKinds := [.data, .data], laidTests := true, laidLooks := .later }
def MacKeptCardSaid : Prop := Claim7.holds Tryd.pinned (.plain (OpenSpec.ofChange macKeptSpec)) macKeptCard

/-- THE SECOND FORM's CARD OF 'tiltyardlaw02.ShaSteps'. -/
def shaStepsUptoCard : Claim7 := { stood := { row := shaStepsUptoRow, standIns := [], harness := (true, "345d267e89112dd928c1513b20b3d28d62799f969f43ab67b129619319bbb78c"), looks := false }, kinds := [], alts := [], laidByText := true, laidKinds := [.data, .data], laidTests := true, laidLooks := .later }
def ShaStepsUptoCardSaid : Prop := Claim7.holds Tryd.pinned (.plain (OpenSpec.upto shaStepsSpec)) shaStepsUptoCard

/-- THE SECOND FORM's CARD OF 'tiltyardlaw02.ShaSums'. -/
def shaSumsUptoCard : Claim7 := { stood := { row := shaSumsUptoRow, standIns := [], harness := (true, "345d267e89112dd928c1513b20b3d28d62799f969f43ab67b129619319bbb78c"), looks := false }, kinds := [], alts := [], laidByText := true, laidKinds := [.data, .data], laidTests := true, laidLooks := .later }
def ShaSumsUptoCardSaid : Prop := Claim7.holds Tryd.pinned (.plain (OpenSpec.upto shaSumsSpec)) shaSumsUptoCard

/-- THE SECOND FORM's CARD OF 'tiltyardlaw02.ShaParts'. -/
def shaPartsUptoCard : Claim7 := { stood := { row := shaPartsUptoRow, standIns := [], harness := (true, "345d267e89112dd928c1513b20b3d28d62799f969f43ab67b129619319bbb78c"), looks := false }, kinds := [], alts := [], laidByText := true, laidKinds := [.data, .data], laidTests := true, laidLooks := .later }
def ShaPartsUptoCardSaid : Prop := Claim7.holds Tryd.pinned (.plain (OpenSpec.upto shaPartsSpec)) shaPartsUptoCard

/-- THE SECOND FORM's CARD OF 'tiltyardlaw02.ShaKept'. -/
def shaKeptUptoCard : Claim7 := { stood := { row := shaKeptUptoRow, standIns := [], harness := (true, "345d267e89112dd928c1513b20b3d28d62799f969f43ab67b129619319bbb78c"), looks := false }, kinds := [], alts := [], laidByText := true, laidKinds := [.data, .data], laidTests := true, laidLooks := .later }
def ShaKeptUptoCardSaid : Prop := Claim7.holds Tryd.pinned (.plain (OpenSpec.upto shaKeptSpec)) shaKeptUptoCard

/-- THE SECOND FORM's CARD OF 'tiltyardlaw02.ShaChain'. -/
def shaChainUptoCard : Claim7 := { stood := { row := shaChainUptoRow, standIns := [], harness := (true, "345d267e89112dd928c1513b20b3d28d62799f969f43ab67b129619319bbb78c"), looks := false }, kinds := [], alts := [], laidByText := true, laidKinds := [.data, .data], laidTests := true, laidLooks := .later }
def ShaChainUptoCardSaid : Prop := Claim7.holds Tryd.pinned (.plain (OpenSpec.upto shaChainSpec)) shaChainUptoCard

/-- THE SECOND FORM's CARD OF 'tiltyardlaw03.MacTags'. -/
def macTagsUptoCard : Claim7 := { stood := { row := macTagsUptoRow, standIns := [], harness := (true, "345d267e89112dd928c1513b20b3d28d62799f969f43ab67b129619319bbb78c"), looks := false }, kinds := [], alts := [], laidByText := true, laidKinds := [.data, .data], laidTests := true, laidLooks := .later }
def MacTagsUptoCardSaid : Prop := Claim7.holds Tryd.pinned (.plain (OpenSpec.upto macTagsSpec)) macTagsUptoCard

/-- THE SECOND FORM's CARD OF 'tiltyardlaw03.MacFits'. -/
def macFitsUptoCard : Claim7 := { stood := { row := macFitsUptoRow, standIns := [], harness := (true, "345d267e89112dd928c1513b20b3d28d62799f969f43ab67b129619319bbb78c"), looks := false }, kinds := [], alts := [], laidByText := true, laidKinds := [.data, .data], laidTests := true, laidLooks := .later }
def MacFitsUptoCardSaid : Prop := Claim7.holds Tryd.pinned (.plain (OpenSpec.upto macFitsSpec)) macFitsUptoCard

/-- THE SECOND FORM's CARD OF 'tiltyardlaw03.MacMade'. -/
def macMadeUptoCard : Claim7 := { stood := { row := macMadeUptoRow, standIns := [], harness := (true, "345d267e89112dd928c1513b20b3d28d62799f969f43ab67b129619319bbb78c"), looks := false }, kinds := [], alts := [], laidByText := true, laidKinds := [.data, .data], laidTests := true, laidLooks := .later }
def MacMadeUptoCardSaid : Prop := Claim7.holds Tryd.pinned (.plain (OpenSpec.upto macMadeSpec)) macMadeUptoCard

/-- THE SECOND FORM's CARD OF 'tiltyardlaw03.MacKeys'. -/
def macKeysUptoCard : Claim7 := { stood := { row := macKeysUptoRow, standIns := [], harness := (true, "345d267e89112dd928c1513b20b3d28d62799f969f43ab67b129619319bbb78c"), looks := false }, kinds := [], alts := [], laidByText := true, laidKinds := [.data, .data], laidTests := true, laidLooks := .later }
def MacKeysUptoCardSaid : Prop := Claim7.holds Tryd.pinned (.plain (OpenSpec.upto macKeysSpec)) macKeysUptoCard

/-- THE SECOND FORM's CARD OF 'tiltyardlaw03.MacOwn'. -/
def macOwnUptoCard : Claim7 := { stood := { row := macOwnUptoRow, standIns := [], harness := (true, "345d267e89112dd928c1513b20b3d28d62799f969f43ab67b129619319bbb78c"), looks := false }, kinds := [], alts := [], laidByText := true, laidKinds := [.data, .data], laidTests := true, laidLooks := .later }
def MacOwnUptoCardSaid : Prop := Claim7.holds Tryd.pinned (.plain (OpenSpec.upto macOwnSpec)) macOwnUptoCard

/-- THE SECOND FORM's CARD OF 'tiltyardlaw03.MacKept'. -/
def macKeptUptoCard : Claim7 := { stood := { row := macKeptUptoRow, standIns := [], harness := (true, "345d267e89112dd928c1513b20b3d28d62799f969f43ab67b129619319bbb78c"), looks := false }, kinds := [], alts := [], laidByText := true, laidKinds := [.data, .data], laidTests := true, laidLooks := .later }
def MacKeptUptoCardSaid : Prop := Claim7.holds Tryd.pinned (.plain (OpenSpec.upto macKeptSpec)) macKeptUptoCard
end Rows
end Go.Proofs.YtbnmblhpoaaegaaDoor
