/-
  DERIVED. GIVEN WITH THE SEED: THE CARDS: each row of YtaefgieodehceaaDoorRows.lean that lists a variable, with what it lists TIED to the program's text (the seventh form; the later family's looks); each row that meets fmt, with fmt's text TOLD by the authors' own Lean function (tested against real Go, not proved from fmt's source: count such statements apart). THE CARD IS WHAT COUNTS. Prove the row's statement (the work); the ties are given (YtaefgieodehceaaDoorTie.lean); close each card by the builder's one call (the guide's Derived/Test/ToyasCard.lean, 'card_holds'). Laid BY PROGRAM, IN A SANDBOX (cutbox-door.mjs). By AI agents, Wed Nov 11 2026. No macro, syntax, notation, axiom, sorry.
-/
import Derived.Test.YtaefgieodehceaaDoorRows
import GoSem.ClaimSeven
namespace Go.Proofs.YtaefgieodehceaaDoor
namespace Rows

/-- THE TIED CARD OF 'tiltyardlaw06.PassSeals'. -/
def passSealsCard : Claim7 := { stood := { row := passSealsRow, standIns := [], harness := (true, "c210d1336c62ada2dbe876883f9388ba15b77d39ba9e49e13946fdc88a702896"), looks := false }, kinds := [], alts := [], laidByText := true, laidKinds := [.data, .data], laidTests := true, laidLooks := .later }
def PassSealsCardSaid : Prop := Claim7.holds Tryd.pinned (.plain (OpenSpec.ofChange passSealsSpec)) passSealsCard

/-- THE TIED CARD OF 'tiltyardlaw06.PassTickets'. -/
def passTicketsCard : Claim7 := { stood := { row := passTicketsRow, standIns := [], harness := (true, "c210d1336c62ada2dbe876883f9388ba15b77d39ba9e49e13946fdc88a702896"), looks := false }, kinds := [], alts := [], laidByText := true, laidKinds := [.data, .data], laidTests := true, laidLooks := .later }
def PassTicketsCardSaid : Prop := Claim7.holds Tryd.pinned (.plain (OpenSpec.ofChange passTicketsSpec)) passTicketsCard

/-- THE TIED CARD OF 'tiltyardlaw06.PassTokens'. -/
def passTokensCard : Claim7 := { stood := { row := passTokensRow, standIns := [], harness := (true, "c210d1336c62ada2dbe876883f9388ba15b77d39ba9e49e13946fdc88a702896"), looks := false }, kinds := [], alts := [], laidByText := true, laidKinds := [.data, .data], laidTests := true, laidLooks := .later }
def PassTokensCardSaid : Prop := Claim7.holds Tryd.pinned (.plain (OpenSpec.ofChange passTokensSpec)) passTokensCard

/-- THE TIED CARD OF 'tiltyardlaw06.PassBack'. -/
def passBackCard : Claim7 := { stood := { row := passBackRow, standIns := [], harness := (true, "c210d1336c62ada2dbe876883f9388ba15b77d39ba9e49e13946fdc88a702896"), looks := false }, kinds := [], alts := [], laidByText := true, laidKinds := [.data, .data], laidTests := true, laidLooks := .later }
def PassBackCardSaid : Prop := Claim7.holds Tryd.pinned (.plain (OpenSpec.ofChange passBackSpec)) passBackCard

/-- THE TIED CARD OF 'tiltyardlaw06.PassOthers'. -/
def passOthersCard : Claim7 := { stood := { row := passOthersRow, standIns := [], harness := (true, "c210d1336c62ada2dbe876883f9388ba15b77d39ba9e49e13946fdc88a702896"), looks := false }, kinds := [], alts := [], laidByText := true, laidKinds := [.data, .data], laidTests := true, laidLooks := .later }
def PassOthersCardSaid : Prop := Claim7.holds Tryd.pinned (.plain (OpenSpec.ofChange passOthersSpec)) passOthersCard

/-- THE TIED CARD OF 'tiltyardlaw06.PassOld'. -/
def passOldCard : Claim7 := { stood := { row := passOldRow, standIns := [], harness := (true, "c210d1336c62ada2dbe876883f9388ba15b77d39ba9e49e13946fdc88a702896"), looks := false }, kinds := [], alts := [], laidByText := true, laidKinds := [.data, .data], laidTests := true, laidLooks := .later }
def PassOldCardSaid : Prop := Claim7.holds Tryd.pinned (.plain (OpenSpec.ofChange passOldSpec)) passOldCard

/-- THE TIED CARD OF 'tiltyardlaw06.PassNil'. -/
def passNilCard : Claim7 := { stood := { row := passNilRow, standIns := [], harness := (true, "c210d1336c62ada2dbe876883f9388ba15b77d39ba9e49e13946fdc88a702896"), looks := false }, kinds := [], alts := [], laidByText := true, laidKinds := [.data, .data], laidTests := true, laidLooks := .later }
def PassNilCardSaid : Prop := Claim7.holds Tryd.pinned (.plain (OpenSpec.ofChange passNilSpec)) passNilCard

/-- THE SECOND FORM's CARD OF 'tiltyardlaw06.PassSeals'. -/
def passSealsUptoCard : Claim7 := { stood := { row := passSealsUptoRow, standIns := [], harness := (true, "c210d1336c62ada2dbe876883f9388ba15b77d39ba9e49e13946fdc88a702896"), looks := false }, kinds := [], alts := [], laidByText := true, laidKinds := [.data, .data], laidTests := true, laidLooks := .later }
def PassSealsUptoCardSaid : Prop := Claim7.holds Tryd.pinned (.plain (OpenSpec.upto passSealsSpec)) passSealsUptoCard

/-- THE SECOND FORM's CARD OF 'tiltyardlaw06.PassTickets'. -/
def passTicketsUptoCard : Claim7 := { stood := { row := passTicketsUptoRow, standIns := [], harness := (true, "c210d1336c62ada2dbe876883f9388ba15b77d39ba9e49e13946fdc88a702896"), looks := false }, kinds := [], alts := [], laidByText := true, laidKinds := [.data, .data], laidTests := true, laidLooks := .later }
def PassTicketsUptoCardSaid : Prop := Claim7.holds Tryd.pinned (.plain (OpenSpec.upto passTicketsSpec)) passTicketsUptoCard

/-- THE SECOND FORM's CARD OF 'tiltyardlaw06.PassTokens'. -/
def passTokensUptoCard : Claim7 := { stood := { row := passTokensUptoRow, standIns := [], harness := (true, "c210d1336c62ada2dbe876883f9388ba15b77d39ba9e49e13946fdc88a702896"), looks := false }, kinds := [], alts := [], laidByText := true, laidKinds := [.data, .data], laidTests := true, laidLooks := .later }
def PassTokensUptoCardSaid : Prop := Claim7.holds Tryd.pinned (.plain (OpenSpec.upto passTokensSpec)) passTokensUptoCard

/-- THE SECOND FORM's CARD OF 'tiltyardlaw06.PassBack'. -/
def passBackUptoCard : Claim7 := { stood := { row := passBackUptoRow, standIns := [], harness := (true, "c210d1336c62ada2dbe876883f9388ba15b77d39ba9e49e13946fdc88a702896"), looks := false }, kinds := [], alts := [], laidByText := true, laidKinds := [.data, .data], laidTests := true, laidLooks := .later }
def PassBackUptoCardSaid : Prop := Claim7.holds Tryd.pinned (.plain (OpenSpec.upto passBackSpec)) passBackUptoCard

/-- THE SECOND FORM's CARD OF 'tiltyardlaw06.PassOthers'. -/
def passOthersUptoCard : Claim7 := { stood := { row := passOthersUptoRow, standIns := [], harness := (true, "c210d1336c62ada2dbe876883f9388ba15b77d39ba9e49e13946fdc88a702896"), looks := false }, kinds := [], alts := [], laidByText := true, laidKinds := [.data, .data], laidTests := true, laidLooks := .later }
def PassOthersUptoCardSaid : Prop := Claim7.holds Tryd.pinned (.plain (OpenSpec.upto passOthersSpec)) passOthersUptoCard

/-- THE SECOND FORM's CARD OF 'tiltyardlaw06.PassOld'. -/
def passOldUptoCard : Claim7 := { stood := { row := passOldUptoRow, standIns := [], harness := (true, "c210d1336c62ada2dbe876883f9388ba15b77d39ba9e49e13946fdc88a702896"), looks := false }, kinds := [], alts := [], laidByText := true, laidKinds := [.data, .data], laidTests := true, laidLooks := .later }
def PassOldUptoCardSaid : Prop := Claim7.holds Tryd.pinned (.plain (OpenSpec.upto passOldSpec)) passOldUptoCard

/-- THE SECOND FORM's CARD OF 'tiltyardlaw06.PassNil'. -/
def passNilUptoCard : Claim7 := { stood := { row := passNilUptoRow, standIns := [], harness := (true, "c210d1336c62ada2dbe876883f9388ba15b77d39ba9e49e13946fdc88a702896"), looks := false }, kinds := [], alts := [], laidByText := true, laidKinds := [.data, .data], laidTests := true, laidLooks := .later }
def PassNilUptoCardSaid : Prop := Claim7.holds Tryd.pinned (.plain (OpenSpec.upto passNilSpec)) passNilUptoCard
end Rows
end Go.Proofs.YtaefgieodehceaaDoor
