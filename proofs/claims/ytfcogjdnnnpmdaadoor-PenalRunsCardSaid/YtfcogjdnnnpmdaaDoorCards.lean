/-
  DERIVED. GIVEN WITH THE SEED: THE CARDS: each row of YtfcogjdnnnpmdaaDoorRows.lean that lists a variable, with what it lists TIED to the program's text (the seventh form; the later family's looks); each row that meets fmt, with fmt's text TOLD by the authors' own Lean function (tested against real Go, not proved from fmt's source: count such statements apart). THE CARD IS WHAT COUNTS. Prove the row's statement (the work); the ties are given (YtfcogjdnnnpmdaaDoorTie.lean); close each card by the builder's one call (the guide's Derived/Test/ToyasCard.lean, 'card_holds'). Laid BY PROGRAM, IN A SANDBOX (cutbox-door.mjs). By AI agents, Wed Nov 11 2026. No macro, syntax, notation, axiom, sorry.
-/
import Derived.Test.YtfcogjdnnnpmdaaDoorRows
import GoSem.ClaimSeven
namespace Go.Proofs.YtfcogjdnnnpmdaaDoor
namespace Rows

/-- THE TIED CARD OF 'tiltyardlaw16.PenalMarks'. -/
def penalMarksCard : Claim7 := { stood := { row := penalMarksRow, standIns := [], harness := (true, "6e50b83b6fb27f8d405cbe01b48558341ed580ab2fe876012661c5501b0a6ca3"), looks := false }, kinds := [], alts := [], laidByText := true, laidKinds := [.data], laidTests := true, laidLooks := .later }
def PenalMarksCardSaid : Prop := Claim7.holds Tryd.pinned (.plain (OpenSpec.ofChange penalMarksSpec)) penalMarksCard

/-- THE TIED CARD OF 'tiltyardlaw16.PenalRuns'. -/
def penalRunsCard : Claim7 := { stood := { row := penalRunsRow, standIns := [], harness := (true, "6e50b83b6fb27f8d405cbe01b48558341ed580ab2fe876012661c5501b0a6ca3"), looks := false }, kinds := [], alts := [], laidByText := true, laidKinds := [.data], laidTests := true, laidLooks := .later }
def PenalRunsCardSaid : Prop := Claim7.holds Tryd.pinned (.plain (OpenSpec.ofChange penalRunsSpec)) penalRunsCard

/-- THE TIED CARD OF 'tiltyardlaw16.PenalNil'. -/
def penalNilCard : Claim7 := { stood := { row := penalNilRow, standIns := [], harness := (true, "6e50b83b6fb27f8d405cbe01b48558341ed580ab2fe876012661c5501b0a6ca3"), looks := false }, kinds := [], alts := [], laidByText := true, laidKinds := [.data], laidTests := true, laidLooks := .later }
def PenalNilCardSaid : Prop := Claim7.holds Tryd.pinned (.plain (OpenSpec.ofChange penalNilSpec)) penalNilCard

/-- THE TIED CARD OF 'tiltyardlaw16.PenalBetween'. -/
def penalBetweenCard : Claim7 := { stood := { row := penalBetweenRow, standIns := [], harness := (true, "6e50b83b6fb27f8d405cbe01b48558341ed580ab2fe876012661c5501b0a6ca3"), looks := false }, kinds := [], alts := [], laidByText := true, laidKinds := [.data], laidTests := true, laidLooks := .later }
def PenalBetweenCardSaid : Prop := Claim7.holds Tryd.pinned (.plain (OpenSpec.ofChange penalBetweenSpec)) penalBetweenCard

/-- THE TIED CARD OF 'tiltyardlaw16.PenalHarder'. -/
def penalHarderCard : Claim7 := { stood := { row := penalHarderRow, standIns := [], harness := (true, "6e50b83b6fb27f8d405cbe01b48558341ed580ab2fe876012661c5501b0a6ca3"), looks := false }, kinds := [], alts := [], laidByText := true, laidKinds := [.data], laidTests := true, laidLooks := .later }
def PenalHarderCardSaid : Prop := Claim7.holds Tryd.pinned (.plain (OpenSpec.ofChange penalHarderSpec)) penalHarderCard

/-- THE TIED CARD OF 'tiltyardlaw16.PenalForgets'. -/
def penalForgetsCard : Claim7 := { stood := { row := penalForgetsRow, standIns := [], harness := (true, "6e50b83b6fb27f8d405cbe01b48558341ed580ab2fe876012661c5501b0a6ca3"), looks := false }, kinds := [], alts := [], laidByText := true, laidKinds := [.data], laidTests := true, laidLooks := .later }
def PenalForgetsCardSaid : Prop := Claim7.holds Tryd.pinned (.plain (OpenSpec.ofChange penalForgetsSpec)) penalForgetsCard

/-- THE SECOND FORM's CARD OF 'tiltyardlaw16.PenalMarks'. -/
def penalMarksUptoCard : Claim7 := { stood := { row := penalMarksUptoRow, standIns := [], harness := (true, "6e50b83b6fb27f8d405cbe01b48558341ed580ab2fe876012661c5501b0a6ca3"), looks := false }, kinds := [], alts := [], laidByText := true, laidKinds := [.data], laidTests := true, laidLooks := .later }
def PenalMarksUptoCardSaid : Prop := Claim7.holds Tryd.pinned (.plain (OpenSpec.upto penalMarksSpec)) penalMarksUptoCard

/-- THE SECOND FORM's CARD OF 'tiltyardlaw16.PenalRuns'. -/
def penalRunsUptoCard : Claim7 := { stood := { row := penalRunsUptoRow, standIns := [], harness := (true, "6e50b83b6fb27f8d405cbe01b48558341ed580ab2fe876012661c5501b0a6ca3"), looks := false }, kinds := [], alts := [], laidByText := true, laidKinds := [.data], laidTests := true, laidLooks := .later }
def PenalRunsUptoCardSaid : Prop := Claim7.holds Tryd.pinned (.plain (OpenSpec.upto penalRunsSpec)) penalRunsUptoCard

/-- THE SECOND FORM's CARD OF 'tiltyardlaw16.PenalNil'. -/
def penalNilUptoCard : Claim7 := { stood := { row := penalNilUptoRow, standIns := [], harness := (true, "6e50b83b6fb27f8d405cbe01b48558341ed580ab2fe876012661c5501b0a6ca3"), looks := false }, kinds := [], alts := [], laidByText := true, laidKinds := [.data], laidTests := true, laidLooks := .later }
def PenalNilUptoCardSaid : Prop := Claim7.holds Tryd.pinned (.plain (OpenSpec.upto penalNilSpec)) penalNilUptoCard

/-- THE SECOND FORM's CARD OF 'tiltyardlaw16.PenalBetween'. -/
def penalBetweenUptoCard : Claim7 := { stood := { row := penalBetweenUptoRow, standIns := [], harness := (true, "6e50b83b6fb27f8d405cbe01b48558341ed580ab2fe876012661c5501b0a6ca3"), looks := false }, kinds := [], alts := [], laidByText := true, laidKinds := [.data], laidTests := true, laidLooks := .later }
def PenalBetweenUptoCardSaid : Prop := Claim7.holds Tryd.pinned (.plain (OpenSpec.upto penalBetweenSpec)) penalBetweenUptoCard

/-- THE SECOND FORM's CARD OF 'tiltyardlaw16.PenalHarder'. -/
def penalHarderUptoCard : Claim7 := { stood := { row := penalHarderUptoRow, standIns := [], harness := (true, "6e50b83b6fb27f8d405cbe01b48558341ed580ab2fe876012661c5501b0a6ca3"), looks := false }, kinds := [], alts := [], laidByText := true, laidKinds := [.data], laidTests := true, laidLooks := .later }
def PenalHarderUptoCardSaid : Prop := Claim7.holds Tryd.pinned (.plain (OpenSpec.upto penalHarderSpec)) penalHarderUptoCard

/-- THE SECOND FORM's CARD OF 'tiltyardlaw16.PenalForgets'. -/
def penalForgetsUptoCard : Claim7 := { stood := { row := penalForgetsUptoRow, standIns := [], harness := (true, "6e50b83b6fb27f8d405cbe01b48558341ed580ab2fe876012661c5501b0a6ca3"), looks := false }, kinds := [], alts := [], laidByText := true, laidKinds := [.data], laidTests := true, laidLooks := .later }
def PenalForgetsUptoCardSaid : Prop := Claim7.holds Tryd.pinned (.plain (OpenSpec.upto penalForgetsSpec)) penalForgetsUptoCard
end Rows
end Go.Proofs.YtfcogjdnnnpmdaaDoor
