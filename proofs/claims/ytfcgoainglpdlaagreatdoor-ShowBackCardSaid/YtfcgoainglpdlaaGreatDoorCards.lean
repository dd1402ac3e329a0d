/-
  DERIVED. GIVEN WITH THE SEED: THE CARDS: each row of YtfcgoainglpdlaaGreatDoorRows.lean that lists a variable, with what it lists TIED to the program's text (the seventh form; the later family's looks); each row that meets fmt, with fmt's text TOLD by the authors' own Lean function (tested against real Go, not proved from fmt's source: count such statements apart). THE CARD IS WHAT COUNTS. Prove the row's statement (the work); the ties are given (YtfcgoainglpdlaaGreatDoorTie.lean); close each card by the builder's one call (the guide's Derived/Test/ToyasCard.lean, 'card_holds'). Laid BY PROGRAM, IN A SANDBOX (cutbox-door.mjs). By AI agents, Wed Nov 11 2026. No macro, syntax, notation, axiom, sorry.
-/
import Derived.Test.YtfcgoainglpdlaaGreatDoorRows
import GoSem.ClaimSeven
namespace Go.Proofs.YtfcgoainglpdlaaGreatDoor
namespace Rows

/-- THE TIED CARD OF 'quoinlaw07.ShowTypes'. -/
def showTypesCard : Claim7 := { stood := { row := showTypesRow, standIns := [], harness := (true, "0e60578c8ce2eb3a796387d44d31e6824499031c0107362569752db733ac21d4"), looks := true }, kinds := [], alts := [], laidByText := true, laidKinds := [.data, .data, .data], laidTests := true, laidLooks := .later }
def ShowTypesCardSaid : Prop := Claim7.holds Tryz.pinned (.plain (OpenSpec.ofChange showTypesSpec)) showTypesCard

/-- THE TIED CARD OF 'quoinlaw07.ShowExprs'. -/
def showExprsCard : Claim7 := { stood := { row := showExprsRow, standIns := [], harness := (true, "0e60578c8ce2eb3a796387d44d31e6824499031c0107362569752db733ac21d4"), looks := true }, kinds := [], alts := [], laidByText := true, laidKinds := [.data, .data, .data], laidTests := true, laidLooks := .later }
def ShowExprsCardSaid : Prop := Claim7.holds Tryz.pinned (.plain (OpenSpec.ofChange showExprsSpec)) showExprsCard

/-- THE TIED CARD OF 'quoinlaw07.ShowBlocks'. -/
def showBlocksCard : Claim7 := { stood := { row := showBlocksRow, standIns := [], harness := (true, "0e60578c8ce2eb3a796387d44d31e6824499031c0107362569752db733ac21d4"), looks := true }, kinds := [], alts := [], laidByText := true, laidKinds := [.data, .data, .data], laidTests := true, laidLooks := .later }
def ShowBlocksCardSaid : Prop := Claim7.holds Tryz.pinned (.plain (OpenSpec.ofChange showBlocksSpec)) showBlocksCard

/-- THE TIED CARD OF 'quoinlaw07.ShowFiles'. -/
def showFilesCard : Claim7 := { stood := { row := showFilesRow, standIns := [], harness := (true, "0e60578c8ce2eb3a796387d44d31e6824499031c0107362569752db733ac21d4"), looks := true }, kinds := [], alts := [], laidByText := true, laidKinds := [.data, .data, .data], laidTests := true, laidLooks := .later }
def ShowFilesCardSaid : Prop := Claim7.holds Tryz.pinned (.plain (OpenSpec.ofChange showFilesSpec)) showFilesCard

/-- THE TIED CARD OF 'quoinlaw07.ShowBack'. -/
def showBackCard : Claim7 := { stood := { row := showBackRow, standIns := [], harness := (true, "0e60578c8ce2eb3a796387d44d31e6824499031c0107362569752db733ac21d4"), looks := true }, kinds := [], alts := [], laidByText := true, laidKinds := [.data, .data, .data], laidTests := true, laidLooks := .later }
def ShowBackCardSaid : Prop := Claim7.holds Tryz.pinned (.plain (OpenSpec.ofChange showBackSpec)) showBackCard

/-- THE TIED CARD OF 'quoinlaw07.ShowLess'. -/
def showLessCard : Claim7 := { stood := { row := showLessRow, standIns := [], harness := (true, "0e60578c8ce2eb3a796387d44d31e6824499031c0107362569752db733ac21d4"), looks := true }, kinds := [], alts := [], laidByText := true, laidKinds := [.data, .data, .data], laidTests := true, laidLooks := .later }
def ShowLessCardSaid : Prop := Claim7.holds Tryz.pinned (.plain (OpenSpec.ofChange showLessSpec)) showLessCard

/-- THE SECOND FORM's CARD OF 'quoinlaw07.ShowTypes'. -/
def showTypesUptoCard : Claim7 := { stood := { row := showTypesUptoRow, standIns := [], harness := (true, "0e60578c8ce2eb3a796387d44d31e6824499031c0107362569752db733ac21d4"), looks := true }, kinds := [], alts := [], laidByText := true, laidKinds := [.data, .data, .data], laidTests := true, laidLooks := .later }
def ShowTypesUptoCardSaid : Prop := Claim7.holds Tryz.pinned (.plain (OpenSpec.upto showTypesSpec)) showTypesUptoCard

/-- THE SECOND FORM's CARD OF 'quoinlaw07.ShowExprs'. -/
def showExprsUptoCard : Claim7 := { stood := { row := showExprsUptoRow, standIns := [], harness := (true, "0e60578c8ce2eb3a796387d44d31e6824499031c0107362569752db733ac21d4"), looks := true }, kinds := [], alts := [], laidByText := true, laidKinds := [.data, .data, .data], laidTests := true, laidLooks := .later }
def ShowExprsUptoCardSaid : Prop := Claim7.holds Tryz.pinned (.plain (OpenSpec.upto showExprsSpec)) showExprsUptoCard

/-- THE SECOND FORM's CARD OF 'quoinlaw07.ShowBlocks'. -/
def showBlocksUptoCard : Claim7 := { stood := { row := showBlocksUptoRow, standIns := [], harness := (true, "0e60578c8ce2eb3a796387d44d31e6824499031c0107362569752db733ac21d4"), looks := true }, kinds := [], alts := [], laidByText := true, laidKinds := [.data, .data, .data], laidTests := true, laidLooks := .later }
def ShowBlocksUptoCardSaid : Prop := Claim7.holds Tryz.pinned (.plain (OpenSpec.upto showBlocksSpec)) showBlocksUptoCard

/-- THE SECOND FORM's CARD OF 'quoinlaw07.ShowFiles'. -/
def showFilesUptoCard : Claim7 := { stood := { row := showFilesUptoRow, standIns := [], harness := (true, "0e60578c8ce2eb3a796387d44d31e6824499031c0107362569752db733ac21d4"), looks := true }, kinds := [], alts := [], laidByText := true, laidKinds := [.data, .data, .data], laidTests := true, laidLooks := .later }
def ShowFilesUptoCardSaid : Prop := Claim7.holds Tryz.pinned (.plain (OpenSpec.upto showFilesSpec)) showFilesUptoCard

/-- THE SECOND FORM's CARD OF 'quoinlaw07.ShowBack'. -/
def showBackUptoCard : Claim7 := { stood := { row := showBackUptoRow, standIns := [], harness := (true, "0e60578c8ce2eb3a796387d44d31e6824499031c0107362569752db733ac21d4"), looks := true }, kinds := [], alts := [], laidByText := true, laidKinds := [.data, .data, .data], laidTests := true, laidLooks := .later }
def ShowBackUptoCardSaid : Prop := Claim7.holds Tryz.pinned (.plain (OpenSpec.upto showBackSpec)) showBackUptoCard

/-- THE SECOND FORM's CARD OF 'quoinlaw07.ShowLess'. -/
def showLessUptoCard : Claim7 := { stood := { row := showLessUptoRow, standIns := [], harness := (true, "0e60578c8ce2eb3a796387d44d31e6824499031c0107362569752db733ac21d4"), looks := true }, kinds := [], alts := [], laidByText := true, laidKinds := [.data, .data, .data], laidTests := true, laidLooks := .later }
def ShowLessUptoCardSaid : Prop := Claim7.holds Tryz.pinned (.plain (OpenSpec.upto showLessSpec)) showLessUptoCard
end Rows
end Go.Proofs.YtfcgoainglpdlaaGreatDoor
