/-
  DERIVED. GIVEN WITH THE SEED: THE CARDS: each row of YtojdpjpldokjmaaGreatDoorRows.lean that lists a variable, with what it lists TIED to the program's text (the seventh form; the later family's looks); each row that meets fmt, with fmt's text TOLD by the authors' own Lean function (tested against real Go, not proved from fmt's source: count such statements apart). THE CARD IS WHAT COUNTS. Prove the row's statement (the work); the ties are given (YtojdpjpldokjmaaGreatDoorTie.lean); close each card by the builder's one call (the guide's Derived/Test/ToyasCard.lean, 'card_holds'). Laid BY PROGRAM, IN A SANDBOX (cutbox-door.mjs). By AI agents, Wed Nov 11 2026. No macro, syntax, notation, axiom, sorry.
-/
import Derived.Test.YtojdpjpldokjmaaGreatDoorRows
import GoSem.ClaimSeven
namespace Go.Proofs.YtojdpjpldokjmaaGreatDoor
namespace Rows

/-- THE TIED CARD OF 'rowmilllaw.Filled'. -/
def filledCard : Claim7 := { stood := { row := filledRow, standIns := [], harness := (true, "e289d70d98d97c9ada5deefd2083f54d05f705ff57b29bb803d8151c0c4d551f"), looks := true }, kinds := [], alts := [], laidByText := true, laidKinds := [.data, .data, .data, .data, .sentinel, .sentinel, .data, .data, .data, .pinned, .pinned], laidTests := true, laidLooks := .later }
def FilledCardSaid : Prop := Claim7.holds Tryz.pinned (.plain (OpenSpec.ofChange filledSpec)) filledCard

/-- THE TIED CARD OF 'rowmilllaw.Changed'. -/
def changedCard : Claim7 := { stood := { row := changedRow, standIns := [], harness := (true, "e289d70d98d97c9ada5deefd2083f54d05f705ff57b29bb803d8151c0c4d551f"), looks := true }, kinds := [], alts := [], laidByText := true, laidKinds := [.data, .data, .data, .data, .sentinel, .sentinel, .data, .data, .data, .pinned, .pinned], laidTests := true, laidLooks := .later }
def ChangedCardSaid : Prop := Claim7.holds Tryz.pinned (.plain (OpenSpec.ofChange changedSpec)) changedCard

/-- THE TIED CARD OF 'rowmilllaw.All'. -/
def allCard : Claim7 := { stood := { row := allRow, standIns := [], harness := (true, "e289d70d98d97c9ada5deefd2083f54d05f705ff57b29bb803d8151c0c4d551f"), looks := true }, kinds := [], alts := [], laidByText := true, laidKinds := [.data, .data, .data, .data, .sentinel, .sentinel, .data, .data, .data, .pinned, .pinned], laidTests := true, laidLooks := .later }
def AllCardSaid : Prop := Claim7.holds Tryz.pinned (.plain (OpenSpec.ofChange allSpec)) allCard

/-- THE TIED CARD OF 'rowmillkeep.Reckoned'. -/
def reckonedCard : Claim7 := { stood := { row := reckonedRow, standIns := [], harness := (true, "e289d70d98d97c9ada5deefd2083f54d05f705ff57b29bb803d8151c0c4d551f"), looks := true }, kinds := [], alts := [], laidByText := true, laidKinds := [.data, .data, .data, .data, .sentinel, .sentinel, .data, .data, .pinned, .pinned], laidTests := true, laidLooks := .later }
def ReckonedCardSaid : Prop := Claim7.holds Tryz.pinned (.plain (OpenSpec.ofChange reckonedSpec)) reckonedCard

/-- THE TIED CARD OF 'rowmillkeep.Ordered'. -/
def orderedCard : Claim7 := { stood := { row := orderedRow, standIns := [], harness := (true, "e289d70d98d97c9ada5deefd2083f54d05f705ff57b29bb803d8151c0c4d551f"), looks := true }, kinds := [], alts := [], laidByText := true, laidKinds := [.data, .data, .data, .data, .sentinel, .sentinel, .data, .data, .pinned, .pinned], laidTests := true, laidLooks := .later }
def OrderedCardSaid : Prop := Claim7.holds Tryz.pinned (.plain (OpenSpec.ofChange orderedSpec)) orderedCard

/-- THE TIED CARD OF 'rowmillkeep.Whole'. -/
def wholeCard : Claim7 := { stood := { row := wholeRow, standIns := [], harness := (true, "e289d70d98d97c9ada5deefd2083f54d05f705ff57b29bb803d8151c0c4d551f"), looks := true }, kinds := [], alts := [], laidByText := true, laidKinds := [.data, .data, .data, .data, .sentinel, .sentinel, .data, .data, .data, .pinned, .pinned], laidTests := true, laidLooks := .later }
def WholeCardSaid : Prop := Claim7.holds Tryz.pinned (.plain (OpenSpec.ofChange wholeSpec)) wholeCard

/-- THE TIED CARD OF 'rowmillkeep.Parted'. -/
def partedCard : Claim7 := { stood := { row := partedRow, standIns := [], harness := (true, "e289d70d98d97c9ada5deefd2083f54d05f705ff57b29bb803d8151c0c4d551f"), looks := true }, kinds := [], alts := [], laidByText := true, laidKinds := [.data, .data, .data, .data, .sentinel, .sentinel, .data, .data, .pinned, .pinned], laidTests := true, laidLooks := .later }
def PartedCardSaid : Prop := Claim7.holds Tryz.pinned (.plain (OpenSpec.ofChange partedSpec)) partedCard

/-- THE TIED CARD OF 'rowmillkeep.Known'. -/
def knownCard : Claim7 := { stood := { row := knownRow, standIns := [], harness := (true, "e289d70d98d97c9ada5deefd2083f54d05f705ff57b29bb803d8151c0c4d551f"), looks := true }, kinds := [], alts := [], laidByText := true, laidKinds := [.data, .data, .data, .data, .sentinel, .sentinel, .data, .data, .data, .pinned, .pinned], laidTests := true, laidLooks := .later }
def KnownCardSaid : Prop := Claim7.holds Tryz.pinned (.plain (OpenSpec.ofChange knownSpec)) knownCard

/-- THE TIED CARD OF 'rowmillkeep.Joined'. -/
def joinedCard : Claim7 := { stood := { row := joinedRow, standIns := [], harness := (true, "e289d70d98d97c9ada5deefd2083f54d05f705ff57b29bb803d8151c0c4d551f"), looks := true }, kinds := [], alts := [], laidByText := true, laidKinds := [.data, .data, .data, .data, .sentinel, .sentinel, .data, .data, .pinned, .pinned], laidTests := true, laidLooks := .later }
def JoinedCardSaid : Prop := Claim7.holds Tryz.pinned (.plain (OpenSpec.ofChange joinedSpec)) joinedCard

/-- THE TIED CARD OF 'rowmillkeep.Saved'. -/
def savedCard : Claim7 := { stood := { row := savedRow, standIns := [], harness := (true, "e289d70d98d97c9ada5deefd2083f54d05f705ff57b29bb803d8151c0c4d551f"), looks := true }, kinds := [], alts := [], laidByText := true, laidKinds := [.data, .data, .data, .data, .sentinel, .sentinel, .data, .data, .data, .pinned, .pinned], laidTests := true, laidLooks := .later }
def SavedCardSaid : Prop := Claim7.holds Tryz.pinned (.plain (OpenSpec.ofChange savedSpec)) savedCard

/-- THE SECOND FORM's CARD OF 'rowmilllaw.Filled'. -/
def filledUptoCard : Claim7 := { stood := { row := filledUptoRow, standIns := [], harness := (true, "e289d70d98d97c9ada5deefd2083f54d05f705ff57b29bb803d8151c0c4d551f"), looks := true }, kinds := [], alts := [], laidByText := true, laidKinds := [.data, .data, .data, .data, .sentinel, .sentinel, .data, .data, .data, .pinned, .pinned], laidTests := true, laidLooks := .later }
def FilledUptoCardSaid : Prop := Claim7.holds Tryz.pinned (.plain (OpenSpec.upto filledSpec)) filledUptoCard

/-- THE SECOND FORM's CARD OF 'rowmilllaw.Changed'. -/
def changedUptoCard : Claim7 := { stood := { row := changedUptoRow, standIns := [], harness := (true, "e289d70d98d97c9ada5deefd2083f54d05f705ff57b29bb803d8151c0c4d551f"), looks := true }, kinds := [], alts := [], laidByText := true, laidKinds := [.data, .data, .data, .data, .sentinel, .sentinel, .data, .data, .data, .pinned, .pinned], laidTests := true, laidLooks := .later }
def ChangedUptoCardSaid : Prop := Claim7.holds Tryz.pinned (.plain (OpenSpec.upto changedSpec)) changedUptoCard

/-- THE SECOND FORM's CARD OF 'rowmilllaw.All'. -/
def allUptoCard : Claim7 := { stood := { row := allUptoRow, standIns := [], harness := (true, "e289d70d98d97c9ada5deefd2083f54d05f705ff57b29bb803d8151c0c4d551f"), looks := true }, kinds := [], alts := [], laidByText := true, laidKinds := [.data, .data, .data, .data, .sentinel, .sentinel, .data, .data, .data, .pinned, .pinned], laidTests := true, laidLooks := .later }
def AllUptoCardSaid : Prop := Claim7.holds Tryz.pinned (.plain (OpenSpec.upto allSpec)) allUptoCard

/-- THE SECOND FORM's CARD OF 'rowmillkeep.Reckoned'. -/
def reckonedUptoCard : Claim7 := { stood := { row := reckonedUptoRow, standIns := [], harness := (true, "e289d70d98d97c9ada5deefd2083f54d05f705ff57b29bb803d8151c0c4d551f"), looks := true }, kinds := [], alts := [], laidByText := true, laidKinds := [.data, .data, .data, .data, .sentinel, .sentinel, .data, .data, .pinned, .pinned], laidTests := true, laidLooks := .later }
def ReckonedUptoCardSaid : Prop := Claim7.holds Tryz.pinned (.plain (OpenSpec.upto reckonedSpec)) reckonedUptoCard

/-- THE SECOND FORM's CARD OF 'rowmillkeep.Ordered'. -/
def orderedUptoCard : Claim7 := { stood := { row := orderedUptoRow, standIns := [], harness := (true, "e289d70d98d97c9ada5deefd2083f54d05f705ff57b29bb803d8151c0c4d551f"), looks := true }, kinds := [], alts := [], laidByText := true, laidKinds := [.data, .data, .data, .data, .sentinel, .sentinel, .data, .data, .pinned, .pinned], laidTests := true, laidLooks := .later }
def OrderedUptoCardSaid : Prop := Claim7.holds Tryz.pinned (.plain (OpenSpec.upto orderedSpec)) orderedUptoCard

/-- THE SECOND FORM's CARD OF 'rowmillkeep.Whole'. -/
def wholeUptoCard : Claim7 := { stood := { row := wholeUptoRow, standIns := [], harness := (true, "e289d70d98d97c9ada5deefd2083f54d05f705ff57b29bb803d8151c0c4d551f"), looks := true }, kinds := [], alts := [], laidByText := true, laidKinds := [.data, .data, .data, .data, .sentinel, .sentinel, .data, .data, .data, .pinned, .pinned], laidTests := true, laidLooks := .later }
def WholeUptoCardSaid : Prop := Claim7.holds Tryz.pinned (.plain (OpenSpec.upto wholeSpec)) wholeUptoCard

/-- THE SECOND FORM's CARD OF 'rowmillkeep.Parted'. -/
def partedUptoCard : Claim7 := { stood := { row := partedUptoRow, standIns := [], harness := (true, "e289d70d98d97c9ada5deefd2083f54d05f705ff57b29bb803d8151c0c4d551f"), looks := true }, kinds := [], alts := [], laidByText := true, laidKinds := [.data, .data, .data, .data, .sentinel, .sentinel, .data, .data, .pinned, .pinned], laidTests := true, laidLooks := .later }
def PartedUptoCardSaid : Prop := Claim7.holds Tryz.pinned (.plain (OpenSpec.upto partedSpec)) partedUptoCard

/-- THE SECOND FORM's CARD OF 'rowmillkeep.Known'. -/
def knownUptoCard : Claim7 := { stood := { row := knownUptoRow, standIns := [], harness := (true, "e289d70d98d97c9ada5deefd2083f54d05f705ff57b29bb803d8151c0c4d551f"), looks := true }, kinds := [], alts := [], laidByText := true, laidKinds := [.data, .data, .data, .data, .sentinel, .sentinel, .data, .data, .data, .pinned, .pinned], laidTests := true, laidLooks := .later }
def KnownUptoCardSaid : Prop := Claim7.holds Tryz.pinned (.plain (OpenSpec.upto knownSpec)) knownUptoCard

/-- THE SECOND FORM's CARD OF 'rowmillkeep.Joined'. -/
def joinedUptoCard : Claim7 := { stood := { row := joinedUptoRow, standIns := [], harness := (true, "e289d70d98d97c9ada5deefd2083f54d05f705ff57b29bb803d8151c0c4d551f"), looks := true }, kinds := [], alts := [], laidByText := true, laidKinds := [.data, .data, .data, .data, .sentinel, .sentinel, .data, .data, .pinned, .pinned], laidTests := true, laidLooks := .later }
def JoinedUptoCardSaid : Prop := Claim7.holds Tryz.pinned (.plain (OpenSpec.upto joinedSpec)) joinedUptoCard

/-- THE SECOND FORM's CARD OF 'rowmillkeep.Saved'. -/
def savedUptoCard : Claim7 := { stood := { row := savedUptoRow, standIns := [], harness := (true, "e289d70d98d97c9ada5deefd2083f54d05f705ff57b29bb803d8151c0c4d551f"), looks := true }, kinds := [], alts := [], laidByText := true, laidKinds := [.data, .data, .data, .data, .sentinel, .sentinel, .data, .data, .data, .pinned, .pinned], laidTests := true, laidLooks := .later }
def SavedUptoCardSaid : Prop := Claim7.holds Tryz.pinned (.plain (OpenSpec.upto savedSpec)) savedUptoCard
end Rows
end Go.Proofs.YtojdpjpldokjmaaGreatDoor
