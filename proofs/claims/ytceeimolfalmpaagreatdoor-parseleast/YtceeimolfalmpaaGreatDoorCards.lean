/-
  DERIVED. GIVEN WITH THE SEED: THE CARDS: each row of YtceeimolfalmpaaGreatDoorRows.lean that lists a variable, with what it lists TIED to the program's text (the seventh form; the later family's looks); each row that meets fmt, with fmt's text TOLD by the authors' own Lean function (tested against real Go, not proved from fmt's source: count such statements apart). THE CARD IS WHAT COUNTS. Prove the row's statement (the work); the ties are given (YtceeimolfalmpaaGreatDoorTie.lean); close each card by the builder's one call (the guide's Derived/Test/ToyasCard.lean, 'card_holds'). Laid BY PROGRAM, IN A SANDBOX (cutbox-door.mjs). By AI agents, Wed Nov 11 2026. No macro, syntax, notation, axiom, sorry.
-/
import Derived.Test.YtceeimolfalmpaaGreatDoorRows
import GoSem.ClaimSeven
namespace Go.Proofs.YtceeimolfalmpaaGreatDoor
namespace Rows

/-- THE TIED CARD OF 'obeluslaw7.LexTrees'. -/
def lexTreesCard : Claim7 := { stood := { row := lexTreesRow, standIns := [], harness := (true, "5845489f2491f155a70baed97e883e70d4f8bafaa1d177ca6c16e2602a38909c"), looks := false }, kinds := [], alts := [], laidByText := true, laidKinds := [.data, .pinned], laidTests := true, laidLooks := .later }
def LexTreesCardSaid : Prop := Claim7.holds Tryz.pinned (.plain (OpenSpec.ofChange lexTreesSpec)) lexTreesCard

/-- THE TIED CARD OF 'obeluslaw9.ParseTells'. -/
def parseTellsCard : Claim7 := { stood := { row := parseTellsRow, standIns := [], harness := (true, "5845489f2491f155a70baed97e883e70d4f8bafaa1d177ca6c16e2602a38909c"), looks := false }, kinds := [], alts := [], laidByText := true, laidKinds := [.data, .pinned], laidTests := true, laidLooks := .later }
def ParseTellsCardSaid : Prop := Claim7.holds Tryz.pinned (.plain (OpenSpec.ofChange parseTellsSpec)) parseTellsCard

/-- THE TIED CARD OF 'obeluslaw9.ParseWords'. -/
def parseWordsCard : Claim7 := { stood := { row := parseWordsRow, standIns := [], harness := (true, "5845489f2491f155a70baed97e883e70d4f8bafaa1d177ca6c16e2602a38909c"), looks := false }, kinds := [], alts := [], laidByText := true, laidKinds := [.data, .pinned], laidTests := true, laidLooks := .later }
def ParseWordsCardSaid : Prop := Claim7.holds Tryz.pinned (.plain (OpenSpec.ofChange parseWordsSpec)) parseWordsCard

/-- THE TIED CARD OF 'obeluslaw9.ParseBack'. -/
def parseBackCard : Claim7 := { stood := { row := parseBackRow, standIns := [], harness := (true, "5845489f2491f155a70baed97e883e70d4f8bafaa1d177ca6c16e2602a38909c"), looks := false }, kinds := [], alts := [], laidByText := true, laidKinds := [.data, .pinned], laidTests := true, laidLooks := .later }
def ParseBackCardSaid : Prop := Claim7.holds Tryz.pinned (.plain (OpenSpec.ofChange parseBackSpec)) parseBackCard

/-- THE TIED CARD OF 'obeluslaw9.ParseLeast'. -/
def parseLeastCard : Claim7 := { stood := { row := parseLeastRow, standIns := [], harness := (true, "5845489f2491f155a70baed97e883e70d4f8bafaa1d177ca6c16e2602a38909c"), looks := false }, kinds := [], alts := [], laidByText := true, laidKinds := [.data, .pinned], laidTests := true, laidLooks := .later }
def ParseLeastCardSaid : Prop := Claim7.holds Tryz.pinned (.plain (OpenSpec.ofChange parseLeastSpec)) parseLeastCard

/-- THE SECOND FORM's CARD OF 'obeluslaw7.LexTrees'. -/
def lexTreesUptoCard : Claim7 := { stood := { row := lexTreesUptoRow, standIns := [], harness := (true, "5845489f2491f155a70baed97e883e70d4f8bafaa1d177ca6c16e2602a38909c"), looks := false }, kinds := [], alts := [], laidByText := true, laidKinds := [.data, .pinned], laidTests := true, laidLooks := .later }
def LexTreesUptoCardSaid : Prop := Claim7.holds Tryz.pinned (.plain (OpenSpec.upto lexTreesSpec)) lexTreesUptoCard

/-- THE SECOND FORM's CARD OF 'obeluslaw9.ParseTells'. -/
def parseTellsUptoCard : Claim7 := { stood := { row := parseTellsUptoRow, standIns := [], harness := (true, "5845489f2491f155a70baed97e883e70d4f8bafaa1d177ca6c16e2602a38909c"), looks := false }, kinds := [], alts := [], laidByText := true, laidKinds := [.data, .pinned], laidTests := true, laidLooks := .later }
def ParseTellsUptoCardSaid : Prop := Claim7.holds Tryz.pinned (.plain (OpenSpec.upto parseTellsSpec)) parseTellsUptoCard

/-- THE SECOND FORM's CARD OF 'obeluslaw9.ParseWords'. -/
def parseWordsUptoCard : Claim7 := { stood := { row := parseWordsUptoRow, standIns := [], harness := (true, "5845489f2491f155a70baed97e883e70d4f8bafaa1d177ca6c16e2602a38909c"), looks := false }, kinds := [], alts := [], laidByText := true, laidKinds := [.data, .pinned], laidTests := true, laidLooks := .later }
def ParseWordsUptoCardSaid : Prop := Claim7.holds Tryz.pinned (.plain (OpenSpec.upto parseWordsSpec)) parseWordsUptoCard

/-- THE SECOND FORM's CARD OF 'obeluslaw9.ParseBack'. -/
def parseBackUptoCard : Claim7 := { stood := { row := parseBackUptoRow, standIns := [], harness := (true, "5845489f2491f155a70baed97e883e70d4f8bafaa1d177ca6c16e2602a38909c"), looks := false }, kinds := [], alts := [], laidByText := true, laidKinds := [.data, .pinned], laidTests := true, laidLooks := .later }
def ParseBackUptoCardSaid : Prop := Claim7.holds Tryz.pinned (.plain (OpenSpec.upto parseBackSpec)) parseBackUptoCard

/-- THE SECOND FORM's CARD OF 'obeluslaw9.ParseLeast'. -/
def parseLeastUptoCard : Claim7 := { stood := { row := parseLeastUptoRow, standIns := [], harness := (true, "5845489f2491f155a70baed97e883e70d4f8bafaa1d177ca6c16e2602a38909c"), looks := false }, kinds := [], alts := [], laidByText := true, laidKinds := [.data, .pinned], laidTests := true, laidLooks := .later }
def ParseLeastUptoCardSaid : Prop := Claim7.holds Tryz.pinned (.plain (OpenSpec.upto parseLeastSpec)) parseLeastUptoCard
end Rows
end Go.Proofs.YtceeimolfalmpaaGreatDoor
