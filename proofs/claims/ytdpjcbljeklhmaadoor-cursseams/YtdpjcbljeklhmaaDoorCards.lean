/-
  DERIVED. GIVEN WITH THE SEED: THE CARDS: each row of YtdpjcbljeklhmaaDoorRows.lean that lists a variable, with what it lists TIED to the program's text (the seventh form; the later family's looks); each row that meets fmt, with fmt's text TOLD by the authors' own Lean function (tested against real Go, not proved from fmt's source: count such statements apart). THE CARD IS WHAT COUNTS. Prove the row's statement (the work); the ties are given (YtdpjcbljeklhmaaDoorTie.lean); close each card by the builder's one call (the guide's Derived/Test/ToyasCard.lean, 'card_holds'). Laid BY PROGRAM, IN A SANDBOX (cutbox-door.mjs). By AI agents, Wed Nov 11 2026. No macro, syntax, notation, axiom, sorry.
-/
import Derived.Test.YtdpjcbljeklhmaaDoorRows
import GoSem.ClaimSeven
namespace Go.Proofs.YtdpjcbljeklhmaaDoor
namespace Rows

/-- THE TIED CARD OF 'obeluslaw5.CursPlays'. -/
def cursPlaysCard : Claim7 := { stood := { row := cursPlaysRow, standIns := [], harness := (true, "32f3c6195c5baf486a3ce95f7aa68bae0a6b0c61945180098bc5e9115837dc17"), looks := false }, kinds := [], alts := [], laidByText := true, laidKinds := [.data, .pinned], laidTests := true, laidLooks := .later }
def CursPlaysCardSaid : Prop := Claim7.holds Tryd.pinned (.plain (OpenSpec.ofChange cursPlaysSpec)) cursPlaysCard

/-- THE TIED CARD OF 'obeluslaw5.CursViews'. -/
def cursViewsCard : Claim7 := { stood := { row := cursViewsRow, standIns := [], harness := (true, "32f3c6195c5baf486a3ce95f7aa68bae0a6b0c61945180098bc5e9115837dc17"), looks := false }, kinds := [], alts := [], laidByText := true, laidKinds := [.data, .pinned], laidTests := true, laidLooks := .later }
def CursViewsCardSaid : Prop := Claim7.holds Tryd.pinned (.plain (OpenSpec.ofChange cursViewsSpec)) cursViewsCard

/-- THE TIED CARD OF 'obeluslaw5.CursBack'. -/
def cursBackCard : Claim7 := { stood := { row := cursBackRow, standIns := [], harness := (true, "32f3c6195c5baf486a3ce95f7aa68bae0a6b0c61945180098bc5e9115837dc17"), looks := false }, kinds := [], alts := [], laidByText := true, laidKinds := [.data, .pinned], laidTests := true, laidLooks := .later }
def CursBackCardSaid : Prop := Claim7.holds Tryd.pinned (.plain (OpenSpec.ofChange cursBackSpec)) cursBackCard

/-- THE TIED CARD OF 'obeluslaw5.CursNone'. -/
def cursNoneCard : Claim7 := { stood := { row := cursNoneRow, standIns := [], harness := (true, "32f3c6195c5baf486a3ce95f7aa68bae0a6b0c61945180098bc5e9115837dc17"), looks := false }, kinds := [], alts := [], laidByText := true, laidKinds := [.data, .pinned], laidTests := true, laidLooks := .later }
def CursNoneCardSaid : Prop := Claim7.holds Tryd.pinned (.plain (OpenSpec.ofChange cursNoneSpec)) cursNoneCard

/-- THE TIED CARD OF 'obeluslaw5.CursSeams'. -/
def cursSeamsCard : Claim7 := { stood := { row := cursSeamsRow, standIns := [], harness := (true, "32f3c6195c5baf486a3ce95f7aa68bae0a6b0c61945180098bc5e9115837dc17"), looks := false }, kinds := [], alts := [], laidByText := true, laidKinds := [.data, .pinned], laidTests := true, laidLooks := .later }
def CursSeamsCardSaid : Prop := Claim7.holds Tryd.pinned (.plain (OpenSpec.ofChange cursSeamsSpec)) cursSeamsCard

/-- THE SECOND FORM's CARD OF 'obeluslaw5.CursPlays'. -/
def cursPlaysUptoCard : Claim7 := { stood := { row := cursPlaysUptoRow, standIns := [], harness := (true, "32f3c6195c5baf486a3ce95f7aa68bae0a6b0c61945180098bc5e9115837dc17"), looks := false }, kinds := [], alts := [], laidByText := true, laidKinds := [.data, .pinned], laidTests := true, laidLooks := .later }
def CursPlaysUptoCardSaid : Prop := Claim7.holds Tryd.pinned (.plain (OpenSpec.upto cursPlaysSpec)) cursPlaysUptoCard

/-- THE SECOND FORM's CARD OF 'obeluslaw5.CursViews'. -/
def cursViewsUptoCard : Claim7 := { stood := { row := cursViewsUptoRow, standIns := [], harness := (true, "32f3c6195c5baf486a3ce95f7aa68bae0a6b0c61945180098bc5e9115837dc17"), looks := false }, kinds := [], alts := [], laidByText := true, laidKinds := [.data, .pinned], laidTests := true, laidLooks := .later }
def CursViewsUptoCardSaid : Prop := Claim7.holds Tryd.pinned (.plain (OpenSpec.upto cursViewsSpec)) cursViewsUptoCard

/-- THE SECOND FORM's CARD OF 'obeluslaw5.CursBack'. -/
def cursBackUptoCard : Claim7 := { stood := { row := cursBackUptoRow, standIns := [], harness := (true, "32f3c6195c5baf486a3ce95f7aa68bae0a6b0c61945180098bc5e9115837dc17"), looks := false }, kinds := [], alts := [], laidByText := true, laidKinds := [.data, .pinned], laidTests := true, laidLooks := .later }
def CursBackUptoCardSaid : Prop := Claim7.holds Tryd.pinned (.plain (OpenSpec.upto cursBackSpec)) cursBackUptoCard

/-- THE SECOND FORM's CARD OF 'obeluslaw5.CursNone'. -/
def cursNoneUptoCard : Claim7 := { stood := { row := cursNoneUptoRow, standIns := [], harness := (true, "32f3c6195c5baf486a3ce95f7aa68bae0a6b0c61945180098bc5e9115837dc17"), looks := false }, kinds := [], alts := [], laidByText := true, laidKinds := [.data, .pinned], laidTests := true, laidLooks := .later }
def CursNoneUptoCardSaid : Prop := Claim7.holds Tryd.pinned (.plain (OpenSpec.upto cursNoneSpec)) cursNoneUptoCard

/-- THE SECOND FORM's CARD OF 'obeluslaw5.CursSeams'. -/
def cursSeamsUptoCard : Claim7 := { stood := { row := cursSeamsUptoRow, standIns := [], harness := (true, "32f3c6195c5baf486a3ce95f7aa68bae0a6b0c61945180098bc5e9115837dc17"), looks := false }, kinds := [], alts := [], laidByText := true, laidKinds := [.data, .pinned], laidTests := true, laidLooks := .later }
def CursSeamsUptoCardSaid : Prop := Claim7.holds Tryd.pinned (.plain (OpenSpec.upto cursSeamsSpec)) cursSeamsUptoCard
end Rows
end Go.Proofs.YtdpjcbljeklhmaaDoor
