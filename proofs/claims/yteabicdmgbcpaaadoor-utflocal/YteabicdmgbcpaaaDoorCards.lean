/-
  DERIVED. GIVEN WITH THE SEED: THE CARDS: each row of YteabicdmgbcpaaaDoorRows.lean that lists a variable, with what it lists TIED to the program's text (the seventh form; the later family's looks); each row that meets fmt, with fmt's text TOLD by the authors' own Lean function (tested against real Go, not proved from fmt's source: count such statements apart). THE CARD IS WHAT COUNTS. Prove the row's statement (the work); the ties are given (YteabicdmgbcpaaaDoorTie.lean); close each card by the builder's one call (the guide's Derived/Test/ToyasCard.lean, 'card_holds'). Laid BY PROGRAM, IN A SANDBOX (cutbox-door.mjs). By AI agents, Wed Nov 11 2026. No macro, syntax, notation, axiom, sorry.
-/
import Derived.Test.YteabicdmgbcpaaaDoorRows
import GoSem.ClaimSeven
namespace Go.Proofs.YteabicdmgbcpaaaDoor
namespace Rows

/-- THE TIED CARD OF 'obeluslaw1.UtfAt'. -/
def utfAtCard : Claim7 := { stood := { row := utfAtRow, standIns := [], harness := (true, "e405a50b031145c4c2e818a134917e78486a73761ddeb50f96aa013cc059f486"), looks := false }, kinds := [], alts := [], laidByText := true, laidKinds := [.data, .pinned], laidTests := true, laidLooks := .later }
def UtfAtCardSaid : Prop := Claim7.holds Tryd.pinned (.plain (OpenSpec.ofChange utfAtSpec)) utfAtCard

/-- THE TIED CARD OF 'obeluslaw1.UtfAll'. -/
def utfAllCard : Claim7 := { stood := { row := utfAllRow, standIns := [], harness := (true, "e405a50b031145c4c2e818a134917e78486a73761ddeb50f96aa013cc059f486"), looks := false }, kinds := [], alts := [], laidByText := true, laidKinds := [.data, .pinned], laidTests := true, laidLooks := .later }
def UtfAllCardSaid : Prop := Claim7.holds Tryd.pinned (.plain (OpenSpec.ofChange utfAllSpec)) utfAllCard

/-- THE TIED CARD OF 'obeluslaw1.UtfSyms'. -/
def utfSymsCard : Claim7 := { stood := { row := utfSymsRow, standIns := [], harness := (true, "e405a50b031145c4c2e818a134917e78486a73761ddeb50f96aa013cc059f486"), looks := false }, kinds := [], alts := [], laidByText := true, laidKinds := [.data, .pinned], laidTests := true, laidLooks := .later }
def UtfSymsCardSaid : Prop := Claim7.holds Tryd.pinned (.plain (OpenSpec.ofChange utfSymsSpec)) utfSymsCard

/-- THE TIED CARD OF 'obeluslaw1.UtfLocal'. -/
def utfLocalCard : Claim7 := { stood := { row := utfLocalRow, standIns := [], harness := (true, "e405a50b031145c4c2e818a134917e78486a73761ddeb50f96aa013cc059f486"), looks := false }, kinds := [], alts := [], laidByText := true, laidKinds := [.data, .pinned], laidTests := true, laidLooks := .later }
def UtfLocalCardSaid : Prop := Claim7.holds Tryd.pinned (.plain (OpenSpec.ofChange utfLocalSpec)) utfLocalCard

/-- THE TIED CARD OF 'obeluslaw1.UtfJoins'. -/
def utfJoinsCard : Claim7 := { stood := { row := utfJoinsRow, standIns := [], harness := (true, "e405a50b031145c4c2e818a134917e78486a73761ddeb50f96aa013cc059f486"), looks := false }, kinds := [], alts := [], laidByText := true, laidKinds := [.data, .pinned], laidTests := true, laidLooks := .later }
def UtfJoinsCardSaid : Prop := Claim7.holds Tryd.pinned (.plain (OpenSpec.ofChange utfJoinsSpec)) utfJoinsCard

/-- THE TIED CARD OF 'obeluslaw1.UtfBack'. -/
def utfBackCard : Claim7 := { stood := { row := utfBackRow, standIns := [], harness := (true, "e405a50b031145c4c2e818a134917e78486a73761ddeb50f96aa013cc059f486"), looks := false }, kinds := [], alts := [], laidByText := true, laidKinds := [.data, .pinned], laidTests := true, laidLooks := .later }
def UtfBackCardSaid : Prop := Claim7.holds Tryd.pinned (.plain (OpenSpec.ofChange utfBackSpec)) utfBackCard

/-- THE SECOND FORM's CARD OF 'obeluslaw1.UtfAt'. -/
def utfAtUptoCard : Claim7 := { stood := { row := utfAtUptoRow, standIns := [], harness := (true, "e405a50b031145c4c2e818a134917e78486a73761ddeb50f96aa013cc059f486"), looks := false }, kinds := [], alts := [], laidByText := true, laidKinds := [.data, .pinned], laidTests := true, laidLooks := .later }
def UtfAtUptoCardSaid : Prop := Claim7.holds Tryd.pinned (.plain (OpenSpec.upto utfAtSpec)) utfAtUptoCard

/-- THE SECOND FORM's CARD OF 'obeluslaw1.UtfAll'. -/
def utfAllUptoCard : Claim7 := { stood := { row := utfAllUptoRow, standIns := [], harness := (true, "e405a50b031145c4c2e818a134917e78486a73761ddeb50f96aa013cc059f486"), looks := false }, kinds := [], alts := [], laidByText := true, laidKinds := [.data, .pinned], laidTests := true, laidLooks := .later }
def UtfAllUptoCardSaid : Prop := Claim7.holds Tryd.pinned (.plain (OpenSpec.upto utfAllSpec)) utfAllUptoCard

/-- THE SECOND FORM's CARD OF 'obeluslaw1.UtfSyms'. -/
def utfSymsUptoCard : Claim7 := { stood := { row := utfSymsUptoRow, standIns := [], harness := (true, "e405a50b031145c4c2e818a134917e78486a73761ddeb50f96aa013cc059f486"), looks := false }, kinds := [], alts := [], laidByText := true, laidKinds := [.data, .pinned], laidTests := true, laidLooks := .later }
def UtfSymsUptoCardSaid : Prop := Claim7.holds Tryd.pinned (.plain (OpenSpec.upto utfSymsSpec)) utfSymsUptoCard

/-- THE SECOND FORM's CARD OF 'obeluslaw1.UtfLocal'. -/
def utfLocalUptoCard : Claim7 := { stood := { row := utfLocalUptoRow, standIns := [], harness := (true, "e405a50b031145c4c2e818a134917e78486a73761ddeb50f96aa013cc059f486"), looks := false }, kinds := [], alts := [], laidByText := true, laidKinds := [.data, .pinned], laidTests := true, laidLooks := .later }
def UtfLocalUptoCardSaid : Prop := Claim7.holds Tryd.pinned (.plain (OpenSpec.upto utfLocalSpec)) utfLocalUptoCard

/-- THE SECOND FORM's CARD OF 'obeluslaw1.UtfJoins'. -/
def utfJoinsUptoCard : Claim7 := { stood := { row := utfJoinsUptoRow, standIns := [], harness := (true, "e405a50b031145c4c2e818a134917e78486a73761ddeb50f96aa013cc059f486"), looks := false }, kinds := [], alts := [], laidByText := true, laidKinds := [.data, .pinned], laidTests := true, laidLooks := .later }
def UtfJoinsUptoCardSaid : Prop := Claim7.holds Tryd.pinned (.plain (OpenSpec.upto utfJoinsSpec)) utfJoinsUptoCard

/-- THE SECOND FORM's CARD OF 'obeluslaw1.UtfBack'. -/
def utfBackUptoCard : Claim7 := { stood := { row := utfBackUptoRow, standIns := [], harness := (true, "e405a50b031145c4c2e818a134917e78486a73761ddeb50f96aa013cc059f486"), looks := false }, kinds := [], alts := [], laidByText := true, laidKinds := [.data, .pinned], laidTests := true, laidLooks := .later }
def UtfBackUptoCardSaid : Prop := Claim7.holds Tryd.pinned (.plain (OpenSpec.upto utfBackSpec)) utfBackUptoCard
end Rows
end Go.Proofs.YteabicdmgbcpaaaDoor
