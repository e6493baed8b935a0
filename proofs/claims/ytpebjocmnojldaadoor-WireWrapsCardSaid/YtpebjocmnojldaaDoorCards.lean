/-
  DERIVED. GIVEN WITH THE SEED: THE CARDS: each row of YtpebjocmnojldaaDoorRows.lean that lists a variable, with what it lists TIED to the program's text (the seventh form; the later family's looks); each row that meets fmt, with fmt's text TOLD by the authors' own Lean function (tested against real Go, not proved from fmt's source: count such statements apart). THE CARD IS WHAT COUNTS. Prove the row's statement (the work); the ties are given (YtpebjocmnojldaaDoorTie.lean); close each card by the builder's one call (the guide's Derived/Test/ToyasCard.lean, 'card_holds'). Laid BY PROGRAM, IN A SANDBOX (cutbox-door.mjs). By AI agents, Wed Nov 11 2026. No macro, syntax, notation, axiom, sorry.
-/
import Derived.Test.YtpebjocmnojldaaDoorRows
import GoSem.ClaimSeven
namespace Go.Proofs.YtpebjocmnojldaaDoor
namespace Rows

/-- THE TIED CARD OF 'pennantlaw14.WireWraps'. -/
def wireWrapsCard : Claim7 := { stood := { row := wireWrapsRow, standIns := [], harness := (true, "5bd029e0904d491fd549d4767a3c04d67ebf7a270c2da14a339588465db5dc53"), looks := false }, kinds := [], alts := [], laidByText := true, laidKinds := [.data], laidTests := true, laidLooks := .later }
def WireWrapsCardSaid : Prop := Claim7.holds Tryd.pinned (.plain (OpenSpec.ofChange wireWrapsSpec)) wireWrapsCard

/-- THE TIED CARD OF 'pennantlaw14.WireTurned'. -/
def wireTurnedCard : Claim7 := { stood := { row := wireTurnedRow, standIns := [], harness := (true, "5bd029e0904d491fd549d4767a3c04d67ebf7a270c2da14a339588465db5dc53"), looks := false }, kinds := [], alts := [], laidByText := true, laidKinds := [.data], laidTests := true, laidLooks := .later }
def WireTurnedCardSaid : Prop := Claim7.holds Tryd.pinned (.plain (OpenSpec.ofChange wireTurnedSpec)) wireTurnedCard

/-- THE TIED CARD OF 'pennantlaw14.WireNodes'. -/
def wireNodesCard : Claim7 := { stood := { row := wireNodesRow, standIns := [], harness := (true, "5bd029e0904d491fd549d4767a3c04d67ebf7a270c2da14a339588465db5dc53"), looks := false }, kinds := [], alts := [], laidByText := true, laidKinds := [.data], laidTests := true, laidLooks := .later }
def WireNodesCardSaid : Prop := Claim7.holds Tryd.pinned (.plain (OpenSpec.ofChange wireNodesSpec)) wireNodesCard

/-- THE SECOND FORM's CARD OF 'pennantlaw14.WireWraps'. -/
def wireWrapsUptoCard : Claim7 := { stood := { row := wireWrapsUptoRow, standIns := [], harness := (true, "5bd029e0904d491fd549d4767a3c04d67ebf7a270c2da14a339588465db5dc53"), looks := false }, kinds := [], alts := [], laidByText := true, laidKinds := [.data], laidTests := true, laidLooks := .later }
def WireWrapsUptoCardSaid : Prop := Claim7.holds Tryd.pinned (.plain (OpenSpec.upto wireWrapsSpec)) wireWrapsUptoCard

/-- THE SECOND FORM's CARD OF 'pennantlaw14.WireTurned'. -/
def wireTurnedUptoCard : Claim7 := { stood := { row := wireTurnedUptoRow, standIns := [], harness := (true, "5bd029e0904d491fd549d4767a3c04d67ebf7a270c2da14a339588465db5dc53"), looks := false }, kinds := [], alts := [], laidByText := true, laidKinds := [.data], laidTests := true, laidLooks := .later }
def WireTurnedUptoCardSaid : Prop := Claim7.holds Tryd.pinned (.plain (OpenSpec.upto wireTurnedSpec)) wireTurnedUptoCard

/-- THE SECOND FORM's CARD OF 'pennantlaw14.WireNodes'. -/
def wireNodesUptoCard : Claim7 := { stood := { row := wireNodesUptoRow, standIns := [], harness := (true, "5bd029e0904d491fd549d4767a3c04d67ebf7a270c2da14a339588465db5dc53"), looks := false }, kinds := [], alts := [], laidByText := true, laidKinds := [.data], laidTests := true, laidLooks := .later }
def WireNodesUptoCardSaid : Prop := Claim7.holds Tryd.pinned (.plain (OpenSpec.upto wireNodesSpec)) wireNodesUptoCard
end Rows
end Go.Proofs.YtpebjocmnojldaaDoor
