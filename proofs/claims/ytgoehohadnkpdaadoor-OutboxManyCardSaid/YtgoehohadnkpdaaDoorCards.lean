/-
  DERIVED. GIVEN WITH THE SEED: THE CARDS: each row of YtgoehohadnkpdaaDoorRows.lean that lists a variable, with what it lists TIED to the program's text (the seventh form; the later family's looks); each row that meets fmt, with fmt's text TOLD by the authors' own Lean function (tested against real Go, not proved from fmt's source: count such statements apart). THE CARD IS WHAT COUNTS. Prove the row's statement (the work); the ties are given (YtgoehohadnkpdaaDoorTie.lean); close each card by the builder's one call (the guide's Derived/Test/ToyasCard.lean, 'card_holds'). Laid BY PROGRAM, IN A SANDBOX (cutbox-door.mjs). By AI agents, Wed Nov 11 2026. No macro, syntax, notation, axiom, sorry.
-/
import Derived.Test.YtgoehohadnkpdaaDoorRows
import GoSem.ClaimSeven
namespace Go.Proofs.YtgoehohadnkpdaaDoor
namespace Rows

/-- THE TIED CARD OF 'pennantlaw12.OutboxRight'. -/
def outboxRightCard : Claim7 := { stood := { row := outboxRightRow, standIns := [], harness := (true, "76e7ea5cf4ebd5a95f1779b500cf0e957f415ce4c9100902e2f61a5297059bd5"), looks := false }, kinds := [], alts := [], laidByText := true, laidKinds := [.data], laidTests := true, laidLooks := .later }
def OutboxRightCardSaid : Prop := Claim7.holds Tryd.pinned (.plain (OpenSpec.ofChange outboxRightSpec)) outboxRightCard

/-- THE TIED CARD OF 'pennantlaw12.OutboxLasts'. -/
def outboxLastsCard : Claim7 := { stood := { row := outboxLastsRow, standIns := [], harness := (true, "76e7ea5cf4ebd5a95f1779b500cf0e957f415ce4c9100902e2f61a5297059bd5"), looks := false }, kinds := [], alts := [], laidByText := true, laidKinds := [.data], laidTests := true, laidLooks := .later }
def OutboxLastsCardSaid : Prop := Claim7.holds Tryd.pinned (.plain (OpenSpec.ofChange outboxLastsSpec)) outboxLastsCard

/-- THE TIED CARD OF 'pennantlaw12.OutboxMany'. -/
def outboxManyCard : Claim7 := { stood := { row := outboxManyRow, standIns := [], harness := (true, "76e7ea5cf4ebd5a95f1779b500cf0e957f415ce4c9100902e2f61a5297059bd5"), looks := false }, kinds := [], alts := [], laidByText := true, laidKinds := [.data], laidTests := true, laidLooks := .later }
def OutboxManyCardSaid : Prop := Claim7.holds Tryd.pinned (.plain (OpenSpec.ofChange outboxManySpec)) outboxManyCard

/-- THE TIED CARD OF 'pennantlaw12.OutboxRises'. -/
def outboxRisesCard : Claim7 := { stood := { row := outboxRisesRow, standIns := [], harness := (true, "76e7ea5cf4ebd5a95f1779b500cf0e957f415ce4c9100902e2f61a5297059bd5"), looks := false }, kinds := [], alts := [], laidByText := true, laidKinds := [.data], laidTests := true, laidLooks := .later }
def OutboxRisesCardSaid : Prop := Claim7.holds Tryd.pinned (.plain (OpenSpec.ofChange outboxRisesSpec)) outboxRisesCard

/-- THE TIED CARD OF 'pennantlaw12.OutboxFull'. -/
def outboxFullCard : Claim7 := { stood := { row := outboxFullRow, standIns := [], harness := (true, "76e7ea5cf4ebd5a95f1779b500cf0e957f415ce4c9100902e2f61a5297059bd5"), looks := false }, kinds := [], alts := [], laidByText := true, laidKinds := [.data], laidTests := true, laidLooks := .later }
def OutboxFullCardSaid : Prop := Claim7.holds Tryd.pinned (.plain (OpenSpec.ofChange outboxFullSpec)) outboxFullCard

/-- THE SECOND FORM's CARD OF 'pennantlaw12.OutboxRight'. -/
def outboxRightUptoCard : Claim7 := { stood := { row := outboxRightUptoRow, standIns := [], harness := (true, "76e7ea5cf4ebd5a95f1779b500cf0e957f415ce4c9100902e2f61a5297059bd5"), looks := false }, kinds := [], alts := [], laidByText := true, laidKinds := [.data], laidTests := true, laidLooks := .later }
def OutboxRightUptoCardSaid : Prop := Claim7.holds Tryd.pinned (.plain (OpenSpec.upto outboxRightSpec)) outboxRightUptoCard

/-- THE SECOND FORM's CARD OF 'pennantlaw12.OutboxLasts'. -/
def outboxLastsUptoCard : Claim7 := { stood := { row := outboxLastsUptoRow, standIns := [], harness := (true, "76e7ea5cf4ebd5a95f1779b500cf0e957f415ce4c9100902e2f61a5297059bd5"), looks := false }, kinds := [], alts := [], laidByText := true, laidKinds := [.data], laidTests := true, laidLooks := .later }
def OutboxLastsUptoCardSaid : Prop := Claim7.holds Tryd.pinned (.plain (OpenSpec.upto outboxLastsSpec)) outboxLastsUptoCard

/-- THE SECOND FORM's CARD OF 'pennantlaw12.OutboxMany'. -/
def outboxManyUptoCard : Claim7 := { stood := { row := outboxManyUptoRow, standIns := [], harness := (true, "76e7ea5cf4ebd5a95f1779b500cf0e957f415ce4c9100902e2f61a5297059bd5"), looks := false }, kinds := [], alts := [], laidByText := true, laidKinds := [.data], laidTests := true, laidLooks := .later }
def OutboxManyUptoCardSaid : Prop := Claim7.holds Tryd.pinned (.plain (OpenSpec.upto outboxManySpec)) outboxManyUptoCard

/-- THE SECOND FORM's CARD OF 'pennantlaw12.OutboxRises'. -/
def outboxRisesUptoCard : Claim7 := { stood := { row := outboxRisesUptoRow, standIns := [], harness := (true, "76e7ea5cf4ebd5a95f1779b500cf0e957f415ce4c9100902e2f61a5297059bd5"), looks := false }, kinds := [], alts := [], laidByText := true, laidKinds := [.data], laidTests := true, laidLooks := .later }
def OutboxRisesUptoCardSaid : Prop := Claim7.holds Tryd.pinned (.plain (OpenSpec.upto outboxRisesSpec)) outboxRisesUptoCard

/-- THE SECOND FORM's CARD OF 'pennantlaw12.OutboxFull'. -/
def outboxFullUptoCard : Claim7 := { stood := { row := outboxFullUptoRow, standIns := [], harness := (true, "76e7ea5cf4ebd5a95f1779b500cf0e957f415ce4c9100902e2f61a5297059bd5"), looks := false }, kinds := [], alts := [], laidByText := true, laidKinds := [.data], laidTests := true, laidLooks := .later }
def OutboxFullUptoCardSaid : Prop := Claim7.holds Tryd.pinned (.plain (OpenSpec.upto outboxFullSpec)) outboxFullUptoCard
end Rows
end Go.Proofs.YtgoehohadnkpdaaDoor
