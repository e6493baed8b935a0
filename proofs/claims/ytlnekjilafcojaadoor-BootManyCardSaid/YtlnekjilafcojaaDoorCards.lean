/-
  DERIVED. GIVEN WITH THE SEED: THE CARDS: each row of YtlnekjilafcojaaDoorRows.lean that lists a variable, with what it lists TIED to the program's text (the seventh form; the later family's looks); each row that meets fmt, with fmt's text TOLD by the authors' own Lean function (tested against real Go, not proved from fmt's source: count such statements apart). THE CARD IS WHAT COUNTS. Prove the row's statement (the work); the ties are given (YtlnekjilafcojaaDoorTie.lean); close each card by the builder's one call (the guide's Derived/Test/ToyasCard.lean, 'card_holds'). Laid BY PROGRAM, IN A SANDBOX (cutbox-door.mjs). By AI agents, Wed Nov 11 2026. No macro, syntax, notation, axiom, sorry.
-/
import Derived.Test.YtlnekjilafcojaaDoorRows
import GoSem.ClaimSeven
namespace Go.Proofs.YtlnekjilafcojaaDoor
namespace Rows

/-- THE TIED CARD OF 'pennantlaw09.BootNext'. -/
def bootNextCard : Claim7 := { stood := { row := bootNextRow, standIns := [], harness := (true, "59c3065e9d6ba35d4f7bc742b73efed3c251566acd227231c291b064e543bd3f"), looks := false }, kinds := [], alts := [], laidByText := true, laidKinds := [.data], laidTests := true, laidLooks := .later }
def BootNextCardSaid : Prop := Claim7.holds Tryd.pinned (.plain (OpenSpec.ofChange bootNextSpec)) bootNextCard

/-- THE TIED CARD OF 'pennantlaw09.BootScripts'. -/
def bootScriptsCard : Claim7 := { stood := { row := bootScriptsRow, standIns := [], harness := (true, "59c3065e9d6ba35d4f7bc742b73efed3c251566acd227231c291b064e543bd3f"), looks := false }, kinds := [], alts := [], laidByText := true, laidKinds := [.data], laidTests := true, laidLooks := .later }
def BootScriptsCardSaid : Prop := Claim7.holds Tryd.pinned (.plain (OpenSpec.ofChange bootScriptsSpec)) bootScriptsCard

/-- THE TIED CARD OF 'pennantlaw09.BootLasts'. -/
def bootLastsCard : Claim7 := { stood := { row := bootLastsRow, standIns := [], harness := (true, "59c3065e9d6ba35d4f7bc742b73efed3c251566acd227231c291b064e543bd3f"), looks := false }, kinds := [], alts := [], laidByText := true, laidKinds := [.data], laidTests := true, laidLooks := .later }
def BootLastsCardSaid : Prop := Claim7.holds Tryd.pinned (.plain (OpenSpec.ofChange bootLastsSpec)) bootLastsCard

/-- THE TIED CARD OF 'pennantlaw09.BootTries'. -/
def bootTriesCard : Claim7 := { stood := { row := bootTriesRow, standIns := [], harness := (true, "59c3065e9d6ba35d4f7bc742b73efed3c251566acd227231c291b064e543bd3f"), looks := false }, kinds := [], alts := [], laidByText := true, laidKinds := [.data], laidTests := true, laidLooks := .later }
def BootTriesCardSaid : Prop := Claim7.holds Tryd.pinned (.plain (OpenSpec.ofChange bootTriesSpec)) bootTriesCard

/-- THE TIED CARD OF 'pennantlaw09.BootMany'. -/
def bootManyCard : Claim7 := { stood := { row := bootManyRow, standIns := [], harness := (true, "59c3065e9d6ba35d4f7bc742b73efed3c251566acd227231c291b064e543bd3f"), looks := false }, kinds := [], alts := [], laidByText := true, laidKinds := [.data], laidTests := true, laidLooks := .later }
def BootManyCardSaid : Prop := Claim7.holds Tryd.pinned (.plain (OpenSpec.ofChange bootManySpec)) bootManyCard

/-- THE TIED CARD OF 'pennantlaw09.BootSlots'. -/
def bootSlotsCard : Claim7 := { stood := { row := bootSlotsRow, standIns := [], harness := (true, "59c3065e9d6ba35d4f7bc742b73efed3c251566acd227231c291b064e543bd3f"), looks := false }, kinds := [], alts := [], laidByText := true, laidKinds := [.data], laidTests := true, laidLooks := .later }
def BootSlotsCardSaid : Prop := Claim7.holds Tryd.pinned (.plain (OpenSpec.ofChange bootSlotsSpec)) bootSlotsCard

/-- THE SECOND FORM's CARD OF 'pennantlaw09.BootNext'. -/
def bootNextUptoCard : Claim7 := { stood := { row := bootNextUptoRow, standIns := [], harness := (true, "59c3065e9d6ba35d4f7bc742b73efed3c251566acd227231c291b064e543bd3f"), looks := false }, kinds := [], alts := [], laidByText := true, laidKinds := [.data], laidTests := true, laidLooks := .later }
def BootNextUptoCardSaid : Prop := Claim7.holds Tryd.pinned (.plain (OpenSpec.upto bootNextSpec)) bootNextUptoCard

/-- THE SECOND FORM's CARD OF 'pennantlaw09.BootScripts'. -/
def bootScriptsUptoCard : Claim7 := { stood := { row := bootScriptsUptoRow, standIns := [], harness := (true, "59c3065e9d6ba35d4f7bc742b73efed3c251566acd227231c291b064e543bd3f"), looks := false }, kinds := [], alts := [], laidByText := true, laidKinds := [.data], laidTests := true, laidLooks := .later }
def BootScriptsUptoCardSaid : Prop := Claim7.holds Tryd.pinned (.plain (OpenSpec.upto bootScriptsSpec)) bootScriptsUptoCard

/-- THE SECOND FORM's CARD OF 'pennantlaw09.BootLasts'. -/
def bootLastsUptoCard : Claim7 := { stood := { row := bootLastsUptoRow, standIns := [], harness := (true, "59c3065e9d6ba35d4f7bc742b73efed3c251566acd227231c291b064e543bd3f"), looks := false }, kinds := [], alts := [], laidByText := true, laidKinds := [.data], laidTests := true, laidLooks := .later }
def BootLastsUptoCardSaid : Prop := Claim7.holds Tryd.pinned (.plain (OpenSpec.upto bootLastsSpec)) bootLastsUptoCard

/-- THE SECOND FORM's CARD OF 'pennantlaw09.BootTries'. -/
def bootTriesUptoCard : Claim7 := { stood := { row := bootTriesUptoRow, standIns := [], harness := (true, "59c3065e9d6ba35d4f7bc742b73efed3c251566acd227231c291b064e543bd3f"), looks := false }, kinds := [], alts := [], laidByText := true, laidKinds := [.data], laidTests := true, laidLooks := .later }
def BootTriesUptoCardSaid : Prop := Claim7.holds Tryd.pinned (.plain (OpenSpec.upto bootTriesSpec)) bootTriesUptoCard

/-- THE SECOND FORM's CARD OF 'pennantlaw09.BootMany'. -/
def bootManyUptoCard : Claim7 := { stood := { row := bootManyUptoRow, standIns := [], harness := (true, "59c3065e9d6ba35d4f7bc742b73efed3c251566acd227231c291b064e543bd3f"), looks := false }, kinds := [], alts := [], laidByText := true, laidKinds := [.data], laidTests := true, laidLooks := .later }
def BootManyUptoCardSaid : Prop := Claim7.holds Tryd.pinned (.plain (OpenSpec.upto bootManySpec)) bootManyUptoCard

/-- THE SECOND FORM's CARD OF 'pennantlaw09.BootSlots'. -/
def bootSlotsUptoCard : Claim7 := { stood := { row := bootSlotsUptoRow, standIns := [], harness := (true, "59c3065e9d6ba35d4f7bc742b73efed3c251566acd227231c291b064e543bd3f"), looks := false }, kinds := [], alts := [], laidByText := true, laidKinds := [.data], laidTests := true, laidLooks := .later }
def BootSlotsUptoCardSaid : Prop := Claim7.holds Tryd.pinned (.plain (OpenSpec.upto bootSlotsSpec)) bootSlotsUptoCard
end Rows
end Go.Proofs.YtlnekjilafcojaaDoor
