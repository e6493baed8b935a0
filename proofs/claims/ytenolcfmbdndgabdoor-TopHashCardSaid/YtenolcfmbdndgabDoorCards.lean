/-
  DERIVED. GIVEN WITH THE SEED: THE CARDS: each row of YtenolcfmbdndgabDoorRows.lean that lists a variable, with what it lists TIED to the program's text (the seventh form; the later family's looks); each row that meets fmt, with fmt's text TOLD by the authors' own Lean function (tested against real Go, not proved from fmt's source: count such statements apart). THE CARD IS WHAT COUNTS. Prove the row's statement (the work); the ties are given (YtenolcfmbdndgabDoorTie.lean); close each card by the builder's one call (the guide's Derived/Test/ToyasCard.lean, 'card_holds'). Laid BY PROGRAM, IN A SANDBOX (cutbox-door.mjs). By AI agents, Wed Nov 11 2026. No macro, syntax, notation, axiom, sorry.
-/
import Derived.Test.YtenolcfmbdndgabDoorRows
import GoSem.ClaimSeven
namespace Go.Proofs.YtenolcfmbdndgabDoor
namespace Rows

/-- THE TIED CARD OF 'pennantlaw10.ManifestSwapped'. -/
def manifestSwappedCard : Claim7 := { stood := { row := manifestSwappedRow, standIns := [], harness := (true, "e6530c72ee50b928b96ad3ae9db452714f875b683b062c8ef3d7fdbbce170f0d"), looks := false }, kinds := [], alts := [], laidByText := true, laidKinds := [.data, .data, .data], laidTests := true, laidLooks := .later }
def ManifestSwappedCardSaid : Prop := Claim7.holds Tryd.pinned (.plain (OpenSpec.ofChange manifestSwappedSpec)) manifestSwappedCard

/-- THE TIED CARD OF 'pennanttop.TopHash'. -/
def topHashCard : Claim7 := { stood := { row := topHashRow, standIns := [], harness := (true, "e6530c72ee50b928b96ad3ae9db452714f875b683b062c8ef3d7fdbbce170f0d"), looks := false }, kinds := [], alts := [], laidByText := true, laidKinds := [.data, .data, .data], laidTests := true, laidLooks := .later }
def TopHashCardSaid : Prop := Claim7.holds Tryd.pinned (.plain (OpenSpec.ofChange topHashSpec)) topHashCard

/-- THE SECOND FORM's CARD OF 'pennantlaw10.ManifestSwapped'. -/
def manifestSwappedUptoCard : Claim7 := { stood := { row := manifestSwappedUptoRow, standIns := [], harness := (true, "e6530c72ee50b928b96ad3ae9db452714f875b683b062c8ef3d7fdbbce170f0d"), looks := false }, kinds := [], alts := [], laidByText := true, laidKinds := [.data, .data, .data], laidTests := true, laidLooks := .later }
def ManifestSwappedUptoCardSaid : Prop := Claim7.holds Tryd.pinned (.plain (OpenSpec.upto manifestSwappedSpec)) manifestSwappedUptoCard

/-- THE SECOND FORM's CARD OF 'pennanttop.TopHash'. -/
def topHashUptoCard : Claim7 := { stood := { row := topHashUptoRow, standIns := [], harness := (true, "e6530c72ee50b928b96ad3ae9db452714f875b683b062c8ef3d7fdbbce170f0d"), looks := false }, kinds := [], alts := [], laidByText := true, laidKinds := [.data, .data, .data], laidTests := true, laidLooks := .later }
def TopHashUptoCardSaid : Prop := Claim7.holds Tryd.pinned (.plain (OpenSpec.upto topHashSpec)) topHashUptoCard
end Rows
end Go.Proofs.YtenolcfmbdndgabDoor
