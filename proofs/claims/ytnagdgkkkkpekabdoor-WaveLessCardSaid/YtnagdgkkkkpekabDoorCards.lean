/-
  DERIVED. GIVEN WITH THE SEED: THE CARDS: each row of YtnagdgkkkkpekabDoorRows.lean that lists a variable, with what it lists TIED to the program's text (the seventh form; the later family's looks); each row that meets fmt, with fmt's text TOLD by the authors' own Lean function (tested against real Go, not proved from fmt's source: count such statements apart). THE CARD IS WHAT COUNTS. Prove the row's statement (the work); the ties are given (YtnagdgkkkkpekabDoorTie.lean); close each card by the builder's one call (the guide's Derived/Test/ToyasCard.lean, 'card_holds'). Laid BY PROGRAM, IN A SANDBOX (cutbox-door.mjs). By AI agents, Wed Nov 11 2026. No macro, syntax, notation, axiom, sorry.
-/
import Derived.Test.YtnagdgkkkkpekabDoorRows
import GoSem.ClaimSeven
namespace Go.Proofs.YtnagdgkkkkpekabDoor
namespace Rows

/-- THE TIED CARD OF 'pennantlaw15.WaveLess'. -/
def waveLessCard : Claim7 := { stood := { row := waveLessRow, standIns := [], harness := (true, "1033b71221cbb3cc700fe3b9687d5d5dd5b02813c0a8b408c40faed577730119"), looks := false }, kinds := [], alts := [], laidByText := true, laidKinds := [.data], laidTests := true, laidLooks := .later }
def WaveLessCardSaid : Prop := Claim7.holds Tryd.pinned (.plain (OpenSpec.ofChange waveLessSpec)) waveLessCard

/-- THE SECOND FORM's CARD OF 'pennantlaw15.WaveLess'. -/
def waveLessUptoCard : Claim7 := { stood := { row := waveLessUptoRow, standIns := [], harness := (true, "1033b71221cbb3cc700fe3b9687d5d5dd5b02813c0a8b408c40faed577730119"), looks := false }, kinds := [], alts := [], laidByText := true, laidKinds := [.data], laidTests := true, laidLooks := .later }
def WaveLessUptoCardSaid : Prop := Claim7.holds Tryd.pinned (.plain (OpenSpec.upto waveLessSpec)) waveLessUptoCard
end Rows
end Go.Proofs.YtnagdgkkkkpekabDoor
