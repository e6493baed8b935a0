/-
  DERIVED. GIVEN WITH THE SEED: THE CARDS: each row of YtbdhkkdombdnkaaDoorRows.lean that lists a variable, with what it lists TIED to the program's text (the seventh form; the later family's looks); each row that meets fmt, with fmt's text TOLD by the authors' own Lean function (tested against real Go, not proved from fmt's source: count such statements apart). THE CARD IS WHAT COUNTS. Prove the row's statement (the work); the ties are given (YtbdhkkdombdnkaaDoorTie.lean); close each card by the builder's one call (the guide's Derived/Test/ToyasCard.lean, 'card_holds'). Laid BY PROGRAM, IN A SANDBOX (cutbox-door.mjs). By AI agents, Wed Nov 11 2026. No macro, syntax, notation, axiom, sorry.
-/
import Derived.Test.YtbdhkkdombdnkaaDoorRows
import GoSem.ClaimSeven
namespace Go.Proofs.YtbdhkkdombdnkaaDoor
namespace Rows

/-- THE TIED CARD OF 'pennantlaw09.BootScripts'. -/
def bootScriptsCard : Claim7 := { stood := { row := bootScriptsRow, standIns := [], harness := (true, "f33d63e3f5d7d5427a805651f7aeee333d32f934d067247e8d9a1215e635e82c"), looks := false }, kinds := [], alts := [], laidByText := true, laidKinds := [.data], laidTests := true, laidLooks := .later }
def BootScriptsCardSaid : Prop := Claim7.holds Tryd.pinned (.plain (OpenSpec.ofChange bootScriptsSpec)) bootScriptsCard

/-- THE TIED CARD OF 'pennantlaw09.BootGenerations'. -/
def bootGenerationsCard : Claim7 := { stood := { row := bootGenerationsRow, standIns := [], harness := (true, "f33d63e3f5d7d5427a805651f7aeee333d32f934d067247e8d9a1215e635e82c"), looks := false }, kinds := [], alts := [], laidByText := true, laidKinds := [.data], laidTests := true, laidLooks := .later }
def BootGenerationsCardSaid : Prop := Claim7.holds Tryd.pinned (.plain (OpenSpec.ofChange bootGenerationsSpec)) bootGenerationsCard

/-- THE SECOND FORM's CARD OF 'pennantlaw09.BootScripts'. -/
def bootScriptsUptoCard : Claim7 := { stood := { row := bootScriptsUptoRow, standIns := [], harness := (true, "f33d63e3f5d7d5427a805651f7aeee333d32f934d067247e8d9a1215e635e82c"), looks := false }, kinds := [], alts := [], laidByText := true, laidKinds := [.data], laidTests := true, laidLooks := .later }
def BootScriptsUptoCardSaid : Prop := Claim7.holds Tryd.pinned (.plain (OpenSpec.upto bootScriptsSpec)) bootScriptsUptoCard

/-- THE SECOND FORM's CARD OF 'pennantlaw09.BootGenerations'. -/
def bootGenerationsUptoCard : Claim7 := { stood := { row := bootGenerationsUptoRow, standIns := [], harness := (true, "f33d63e3f5d7d5427a805651f7aeee333d32f934d067247e8d9a1215e635e82c"), looks := false }, kinds := [], alts := [], laidByText := true, laidKinds := [.data], laidTests := true, laidLooks := .later }
def BootGenerationsUptoCardSaid : Prop := Claim7.holds Tryd.pinned (.plain (OpenSpec.upto bootGenerationsSpec)) bootGenerationsUptoCard
end Rows
end Go.Proofs.YtbdhkkdombdnkaaDoor
