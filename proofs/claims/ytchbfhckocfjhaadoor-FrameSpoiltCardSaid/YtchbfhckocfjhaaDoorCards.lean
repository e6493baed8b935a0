/-
  DERIVED. GIVEN WITH THE SEED: THE CARDS: each row of YtchbfhckocfjhaaDoorRows.lean that lists a variable, with what it lists TIED to the program's text (the seventh form; the later family's looks); each row that meets fmt, with fmt's text TOLD by the authors' own Lean function (tested against real Go, not proved from fmt's source: count such statements apart). THE CARD IS WHAT COUNTS. Prove the row's statement (the work); the ties are given (YtchbfhckocfjhaaDoorTie.lean); close each card by the builder's one call (the guide's Derived/Test/ToyasCard.lean, 'card_holds'). Laid BY PROGRAM, IN A SANDBOX (cutbox-door.mjs). By AI agents, Wed Nov 11 2026. No macro, syntax, notation, axiom, sorry.
-/
import Derived.Test.YtchbfhckocfjhaaDoorRows
import GoSem.ClaimSeven
namespace Go.Proofs.YtchbfhckocfjhaaDoor
namespace Rows

/-- THE TIED CARD OF 'pennantlaw04.FramePuts'. -/
def framePutsCard : Claim7 := { stood := { row := framePutsRow, standIns := [], harness := (true, "82f6b5619560e7869b6ab38ec3a3d64f73ac6480fe164cbf2cc3687c6a30a1c9"), looks := false }, kinds := [], alts := [], laidByText := true, laidKinds := [.data], laidTests := true, laidLooks := .later }
def FramePutsCardSaid : Prop := Claim7.holds Tryd.pinned (.plain (OpenSpec.ofChange framePutsSpec)) framePutsCard

/-- THE TIED CARD OF 'pennantlaw04.FrameReads'. -/
def frameReadsCard : Claim7 := { stood := { row := frameReadsRow, standIns := [], harness := (true, "82f6b5619560e7869b6ab38ec3a3d64f73ac6480fe164cbf2cc3687c6a30a1c9"), looks := false }, kinds := [], alts := [], laidByText := true, laidKinds := [.data], laidTests := true, laidLooks := .later }
def FrameReadsCardSaid : Prop := Claim7.holds Tryd.pinned (.plain (OpenSpec.ofChange frameReadsSpec)) frameReadsCard

/-- THE TIED CARD OF 'pennantlaw04.FrameTold'. -/
def frameToldCard : Claim7 := { stood := { row := frameToldRow, standIns := [], harness := (true, "82f6b5619560e7869b6ab38ec3a3d64f73ac6480fe164cbf2cc3687c6a30a1c9"), looks := false }, kinds := [], alts := [], laidByText := true, laidKinds := [.data], laidTests := true, laidLooks := .later }
def FrameToldCardSaid : Prop := Claim7.holds Tryd.pinned (.plain (OpenSpec.ofChange frameToldSpec)) frameToldCard

/-- THE TIED CARD OF 'pennantlaw04.FrameSpoilt'. -/
def frameSpoiltCard : Claim7 := { stood := { row := frameSpoiltRow, standIns := [], harness := (true, "82f6b5619560e7869b6ab38ec3a3d64f73ac6480fe164cbf2cc3687c6a30a1c9"), looks := false }, kinds := [], alts := [], laidByText := true, laidKinds := [.data], laidTests := true, laidLooks := .later }
def FrameSpoiltCardSaid : Prop := Claim7.holds Tryd.pinned (.plain (OpenSpec.ofChange frameSpoiltSpec)) frameSpoiltCard

/-- THE SECOND FORM's CARD OF 'pennantlaw04.FramePuts'. -/
def framePutsUptoCard : Claim7 := { stood := { row := framePutsUptoRow, standIns := [], harness := (true, "82f6b5619560e7869b6ab38ec3a3d64f73ac6480fe164cbf2cc3687c6a30a1c9"), looks := false }, kinds := [], alts := [], laidByText := true, laidKinds := [.data], laidTests := true, laidLooks := .later }
def FramePutsUptoCardSaid : Prop := Claim7.holds Tryd.pinned (.plain (OpenSpec.upto framePutsSpec)) framePutsUptoCard

/-- THE SECOND FORM's CARD OF 'pennantlaw04.FrameReads'. -/
def frameReadsUptoCard : Claim7 := { stood := { row := frameReadsUptoRow, standIns := [], harness := (true, "82f6b5619560e7869b6ab38ec3a3d64f73ac6480fe164cbf2cc3687c6a30a1c9"), looks := false }, kinds := [], alts := [], laidByText := true, laidKinds := [.data], laidTests := true, laidLooks := .later }
def FrameReadsUptoCardSaid : Prop := Claim7.holds Tryd.pinned (.plain (OpenSpec.upto frameReadsSpec)) frameReadsUptoCard

/-- THE SECOND FORM's CARD OF 'pennantlaw04.FrameTold'. -/
def frameToldUptoCard : Claim7 := { stood := { row := frameToldUptoRow, standIns := [], harness := (true, "82f6b5619560e7869b6ab38ec3a3d64f73ac6480fe164cbf2cc3687c6a30a1c9"), looks := false }, kinds := [], alts := [], laidByText := true, laidKinds := [.data], laidTests := true, laidLooks := .later }
def FrameToldUptoCardSaid : Prop := Claim7.holds Tryd.pinned (.plain (OpenSpec.upto frameToldSpec)) frameToldUptoCard

/-- THE SECOND FORM's CARD OF 'pennantlaw04.FrameSpoilt'. -/
def frameSpoiltUptoCard : Claim7 := { stood := { row := frameSpoiltUptoRow, standIns := [], harness := (true, "82f6b5619560e7869b6ab38ec3a3d64f73ac6480fe164cbf2cc3687c6a30a1c9"), looks := false }, kinds := [], alts := [], laidByText := true, laidKinds := [.data], laidTests := true, laidLooks := .later }
def FrameSpoiltUptoCardSaid : Prop := Claim7.holds Tryd.pinned (.plain (OpenSpec.upto frameSpoiltSpec)) frameSpoiltUptoCard
end Rows
end Go.Proofs.YtchbfhckocfjhaaDoor
