/-
  DERIVED. GIVEN WITH THE SEED: THE CARDS: each row of YthophonofaaafaaDoorRows.lean that lists a variable, with what it lists TIED to the program's text (the seventh form; the later family's looks); each row that meets fmt, with fmt's text TOLD by the authors' own Lean function (tested against real Go, not proved from fmt's source: count such statements apart). THE CARD IS WHAT COUNTS. Prove the row's statement (the work); the ties are given (YthophonofaaafaaDoorTie.lean); close each card by the builder's one call (the guide's Derived/Test/ToyasCard.lean, 'card_holds'). Laid BY PROGRAM, IN A SANDBOX (cutbox-door.mjs). By AI agents, Wed Nov 11 2026. No macro, syntax, notation, axiom, sorry.
-/
import Derived.Test.YthophonofaaafaaDoorRows
import GoSem.ClaimSeven
namespace Go.Proofs.YthophonofaaafaaDoor
namespace Rows

/-- THE TIED CARD OF 'pennantlaw10.ManifestMakes'. -/
def manifestMakesCard : Claim7 := { stood := { row := manifestMakesRow, standIns := [], harness := (true, "71f24e2bf23b3da8772146007549339035066c3c24752df061cf54fbdacdabab"), looks := false }, kinds := [], alts := [], laidByText := true, laidKinds := [.data, .data, .data], laidTests := true, laidLooks := .later }
def ManifestMakesCardSaid : Prop := Claim7.holds Tryd.pinned (.plain (OpenSpec.ofChange manifestMakesSpec)) manifestMakesCard

/-- THE TIED CARD OF 'pennantlaw10.ManifestAsks'. -/
def manifestAsksCard : Claim7 := { stood := { row := manifestAsksRow, standIns := [], harness := (true, "71f24e2bf23b3da8772146007549339035066c3c24752df061cf54fbdacdabab"), looks := false }, kinds := [], alts := [], laidByText := true, laidKinds := [.data, .data, .data], laidTests := true, laidLooks := .later }
def ManifestAsksCardSaid : Prop := Claim7.holds Tryd.pinned (.plain (OpenSpec.ofChange manifestAsksSpec)) manifestAsksCard

/-- THE TIED CARD OF 'pennantlaw10.ManifestCodes'. -/
def manifestCodesCard : Claim7 := { stood := { row := manifestCodesRow, standIns := [], harness := (true, "71f24e2bf23b3da8772146007549339035066c3c24752df061cf54fbdacdabab"), looks := false }, kinds := [], alts := [], laidByText := true, laidKinds := [.data, .data, .data], laidTests := true, laidLooks := .later }
def ManifestCodesCardSaid : Prop := Claim7.holds Tryd.pinned (.plain (OpenSpec.ofChange manifestCodesSpec)) manifestCodesCard

/-- THE TIED CARD OF 'pennantlaw10.ManifestBack'. -/
def manifestBackCard : Claim7 := { stood := { row := manifestBackRow, standIns := [], harness := (true, "71f24e2bf23b3da8772146007549339035066c3c24752df061cf54fbdacdabab"), looks := false }, kinds := [], alts := [], laidByText := true, laidKinds := [.data, .data, .data], laidTests := true, laidLooks := .later }
def ManifestBackCardSaid : Prop := Claim7.holds Tryd.pinned (.plain (OpenSpec.ofChange manifestBackSpec)) manifestBackCard

/-- THE TIED CARD OF 'pennantlaw10.ManifestTurned'. -/
def manifestTurnedCard : Claim7 := { stood := { row := manifestTurnedRow, standIns := [], harness := (true, "71f24e2bf23b3da8772146007549339035066c3c24752df061cf54fbdacdabab"), looks := false }, kinds := [], alts := [], laidByText := true, laidKinds := [.data, .data, .data], laidTests := true, laidLooks := .later }
def ManifestTurnedCardSaid : Prop := Claim7.holds Tryd.pinned (.plain (OpenSpec.ofChange manifestTurnedSpec)) manifestTurnedCard

/-- THE TIED CARD OF 'pennantlaw10.ManifestVersions'. -/
def manifestVersionsCard : Claim7 := { stood := { row := manifestVersionsRow, standIns := [], harness := (true, "71f24e2bf23b3da8772146007549339035066c3c24752df061cf54fbdacdabab"), looks := false }, kinds := [], alts := [], laidByText := true, laidKinds := [.data, .data, .data], laidTests := true, laidLooks := .later }
def ManifestVersionsCardSaid : Prop := Claim7.holds Tryd.pinned (.plain (OpenSpec.ofChange manifestVersionsSpec)) manifestVersionsCard

/-- THE SECOND FORM's CARD OF 'pennantlaw10.ManifestMakes'. -/
def manifestMakesUptoCard : Claim7 := { stood := { row := manifestMakesUptoRow, standIns := [], harness := (true, "71f24e2bf23b3da8772146007549339035066c3c24752df061cf54fbdacdabab"), looks := false }, kinds := [], alts := [], laidByText := true, laidKinds := [.data, .data, .data], laidTests := true, laidLooks := .later }
def ManifestMakesUptoCardSaid : Prop := Claim7.holds Tryd.pinned (.plain (OpenSpec.upto manifestMakesSpec)) manifestMakesUptoCard

/-- THE SECOND FORM's CARD OF 'pennantlaw10.ManifestAsks'. -/
def manifestAsksUptoCard : Claim7 := { stood := { row := manifestAsksUptoRow, standIns := [], harness := (true, "71f24e2bf23b3da8772146007549339035066c3c24752df061cf54fbdacdabab"), looks := false }, kinds := [], alts := [], laidByText := true, laidKinds := [.data, .data, .data], laidTests := true, laidLooks := .later }
def ManifestAsksUptoCardSaid : Prop := Claim7.holds Tryd.pinned (.plain (OpenSpec.upto manifestAsksSpec)) manifestAsksUptoCard

/-- THE SECOND FORM's CARD OF 'pennantlaw10.ManifestCodes'. -/
def manifestCodesUptoCard : Claim7 := { stood := { row := manifestCodesUptoRow, standIns := [], harness := (true, "71f24e2bf23b3da8772146007549339035066c3c24752df061cf54fbdacdabab"), looks := false }, kinds := [], alts := [], laidByText := true, laidKinds := [.data, .data, .data], laidTests := true, laidLooks := .later }
def ManifestCodesUptoCardSaid : Prop := Claim7.holds Tryd.pinned (.plain (OpenSpec.upto manifestCodesSpec)) manifestCodesUptoCard

/-- THE SECOND FORM's CARD OF 'pennantlaw10.ManifestBack'. -/
def manifestBackUptoCard : Claim7 := { stood := { row := manifestBackUptoRow, standIns := [], harness := (true, "71f24e2bf23b3da8772146007549339035066c3c24752df061cf54fbdacdabab"), looks := false }, kinds := [], alts := [], laidByText := true, laidKinds := [.data, .data, .data], laidTests := true, laidLooks := .later }
def ManifestBackUptoCardSaid : Prop := Claim7.holds Tryd.pinned (.plain (OpenSpec.upto manifestBackSpec)) manifestBackUptoCard

/-- THE SECOND FORM's CARD OF 'pennantlaw10.ManifestTurned'. -/
def manifestTurnedUptoCard : Claim7 := { stood := { row := manifestTurnedUptoRow, standIns := [], harness := (true, "71f24e2bf23b3da8772146007549339035066c3c24752df061cf54fbdacdabab"), looks := false }, kinds := [], alts := [], laidByText := true, laidKinds := [.data, .data, .data], laidTests := true, laidLooks := .later }
def ManifestTurnedUptoCardSaid : Prop := Claim7.holds Tryd.pinned (.plain (OpenSpec.upto manifestTurnedSpec)) manifestTurnedUptoCard

/-- THE SECOND FORM's CARD OF 'pennantlaw10.ManifestVersions'. -/
def manifestVersionsUptoCard : Claim7 := { stood := { row := manifestVersionsUptoRow, standIns := [], harness := (true, "71f24e2bf23b3da8772146007549339035066c3c24752df061cf54fbdacdabab"), looks := false }, kinds := [], alts := [], laidByText := true, laidKinds := [.data, .data, .data], laidTests := true, laidLooks := .later }
def ManifestVersionsUptoCardSaid : Prop := Claim7.holds Tryd.pinned (.plain (OpenSpec.upto manifestVersionsSpec)) manifestVersionsUptoCard
end Rows
end Go.Proofs.YthophonofaaafaaDoor
