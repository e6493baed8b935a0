/-
  NARROWER THAN 'FOR EVERY INPUT', by the rows' own cells (each row's printed sentence says how): ManifestMakes: laid · ManifestAsks: laid · ManifestCodes: laid · ManifestBack: laid · ManifestTurned: laid · ManifestVersions: laid.
  DERIVED. THE GIVEN ROWS OF THIS SEAT. 6 by the template 'for every input the law returns true; each argument reads behind the call as it read before'; 0 by the template 'total and deterministic' (their statements: YthophonofaaafaaDoorTotals.lean).
  GIVEN WITH THE SEED: the statements are not yours to turn. If you find one false, say at which input.
  Laid BY PROGRAM, IN A SANDBOX (cutbox-rows.mjs): the forced cells as the released guide's own fill.sh prints them over the translation 013da153cd06e807… (all of the seat's roots in one cut). By AI agents, Wed Nov 11 2026. No macro, syntax, notation, axiom, sorry.
-/
import Derived.Test.YthophonofaaafaaDoorChecked
import GoSem.Claim
import GoSem.ClaimJoined
import GoSem.ClaimMapViews
import Derived.JoinedTies
import Derived.KernelRfl
namespace Go.Proofs.YthophonofaaafaaDoor
/- THE CELL 'sum', in the pinned program and in every row, IS THE sha256 OF THE DUMP (.gsa) THAT YthophonofaaafaaDoorProg.lean LOADS. Nothing in Lean hashes anything: it is a label: what it is worth is what the hold of that sum in a sandbox is worth. -/
noncomputable def Tryd.pinned : Pinned := { name := "ythophonofaaafaadoor", sum := "013da153cd06e807f9025856a8c195fcc4c8fe23180dc1c224001619b505d140", checked := Tryd.checked }
namespace Rows
def none {H : Type} : Left H := { results := [], args := [] }

/- WHAT THE LISTED PACKAGE-LEVEL VARIABLES READ AS WHEN THE CALL BEGINS. Each datum BY PROGRAM (the guide's laid-datum.mjs) off the statement by which the dump's own 'gosem.cut.vars' lays the variable. In a bare row this is a premise. The card (YthophonofaaafaaDoorCards.lean) ties it to the program's text. -/
def laid_pennant_sha_firstWords {H : Type} : DataW H := .agg [.lit (.int .u32 1779033703), .lit (.int .u32 3144134277), .lit (.int .u32 1013904242), .lit (.int .u32 2773480762), .lit (.int .u32 1359893119), .lit (.int .u32 2600822924), .lit (.int .u32 528734635), .lit (.int .u32 1541459225)]
def laid_pennant_sha_roundWords {H : Type} : DataW H := .agg [.lit (.int .u32 1116352408), .lit (.int .u32 1899447441), .lit (.int .u32 3049323471), .lit (.int .u32 3921009573), .lit (.int .u32 961987163), .lit (.int .u32 1508970993), .lit (.int .u32 2453635748), .lit (.int .u32 2870763221), .lit (.int .u32 3624381080), .lit (.int .u32 310598401), .lit (.int .u32 607225278), .lit (.int .u32 1426881987), .lit (.int .u32 1925078388), .lit (.int .u32 2162078206), .lit (.int .u32 2614888103), .lit (.int .u32 3248222580), .lit (.int .u32 3835390401), .lit (.int .u32 4022224774), .lit (.int .u32 264347078), .lit (.int .u32 604807628), .lit (.int .u32 770255983), .lit (.int .u32 1249150122), .lit (.int .u32 1555081692), .lit (.int .u32 1996064986), .lit (.int .u32 2554220882), .lit (.int .u32 2821834349), .lit (.int .u32 2952996808), .lit (.int .u32 3210313671), .lit (.int .u32 3336571891), .lit (.int .u32 3584528711), .lit (.int .u32 113926993), .lit (.int .u32 338241895), .lit (.int .u32 666307205), .lit (.int .u32 773529912), .lit (.int .u32 1294757372), .lit (.int .u32 1396182291), .lit (.int .u32 1695183700), .lit (.int .u32 1986661051), .lit (.int .u32 2177026350), .lit (.int .u32 2456956037), .lit (.int .u32 2730485921), .lit (.int .u32 2820302411), .lit (.int .u32 3259730800), .lit (.int .u32 3345764771), .lit (.int .u32 3516065817), .lit (.int .u32 3600352804), .lit (.int .u32 4094571909), .lit (.int .u32 275423344), .lit (.int .u32 430227734), .lit (.int .u32 506948616), .lit (.int .u32 659060556), .lit (.int .u32 883997877), .lit (.int .u32 958139571), .lit (.int .u32 1322822218), .lit (.int .u32 1537002063), .lit (.int .u32 1747873779), .lit (.int .u32 1955562222), .lit (.int .u32 2024104815), .lit (.int .u32 2227730452), .lit (.int .u32 2361852424), .lit (.int .u32 2428436474), .lit (.int .u32 2756734187), .lit (.int .u32 3204031479), .lit (.int .u32 3329325298)]
def laid_pennant_crc_fourBits {H : Type} : DataW H := .agg [.lit (.int .u32 0), .lit (.int .u32 8801531), .lit (.int .u32 9098509), .lit (.int .u32 825846), .lit (.int .u32 9692897), .lit (.int .u32 1419802), .lit (.int .u32 1651692), .lit (.int .u32 10452759), .lit (.int .u32 10584377), .lit (.int .u32 2608578), .lit (.int .u32 2839604), .lit (.int .u32 11344079), .lit (.int .u32 3303384), .lit (.int .u32 11807523), .lit (.int .u32 12104405), .lit (.int .u32 4128302)]

/-- 'pennantlaw10.ManifestMakes': WHATEVER THE INPUT: true; the input reads as it did. -/
def manifestMakesSpec : ChangeSpec := { name := "manifestMakes", fn := fun _ => fun
  | [d1, d2, d3] => { results := [.lit (.bool true)], args := [d1, d2, d3] }
  | _ => none }
def manifestMakesRow : OpenClaim := { program := "ythophonofaaafaadoor", sum := "013da153cd06e807f9025856a8c195fcc4c8fe23180dc1c224001619b505d140", func := "pennant/pennantlaw10.ManifestMakes", spec := "manifestMakes", unfollowed := true, recurses := true, named := ["pennant/sha.firstWords", "pennant/sha.roundWords", "pennant/crc.fourBits"], apart := false, laid := [("pennant/sha.firstWords", laid_pennant_sha_firstWords), ("pennant/sha.roundWords", laid_pennant_sha_roundWords), ("pennant/crc.fourBits", laid_pennant_crc_fourBits)] }
def ManifestMakesSaid : Prop := manifestMakesRow.holds Tryd.pinned (OpenSpec.ofChange manifestMakesSpec)

/-- ITS FALSE NEIGHBOUR: 'it returns false'. Refute it at one input. -/
def manifestMakesWrong : ChangeSpec := { name := "manifestMakes", fn := fun _ => fun
  | [d1, d2, d3] => { results := [.lit (.bool false)], args := [d1, d2, d3] }
  | _ => none }
def ManifestMakesWrongFalsely : Prop := manifestMakesRow.holds Tryd.pinned (OpenSpec.ofChange manifestMakesWrong)

/-- 'pennantlaw10.ManifestAsks': WHATEVER THE INPUT: true; the input reads as it did. -/
def manifestAsksSpec : ChangeSpec := { name := "manifestAsks", fn := fun _ => fun
  | [d1, d2, d3] => { results := [.lit (.bool true)], args := [d1, d2, d3] }
  | _ => none }
def manifestAsksRow : OpenClaim := { program := "ythophonofaaafaadoor", sum := "013da153cd06e807f9025856a8c195fcc4c8fe23180dc1c224001619b505d140", func := "pennant/pennantlaw10.ManifestAsks", spec := "manifestAsks", unfollowed := true, recurses := true, named := ["pennant/sha.firstWords", "pennant/sha.roundWords", "pennant/crc.fourBits"], apart := false, laid := [("pennant/sha.firstWords", laid_pennant_sha_firstWords), ("pennant/sha.roundWords", laid_pennant_sha_roundWords), ("pennant/crc.fourBits", laid_pennant_crc_fourBits)] }
def ManifestAsksSaid : Prop := manifestAsksRow.holds Tryd.pinned (OpenSpec.ofChange manifestAsksSpec)

/-- ITS FALSE NEIGHBOUR: 'it returns false'. Refute it at one input. -/
def manifestAsksWrong : ChangeSpec := { name := "manifestAsks", fn := fun _ => fun
  | [d1, d2, d3] => { results := [.lit (.bool false)], args := [d1, d2, d3] }
  | _ => none }
def ManifestAsksWrongFalsely : Prop := manifestAsksRow.holds Tryd.pinned (OpenSpec.ofChange manifestAsksWrong)

/-- 'pennantlaw10.ManifestCodes': WHATEVER THE INPUT: true; the input reads as it did. -/
def manifestCodesSpec : ChangeSpec := { name := "manifestCodes", fn := fun _ => fun
  | [d1, d2] => { results := [.lit (.bool true)], args := [d1, d2] }
  | _ => none }
def manifestCodesRow : OpenClaim := { program := "ythophonofaaafaadoor", sum := "013da153cd06e807f9025856a8c195fcc4c8fe23180dc1c224001619b505d140", func := "pennant/pennantlaw10.ManifestCodes", spec := "manifestCodes", unfollowed := true, recurses := true, named := ["pennant/sha.firstWords", "pennant/sha.roundWords", "pennant/crc.fourBits"], apart := false, laid := [("pennant/sha.firstWords", laid_pennant_sha_firstWords), ("pennant/sha.roundWords", laid_pennant_sha_roundWords), ("pennant/crc.fourBits", laid_pennant_crc_fourBits)] }
def ManifestCodesSaid : Prop := manifestCodesRow.holds Tryd.pinned (OpenSpec.ofChange manifestCodesSpec)

/-- ITS FALSE NEIGHBOUR: 'it returns false'. Refute it at one input. -/
def manifestCodesWrong : ChangeSpec := { name := "manifestCodes", fn := fun _ => fun
  | [d1, d2] => { results := [.lit (.bool false)], args := [d1, d2] }
  | _ => none }
def ManifestCodesWrongFalsely : Prop := manifestCodesRow.holds Tryd.pinned (OpenSpec.ofChange manifestCodesWrong)

/-- 'pennantlaw10.ManifestBack': WHATEVER THE INPUT: true; the input reads as it did. -/
def manifestBackSpec : ChangeSpec := { name := "manifestBack", fn := fun _ => fun
  | [d1, d2, d3] => { results := [.lit (.bool true)], args := [d1, d2, d3] }
  | _ => none }
def manifestBackRow : OpenClaim := { program := "ythophonofaaafaadoor", sum := "013da153cd06e807f9025856a8c195fcc4c8fe23180dc1c224001619b505d140", func := "pennant/pennantlaw10.ManifestBack", spec := "manifestBack", unfollowed := true, recurses := true, named := ["pennant/sha.firstWords", "pennant/sha.roundWords", "pennant/crc.fourBits"], apart := false, laid := [("pennant/sha.firstWords", laid_pennant_sha_firstWords), ("pennant/sha.roundWords", laid_pennant_sha_roundWords), ("pennant/crc.fourBits", laid_pennant_crc_fourBits)] }
def ManifestBackSaid : Prop := manifestBackRow.holds Tryd.pinned (OpenSpec.ofChange manifestBackSpec)

/-- ITS FALSE NEIGHBOUR: 'it returns false'. Refute it at one input. -/
def manifestBackWrong : ChangeSpec := { name := "manifestBack", fn := fun _ => fun
  | [d1, d2, d3] => { results := [.lit (.bool false)], args := [d1, d2, d3] }
  | _ => none }
def ManifestBackWrongFalsely : Prop := manifestBackRow.holds Tryd.pinned (OpenSpec.ofChange manifestBackWrong)

/-- 'pennantlaw10.ManifestTurned': WHATEVER THE INPUT: true; the input reads as it did. -/
def manifestTurnedSpec : ChangeSpec := { name := "manifestTurned", fn := fun _ => fun
  | [d1, d2, d3] => { results := [.lit (.bool true)], args := [d1, d2, d3] }
  | _ => none }
def manifestTurnedRow : OpenClaim := { program := "ythophonofaaafaadoor", sum := "013da153cd06e807f9025856a8c195fcc4c8fe23180dc1c224001619b505d140", func := "pennant/pennantlaw10.ManifestTurned", spec := "manifestTurned", unfollowed := true, recurses := true, named := ["pennant/sha.firstWords", "pennant/sha.roundWords", "pennant/crc.fourBits"], apart := false, laid := [("pennant/sha.firstWords", laid_pennant_sha_firstWords), ("pennant/sha.roundWords", laid_pennant_sha_roundWords), ("pennant/crc.fourBits", laid_pennant_crc_fourBits)] }
def ManifestTurnedSaid : Prop := manifestTurnedRow.holds Tryd.pinned (OpenSpec.ofChange manifestTurnedSpec)

/-- ITS FALSE NEIGHBOUR: 'it returns false'. Refute it at one input. -/
def manifestTurnedWrong : ChangeSpec := { name := "manifestTurned", fn := fun _ => fun
  | [d1, d2, d3] => { results := [.lit (.bool false)], args := [d1, d2, d3] }
  | _ => none }
def ManifestTurnedWrongFalsely : Prop := manifestTurnedRow.holds Tryd.pinned (OpenSpec.ofChange manifestTurnedWrong)

/-- 'pennantlaw10.ManifestVersions': WHATEVER THE INPUT: true; the input reads as it did. -/
def manifestVersionsSpec : ChangeSpec := { name := "manifestVersions", fn := fun _ => fun
  | [d1, d2, d3] => { results := [.lit (.bool true)], args := [d1, d2, d3] }
  | _ => none }
def manifestVersionsRow : OpenClaim := { program := "ythophonofaaafaadoor", sum := "013da153cd06e807f9025856a8c195fcc4c8fe23180dc1c224001619b505d140", func := "pennant/pennantlaw10.ManifestVersions", spec := "manifestVersions", unfollowed := true, recurses := true, named := ["pennant/sha.firstWords", "pennant/sha.roundWords", "pennant/crc.fourBits"], apart := false, laid := [("pennant/sha.firstWords", laid_pennant_sha_firstWords), ("pennant/sha.roundWords", laid_pennant_sha_roundWords), ("pennant/crc.fourBits", laid_pennant_crc_fourBits)] }
def ManifestVersionsSaid : Prop := manifestVersionsRow.holds Tryd.pinned (OpenSpec.ofChange manifestVersionsSpec)

/-- ITS FALSE NEIGHBOUR: 'it returns false'. Refute it at one input. -/
def manifestVersionsWrong : ChangeSpec := { name := "manifestVersions", fn := fun _ => fun
  | [d1, d2, d3] => { results := [.lit (.bool false)], args := [d1, d2, d3] }
  | _ => none }
def ManifestVersionsWrongFalsely : Prop := manifestVersionsRow.holds Tryd.pinned (OpenSpec.ofChange manifestVersionsWrong)

/- THE SECOND FORM. 'bulk': how many values and letters a reading holds, each counted each time it is reached (what is shared counts as often as it is met; a slice's spare places count too). A statement '..UptoSaid' is the law's where the arguments, and the package variables that the reading takes, are together of bulk at most 1048576: NARROWER than '..Said'. Prove '..Said' where nothing that the law and all that it calls make is longer than what came in: it says more and counts as full. Else prove '..UptoSaid'. A law counts once. -/
mutual
def uptoBulk {H : Type} : DataW H → Nat
  | .lit (.string bytes) => bytes.length + 1
  | .lit _ => 1
  | .nil => 1
  | .ptr d => uptoBulk d + 1
  | .slice elems spare => uptoBulkAll elems + uptoBulkAll spare + 1
  | .agg parts => uptoBulkAll parts + 1
  | .iface _ d => uptoBulk d + 1
  | .map entries => uptoBulkEntries entries + 1
  | .held _ => 1
def uptoBulkAll {H : Type} : List (DataW H) → Nat
  | [] => 0
  | d :: r => uptoBulk d + uptoBulkAll r
def uptoBulkEntries {H : Type} : List (Lit × DataW H) → Nat
  | [] => 0
  | x :: r => uptoBulkEntry x + uptoBulkEntries r
def uptoBulkEntry {H : Type} : Lit × DataW H → Nat
  | (.string bytes, d) => bytes.length + uptoBulk d + 1
  | (_, d) => uptoBulk d + 1
 end
def uptoSmall : (H : Type) → List (DataW H) → Bool := fun _ ds => decide (uptoBulkAll ds ≤ 1048576)
def OpenSpec.upto (s : _root_.Go.ChangeSpec) : _root_.Go.OpenSpec := { _root_.Go.OpenSpec.ofChange s with cond := some uptoSmall }

/-- 'pennantlaw10.ManifestMakes', WHERE WHAT IT READS IS OF BULK AT MOST 1048576: true; the input reads as it did. -/
def manifestMakesUptoRow : OpenClaim := { program := "ythophonofaaafaadoor", sum := "013da153cd06e807f9025856a8c195fcc4c8fe23180dc1c224001619b505d140", func := "pennant/pennantlaw10.ManifestMakes", spec := "manifestMakes", unfollowed := true, recurses := true, named := ["pennant/sha.firstWords", "pennant/sha.roundWords", "pennant/crc.fourBits"], apart := false, laid := [("pennant/sha.firstWords", laid_pennant_sha_firstWords), ("pennant/sha.roundWords", laid_pennant_sha_roundWords), ("pennant/crc.fourBits", laid_pennant_crc_fourBits)], narrowed := true }
def ManifestMakesUptoSaid : Prop := manifestMakesUptoRow.holds Tryd.pinned (OpenSpec.upto manifestMakesSpec)

/-- 'pennantlaw10.ManifestAsks', WHERE WHAT IT READS IS OF BULK AT MOST 1048576: true; the input reads as it did. -/
def manifestAsksUptoRow : OpenClaim := { program := "ythophonofaaafaadoor", sum := "013da153cd06e807f9025856a8c195fcc4c8fe23180dc1c224001619b505d140", func := "pennant/pennantlaw10.ManifestAsks", spec := "manifestAsks", unfollowed := true, recurses := true, named := ["pennant/sha.firstWords", "pennant/sha.roundWords", "pennant/crc.fourBits"], apart := false, laid := [("pennant/sha.firstWords", laid_pennant_sha_firstWords), ("pennant/sha.roundWords", laid_pennant_sha_roundWords), ("pennant/crc.fourBits", laid_pennant_crc_fourBits)], narrowed := true }
def ManifestAsksUptoSaid : Prop := manifestAsksUptoRow.holds Tryd.pinned (OpenSpec.upto manifestAsksSpec)

/-- 'pennantlaw10.ManifestCodes', WHERE WHAT IT READS IS OF BULK AT MOST 1048576: true; the input reads as it did. -/
def manifestCodesUptoRow : OpenClaim := { program := "ythophonofaaafaadoor", sum := "013da153cd06e807f9025856a8c195fcc4c8fe23180dc1c224001619b505d140", func := "pennant/pennantlaw10.ManifestCodes", spec := "manifestCodes", unfollowed := true, recurses := true, named := ["pennant/sha.firstWords", "pennant/sha.roundWords", "pennant/crc.fourBits"], apart := false, laid := [("pennant/sha.firstWords", laid_pennant_sha_firstWords), ("pennant/sha.roundWords", laid_pennant_sha_roundWords), ("pennant/crc.fourBits", laid_pennant_crc_fourBits)], narrowed := true }
def ManifestCodesUptoSaid : Prop := manifestCodesUptoRow.holds Tryd.pinned (OpenSpec.upto manifestCodesSpec)

/-- 'pennantlaw10.ManifestBack', WHERE WHAT IT READS IS OF BULK AT MOST 1048576: true; the input reads as it did. -/
def manifestBackUptoRow : OpenClaim := { program := "ythophonofaaafaadoor", sum := "013da153cd06e807f9025856a8c195fcc4c8fe23180dc1c224001619b505d140", func := "pennant/pennantlaw10.ManifestBack", spec := "manifestBack", unfollowed := true, recurses := true, named := ["pennant/sha.firstWords", "pennant/sha.roundWords", "pennant/crc.fourBits"], apart := false, laid := [("pennant/sha.firstWords", laid_pennant_sha_firstWords), ("pennant/sha.roundWords", laid_pennant_sha_roundWords), ("pennant/crc.fourBits", laid_pennant_crc_fourBits)], narrowed := true }
def ManifestBackUptoSaid : Prop := manifestBackUptoRow.holds Tryd.pinned (OpenSpec.upto manifestBackSpec)

/-- 'pennantlaw10.ManifestTurned', WHERE WHAT IT READS IS OF BULK AT MOST 1048576: true; the input reads as it did. -/
def manifestTurnedUptoRow : OpenClaim := { program := "ythophonofaaafaadoor", sum := "013da153cd06e807f9025856a8c195fcc4c8fe23180dc1c224001619b505d140", func := "pennant/pennantlaw10.ManifestTurned", spec := "manifestTurned", unfollowed := true, recurses := true, named := ["pennant/sha.firstWords", "pennant/sha.roundWords", "pennant/crc.fourBits"], apart := false, laid := [("pennant/sha.firstWords", laid_pennant_sha_firstWords), ("pennant/sha.roundWords", laid_pennant_sha_roundWords), ("pennant/crc.fourBits", laid_pennant_crc_fourBits)], narrowed := true }
def ManifestTurnedUptoSaid : Prop := manifestTurnedUptoRow.holds Tryd.pinned (OpenSpec.upto manifestTurnedSpec)

/-- 'pennantlaw10.ManifestVersions', WHERE WHAT IT READS IS OF BULK AT MOST 1048576: true; the input reads as it did. -/
def manifestVersionsUptoRow : OpenClaim := { program := "ythophonofaaafaadoor", sum := "013da153cd06e807f9025856a8c195fcc4c8fe23180dc1c224001619b505d140", func := "pennant/pennantlaw10.ManifestVersions", spec := "manifestVersions", unfollowed := true, recurses := true, named := ["pennant/sha.firstWords", "pennant/sha.roundWords", "pennant/crc.fourBits"], apart := false, laid := [("pennant/sha.firstWords", laid_pennant_sha_firstWords), ("pennant/sha.roundWords", laid_pennant_sha_roundWords), ("pennant/crc.fourBits", laid_pennant_crc_fourBits)], narrowed := true }
def ManifestVersionsUptoSaid : Prop := manifestVersionsUptoRow.holds Tryd.pinned (OpenSpec.upto manifestVersionsSpec)

end Rows
end Go.Proofs.YthophonofaaafaaDoor
