/-
  NARROWER THAN 'FOR EVERY INPUT', by the rows' own cells (each row's printed sentence says how): BootScripts: laid · BootGenerations: laid.
  DERIVED. THE GIVEN ROWS OF THIS SEAT. 2 by the template 'for every input the law returns true; each argument reads behind the call as it read before'; 0 by the template 'total and deterministic' (their statements: YtbdhkkdombdnkaaDoorTotals.lean).
  GIVEN WITH THE SEED: the statements are not yours to turn. If you find one false, say at which input.
  Laid BY PROGRAM, IN A SANDBOX (cutbox-rows.mjs): the forced cells as the released guide's own fill.sh prints them over the translation d5a16446680878d5… (all of the seat's roots in one cut). By AI agents, Wed Nov 11 2026. No macro, syntax, notation, axiom, sorry.
-/
import Derived.Test.YtbdhkkdombdnkaaDoorChecked
import GoSem.Claim
import GoSem.ClaimJoined
import GoSem.ClaimMapViews
import Derived.JoinedTies
import Derived.KernelRfl
namespace Go.Proofs.YtbdhkkdombdnkaaDoor
/- THE CELL 'sum', in the pinned program and in every row, IS THE sha256 OF THE DUMP (.gsa) THAT YtbdhkkdombdnkaaDoorProg.lean LOADS. Nothing in Lean hashes anything: it is a label: what it is worth is what the hold of that sum in a sandbox is worth. -/
noncomputable def Tryd.pinned : Pinned := { name := "ytbdhkkdombdnkaadoor", sum := "d5a16446680878d5c0373b3e7234ba9ce46a95b4f4d6797083301707411a2364", checked := Tryd.checked }
namespace Rows
def none {H : Type} : Left H := { results := [], args := [] }

/- WHAT THE LISTED PACKAGE-LEVEL VARIABLES READ AS WHEN THE CALL BEGINS. Each datum BY PROGRAM (the guide's laid-datum.mjs) off the statement by which the dump's own 'gosem.cut.vars' lays the variable. In a bare row this is a premise. The card (YtbdhkkdombdnkaaDoorCards.lean) ties it to the program's text. -/
def laid_pennant_crc_fourBits {H : Type} : DataW H := .agg [.lit (.int .u32 0), .lit (.int .u32 8801531), .lit (.int .u32 9098509), .lit (.int .u32 825846), .lit (.int .u32 9692897), .lit (.int .u32 1419802), .lit (.int .u32 1651692), .lit (.int .u32 10452759), .lit (.int .u32 10584377), .lit (.int .u32 2608578), .lit (.int .u32 2839604), .lit (.int .u32 11344079), .lit (.int .u32 3303384), .lit (.int .u32 11807523), .lit (.int .u32 12104405), .lit (.int .u32 4128302)]

/-- 'pennantlaw09.BootScripts': WHATEVER THE INPUT: true; the input reads as it did. -/
def bootScriptsSpec : ChangeSpec := { name := "bootScripts", fn := fun _ => fun
  | [d1, d2, d3] => { results := [.lit (.bool true)], args := [d1, d2, d3] }
  | _ => none }
def bootScriptsRow : OpenClaim := { program := "ytbdhkkdombdnkaadoor", sum := "d5a16446680878d5c0373b3e7234ba9ce46a95b4f4d6797083301707411a2364", func := "pennant/pennantlaw09.BootScripts", spec := "bootScripts", inPlace := ["internal/bytealg.MakeNoZero"], unfollowed := true, recurses := true, named := ["pennant/crc.fourBits"], apart := false, laid := [("pennant/crc.fourBits", laid_pennant_crc_fourBits)] }
def BootScriptsSaid : Prop := bootScriptsRow.holds Tryd.pinned (OpenSpec.ofChange bootScriptsSpec)

/-- ITS FALSE NEIGHBOUR: 'it returns false'. Refute it at one input. -/
def bootScriptsWrong : ChangeSpec := { name := "bootScripts", fn := fun _ => fun
  | [d1, d2, d3] => { results := [.lit (.bool false)], args := [d1, d2, d3] }
  | _ => none }
def BootScriptsWrongFalsely : Prop := bootScriptsRow.holds Tryd.pinned (OpenSpec.ofChange bootScriptsWrong)

/-- 'pennantlaw09.BootGenerations': WHATEVER THE INPUT: true; the input reads as it did. -/
def bootGenerationsSpec : ChangeSpec := { name := "bootGenerations", fn := fun _ => fun
  | [d] => { results := [.lit (.bool true)], args := [d] }
  | _ => none }
def bootGenerationsRow : OpenClaim := { program := "ytbdhkkdombdnkaadoor", sum := "d5a16446680878d5c0373b3e7234ba9ce46a95b4f4d6797083301707411a2364", func := "pennant/pennantlaw09.BootGenerations", spec := "bootGenerations", inPlace := ["internal/bytealg.MakeNoZero"], unfollowed := true, recurses := true, named := ["pennant/crc.fourBits"], apart := false, laid := [("pennant/crc.fourBits", laid_pennant_crc_fourBits)] }
def BootGenerationsSaid : Prop := bootGenerationsRow.holds Tryd.pinned (OpenSpec.ofChange bootGenerationsSpec)

/-- ITS FALSE NEIGHBOUR: 'it returns false'. Refute it at one input. -/
def bootGenerationsWrong : ChangeSpec := { name := "bootGenerations", fn := fun _ => fun
  | [d] => { results := [.lit (.bool false)], args := [d] }
  | _ => none }
def BootGenerationsWrongFalsely : Prop := bootGenerationsRow.holds Tryd.pinned (OpenSpec.ofChange bootGenerationsWrong)

/- THE SECOND FORM. 'bulk': how many values and letters a reading holds, each counted each time it is reached (what is shared counts as often as it is met; a slice's spare places count too). A statement '..UptoSaid' is the law's where the arguments, and the package variables that the reading takes, are together of bulk at most 1048576: NARROWER than '..Said'. Prove '..Said' where nothing that the law and all that it calls make is longer than what came in: it says more and counts as full. Else prove '..UptoSaid'. A law counts once. -/
mutual
def uptoBulk {H : Type} : DataW H → Nat
  | .lit (.string bytes) => bytes.length + 1
  | .lit _ => 1
  | .nil => 1
  | .ptr d => uptoBulk d + 1
  | .slice elems spare => uptoBulkAll elems + uptoBulkAll spare + 1
  | .agg parts => uptoBulkAll parts + 1
  | .iface _ d => uptoBulk d + 1
  | .map entries => uptoBulkEntries entries + 1
  | .held _ => 1
def uptoBulkAll {H : Type} : List (DataW H) → Nat
  | [] => 0
  | d :: r => uptoBulk d + uptoBulkAll r
def uptoBulkEntries {H : Type} : List (Lit × DataW H) → Nat
  | [] => 0
  | x :: r => uptoBulkEntry x + uptoBulkEntries r
def uptoBulkEntry {H : Type} : Lit × DataW H → Nat
  | (.string bytes, d) => bytes.length + uptoBulk d + 1
  | (_, d) => uptoBulk d + 1
 end
def uptoSmall : (H : Type) → List (DataW H) → Bool := fun _ ds => decide (uptoBulkAll ds ≤ 1048576)
def OpenSpec.upto (s : _root_.Go.ChangeSpec) : _root_.Go.OpenSpec := { _root_.Go.OpenSpec.ofChange s with cond := some uptoSmall }

/-- 'pennantlaw09.BootScripts', WHERE WHAT IT READS IS OF BULK AT MOST 1048576: true; the input reads as it did. -/
def bootScriptsUptoRow : OpenClaim := { program := "ytbdhkkdombdnkaadoor", sum := "d5a16446680878d5c0373b3e7234ba9ce46a95b4f4d6797083301707411a2364", func := "pennant/pennantlaw09.BootScripts", spec := "bootScripts", inPlace := ["internal/bytealg.MakeNoZero"], unfollowed := true, recurses := true, named := ["pennant/crc.fourBits"], apart := false, laid := [("pennant/crc.fourBits", laid_pennant_crc_fourBits)], narrowed := true }
def BootScriptsUptoSaid : Prop := bootScriptsUptoRow.holds Tryd.pinned (OpenSpec.upto bootScriptsSpec)

/-- 'pennantlaw09.BootGenerations', WHERE WHAT IT READS IS OF BULK AT MOST 1048576: true; the input reads as it did. -/
def bootGenerationsUptoRow : OpenClaim := { program := "ytbdhkkdombdnkaadoor", sum := "d5a16446680878d5c0373b3e7234ba9ce46a95b4f4d6797083301707411a2364", func := "pennant/pennantlaw09.BootGenerations", spec := "bootGenerations", inPlace := ["internal/bytealg.MakeNoZero"], unfollowed := true, recurses := true, named := ["pennant/crc.fourBits"], apart := false, laid := [("pennant/crc.fourBits", laid_pennant_crc_fourBits)], narrowed := true }
def BootGenerationsUptoSaid : Prop := bootGenerationsUptoRow.holds Tryd.pinned (OpenSpec.upto bootGenerationsSpec)

end Rows
end Go.Proofs.YtbdhkkdombdnkaaDoor
