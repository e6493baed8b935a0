/-
  NARROWER THAN 'FOR EVERY INPUT', by the rows' own cells (each row's printed sentence says how): BootNext: laid · BootScripts: laid · BootLasts: laid · BootTries: laid · BootMany: laid · BootSlots: laid.
  DERIVED. THE GIVEN ROWS OF THIS SEAT. 6 by the template 'for every input the law returns true; each argument reads behind the call as it read before'; 0 by the template 'total and deterministic' (their statements: YtlnekjilafcojaaDoorTotals.lean).
  GIVEN WITH THE SEED: the statements are not yours to turn. If you find one false, say at which input.
  Laid BY PROGRAM, IN A SANDBOX (cutbox-rows.mjs): the forced cells as the released guide's own fill.sh prints them over the translation d4eb3be7f9b452b1… (all of the seat's roots in one cut). By AI agents, Wed Nov 11 2026. No macro, syntax, notation, axiom, sorry.
-/
import Derived.Test.YtlnekjilafcojaaDoorChecked
import GoSem.Claim
import GoSem.ClaimJoined
import GoSem.ClaimMapViews
import Derived.JoinedTies
import Derived.KernelRfl
namespace Go.Proofs.YtlnekjilafcojaaDoor
/- THE CELL 'sum', in the pinned program and in every row, IS THE sha256 OF THE DUMP (.gsa) THAT YtlnekjilafcojaaDoorProg.lean LOADS. Nothing in Lean hashes anything: it is a label: what it is worth is what the hold of that sum in a sandbox is worth. -/
noncomputable def Tryd.pinned : Pinned := { name := "ytlnekjilafcojaadoor", sum := "d4eb3be7f9b452b1524fa0bb287e2108d81980c6804934ed8b424ecb57c1a323", checked := Tryd.checked }
namespace Rows
def none {H : Type} : Left H := { results := [], args := [] }

/- WHAT THE LISTED PACKAGE-LEVEL VARIABLES READ AS WHEN THE CALL BEGINS. Each datum BY PROGRAM (the guide's laid-datum.mjs) off the statement by which the dump's own 'gosem.cut.vars' lays the variable. In a bare row this is a premise. The card (YtlnekjilafcojaaDoorCards.lean) ties it to the program's text. -/
def laid_pennant_crc_fourBits {H : Type} : DataW H := .agg [.lit (.int .u32 0), .lit (.int .u32 8801531), .lit (.int .u32 9098509), .lit (.int .u32 825846), .lit (.int .u32 9692897), .lit (.int .u32 1419802), .lit (.int .u32 1651692), .lit (.int .u32 10452759), .lit (.int .u32 10584377), .lit (.int .u32 2608578), .lit (.int .u32 2839604), .lit (.int .u32 11344079), .lit (.int .u32 3303384), .lit (.int .u32 11807523), .lit (.int .u32 12104405), .lit (.int .u32 4128302)]

/-- 'pennantlaw09.BootNext': WHATEVER THE INPUT: true; the input reads as it did. -/
def bootNextSpec : ChangeSpec := { name := "bootNext", fn := fun _ => fun
  | [d1, d2] => { results := [.lit (.bool true)], args := [d1, d2] }
  | _ => none }
def bootNextRow : OpenClaim := { program := "ytlnekjilafcojaadoor", sum := "d4eb3be7f9b452b1524fa0bb287e2108d81980c6804934ed8b424ecb57c1a323", func := "pennant/pennantlaw09.BootNext", spec := "bootNext", inPlace := ["internal/bytealg.MakeNoZero"], unfollowed := true, recurses := true, named := ["pennant/crc.fourBits"], apart := false, laid := [("pennant/crc.fourBits", laid_pennant_crc_fourBits)] }
def BootNextSaid : Prop := bootNextRow.holds Tryd.pinned (OpenSpec.ofChange bootNextSpec)

/-- ITS FALSE NEIGHBOUR: 'it returns false'. Refute it at one input. -/
def bootNextWrong : ChangeSpec := { name := "bootNext", fn := fun _ => fun
  | [d1, d2] => { results := [.lit (.bool false)], args := [d1, d2] }
  | _ => none }
def BootNextWrongFalsely : Prop := bootNextRow.holds Tryd.pinned (OpenSpec.ofChange bootNextWrong)

/-- 'pennantlaw09.BootScripts': WHATEVER THE INPUT: true; the input reads as it did. -/
def bootScriptsSpec : ChangeSpec := { name := "bootScripts", fn := fun _ => fun
  | [d1, d2, d3] => { results := [.lit (.bool true)], args := [d1, d2, d3] }
  | _ => none }
def bootScriptsRow : OpenClaim := { program := "ytlnekjilafcojaadoor", sum := "d4eb3be7f9b452b1524fa0bb287e2108d81980c6804934ed8b424ecb57c1a323", func := "pennant/pennantlaw09.BootScripts", spec := "bootScripts", inPlace := ["internal/bytealg.MakeNoZero"], unfollowed := true, recurses := true, named := ["pennant/crc.fourBits"], apart := false, laid := [("pennant/crc.fourBits", laid_pennant_crc_fourBits)] }
def BootScriptsSaid : Prop := bootScriptsRow.holds Tryd.pinned (OpenSpec.ofChange bootScriptsSpec)

/-- ITS FALSE NEIGHBOUR: 'it returns false'. Refute it at one input. -/
def bootScriptsWrong : ChangeSpec := { name := "bootScripts", fn := fun _ => fun
  | [d1, d2, d3] => { results := [.lit (.bool false)], args := [d1, d2, d3] }
  | _ => none }
def BootScriptsWrongFalsely : Prop := bootScriptsRow.holds Tryd.pinned (OpenSpec.ofChange bootScriptsWrong)

/-- 'pennantlaw09.BootLasts': WHATEVER THE INPUT: true; the input reads as it did. -/
def bootLastsSpec : ChangeSpec := { name := "bootLasts", fn := fun _ => fun
  | [d] => { results := [.lit (.bool true)], args := [d] }
  | _ => none }
def bootLastsRow : OpenClaim := { program := "ytlnekjilafcojaadoor", sum := "d4eb3be7f9b452b1524fa0bb287e2108d81980c6804934ed8b424ecb57c1a323", func := "pennant/pennantlaw09.BootLasts", spec := "bootLasts", inPlace := ["internal/bytealg.MakeNoZero"], unfollowed := true, recurses := true, named := ["pennant/crc.fourBits"], apart := false, laid := [("pennant/crc.fourBits", laid_pennant_crc_fourBits)] }
def BootLastsSaid : Prop := bootLastsRow.holds Tryd.pinned (OpenSpec.ofChange bootLastsSpec)

/-- ITS FALSE NEIGHBOUR: 'it returns false'. Refute it at one input. -/
def bootLastsWrong : ChangeSpec := { name := "bootLasts", fn := fun _ => fun
  | [d] => { results := [.lit (.bool false)], args := [d] }
  | _ => none }
def BootLastsWrongFalsely : Prop := bootLastsRow.holds Tryd.pinned (OpenSpec.ofChange bootLastsWrong)

/-- 'pennantlaw09.BootTries': WHATEVER THE INPUT: true; the input reads as it did. -/
def bootTriesSpec : ChangeSpec := { name := "bootTries", fn := fun _ => fun
  | [d1, d2] => { results := [.lit (.bool true)], args := [d1, d2] }
  | _ => none }
def bootTriesRow : OpenClaim := { program := "ytlnekjilafcojaadoor", sum := "d4eb3be7f9b452b1524fa0bb287e2108d81980c6804934ed8b424ecb57c1a323", func := "pennant/pennantlaw09.BootTries", spec := "bootTries", inPlace := ["internal/bytealg.MakeNoZero"], unfollowed := true, recurses := true, named := ["pennant/crc.fourBits"], apart := false, laid := [("pennant/crc.fourBits", laid_pennant_crc_fourBits)] }
def BootTriesSaid : Prop := bootTriesRow.holds Tryd.pinned (OpenSpec.ofChange bootTriesSpec)

/-- ITS FALSE NEIGHBOUR: 'it returns false'. Refute it at one input. -/
def bootTriesWrong : ChangeSpec := { name := "bootTries", fn := fun _ => fun
  | [d1, d2] => { results := [.lit (.bool false)], args := [d1, d2] }
  | _ => none }
def BootTriesWrongFalsely : Prop := bootTriesRow.holds Tryd.pinned (OpenSpec.ofChange bootTriesWrong)

/-- 'pennantlaw09.BootMany': WHATEVER THE INPUT: true; the input reads as it did. -/
def bootManySpec : ChangeSpec := { name := "bootMany", fn := fun _ => fun
  | [d1, d2] => { results := [.lit (.bool true)], args := [d1, d2] }
  | _ => none }
def bootManyRow : OpenClaim := { program := "ytlnekjilafcojaadoor", sum := "d4eb3be7f9b452b1524fa0bb287e2108d81980c6804934ed8b424ecb57c1a323", func := "pennant/pennantlaw09.BootMany", spec := "bootMany", inPlace := ["internal/bytealg.MakeNoZero"], unfollowed := true, recurses := true, named := ["pennant/crc.fourBits"], apart := false, laid := [("pennant/crc.fourBits", laid_pennant_crc_fourBits)] }
def BootManySaid : Prop := bootManyRow.holds Tryd.pinned (OpenSpec.ofChange bootManySpec)

/-- ITS FALSE NEIGHBOUR: 'it returns false'. Refute it at one input. -/
def bootManyWrong : ChangeSpec := { name := "bootMany", fn := fun _ => fun
  | [d1, d2] => { results := [.lit (.bool false)], args := [d1, d2] }
  | _ => none }
def BootManyWrongFalsely : Prop := bootManyRow.holds Tryd.pinned (OpenSpec.ofChange bootManyWrong)

/-- 'pennantlaw09.BootSlots': WHATEVER THE INPUT: true; the input reads as it did. -/
def bootSlotsSpec : ChangeSpec := { name := "bootSlots", fn := fun _ => fun
  | [d1, d2] => { results := [.lit (.bool true)], args := [d1, d2] }
  | _ => none }
def bootSlotsRow : OpenClaim := { program := "ytlnekjilafcojaadoor", sum := "d4eb3be7f9b452b1524fa0bb287e2108d81980c6804934ed8b424ecb57c1a323", func := "pennant/pennantlaw09.BootSlots", spec := "bootSlots", inPlace := ["internal/bytealg.MakeNoZero"], unfollowed := true, recurses := true, named := ["pennant/crc.fourBits"], apart := false, laid := [("pennant/crc.fourBits", laid_pennant_crc_fourBits)] }
def BootSlotsSaid : Prop := bootSlotsRow.holds Tryd.pinned (OpenSpec.ofChange bootSlotsSpec)

/-- ITS FALSE NEIGHBOUR: 'it returns false'. Refute it at one input. -/
def bootSlotsWrong : ChangeSpec := { name := "bootSlots", fn := fun _ => fun
  | [d1, d2] => { results := [.lit (.bool false)], args := [d1, d2] }
  | _ => none }
def BootSlotsWrongFalsely : Prop := bootSlotsRow.holds Tryd.pinned (OpenSpec.ofChange bootSlotsWrong)

/- THE SECOND FORM. 'bulk': how many values and letters a reading holds, each counted each time it is reached (what is shared counts as often as it is met; a slice's spare places count too). A statement '..UptoSaid' is the law's where the arguments, and the package variables that the reading takes, are together of bulk at most 1048576: NARROWER than '..Said'. Prove '..Said' where nothing that the law and all that it calls make is longer than what came in: it says more and counts as full. Else prove '..UptoSaid'. A law counts once. -/
mutual
def uptoBulk {H : Type} : DataW H → Nat
  | .lit (.string bytes) => bytes.length + 1
  | .lit _ => 1
  | .nil => 1
  | .ptr d => uptoBulk d + 1
  | .slice elems spare => uptoBulkAll elems + uptoBulkAll spare + 1
  | .agg parts => uptoBulkAll parts + 1
  | .iface _ d => uptoBulk d + 1
  | .map entries => uptoBulkEntries entries + 1
  | .held _ => 1
def uptoBulkAll {H : Type} : List (DataW H) → Nat
  | [] => 0
  | d :: r => uptoBulk d + uptoBulkAll r
def uptoBulkEntries {H : Type} : List (Lit × DataW H) → Nat
  | [] => 0
  | x :: r => uptoBulkEntry x + uptoBulkEntries r
def uptoBulkEntry {H : Type} : Lit × DataW H → Nat
  | (.string bytes, d) => bytes.length + uptoBulk d + 1
  | (_, d) => uptoBulk d + 1
 end
def uptoSmall : (H : Type) → List (DataW H) → Bool := fun _ ds => decide (uptoBulkAll ds ≤ 1048576)
def OpenSpec.upto (s : _root_.Go.ChangeSpec) : _root_.Go.OpenSpec := { _root_.Go.OpenSpec.ofChange s with cond := some uptoSmall }

/-- 'pennantlaw09.BootNext', WHERE WHAT IT READS IS OF BULK AT MOST 1048576: true; the input reads as it did. -/
def bootNextUptoRow : OpenClaim := { program := "ytlnekjilafcojaadoor", sum := "d4eb3be7f9b452b1524fa0bb287e2108d81980c6804934ed8b424ecb57c1a323", func := "pennant/pennantlaw09.BootNext", spec := "bootNext", inPlace := ["internal/bytealg.MakeNoZero"], unfollowed := true, recurses := true, named := ["pennant/crc.fourBits"], apart := false, laid := [("pennant/crc.fourBits", laid_pennant_crc_fourBits)], narrowed := true }
def BootNextUptoSaid : Prop := bootNextUptoRow.holds Tryd.pinned (OpenSpec.upto bootNextSpec)

/-- 'pennantlaw09.BootScripts', WHERE WHAT IT READS IS OF BULK AT MOST 1048576: true; the input reads as it did. -/
def bootScriptsUptoRow : OpenClaim := { program := "ytlnekjilafcojaadoor", sum := "d4eb3be7f9b452b1524fa0bb287e2108d81980c6804934ed8b424ecb57c1a323", func := "pennant/pennantlaw09.BootScripts", spec := "bootScripts", inPlace := ["internal/bytealg.MakeNoZero"], unfollowed := true, recurses := true, named := ["pennant/crc.fourBits"], apart := false, laid := [("pennant/crc.fourBits", laid_pennant_crc_fourBits)], narrowed := true }
def BootScriptsUptoSaid : Prop := bootScriptsUptoRow.holds Tryd.pinned (OpenSpec.upto bootScriptsSpec)

/-- 'pennantlaw09.BootLasts', WHERE WHAT IT READS IS OF BULK AT MOST 1048576: true; the input reads as it did. -/
def bootLastsUptoRow : OpenClaim := { program := "ytlnekjilafcojaadoor", sum := "d4eb3be7f9b452b1524fa0bb287e2108d81980c6804934ed8b424ecb57c1a323", func := "pennant/pennantlaw09.BootLasts", spec := "bootLasts", inPlace := ["internal/bytealg.MakeNoZero"], unfollowed := true, recurses := true, named := ["pennant/crc.fourBits"], apart := false, laid := [("pennant/crc.fourBits", laid_pennant_crc_fourBits)], narrowed := true }
def BootLastsUptoSaid : Prop := bootLastsUptoRow.holds Tryd.pinned (OpenSpec.upto bootLastsSpec)

/-- 'pennantlaw09.BootTries', WHERE WHAT IT READS IS OF BULK AT MOST 1048576: true; the input reads as it did. -/
def bootTriesUptoRow : OpenClaim := { program := "ytlnekjilafcojaadoor", sum := "d4eb3be7f9b452b1524fa0bb287e2108d81980c6804934ed8b424ecb57c1a323", func := "pennant/pennantlaw09.BootTries", spec := "bootTries", inPlace := ["internal/bytealg.MakeNoZero"], unfollowed := true, recurses := true, named := ["pennant/crc.fourBits"], apart := false, laid := [("pennant/crc.fourBits", laid_pennant_crc_fourBits)], narrowed := true }
def BootTriesUptoSaid : Prop := bootTriesUptoRow.holds Tryd.pinned (OpenSpec.upto bootTriesSpec)

/-- 'pennantlaw09.BootMany', WHERE WHAT IT READS IS OF BULK AT MOST 1048576: true; the input reads as it did. -/
def bootManyUptoRow : OpenClaim := { program := "ytlnekjilafcojaadoor", sum := "d4eb3be7f9b452b1524fa0bb287e2108d81980c6804934ed8b424ecb57c1a323", func := "pennant/pennantlaw09.BootMany", spec := "bootMany", inPlace := ["internal/bytealg.MakeNoZero"], unfollowed := true, recurses := true, named := ["pennant/crc.fourBits"], apart := false, laid := [("pennant/crc.fourBits", laid_pennant_crc_fourBits)], narrowed := true }
def BootManyUptoSaid : Prop := bootManyUptoRow.holds Tryd.pinned (OpenSpec.upto bootManySpec)

/-- 'pennantlaw09.BootSlots', WHERE WHAT IT READS IS OF BULK AT MOST 1048576: true; the input reads as it did. -/
def bootSlotsUptoRow : OpenClaim := { program := "ytlnekjilafcojaadoor", sum := "d4eb3be7f9b452b1524fa0bb287e2108d81980c6804934ed8b424ecb57c1a323", func := "pennant/pennantlaw09.BootSlots", spec := "bootSlots", inPlace := ["internal/bytealg.MakeNoZero"], unfollowed := true, recurses := true, named := ["pennant/crc.fourBits"], apart := false, laid := [("pennant/crc.fourBits", laid_pennant_crc_fourBits)], narrowed := true }
def BootSlotsUptoSaid : Prop := bootSlotsUptoRow.holds Tryd.pinned (OpenSpec.upto bootSlotsSpec)

end Rows
end Go.Proofs.YtlnekjilafcojaaDoor
