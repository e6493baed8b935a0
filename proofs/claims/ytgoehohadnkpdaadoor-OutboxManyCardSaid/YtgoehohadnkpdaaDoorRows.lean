/-
  NARROWER THAN 'FOR EVERY INPUT', by the rows' own cells (each row's printed sentence says how): OutboxRight: laid · OutboxLasts: laid · OutboxMany: laid · OutboxRises: laid · OutboxFull: laid.
  DERIVED. THE GIVEN ROWS OF THIS SEAT. 5 by the template 'for every input the law returns true; each argument reads behind the call as it read before'; 0 by the template 'total and deterministic' (their statements: YtgoehohadnkpdaaDoorTotals.lean).
  GIVEN WITH THE SEED: the statements are not yours to turn. If you find one false, say at which input.
  Laid BY PROGRAM, IN A SANDBOX (cutbox-rows.mjs): the forced cells as the released guide's own fill.sh prints them over the translation cad985b2334aa737… (all of the seat's roots in one cut). By AI agents, Wed Nov 11 2026. No macro, syntax, notation, axiom, sorry.
-/
import Derived.Test.YtgoehohadnkpdaaDoorChecked
import GoSem.Claim
import GoSem.ClaimJoined
import GoSem.ClaimMapViews
import Derived.JoinedTies
import Derived.KernelRfl
namespace Go.Proofs.YtgoehohadnkpdaaDoor
/- THE CELL 'sum', in the pinned program and in every row, IS THE sha256 OF THE DUMP (.gsa) THAT YtgoehohadnkpdaaDoorProg.lean LOADS. Nothing in Lean hashes anything: it is a label: what it is worth is what the hold of that sum in a sandbox is worth. -/
noncomputable def Tryd.pinned : Pinned := { name := "ytgoehohadnkpdaadoor", sum := "cad985b2334aa7379a61b135506c3ff0fc7dc59186f818b9b872bcd542d8a38a", checked := Tryd.checked }
namespace Rows
def none {H : Type} : Left H := { results := [], args := [] }

/- WHAT THE LISTED PACKAGE-LEVEL VARIABLES READ AS WHEN THE CALL BEGINS. Each datum BY PROGRAM (the guide's laid-datum.mjs) off the statement by which the dump's own 'gosem.cut.vars' lays the variable. In a bare row this is a premise. The card (YtgoehohadnkpdaaDoorCards.lean) ties it to the program's text. -/
def laid_pennant_crc_fourBits {H : Type} : DataW H := .agg [.lit (.int .u32 0), .lit (.int .u32 8801531), .lit (.int .u32 9098509), .lit (.int .u32 825846), .lit (.int .u32 9692897), .lit (.int .u32 1419802), .lit (.int .u32 1651692), .lit (.int .u32 10452759), .lit (.int .u32 10584377), .lit (.int .u32 2608578), .lit (.int .u32 2839604), .lit (.int .u32 11344079), .lit (.int .u32 3303384), .lit (.int .u32 11807523), .lit (.int .u32 12104405), .lit (.int .u32 4128302)]

/-- 'pennantlaw12.OutboxRight': WHATEVER THE INPUT: true; the input reads as it did. -/
def outboxRightSpec : ChangeSpec := { name := "outboxRight", fn := fun _ => fun
  | [d] => { results := [.lit (.bool true)], args := [d] }
  | _ => none }
def outboxRightRow : OpenClaim := { program := "ytgoehohadnkpdaadoor", sum := "cad985b2334aa7379a61b135506c3ff0fc7dc59186f818b9b872bcd542d8a38a", func := "pennant/pennantlaw12.OutboxRight", spec := "outboxRight", inPlace := ["internal/bytealg.MakeNoZero"], unfollowed := true, recurses := true, named := ["pennant/crc.fourBits"], apart := false, laid := [("pennant/crc.fourBits", laid_pennant_crc_fourBits)] }
def OutboxRightSaid : Prop := outboxRightRow.holds Tryd.pinned (OpenSpec.ofChange outboxRightSpec)

/-- ITS FALSE NEIGHBOUR: 'it returns false'. Refute it at one input. -/
def outboxRightWrong : ChangeSpec := { name := "outboxRight", fn := fun _ => fun
  | [d] => { results := [.lit (.bool false)], args := [d] }
  | _ => none }
def OutboxRightWrongFalsely : Prop := outboxRightRow.holds Tryd.pinned (OpenSpec.ofChange outboxRightWrong)

/-- 'pennantlaw12.OutboxLasts': WHATEVER THE INPUT: true; the input reads as it did. -/
def outboxLastsSpec : ChangeSpec := { name := "outboxLasts", fn := fun _ => fun
  | [d] => { results := [.lit (.bool true)], args := [d] }
  | _ => none }
def outboxLastsRow : OpenClaim := { program := "ytgoehohadnkpdaadoor", sum := "cad985b2334aa7379a61b135506c3ff0fc7dc59186f818b9b872bcd542d8a38a", func := "pennant/pennantlaw12.OutboxLasts", spec := "outboxLasts", inPlace := ["internal/bytealg.MakeNoZero"], unfollowed := true, recurses := true, named := ["pennant/crc.fourBits"], apart := false, laid := [("pennant/crc.fourBits", laid_pennant_crc_fourBits)] }
def OutboxLastsSaid : Prop := outboxLastsRow.holds Tryd.pinned (OpenSpec.ofChange outboxLastsSpec)

/-- ITS FALSE NEIGHBOUR: 'it returns false'. Refute it at one input. -/
def outboxLastsWrong : ChangeSpec := { name := "outboxLasts", fn := fun _ => fun
  | [d] => { results := [.lit (.bool false)], args := [d] }
  | _ => none }
def OutboxLastsWrongFalsely : Prop := outboxLastsRow.holds Tryd.pinned (OpenSpec.ofChange outboxLastsWrong)

/-- 'pennantlaw12.OutboxMany': WHATEVER THE INPUT: true; the input reads as it did. -/
def outboxManySpec : ChangeSpec := { name := "outboxMany", fn := fun _ => fun
  | [d1, d2, d3] => { results := [.lit (.bool true)], args := [d1, d2, d3] }
  | _ => none }
def outboxManyRow : OpenClaim := { program := "ytgoehohadnkpdaadoor", sum := "cad985b2334aa7379a61b135506c3ff0fc7dc59186f818b9b872bcd542d8a38a", func := "pennant/pennantlaw12.OutboxMany", spec := "outboxMany", inPlace := ["internal/bytealg.MakeNoZero"], unfollowed := true, recurses := true, named := ["pennant/crc.fourBits"], apart := false, laid := [("pennant/crc.fourBits", laid_pennant_crc_fourBits)] }
def OutboxManySaid : Prop := outboxManyRow.holds Tryd.pinned (OpenSpec.ofChange outboxManySpec)

/-- ITS FALSE NEIGHBOUR: 'it returns false'. Refute it at one input. -/
def outboxManyWrong : ChangeSpec := { name := "outboxMany", fn := fun _ => fun
  | [d1, d2, d3] => { results := [.lit (.bool false)], args := [d1, d2, d3] }
  | _ => none }
def OutboxManyWrongFalsely : Prop := outboxManyRow.holds Tryd.pinned (OpenSpec.ofChange outboxManyWrong)

/-- 'pennantlaw12.OutboxRises': WHATEVER THE INPUT: true; the input reads as it did. -/
def outboxRisesSpec : ChangeSpec := { name := "outboxRises", fn := fun _ => fun
  | [d1, d2] => { results := [.lit (.bool true)], args := [d1, d2] }
  | _ => none }
def outboxRisesRow : OpenClaim := { program := "ytgoehohadnkpdaadoor", sum := "cad985b2334aa7379a61b135506c3ff0fc7dc59186f818b9b872bcd542d8a38a", func := "pennant/pennantlaw12.OutboxRises", spec := "outboxRises", inPlace := ["internal/bytealg.MakeNoZero"], unfollowed := true, recurses := true, named := ["pennant/crc.fourBits"], apart := false, laid := [("pennant/crc.fourBits", laid_pennant_crc_fourBits)] }
def OutboxRisesSaid : Prop := outboxRisesRow.holds Tryd.pinned (OpenSpec.ofChange outboxRisesSpec)

/-- ITS FALSE NEIGHBOUR: 'it returns false'. Refute it at one input. -/
def outboxRisesWrong : ChangeSpec := { name := "outboxRises", fn := fun _ => fun
  | [d1, d2] => { results := [.lit (.bool false)], args := [d1, d2] }
  | _ => none }
def OutboxRisesWrongFalsely : Prop := outboxRisesRow.holds Tryd.pinned (OpenSpec.ofChange outboxRisesWrong)

/-- 'pennantlaw12.OutboxFull': WHATEVER THE INPUT: true; the input reads as it did. -/
def outboxFullSpec : ChangeSpec := { name := "outboxFull", fn := fun _ => fun
  | [d1, d2] => { results := [.lit (.bool true)], args := [d1, d2] }
  | _ => none }
def outboxFullRow : OpenClaim := { program := "ytgoehohadnkpdaadoor", sum := "cad985b2334aa7379a61b135506c3ff0fc7dc59186f818b9b872bcd542d8a38a", func := "pennant/pennantlaw12.OutboxFull", spec := "outboxFull", inPlace := ["internal/bytealg.MakeNoZero"], unfollowed := true, recurses := true, named := ["pennant/crc.fourBits"], apart := false, laid := [("pennant/crc.fourBits", laid_pennant_crc_fourBits)] }
def OutboxFullSaid : Prop := outboxFullRow.holds Tryd.pinned (OpenSpec.ofChange outboxFullSpec)

/-- ITS FALSE NEIGHBOUR: 'it returns false'. Refute it at one input. -/
def outboxFullWrong : ChangeSpec := { name := "outboxFull", fn := fun _ => fun
  | [d1, d2] => { results := [.lit (.bool false)], args := [d1, d2] }
  | _ => none }
def OutboxFullWrongFalsely : Prop := outboxFullRow.holds Tryd.pinned (OpenSpec.ofChange outboxFullWrong)

/- THE SECOND FORM. 'bulk': how many values and letters a reading holds, each counted each time it is reached (what is shared counts as often as it is met; a slice's spare places count too). A statement '..UptoSaid' is the law's where the arguments, and the package variables that the reading takes, are together of bulk at most 1048576: NARROWER than '..Said'. Prove '..Said' where nothing that the law and all that it calls make is longer than what came in: it says more and counts as full. Else prove '..UptoSaid'. A law counts once. -/
mutual
def uptoBulk {H : Type} : DataW H → Nat
  | .lit (.string bytes) => bytes.length + 1
  | .lit _ => 1
  | .nil => 1
  | .ptr d => uptoBulk d + 1
  | .slice elems spare => uptoBulkAll elems + uptoBulkAll spare + 1
  | .agg parts => uptoBulkAll parts + 1
  | .iface _ d => uptoBulk d + 1
  | .map entries => uptoBulkEntries entries + 1
  | .held _ => 1
def uptoBulkAll {H : Type} : List (DataW H) → Nat
  | [] => 0
  | d :: r => uptoBulk d + uptoBulkAll r
def uptoBulkEntries {H : Type} : List (Lit × DataW H) → Nat
  | [] => 0
  | x :: r => uptoBulkEntry x + uptoBulkEntries r
def uptoBulkEntry {H : Type} : Lit × DataW H → Nat
  | (.string bytes, d) => bytes.length + uptoBulk d + 1
  | (_, d) => uptoBulk d + 1
 end
def uptoSmall : (H : Type) → List (DataW H) → Bool := fun _ ds => decide (uptoBulkAll ds ≤ 1048576)
def OpenSpec.upto (s : _root_.Go.ChangeSpec) : _root_.Go.OpenSpec := { _root_.Go.OpenSpec.ofChange s with cond := some uptoSmall }

/-- 'pennantlaw12.OutboxRight', WHERE WHAT IT READS IS OF BULK AT MOST 1048576: true; the input reads as it did. -/
def outboxRightUptoRow : OpenClaim := { program := "ytgoehohadnkpdaadoor", sum := "cad985b2334aa7379a61b135506c3ff0fc7dc59186f818b9b872bcd542d8a38a", func := "pennant/pennantlaw12.OutboxRight", spec := "outboxRight", inPlace := ["internal/bytealg.MakeNoZero"], unfollowed := true, recurses := true, named := ["pennant/crc.fourBits"], apart := false, laid := [("pennant/crc.fourBits", laid_pennant_crc_fourBits)], narrowed := true }
def OutboxRightUptoSaid : Prop := outboxRightUptoRow.holds Tryd.pinned (OpenSpec.upto outboxRightSpec)

/-- 'pennantlaw12.OutboxLasts', WHERE WHAT IT READS IS OF BULK AT MOST 1048576: true; the input reads as it did. -/
def outboxLastsUptoRow : OpenClaim := { program := "ytgoehohadnkpdaadoor", sum := "cad985b2334aa7379a61b135506c3ff0fc7dc59186f818b9b872bcd542d8a38a", func := "pennant/pennantlaw12.OutboxLasts", spec := "outboxLasts", inPlace := ["internal/bytealg.MakeNoZero"], unfollowed := true, recurses := true, named := ["pennant/crc.fourBits"], apart := false, laid := [("pennant/crc.fourBits", laid_pennant_crc_fourBits)], narrowed := true }
def OutboxLastsUptoSaid : Prop := outboxLastsUptoRow.holds Tryd.pinned (OpenSpec.upto outboxLastsSpec)

/-- 'pennantlaw12.OutboxMany', WHERE WHAT IT READS IS OF BULK AT MOST 1048576: true; the input reads as it did. -/
def outboxManyUptoRow : OpenClaim := { program := "ytgoehohadnkpdaadoor", sum := "cad985b2334aa7379a61b135506c3ff0fc7dc59186f818b9b872bcd542d8a38a", func := "pennant/pennantlaw12.OutboxMany", spec := "outboxMany", inPlace := ["internal/bytealg.MakeNoZero"], unfollowed := true, recurses := true, named := ["pennant/crc.fourBits"], apart := false, laid := [("pennant/crc.fourBits", laid_pennant_crc_fourBits)], narrowed := true }
def OutboxManyUptoSaid : Prop := outboxManyUptoRow.holds Tryd.pinned (OpenSpec.upto outboxManySpec)

/-- 'pennantlaw12.OutboxRises', WHERE WHAT IT READS IS OF BULK AT MOST 1048576: true; the input reads as it did. -/
def outboxRisesUptoRow : OpenClaim := { program := "ytgoehohadnkpdaadoor", sum := "cad985b2334aa7379a61b135506c3ff0fc7dc59186f818b9b872bcd542d8a38a", func := "pennant/pennantlaw12.OutboxRises", spec := "outboxRises", inPlace := ["internal/bytealg.MakeNoZero"], unfollowed := true, recurses := true, named := ["pennant/crc.fourBits"], apart := false, laid := [("pennant/crc.fourBits", laid_pennant_crc_fourBits)], narrowed := true }
def OutboxRisesUptoSaid : Prop := outboxRisesUptoRow.holds Tryd.pinned (OpenSpec.upto outboxRisesSpec)

/-- 'pennantlaw12.OutboxFull', WHERE WHAT IT READS IS OF BULK AT MOST 1048576: true; the input reads as it did. -/
def outboxFullUptoRow : OpenClaim := { program := "ytgoehohadnkpdaadoor", sum := "cad985b2334aa7379a61b135506c3ff0fc7dc59186f818b9b872bcd542d8a38a", func := "pennant/pennantlaw12.OutboxFull", spec := "outboxFull", inPlace := ["internal/bytealg.MakeNoZero"], unfollowed := true, recurses := true, named := ["pennant/crc.fourBits"], apart := false, laid := [("pennant/crc.fourBits", laid_pennant_crc_fourBits)], narrowed := true }
def OutboxFullUptoSaid : Prop := outboxFullUptoRow.holds Tryd.pinned (OpenSpec.upto outboxFullSpec)

end Rows
end Go.Proofs.YtgoehohadnkpdaaDoor
