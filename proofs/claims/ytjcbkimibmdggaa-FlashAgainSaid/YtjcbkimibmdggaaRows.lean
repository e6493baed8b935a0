/-
  No cell of these rows narrows 'for every input' (looked for: loops, veiled, ifaces, maps, wideKeys, modest, calm, conditions, laid).
  DERIVED. THE GIVEN ROWS OF THIS SEAT. 6 by the template 'for every input the law returns true; each argument reads behind the call as it read before'; 0 by the template 'total and deterministic' (their statements: YtjcbkimibmdggaaTotals.lean).
  GIVEN WITH THE SEED: the statements are not yours to turn. If you find one false, say at which input.
  Laid BY PROGRAM, IN A SANDBOX (cutbox-rows.mjs): the forced cells as the released guide's own fill.sh prints them over the translation 23e795778e2f314a… (all of the seat's roots in one cut). By AI agents, Wed Nov 11 2026. No macro, syntax, notation, axiom, sorry.
-/
import Derived.Test.YtjcbkimibmdggaaChecked
import GoSem.Claim
import GoSem.ClaimJoined
import GoSem.ClaimMapViews
import Derived.JoinedTies
import Derived.KernelRfl
namespace Go.Proofs.Ytjcbkimibmdggaa
/- THE CELL 'sum', in the pinned program and in every row, IS THE sha256 OF THE DUMP (.gsa) THAT YtjcbkimibmdggaaProg.lean LOADS. Nothing in Lean hashes anything: it is a label: what it is worth is what the hold of that sum in a sandbox is worth. -/
noncomputable def Try.pinned : Pinned := { name := "ytjcbkimibmdggaa", sum := "23e795778e2f314a89965f8e4113d19ca5e86c98b82eb98ede39a7894726c996", checked := Try.checked }
namespace Rows
def none {H : Type} : Left H := { results := [], args := [] }

/-- 'pennantlaw06.FlashNews': WHATEVER THE INPUT: true; the input reads as it did. -/
def flashNewsSpec : ChangeSpec := { name := "flashNews", fn := fun _ => fun
  | [d1, d2] => { results := [.lit (.bool true)], args := [d1, d2] }
  | _ => none }
def flashNewsRow : OpenClaim := { program := "ytjcbkimibmdggaa", sum := "23e795778e2f314a89965f8e4113d19ca5e86c98b82eb98ede39a7894726c996", func := "pennant/pennantlaw06.FlashNews", spec := "flashNews", inPlace := ["internal/bytealg.MakeNoZero"], unfollowed := true, recurses := true, apart := false }
def FlashNewsSaid : Prop := flashNewsRow.holds Try.pinned (OpenSpec.ofChange flashNewsSpec)

/-- ITS FALSE NEIGHBOUR: 'it returns false'. Refute it at one input. -/
def flashNewsWrong : ChangeSpec := { name := "flashNews", fn := fun _ => fun
  | [d1, d2] => { results := [.lit (.bool false)], args := [d1, d2] }
  | _ => none }
def FlashNewsWrongFalsely : Prop := flashNewsRow.holds Try.pinned (OpenSpec.ofChange flashNewsWrong)

/-- 'pennantlaw06.FlashScripts': WHATEVER THE INPUT: true; the input reads as it did. -/
def flashScriptsSpec : ChangeSpec := { name := "flashScripts", fn := fun _ => fun
  | [d1, d2, d3] => { results := [.lit (.bool true)], args := [d1, d2, d3] }
  | _ => none }
def flashScriptsRow : OpenClaim := { program := "ytjcbkimibmdggaa", sum := "23e795778e2f314a89965f8e4113d19ca5e86c98b82eb98ede39a7894726c996", func := "pennant/pennantlaw06.FlashScripts", spec := "flashScripts", inPlace := ["internal/bytealg.MakeNoZero"], unfollowed := true, recurses := true, apart := false }
def FlashScriptsSaid : Prop := flashScriptsRow.holds Try.pinned (OpenSpec.ofChange flashScriptsSpec)

/-- ITS FALSE NEIGHBOUR: 'it returns false'. Refute it at one input. -/
def flashScriptsWrong : ChangeSpec := { name := "flashScripts", fn := fun _ => fun
  | [d1, d2, d3] => { results := [.lit (.bool false)], args := [d1, d2, d3] }
  | _ => none }
def FlashScriptsWrongFalsely : Prop := flashScriptsRow.holds Try.pinned (OpenSpec.ofChange flashScriptsWrong)

/-- 'pennantlaw06.FlashAgain': WHATEVER THE INPUT: true; the input reads as it did. -/
def flashAgainSpec : ChangeSpec := { name := "flashAgain", fn := fun _ => fun
  | [d1, d2, d3] => { results := [.lit (.bool true)], args := [d1, d2, d3] }
  | _ => none }
def flashAgainRow : OpenClaim := { program := "ytjcbkimibmdggaa", sum := "23e795778e2f314a89965f8e4113d19ca5e86c98b82eb98ede39a7894726c996", func := "pennant/pennantlaw06.FlashAgain", spec := "flashAgain", inPlace := ["internal/bytealg.MakeNoZero"], unfollowed := true, recurses := true, apart := false }
def FlashAgainSaid : Prop := flashAgainRow.holds Try.pinned (OpenSpec.ofChange flashAgainSpec)

/-- ITS FALSE NEIGHBOUR: 'it returns false'. Refute it at one input. -/
def flashAgainWrong : ChangeSpec := { name := "flashAgain", fn := fun _ => fun
  | [d1, d2, d3] => { results := [.lit (.bool false)], args := [d1, d2, d3] }
  | _ => none }
def FlashAgainWrongFalsely : Prop := flashAgainRow.holds Try.pinned (OpenSpec.ofChange flashAgainWrong)

/-- 'pennantlaw06.FlashOnce': WHATEVER THE INPUT: true; the input reads as it did. -/
def flashOnceSpec : ChangeSpec := { name := "flashOnce", fn := fun _ => fun
  | [d1, d2, d3] => { results := [.lit (.bool true)], args := [d1, d2, d3] }
  | _ => none }
def flashOnceRow : OpenClaim := { program := "ytjcbkimibmdggaa", sum := "23e795778e2f314a89965f8e4113d19ca5e86c98b82eb98ede39a7894726c996", func := "pennant/pennantlaw06.FlashOnce", spec := "flashOnce", inPlace := ["internal/bytealg.MakeNoZero"], unfollowed := true, recurses := true, apart := false }
def FlashOnceSaid : Prop := flashOnceRow.holds Try.pinned (OpenSpec.ofChange flashOnceSpec)

/-- ITS FALSE NEIGHBOUR: 'it returns false'. Refute it at one input. -/
def flashOnceWrong : ChangeSpec := { name := "flashOnce", fn := fun _ => fun
  | [d1, d2, d3] => { results := [.lit (.bool false)], args := [d1, d2, d3] }
  | _ => none }
def FlashOnceWrongFalsely : Prop := flashOnceRow.holds Try.pinned (OpenSpec.ofChange flashOnceWrong)

/-- 'pennantlaw06.FlashWears': WHATEVER THE INPUT: true; the input reads as it did. -/
def flashWearsSpec : ChangeSpec := { name := "flashWears", fn := fun _ => fun
  | [d1, d2] => { results := [.lit (.bool true)], args := [d1, d2] }
  | _ => none }
def flashWearsRow : OpenClaim := { program := "ytjcbkimibmdggaa", sum := "23e795778e2f314a89965f8e4113d19ca5e86c98b82eb98ede39a7894726c996", func := "pennant/pennantlaw06.FlashWears", spec := "flashWears", inPlace := ["internal/bytealg.MakeNoZero"], unfollowed := true, recurses := true, apart := false }
def FlashWearsSaid : Prop := flashWearsRow.holds Try.pinned (OpenSpec.ofChange flashWearsSpec)

/-- ITS FALSE NEIGHBOUR: 'it returns false'. Refute it at one input. -/
def flashWearsWrong : ChangeSpec := { name := "flashWears", fn := fun _ => fun
  | [d1, d2] => { results := [.lit (.bool false)], args := [d1, d2] }
  | _ => none }
def FlashWearsWrongFalsely : Prop := flashWearsRow.holds Try.pinned (OpenSpec.ofChange flashWearsWrong)

/-- 'pennantlaw06.FlashArms': WHATEVER THE INPUT: true; the input reads as it did. -/
def flashArmsSpec : ChangeSpec := { name := "flashArms", fn := fun _ => fun
  | [d1, d2, d3] => { results := [.lit (.bool true)], args := [d1, d2, d3] }
  | _ => none }
def flashArmsRow : OpenClaim := { program := "ytjcbkimibmdggaa", sum := "23e795778e2f314a89965f8e4113d19ca5e86c98b82eb98ede39a7894726c996", func := "pennant/pennantlaw06.FlashArms", spec := "flashArms", inPlace := ["internal/bytealg.MakeNoZero"], unfollowed := true, recurses := true, apart := false }
def FlashArmsSaid : Prop := flashArmsRow.holds Try.pinned (OpenSpec.ofChange flashArmsSpec)

/-- ITS FALSE NEIGHBOUR: 'it returns false'. Refute it at one input. -/
def flashArmsWrong : ChangeSpec := { name := "flashArms", fn := fun _ => fun
  | [d1, d2, d3] => { results := [.lit (.bool false)], args := [d1, d2, d3] }
  | _ => none }
def FlashArmsWrongFalsely : Prop := flashArmsRow.holds Try.pinned (OpenSpec.ofChange flashArmsWrong)

/- THE SECOND FORM. 'bulk': how many values and letters a reading holds, each counted each time it is reached (what is shared counts as often as it is met; a slice's spare places count too). A statement '..UptoSaid' is the law's where the arguments, and the package variables that the reading takes, are together of bulk at most 1048576: NARROWER than '..Said'. Prove '..Said' where nothing that the law and all that it calls make is longer than what came in: it says more and counts as full. Else prove '..UptoSaid'. A law counts once. -/
mutual
def uptoBulk {H : Type} : DataW H → Nat
  | .lit (.string bytes) => bytes.length + 1
  | .lit _ => 1
  | .nil => 1
  | .ptr d => uptoBulk d + 1
  | .slice elems spare => uptoBulkAll elems + uptoBulkAll spare + 1
  | .agg parts => uptoBulkAll parts + 1
  | .iface _ d => uptoBulk d + 1
  | .map entries => uptoBulkEntries entries + 1
  | .held _ => 1
def uptoBulkAll {H : Type} : List (DataW H) → Nat
  | [] => 0
  | d :: r => uptoBulk d + uptoBulkAll r
def uptoBulkEntries {H : Type} : List (Lit × DataW H) → Nat
  | [] => 0
  | x :: r => uptoBulkEntry x + uptoBulkEntries r
def uptoBulkEntry {H : Type} : Lit × DataW H → Nat
  | (.string bytes, d) => bytes.length + uptoBulk d + 1
  | (_, d) => uptoBulk d + 1
 end
def uptoSmall : (H : Type) → List (DataW H) → Bool := fun _ ds => decide (uptoBulkAll ds ≤ 1048576)
def OpenSpec.upto (s : _root_.Go.ChangeSpec) : _root_.Go.OpenSpec := { _root_.Go.OpenSpec.ofChange s with cond := some uptoSmall }

/-- 'pennantlaw06.FlashNews', WHERE WHAT IT READS IS OF BULK AT MOST 1048576: true; the input reads as it did. -/
def flashNewsUptoRow : OpenClaim := { program := "ytjcbkimibmdggaa", sum := "23e795778e2f314a89965f8e4113d19ca5e86c98b82eb98ede39a7894726c996", func := "pennant/pennantlaw06.FlashNews", spec := "flashNews", inPlace := ["internal/bytealg.MakeNoZero"], unfollowed := true, recurses := true, apart := false, narrowed := true }
def FlashNewsUptoSaid : Prop := flashNewsUptoRow.holds Try.pinned (OpenSpec.upto flashNewsSpec)

/-- 'pennantlaw06.FlashScripts', WHERE WHAT IT READS IS OF BULK AT MOST 1048576: true; the input reads as it did. -/
def flashScriptsUptoRow : OpenClaim := { program := "ytjcbkimibmdggaa", sum := "23e795778e2f314a89965f8e4113d19ca5e86c98b82eb98ede39a7894726c996", func := "pennant/pennantlaw06.FlashScripts", spec := "flashScripts", inPlace := ["internal/bytealg.MakeNoZero"], unfollowed := true, recurses := true, apart := false, narrowed := true }
def FlashScriptsUptoSaid : Prop := flashScriptsUptoRow.holds Try.pinned (OpenSpec.upto flashScriptsSpec)

/-- 'pennantlaw06.FlashAgain', WHERE WHAT IT READS IS OF BULK AT MOST 1048576: true; the input reads as it did. -/
def flashAgainUptoRow : OpenClaim := { program := "ytjcbkimibmdggaa", sum := "23e795778e2f314a89965f8e4113d19ca5e86c98b82eb98ede39a7894726c996", func := "pennant/pennantlaw06.FlashAgain", spec := "flashAgain", inPlace := ["internal/bytealg.MakeNoZero"], unfollowed := true, recurses := true, apart := false, narrowed := true }
def FlashAgainUptoSaid : Prop := flashAgainUptoRow.holds Try.pinned (OpenSpec.upto flashAgainSpec)

/-- 'pennantlaw06.FlashOnce', WHERE WHAT IT READS IS OF BULK AT MOST 1048576: true; the input reads as it did. -/
def flashOnceUptoRow : OpenClaim := { program := "ytjcbkimibmdggaa", sum := "23e795778e2f314a89965f8e4113d19ca5e86c98b82eb98ede39a7894726c996", func := "pennant/pennantlaw06.FlashOnce", spec := "flashOnce", inPlace := ["internal/bytealg.MakeNoZero"], unfollowed := true, recurses := true, apart := false, narrowed := true }
def FlashOnceUptoSaid : Prop := flashOnceUptoRow.holds Try.pinned (OpenSpec.upto flashOnceSpec)

/-- 'pennantlaw06.FlashWears', WHERE WHAT IT READS IS OF BULK AT MOST 1048576: true; the input reads as it did. -/
def flashWearsUptoRow : OpenClaim := { program := "ytjcbkimibmdggaa", sum := "23e795778e2f314a89965f8e4113d19ca5e86c98b82eb98ede39a7894726c996", func := "pennant/pennantlaw06.FlashWears", spec := "flashWears", inPlace := ["internal/bytealg.MakeNoZero"], unfollowed := true, recurses := true, apart := false, narrowed := true }
def FlashWearsUptoSaid : Prop := flashWearsUptoRow.holds Try.pinned (OpenSpec.upto flashWearsSpec)

/-- 'pennantlaw06.FlashArms', WHERE WHAT IT READS IS OF BULK AT MOST 1048576: true; the input reads as it did. -/
def flashArmsUptoRow : OpenClaim := { program := "ytjcbkimibmdggaa", sum := "23e795778e2f314a89965f8e4113d19ca5e86c98b82eb98ede39a7894726c996", func := "pennant/pennantlaw06.FlashArms", spec := "flashArms", inPlace := ["internal/bytealg.MakeNoZero"], unfollowed := true, recurses := true, apart := false, narrowed := true }
def FlashArmsUptoSaid : Prop := flashArmsUptoRow.holds Try.pinned (OpenSpec.upto flashArmsSpec)

end Rows
end Go.Proofs.Ytjcbkimibmdggaa
