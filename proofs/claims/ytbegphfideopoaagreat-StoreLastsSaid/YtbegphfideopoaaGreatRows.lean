/-
  No cell of these rows narrows 'for every input' (looked for: loops, veiled, ifaces, maps, wideKeys, modest, calm, conditions, laid).
  DERIVED. THE GIVEN ROWS OF THIS SEAT. 6 by the template 'for every input the law returns true; each argument reads behind the call as it read before'; 0 by the template 'total and deterministic' (their statements: YtbegphfideopoaaGreatTotals.lean).
  GIVEN WITH THE SEED: the statements are not yours to turn. If you find one false, say at which input.
  Laid BY PROGRAM, IN A SANDBOX (cutbox-rows.mjs): the forced cells as the released guide's own fill.sh prints them over the translation 00a3ccd96bd9a6bb… (all of the seat's roots in one cut). By AI agents, Wed Nov 11 2026. No macro, syntax, notation, axiom, sorry.
-/
import Derived.Test.YtbegphfideopoaaGreatChecked
import GoSem.Claim
import GoSem.ClaimJoined
import GoSem.ClaimMapViews
import Derived.JoinedTies
import Derived.KernelRfl
namespace Go.Proofs.YtbegphfideopoaaGreat
/- THE CELL 'sum', in the pinned program and in every row, IS THE sha256 OF THE DUMP (.gsa) THAT YtbegphfideopoaaGreatProg.lean LOADS. Nothing in Lean hashes anything: it is a label: what it is worth is what the hold of that sum in a sandbox is worth. -/
noncomputable def Tryz.pinned : Pinned := { name := "ytbegphfideopoaagreat", sum := "00a3ccd96bd9a6bb3a19fd9f9e8b8392dbae229129c1fc73b8065b723013d365", checked := Tryz.checked }
namespace Rows
def none {H : Type} : Left H := { results := [], args := [] }

/-- 'pennantlaw08.StoreLasts': WHATEVER THE INPUT: true; the input reads as it did. -/
def storeLastsSpec : ChangeSpec := { name := "storeLasts", fn := fun _ => fun
  | [d1, d2] => { results := [.lit (.bool true)], args := [d1, d2] }
  | _ => none }
def storeLastsRow : OpenClaim := { program := "ytbegphfideopoaagreat", sum := "00a3ccd96bd9a6bb3a19fd9f9e8b8392dbae229129c1fc73b8065b723013d365", func := "pennant/pennantlaw08.StoreLasts", spec := "storeLasts", inPlace := ["internal/bytealg.MakeNoZero", "maps.clone"], unfollowed := true, recurses := true, apart := false }
def StoreLastsSaid : Prop := storeLastsRow.holds Tryz.pinned (OpenSpec.ofChange storeLastsSpec)

/-- ITS FALSE NEIGHBOUR: 'it returns false'. Refute it at one input. -/
def storeLastsWrong : ChangeSpec := { name := "storeLasts", fn := fun _ => fun
  | [d1, d2] => { results := [.lit (.bool false)], args := [d1, d2] }
  | _ => none }
def StoreLastsWrongFalsely : Prop := storeLastsRow.holds Tryz.pinned (OpenSpec.ofChange storeLastsWrong)

/-- 'pennantlaw08.StoreFull': WHATEVER THE INPUT: true; the input reads as it did. -/
def storeFullSpec : ChangeSpec := { name := "storeFull", fn := fun _ => fun
  | [d1, d2, d3] => { results := [.lit (.bool true)], args := [d1, d2, d3] }
  | _ => none }
def storeFullRow : OpenClaim := { program := "ytbegphfideopoaagreat", sum := "00a3ccd96bd9a6bb3a19fd9f9e8b8392dbae229129c1fc73b8065b723013d365", func := "pennant/pennantlaw08.StoreFull", spec := "storeFull", inPlace := ["internal/bytealg.MakeNoZero", "maps.clone"], unfollowed := true, recurses := true, apart := false }
def StoreFullSaid : Prop := storeFullRow.holds Tryz.pinned (OpenSpec.ofChange storeFullSpec)

/-- ITS FALSE NEIGHBOUR: 'it returns false'. Refute it at one input. -/
def storeFullWrong : ChangeSpec := { name := "storeFull", fn := fun _ => fun
  | [d1, d2, d3] => { results := [.lit (.bool false)], args := [d1, d2, d3] }
  | _ => none }
def StoreFullWrongFalsely : Prop := storeFullRow.holds Tryz.pinned (OpenSpec.ofChange storeFullWrong)

/-- 'pennantlaw08.StoreAtOnce': WHATEVER THE INPUT: true; the input reads as it did. -/
def storeAtOnceSpec : ChangeSpec := { name := "storeAtOnce", fn := fun _ => fun
  | [d] => { results := [.lit (.bool true)], args := [d] }
  | _ => none }
def storeAtOnceRow : OpenClaim := { program := "ytbegphfideopoaagreat", sum := "00a3ccd96bd9a6bb3a19fd9f9e8b8392dbae229129c1fc73b8065b723013d365", func := "pennant/pennantlaw08.StoreAtOnce", spec := "storeAtOnce", inPlace := ["internal/bytealg.MakeNoZero", "maps.clone"], unfollowed := true, recurses := true, apart := false }
def StoreAtOnceSaid : Prop := storeAtOnceRow.holds Tryz.pinned (OpenSpec.ofChange storeAtOnceSpec)

/-- ITS FALSE NEIGHBOUR: 'it returns false'. Refute it at one input. -/
def storeAtOnceWrong : ChangeSpec := { name := "storeAtOnce", fn := fun _ => fun
  | [d] => { results := [.lit (.bool false)], args := [d] }
  | _ => none }
def StoreAtOnceWrongFalsely : Prop := storeAtOnceRow.holds Tryz.pinned (OpenSpec.ofChange storeAtOnceWrong)

/-- 'pennantlaw08.StoreRanges': WHATEVER THE INPUT: true; the input reads as it did. -/
def storeRangesSpec : ChangeSpec := { name := "storeRanges", fn := fun _ => fun
  | [d1, d2] => { results := [.lit (.bool true)], args := [d1, d2] }
  | _ => none }
def storeRangesRow : OpenClaim := { program := "ytbegphfideopoaagreat", sum := "00a3ccd96bd9a6bb3a19fd9f9e8b8392dbae229129c1fc73b8065b723013d365", func := "pennant/pennantlaw08.StoreRanges", spec := "storeRanges", inPlace := ["internal/bytealg.MakeNoZero", "maps.clone"], unfollowed := true, recurses := true, apart := false }
def StoreRangesSaid : Prop := storeRangesRow.holds Tryz.pinned (OpenSpec.ofChange storeRangesSpec)

/-- ITS FALSE NEIGHBOUR: 'it returns false'. Refute it at one input. -/
def storeRangesWrong : ChangeSpec := { name := "storeRanges", fn := fun _ => fun
  | [d1, d2] => { results := [.lit (.bool false)], args := [d1, d2] }
  | _ => none }
def StoreRangesWrongFalsely : Prop := storeRangesRow.holds Tryz.pinned (OpenSpec.ofChange storeRangesWrong)

/-- 'pennantlaw08.StoreOwn': WHATEVER THE INPUT: true; the input reads as it did. -/
def storeOwnSpec : ChangeSpec := { name := "storeOwn", fn := fun _ => fun
  | [d] => { results := [.lit (.bool true)], args := [d] }
  | _ => none }
def storeOwnRow : OpenClaim := { program := "ytbegphfideopoaagreat", sum := "00a3ccd96bd9a6bb3a19fd9f9e8b8392dbae229129c1fc73b8065b723013d365", func := "pennant/pennantlaw08.StoreOwn", spec := "storeOwn", inPlace := ["internal/bytealg.MakeNoZero", "maps.clone"], unfollowed := true, recurses := true, apart := false }
def StoreOwnSaid : Prop := storeOwnRow.holds Tryz.pinned (OpenSpec.ofChange storeOwnSpec)

/-- ITS FALSE NEIGHBOUR: 'it returns false'. Refute it at one input. -/
def storeOwnWrong : ChangeSpec := { name := "storeOwn", fn := fun _ => fun
  | [d] => { results := [.lit (.bool false)], args := [d] }
  | _ => none }
def StoreOwnWrongFalsely : Prop := storeOwnRow.holds Tryz.pinned (OpenSpec.ofChange storeOwnWrong)

/-- 'pennanttop.TopStores': WHATEVER THE INPUT: true; the input reads as it did. -/
def topStoresSpec : ChangeSpec := { name := "topStores", fn := fun _ => fun
  | [d1, d2] => { results := [.lit (.bool true)], args := [d1, d2] }
  | _ => none }
def topStoresRow : OpenClaim := { program := "ytbegphfideopoaagreat", sum := "00a3ccd96bd9a6bb3a19fd9f9e8b8392dbae229129c1fc73b8065b723013d365", func := "pennant/pennanttop.TopStores", spec := "topStores", inPlace := ["internal/bytealg.MakeNoZero", "maps.clone"], unfollowed := true, recurses := true, apart := false }
def TopStoresSaid : Prop := topStoresRow.holds Tryz.pinned (OpenSpec.ofChange topStoresSpec)

/-- ITS FALSE NEIGHBOUR: 'it returns false'. Refute it at one input. -/
def topStoresWrong : ChangeSpec := { name := "topStores", fn := fun _ => fun
  | [d1, d2] => { results := [.lit (.bool false)], args := [d1, d2] }
  | _ => none }
def TopStoresWrongFalsely : Prop := topStoresRow.holds Tryz.pinned (OpenSpec.ofChange topStoresWrong)

/- THE SECOND FORM. 'bulk': how many values and letters a reading holds, each counted each time it is reached (what is shared counts as often as it is met; a slice's spare places count too). A statement '..UptoSaid' is the law's where the arguments, and the package variables that the reading takes, are together of bulk at most 1048576: NARROWER than '..Said'. Prove '..Said' where nothing that the law and all that it calls make is longer than what came in: it says more and counts as full. Else prove '..UptoSaid'. A law counts once. -/
mutual
def uptoBulk {H : Type} : DataW H → Nat
  | .lit (.string bytes) => bytes.length + 1
  | .lit _ => 1
  | .nil => 1
  | .ptr d => uptoBulk d + 1
  | .slice elems spare => uptoBulkAll elems + uptoBulkAll spare + 1
  | .agg parts => uptoBulkAll parts + 1
  | .iface _ d => uptoBulk d + 1
  | .map entries => uptoBulkEntries entries + 1
  | .held _ => 1
def uptoBulkAll {H : Type} : List (DataW H) → Nat
  | [] => 0
  | d :: r => uptoBulk d + uptoBulkAll r
def uptoBulkEntries {H : Type} : List (Lit × DataW H) → Nat
  | [] => 0
  | x :: r => uptoBulkEntry x + uptoBulkEntries r
def uptoBulkEntry {H : Type} : Lit × DataW H → Nat
  | (.string bytes, d) => bytes.length + uptoBulk d + 1
  | (_, d) => uptoBulk d + 1
 end
def uptoSmall : (H : Type) → List (DataW H) → Bool := fun _ ds => decide (uptoBulkAll ds ≤ 1048576)
def OpenSpec.upto (s : _root_.Go.ChangeSpec) : _root_.Go.OpenSpec := { _root_.Go.OpenSpec.ofChange s with cond := some uptoSmall }

/-- 'pennantlaw08.StoreLasts', WHERE WHAT IT READS IS OF BULK AT MOST 1048576: true; the input reads as it did. -/
def storeLastsUptoRow : OpenClaim := { program := "ytbegphfideopoaagreat", sum := "00a3ccd96bd9a6bb3a19fd9f9e8b8392dbae229129c1fc73b8065b723013d365", func := "pennant/pennantlaw08.StoreLasts", spec := "storeLasts", inPlace := ["internal/bytealg.MakeNoZero", "maps.clone"], unfollowed := true, recurses := true, apart := false, narrowed := true }
def StoreLastsUptoSaid : Prop := storeLastsUptoRow.holds Tryz.pinned (OpenSpec.upto storeLastsSpec)

/-- 'pennantlaw08.StoreFull', WHERE WHAT IT READS IS OF BULK AT MOST 1048576: true; the input reads as it did. -/
def storeFullUptoRow : OpenClaim := { program := "ytbegphfideopoaagreat", sum := "00a3ccd96bd9a6bb3a19fd9f9e8b8392dbae229129c1fc73b8065b723013d365", func := "pennant/pennantlaw08.StoreFull", spec := "storeFull", inPlace := ["internal/bytealg.MakeNoZero", "maps.clone"], unfollowed := true, recurses := true, apart := false, narrowed := true }
def StoreFullUptoSaid : Prop := storeFullUptoRow.holds Tryz.pinned (OpenSpec.upto storeFullSpec)

/-- 'pennantlaw08.StoreAtOnce', WHERE WHAT IT READS IS OF BULK AT MOST 1048576: true; the input reads as it did. -/
def storeAtOnceUptoRow : OpenClaim := { program := "ytbegphfideopoaagreat", sum := "00a3ccd96bd9a6bb3a19fd9f9e8b8392dbae229129c1fc73b8065b723013d365", func := "pennant/pennantlaw08.StoreAtOnce", spec := "storeAtOnce", inPlace := ["internal/bytealg.MakeNoZero", "maps.clone"], unfollowed := true, recurses := true, apart := false, narrowed := true }
def StoreAtOnceUptoSaid : Prop := storeAtOnceUptoRow.holds Tryz.pinned (OpenSpec.upto storeAtOnceSpec)

/-- 'pennantlaw08.StoreRanges', WHERE WHAT IT READS IS OF BULK AT MOST 1048576: true; the input reads as it did. -/
def storeRangesUptoRow : OpenClaim := { program := "ytbegphfideopoaagreat", sum := "00a3ccd96bd9a6bb3a19fd9f9e8b8392dbae229129c1fc73b8065b723013d365", func := "pennant/pennantlaw08.StoreRanges", spec := "storeRanges", inPlace := ["internal/bytealg.MakeNoZero", "maps.clone"], unfollowed := true, recurses := true, apart := false, narrowed := true }
def StoreRangesUptoSaid : Prop := storeRangesUptoRow.holds Tryz.pinned (OpenSpec.upto storeRangesSpec)

/-- 'pennantlaw08.StoreOwn', WHERE WHAT IT READS IS OF BULK AT MOST 1048576: true; the input reads as it did. -/
def storeOwnUptoRow : OpenClaim := { program := "ytbegphfideopoaagreat", sum := "00a3ccd96bd9a6bb3a19fd9f9e8b8392dbae229129c1fc73b8065b723013d365", func := "pennant/pennantlaw08.StoreOwn", spec := "storeOwn", inPlace := ["internal/bytealg.MakeNoZero", "maps.clone"], unfollowed := true, recurses := true, apart := false, narrowed := true }
def StoreOwnUptoSaid : Prop := storeOwnUptoRow.holds Tryz.pinned (OpenSpec.upto storeOwnSpec)

/-- 'pennanttop.TopStores', WHERE WHAT IT READS IS OF BULK AT MOST 1048576: true; the input reads as it did. -/
def topStoresUptoRow : OpenClaim := { program := "ytbegphfideopoaagreat", sum := "00a3ccd96bd9a6bb3a19fd9f9e8b8392dbae229129c1fc73b8065b723013d365", func := "pennant/pennanttop.TopStores", spec := "topStores", inPlace := ["internal/bytealg.MakeNoZero", "maps.clone"], unfollowed := true, recurses := true, apart := false, narrowed := true }
def TopStoresUptoSaid : Prop := topStoresUptoRow.holds Tryz.pinned (OpenSpec.upto topStoresSpec)

end Rows
end Go.Proofs.YtbegphfideopoaaGreat
