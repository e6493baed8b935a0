/-
  What is proved here: two closed facts on the program that the rows ask.
  Conditions: none.
-/
import Derived.Test.YtogpanedenpbjabRows
import Derived.Test.YtogpanedenpbjabPackWorld
import Derived.ProofKit
import Derived.OpenShut
import Derived.Stop.Joined
import Derived.ChangeOld
namespace Go.Proofs.Ytogpanedenpbjab
open Go.ChangeShapes Go.WideShapes Go.ChangeAt Go.RowKit

theorem own : ownKnob Try.prog.godebug = none := by kernel_rfl
theorem laidOut : laidOutB Try.prog = true := by kernel_rfl
end Go.Proofs.Ytogpanedenpbjab
