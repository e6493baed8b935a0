/-
  What is said here: what the program's flash must keep to when it is asked how often a block was erased.
  Conditions: none: it is to be shown of the program.
-/
import Derived.Test.YtjcbkimibmdggaaFlashI
namespace Go.Proofs.Ytjcbkimibmdggaa
open Go.RowKit

/-- It tells how often a block was erased. -/
def HasWear (P : PF) : Prop := ∀ (L : P.Lay) (s : FS) (k : Int) (w : World), P.Rel w L s → R64 k → Calls Try.prog 15 #[.pointer (some ⟨P.g L, 0, none⟩), .int .i64 k] w fun e w' => e = .returned (.tuple #[.int .i64 ((wearF s k).1 : Int), .int .i64 (wearF s k).2]) ∧ Below w.heap.size w w'
end Go.Proofs.Ytjcbkimibmdggaa
