/-
  What is proved here: the program's flash keeps to what the laws ask of a flash.
  Conditions: none.
-/
import Derived.Test.YtoemdmfpcobadaaDoorJPFlashNew
import Derived.Test.YtoemdmfpcobadaaDoorJPFlashRead
import Derived.Test.YtoemdmfpcobadaaDoorJPFlashDo
namespace Go.Proofs.YtoemdmfpcobadaaDoor
open Go.RowKit

def thePF : PF where
  Lay := PLay6
  g := fun L => L.g
  T := fun L => L.T
  Rel := PFlash
  n := fun L => L.n
  ok := fun h => h.ok
  lt := fun h => h.lt
  chg := fun h hc hT => h.chg hc hT
  new_bad := fun n k w _ _ h => new6_bad n k w h
  new_any := fun m k w h1 h2 h3 h4 => new6_any m k w h1 h2 h3 h4
  read := fun L s a m w h _ _ => read6_any L s a m w h
  program := fun L s a x bs w h _ hS _ hx => program6_any L s a x bs w h hS hx
  erase := fun L s b w h _ => erase6_any L s b w h
  arm := fun L s c d w h hc hd => arm6_any L s c d w h hc hd
  power := fun L s w h => power6_any L s w h
end Go.Proofs.YtoemdmfpcobadaaDoor
