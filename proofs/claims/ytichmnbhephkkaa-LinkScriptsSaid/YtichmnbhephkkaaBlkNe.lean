/-
  What is proved here: blocks of unlike types are unlike; how a slice of bytes lies as an element.
  Conditions: none.
-/
import Derived.Test.YtichmnbhephkkaaShaApp
namespace Go.Proofs.Ytichmnbhephkkaa
open Go.RowKit

theorem Try.info32p : (Try.prog.info? 32).map (fun i => (i.zero, i.size, i.bytes)) = some (some (.slice none 0 0), 1, 24) := by kernel_rfl
/-- Blocks of unlike types are unlike. -/
theorem Blk.ne {w : World} {a b : Nat} {t t' : TypeId} {x y : Array Value} (h : Blk w a t x) (h' : Blk w b t' y) (ht : t ≠ t') : a ≠ b := fun e => by
  subst e
  unfold Blk at h h'
  rw [h] at h'
  injection h' with h'
  injection h' with _ h2
  exact ht h2
end Go.Proofs.Ytichmnbhephkkaa
