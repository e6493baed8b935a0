/-
  What is proved here: more of the calm log: what is refused changes nothing; what stands is opened.
  Conditions: those that each fact names.
-/
import Derived.Test.YtdojdkmchipccaaWalSegs
namespace Go.Proofs.Ytdojdkmchipccaa
open Go.RowKit

theorem open_stand {s : DS} {n0 : Nat} {l : LS} (h : Stand s n0 l) (h256 : 256 ≤ sizeS s) : openE s = 0 := by
  unfold openE
  rw [if_neg (by omega), h.calm.2]
  rfl
theorem openL_stand {s : DS} {n0 : Nat} {l : LS} (h : Stand s n0 l) : openL s = ⟨l.n, l.gen, [], 0, false, false⟩ := by
  unfold openL
  rw [h.there]
theorem check_full {s : DS} {l : LS} {st : List UInt8} (hbr : l.broke = false) (hf : sizeS s < (stateB st).length) : checkW s l st = (3, s, l) := by
  unfold checkW
  rw [hbr, if_neg (by decide), if_pos (.inl hf)]
theorem append_arg {s : DS} {n0 : Nat} {l : LS} (h : Stand s n0 l) (x : List UInt8) (hx : 4096 < x.length) : appendW s l x = (1, l) := by
  unfold appendW
  rw [h.broke, if_neg (by decide), h.begun, if_neg (by decide), if_pos hx]
theorem told_state (st : List UInt8) : toldB (stateB st) = (st, []) := by
  have := told_put st [] (fun x hx => by cases hx)
  rwa [show recsB [] = [] from rfl, List.append_nil] at this
theorem told_one (st x : List UInt8) (h : x.length ≤ 4096) : toldB (stateB st ++ pieceB 3 x) = (st, [x]) := by
  have := told_put st [x] (fun y hy => by rw [List.mem_singleton.1 hy]; exact h)
  rwa [show recsB [x] = pieceB 3 x from List.append_nil _] at this
end Go.Proofs.Ytdojdkmchipccaa
