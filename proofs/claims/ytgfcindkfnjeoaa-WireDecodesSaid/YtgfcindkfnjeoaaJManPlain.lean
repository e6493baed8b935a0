/-
  What is proved here: the manifest that is none; how many chunks there are, and what span each has, as plain functions. manifest.Count and Span answer as the plain functions do.
  Conditions: none. those that each fact names.
-/
import Derived.Test.YtgfcindkfnjeoaaJManPure
import Derived.Test.YtgfcindkfnjeoaaJSegMid
import Derived.Test.YtgfcindkfnjeoaaJManRight
namespace Go.Proofs.Ytgfcindkfnjeoaa
open Go.RowKit

def zeroM : MM := ⟨0, 0, 0, List.replicate 32 0, []⟩
theorem zeroM_not : ¬ numsOk zeroM := fun h => by have := h.1.1; simp [zeroM] at this
/-- What Span tells. -/
def spanE (m : MM) (i : Int) : Int × Int × Int := if 0 ≤ i ∧ okM m ∧ i < countM m then (atM m i, lenM m i, 0) else (0, 0, 1)
def countE (m : MM) : Int := if okM m then countM m else 0
theorem countE_le (m : MM) : 0 ≤ countE m ∧ countE m ≤ 128 := by
  unfold countE
  split
  · rename_i h
    have h1 := countM_pos h.1
    have h2 := h.1.2.2.2
    omega
  · omega
theorem spanE_yes {m : MM} {i : Int} (h0 : 0 ≤ i) (h1 : okM m) (h2 : i < countM m) : spanE m i = (atM m i, lenM m i, 0) := if_pos ⟨h0, h1, h2⟩
theorem spanE_no {m : MM} {i : Int} (h : ¬ (0 ≤ i ∧ i < countE m)) : spanE m i = (0, 0, 1) := by
  refine if_neg fun ⟨h0, h1, h2⟩ => h ⟨h0, ?_⟩
  unfold countE; rw [if_pos h1]; exact h2
/-- An image's numbers. -/
def numsM (v : Int) (bs : List UInt8) (c : Int) : MM := ⟨v, bs.length, c, List.replicate 32 0, []⟩
end Go.Proofs.Ytgfcindkfnjeoaa
namespace Go.Proofs.Ytgfcindkfnjeoaa
open Go.RowKit



def tup3 (x : Int × Int × Int) : Value := .tuple #[.int .i64 x.1, .int .i64 x.2.1, .int .i64 x.2.2]

end Go.Proofs.Ytgfcindkfnjeoaa
