/-
  What is proved here: a disk whose power goes, with booleans that came in.
  Conditions: those that each fact names.
-/
import Derived.Test.YtbegphfideopoaaGreatJPDiskCrash
import Derived.Test.YtbegphfideopoaaGreatJPDiskWrite
namespace Go.Proofs.YtbegphfideopoaaGreat
open Go.RowKit

/-- Booleans lie here. -/
def BoolsIn8 (W : World) (v : Value) (l : List Bool) : Prop := ∃ ao c, v = .slice ao l.length c ∧ ∀ (j : Nat) b, l[j]? = some b → ∃ q off, ao = some ⟨q, off, none⟩ ∧ q < W.heap.size ∧ W.cell? ⟨q, off + j, none⟩ = some (.bool b)
theorem BoolsIn8.apart {w W : World} {v : Value} {l : List Bool} {T : Nat → Prop} (hw : BoolsIn8 w v l) (hb : Below w.heap.size w W) (hT : ∀ q, T q → w.heap.size ≤ q) : BoolsA W T v l := by
  obtain ⟨ao, c, h1, h2⟩ := hw
  refine ⟨ao, c, h1, fun j b hj => ?_⟩
  obtain ⟨q, off, e, hq, hc⟩ := h2 j b hj
  exact ⟨q, off, e, Nat.lt_of_lt_of_le hq hb.size, fun hTq => by have := hT q hTq; omega, by rw [hb.cell (p := ⟨q, off + j, none⟩) hq]; exact hc⟩
theorem od_crash (L : PLay) (C : Nat → Prop) (s : DS) (sv : Value) (stay : List Bool) (torn cut : Int) (w : World) (hD : OD w L C s) (hS : BoolsA w L.T sv stay) :
    Calls Tryz.prog 17 #[.pointer (some ⟨L.g, 0, none⟩), sv, .int .i64 torn, .int .i64 cut] w fun e w' => e = .returned (.tuple #[]) ∧ OD w' L (Fr C w w') (crashS s stay torn cut) ∧ Chg C w w' :=
  (crash_any (L.off w C) s sv stay torn cut w hD.d hS).mono fun _ _ ⟨h1, h2, h3⟩ => ⟨h1, hD.step h2 h3, h3.weaken hD.own⟩
end Go.Proofs.YtbegphfideopoaaGreat
