/-
  What is proved here: the program's disk: which sectors are dirty.
  Conditions: the disk lies in memory.
-/
import Derived.Test.YtbegphfideopoaaGreatJPDiskWrite
import Derived.Test.YtbegphfideopoaaGreatJDiskSorted
namespace Go.Proofs.YtbegphfideopoaaGreat
open Go.RowKit Go.Maps

theorem dirty_any (L : PLay) (s : DS) (w : World) (hD : PDisk w L s) :
    Calls Tryz.prog 39 #[.pointer (some ⟨L.g, 0, none⟩)] w fun e w' => ∃ v, e = .returned v ∧ OwnI w' w.heap.size v (dirtyS s) ∧ Below w.heap.size w w' := by
  obtain ⟨xv, hx, _⟩ := hD.head
  unfold PLay.head at hx
  obtain ⟨m, D, hown, hH⟩ := hD.map
  have hsz := hH.size hown
  rw [hD.ok.dirt] at hsz
  have hmx := hD.lay.max
  refine (dirty_keys L.g L.bm m D secR w (hx.cell (j := 1) rfl) hown (by unfold maxLen; omega) (by omega)).mono ?_
  rintro e w' ⟨v, ss, rfl, hp, hrow, _, hb⟩
  rw [sort_dirty hH hown hp] at hrow
  have hl : ss.length = (dirtyS s).length := by rw [hp.length_eq, ← (hH.perm hown).length_eq]; unfold dirtyI; rw [List.length_map]
  rw [hl] at hrow
  refine ⟨v, rfl, ?_, hb⟩
  unfold OwnI ints
  unfold dirtyI at hrow
  rw [List.map_map] at hrow
  exact hrow
end Go.Proofs.YtbegphfideopoaaGreat
