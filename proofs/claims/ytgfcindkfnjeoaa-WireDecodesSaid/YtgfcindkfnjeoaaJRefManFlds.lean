/-
  What is proved here: the document's Fields of a manifest are the fields of a manifest.
  Conditions: none.
-/
import Derived.Test.YtgfcindkfnjeoaaJManFlds
namespace Go.Proofs.Ytgfcindkfnjeoaa
open Go.RowKit

/-- The cells of a manifest's fields. -/
def fldsAll (o : Value) : Array Value := #[.int .i64 1, .int .u64 1, .int .u64 1073741824, .slice none 0 0, .int .i64 1, .int .u64 1, .int .u64 32768, .slice none 0 0, .int .i64 1, .int .u64 16, .int .u64 1024, .slice none 0 0, .int .i64 2, .int .u64 32, .int .u64 32, .slice none 0 0, .int .i64 3, .int .u64 1, .int .u64 128, o]
set_option maxRecDepth 100000 in
theorem rmFlds_any (w : World) : Calls Try.prog 56 #[] w fun e w' => ∃ v, e = .returned v ∧ Flds w' 2 v manF ∧ Below w.heap.size w w' := by
  have kn := (Blk.new w 62 (fldA 1 0 16777215 (.slice none 0 0))).alloc (.cells (fldsAll (.slice (some ⟨w.heap.size, 0, none⟩) 1 1)) 62)
  have hB : Below w.heap.size w ((w.alloc (.cells (fldA 1 0 16777215 (.slice none 0 0)) 62)).alloc (.cells (fldsAll (.slice (some ⟨w.heap.size, 0, none⟩) 1 1)) 62)) := ((Below.refl _ _).alloc (Nat.le_refl _) _).alloc (by simp) _
  have k : Blk ((w.alloc (.cells (fldA 1 0 16777215 (.slice none 0 0)) 62)).alloc (.cells (fldsAll (.slice (some ⟨w.heap.size, 0, none⟩) 1 1)) 62)) (w.heap.size + 1) 62 (fldsAll (.slice (some ⟨w.heap.size, 0, none⟩) 1 1)) := Blk.newAt _ _ _ _ (by simp)
  go_enter Try.func56, Try.ntmps56
  go_wp2
  refine bodyPost_ret (v := .slice (some ⟨w.heap.size + 1, 0, none⟩) 5 5) (by simp [results, Try.results56, go_sem]) rfl ?_
  refine ⟨_, rfl, ?_, hB⟩
  show Flds ((w.alloc (.cells (fldA 1 0 16777215 (.slice none 0 0)) 62)).alloc (.cells (fldsAll (.slice (some ⟨w.heap.size, 0, none⟩) 1 1)) 62)) 2 _ manF
  generalize ((w.alloc (.cells (fldA 1 0 16777215 (.slice none 0 0)) 62)).alloc (.cells (fldsAll (.slice (some ⟨w.heap.size, 0, none⟩) 1 1)) 62)) = W at *
  have HN : Flds W 1 (.slice (some ⟨w.heap.size, 0, none⟩) 1 1) [sumF] := by
    refine ⟨_, 1, rfl, by decide, fun _ => ⟨w.heap.size, 0, rfl, kn.lt, Nat.le_refl _, fun i f hf => ?_⟩⟩
    match i, hf with
    | 0, hf =>
      cases hf
      exact ⟨kn.cell (j := 0) rfl, kn.cell (j := 1) rfl, kn.cell (j := 2) rfl, ⟨_, kn.cell (j := 3) rfl, rfl, rfl⟩, by decide, by decide⟩
    | (i + 1), hf => cases hf
  have HZ : Flds W 1 (.slice none 0 0) [] := ⟨none, 0, rfl, by decide, fun h => by simp at h⟩
  refine ⟨some ⟨w.heap.size + 1, 0, none⟩, 5, rfl, by decide, fun _ => ⟨w.heap.size + 1, 0, rfl, k.lt, by decide, fun i f hf => ?_⟩⟩
  match i, hf with
  | 0, hf => cases hf; exact ⟨k.cell (j := 0) rfl, k.cell (j := 1) rfl, k.cell (j := 2) rfl, ⟨_, k.cell (j := 3) rfl, HZ⟩, by decide, by decide⟩
  | 1, hf => cases hf; exact ⟨k.cell (j := 4) rfl, k.cell (j := 5) rfl, k.cell (j := 6) rfl, ⟨_, k.cell (j := 7) rfl, HZ⟩, by decide, by decide⟩
  | 2, hf => cases hf; exact ⟨k.cell (j := 8) rfl, k.cell (j := 9) rfl, k.cell (j := 10) rfl, ⟨_, k.cell (j := 11) rfl, HZ⟩, by decide, by decide⟩
  | 3, hf => cases hf; exact ⟨k.cell (j := 12) rfl, k.cell (j := 13) rfl, k.cell (j := 14) rfl, ⟨_, k.cell (j := 15) rfl, HZ⟩, by decide, by decide⟩
  | 4, hf => cases hf; exact ⟨k.cell (j := 16) rfl, k.cell (j := 17) rfl, k.cell (j := 18) rfl, ⟨_, k.cell (j := 19) rfl, HN⟩, by decide, by decide⟩
  | (i + 5), hf => cases hf
end Go.Proofs.Ytgfcindkfnjeoaa
