/-
  What is proved here: the statements' awake answers true.
  Conditions: none.
-/
import Derived.Test.YtchbfhckocfjhaaDoorFrameStuff
namespace Go.Proofs.YtchbfhckocfjhaaDoor
open Go.RowKit

theorem stuff_three : stuff [7, 0, 8] = [2, 7, 2, 8] := by
  have h := stuff_zero [7] [8] (by decide) (by decide)
  rw [stuff_run [8] (by decide) (by decide)] at h
  exact h

set_option maxRecDepth 100000 in
theorem fawake_any (w : World) : Calls Tryd.prog 7 #[] w fun e w' => e = .returned (.bool true) ∧ Below w.heap.size w w' := by
  have HR : Hid (∀ W : World, Row (W.alloc (.cells #[.int .u8 7, .int .u8 0, .int .u8 8] 5)) W.heap.size 0 [7, 0, 8]) := fun W => Blk.row (Blk.new W 5 _)
  have HS := stuff_any (.slice (some ⟨w.heap.size, 0, none⟩) 3 3) [7, 0, 8] (w.alloc (.cells #[.int .u8 7, .int .u8 0, .int .u8 8] 5)) (by decide) (Seg.of_row (HR.out w) rfl (Nat.le_refl _) (by simp))
  rw [stuff_three] at HS
  go_enter Tryd.func7, Tryd.ntmps7
  go_wp2_with fail
  refine HS.mono ?_
  rintro e w1 ⟨v1, rfl, ho1, hb1⟩
  obtain ⟨a1, c1, rfl⟩ := ho1.seg.shapeF
  have hc : (convert 22 9 (.slice a1 4 c1)).run Tryd.prog w1 = .ok (.string ⟨#[2, 7, 2, 8]⟩) w1 := seg_stringF ho1.seg 9 Tryd.underlying9
  clear HS
  go_wp2
  go_ret
  refine ⟨rfl, ?_⟩
  exact ((Below.refl _ w).alloc (Nat.le_refl _) _).trans (hb1.mono (by simp))
end Go.Proofs.YtchbfhckocfjhaaDoor
