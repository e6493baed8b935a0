/-
  What is proved here: the statement WaveJudges is true of any numbers.
  Conditions: the variable fourBits holds the sixteen words.
-/
import Derived.Test.YtnagdgkkkkpekaaDoorWaveAwake
import Derived.Test.YtnagdgkkkkpekaaDoorRefWaveJ
namespace Go.Proofs.YtnagdgkkkkpekaaDoor
open Go.RowKit

set_option maxRecDepth 100000 in
set_option maxHeartbeats 1000000 in
theorem waveJudges_any (y z x p h : Int) (w : World) (hgf : 0 < w.heap.size) (hf : Tab w 0 (fours.map v32)) :
    Calls Tryd.prog 4 #[.agg #[.int .i64 y, .int .i64 z, .int .i64 x], .int .i64 p, .int .i64 h] w fun e w' => e = .returned (.bool true) ∧ Below w.heap.size w w' := by
  have hb0 : Below w.heap.size w (w.alloc (.cells #[vI y, vI z, vI x] 31)) := (Below.refl _ _).alloc (Nat.le_refl _) _
  have HA : Hid (Calls Tryd.prog 9 #[] (w.alloc (.cells #[vI y, vI z, vI x] 31)) fun e w' => e = .returned (.bool true) ∧ Below (w.heap.size + 1) (w.alloc (.cells #[vI y, vI z, vI x] 31)) w') := by
    have := awake15_any (w.alloc (.cells #[vI y, vI z, vI x] 31)) (Nat.lt_of_lt_of_le hgf hb0.size) (hf.below hb0 hgf)
    rw [World.size_alloc] at this
    exact this
  have k := Blk.new w 31 #[vI y, vI z, vI x]
  clear hgf hf
  go_enter Tryd.func4, Tryd.ntmps4
  go_wp2_with fail
  refine HA.out.mono ?_
  rintro e w1 ⟨rfl, hb1⟩
  have c0 : w1.cell? ⟨w.heap.size, 0, none⟩ = some (vI y) := (hb1.cell (p := ⟨w.heap.size, 0, none⟩) (by simp)).trans (k.cell rfl)
  have c1 : w1.cell? ⟨w.heap.size, 1, none⟩ = some (vI z) := (hb1.cell (p := ⟨w.heap.size, 1, none⟩) (by simp)).trans (k.cell rfl)
  have c2 : w1.cell? ⟨w.heap.size, 2, none⟩ = some (vI x) := (hb1.cell (p := ⟨w.heap.size, 2, none⟩) (by simp)).trans (k.cell rfl)
  have hB : Below w.heap.size w w1 := hb0.trans (hb1.mono (by omega))
  clear k hb0 hb1
  go_wp2_with fail
  refine (judge_any _ _ _ _ _ _).mono ?_
  rintro e w2 ⟨rfl, rfl⟩
  go_wp2_with fail
  refine (rjudge_any _ _ _ _ _ _).mono ?_
  rintro e w3 ⟨rfl, rfl⟩
  generalize judgeW y z x p h = J
  go_wp2
  go_ret
  exact ⟨rfl, hB⟩
end Go.Proofs.YtnagdgkkkkpekaaDoor
