/-
  What is proved here: the statement WavePlans is true of any devices and parts.
  Conditions: they lie in memory; the variable fourBits holds the sixteen words.
-/
import Derived.Test.YtnagdgkkkkpekaaDoorLawWaveTurned
import Derived.Test.YtnagdgkkkkpekaaDoorRefWaveP
namespace Go.Proofs.YtnagdgkkkkpekaaDoor
open Go.RowKit

set_option maxRecDepth 100000 in
set_option maxHeartbeats 4000000 in
theorem wavePlans_any (c : Int) (x y : Value) (ds ps : List Int) (w : World) (hx : IntsI w x ds) (hy : IntsI w y ps) (hgf : 0 < w.heap.size) (hf : Tab w 0 (fours.map v32)) :
    Calls Tryd.prog 3 #[.int .i64 c, x, y] w fun e w' => e = .returned (.bool true) ∧ Below w.heap.size w w' := by
  have HX : Hid (IntsI w x ds) := hx
  have HY : Hid (IntsI w y ps) := hy
  have HF : Hid (0 < w.heap.size ∧ Tab w 0 (fours.map v32)) := ⟨hgf, hf⟩
  obtain ⟨ax, cx, rfl⟩ := hx.shape
  obtain ⟨ay, cy, rfl⟩ := hy.shape
  clear hx hy hgf hf
  go_enter Tryd.func3, Tryd.ntmps3
  go_wp2_with fail
  refine (awake15_any w HF.out.1 HF.out.2).mono ?_
  rintro e w1 ⟨rfl, hB1⟩
  by_cases hd : 500 < ds.length
  · have D : decide ((500 : Int) < (ds.length : Int)) = true := decide_eq_true (by omega)
    clear hd
    go_wp2
    go_ret
    exact ⟨rfl, hB1⟩
  have D : decide ((500 : Int) < (ds.length : Int)) = false := decide_eq_false (by omega)
  by_cases hp : 100 < ps.length
  · have D1 : decide ((100 : Int) < (ps.length : Int)) = true := decide_eq_true (by omega)
    clear hd hp
    go_wp2
    go_ret
    exact ⟨rfl, hB1⟩
  have D1 : decide ((100 : Int) < (ps.length : Int)) = false := decide_eq_false (by omega)
  have HL : Hid (ds.length ≤ 500 ∧ ps.length ≤ 100) := ⟨by omega, by omega⟩
  clear hd hp
  have HZ : Hid (Calls Tryd.prog 10 #[.int .i64 c, .slice ax ds.length cx, .slice ay ps.length cy] w1 fun e w' => ∃ v, e = .returned (.tuple #[v, .int .i64 (planW c ds ps).2]) ∧ PlanZ w' w1.heap.size v (planW c ds ps).1 ∧ Below w1.heap.size w1 w') :=
    plan_any15 c _ _ ds ps w1 (Nat.lt_of_lt_of_le HF.out.1 hB1.size) (HF.out.2.below hB1 HF.out.1) (HX.out.below hB1 (Nat.le_refl _)) (HY.out.below hB1 (Nat.le_refl _)) (by have := HL.out; omega)
  go_wp2_with fail
  refine HZ.out.mono ?_
  rintro e W1 ⟨v1, rfl, hp1, hb1⟩
  have hB2 : Below w.heap.size w W1 := hB1.trans (hb1.mono hB1.size)
  have HP1 : Hid (RowsI W1 v1 (planW c ds ps).1) := hp1.rows (planW_rows _ _ _ (by have := HL.out; omega))
  have HQ : Hid (Calls Tryd.prog 11 #[.int .i64 c, .slice ax ds.length cx, .slice ay ps.length cy] W1 fun e w' => ∃ v, e = .returned (.tuple #[v, .int .i64 (planW c ds ps).2]) ∧ PlanZ w' W1.heap.size v (planW c ds ps).1 ∧ Below W1.heap.size W1 w') :=
    rplan_any c _ _ ds ps W1 (HX.out.below hB2 (Nat.le_refl _)) (HY.out.below hB2 (Nat.le_refl _)) (by have := HL.out; omega)
  clear hp1 hb1 hB1 D D1 HZ
  go_wp2_with fail
  refine HQ.out.mono ?_
  rintro e W2 ⟨v2, rfl, hp2, hb2⟩
  have hB3 : Below w.heap.size w W2 := hB2.trans (hb2.mono hB2.size)
  have HP2 : Hid (RowsI W2 v2 (planW c ds ps).1) := hp2.rows (planW_rows _ _ _ (by have := HL.out; omega))
  have HS : Hid (Calls Tryd.prog 12 #[v1, v2] W2 fun e w' => e = .returned (.bool true) ∧ Below W2.heap.size W2 w') := by
    have := same15_any v1 v2 _ _ W2 (HP1.out.below hb2 (Nat.le_refl _)) HP2.out
    rw [decide_eq_true (rfl : (planW c ds ps).1 = (planW c ds ps).1)] at this
    exact this
  clear hp2 hB2 HQ
  go_wp2_with fail
  refine HS.out.mono ?_
  rintro e W3 ⟨rfl, hb3⟩
  have hB4 : Below w.heap.size w W3 := hB3.trans (hb3.mono hB3.size)
  have H5 : Hid (Calls Tryd.prog 13 #[.slice ay ps.length cy] W3 fun e w' => e = .returned (.bool (partsW ps)) ∧ w' = W3) := right15_any _ ps W3 (HY.out.below hB4 (Nat.le_refl _))
  have H6 : Hid (Calls Tryd.prog 14 #[.slice ay ps.length cy] W3 fun e w' => e = .returned (.bool (partsW ps)) ∧ Below W3.heap.size W3 w') := rright15_any _ ps W3 (HY.out.below hB4 (Nat.le_refl _))
  clear hb3 hB3 HS
  generalize (planW c ds ps).2 = E at *
  generalize partsW ps = R at *
  go_wp2_with (first | (go_at_call 13; refine H5.out.mono ?_; rintro e w' ⟨rfl, rfl⟩) | (go_at_call 14; refine H6.out.mono ?_; rintro e w' ⟨rfl, hb6⟩))
  go_ret
  exact ⟨rfl, hB4.trans (hb6.mono hB4.size)⟩
end Go.Proofs.YtnagdgkkkkpekaaDoor
