/-
  What is proved here: the statements' few of layer 10.
  Conditions: those that the fact names.
-/
import Derived.Test.YthophonofaaafaaDoorJManMore
namespace Go.Proofs.YthophonofaaafaaDoor
open Go.RowKit

theorem eql_int_self (w : World) (z : Int) : (binOp .eql 3 (.int .i64 z) (.int .i64 z)).run Tryd.prog w = .ok (.bool true) w := by simp [go_sem]
theorem eql_err_self (w : World) (z : Int) : (binOp .eql 28 (.int .i64 z) (.int .i64 z)).run Tryd.prog w = .ok (.bool true) w := by simp [go_sem]
set_option maxRecDepth 100000 in
theorem few10_any (m : MM) (su : Value) (w : World) (hh : m.h.length = 32) (hu : Wds w su m.u) : Calls Tryd.prog 13 #[manV m su] w fun e w' => e = .returned (.bool (decide (m.u.length ≤ 1000))) ∧ Below w.heap.size w w' := by
  have hB := (Below.refl w.heap.size w).alloc (Nat.le_refl _) (.cells (manC m su) 27)
  have c35 := (Blk.new w 27 (manC m su)).cell (manC_35 m su hh)
  obtain ⟨ao, c, rfl⟩ := hu.shape
  clear hu hh
  have HD : Hid (decide ((m.u.length : Int) ≤ 1000) = decide (m.u.length ≤ 1000)) := by show _ = _; exact decide_eq_decide.2 (by omega)
  unfold manV
  generalize manC m (.slice ao m.u.length c) = MC at *
  go_enter Tryd.func13, Tryd.ntmps13
  go_wp2
  go_ret
  exact ⟨ret_bool HD.out, hB⟩
end Go.Proofs.YthophonofaaafaaDoor
