/-
  What is proved here: the document's Right and Most answer as the plain functions do.
  Conditions: the fields lie in memory as slices of fields.
-/
import Derived.Test.YtpebjocmnojldaaDoorJRefPackMost
namespace Go.Proofs.YtpebjocmnojldaaDoor
open Go.RowKit

set_option maxRecDepth 100000 in
theorem refRight_any (n : Nat) (v : Value) (l : List Fld) (w : World) (hf : Flds w n v l) :
    Calls Tryd.prog 40 #[v] w fun e w' => e = .returned (.bool (mostL 4 l).isSome) ∧ Below w.heap.size w w' := by
  obtain ⟨ao, c, hv, _, _⟩ := hf.form
  have HM : Hid (Calls Tryd.prog 59 #[v, .int .i64 1] w fun e w' => e = .returned (.int .i64 (((mostL 4 l).getD 1048577 : Nat) : Int)) ∧ Below w.heap.size w w') := refMost_any 4 (by omega) n v l w 1 (by decide) hf
  subst hv
  cases hm : mostL 4 l with
  | none =>
    rw [hm, Option.getD_none] at HM
    go_enter Tryd.func40, Tryd.ntmps40
    go_wp2_with (go_at_call 59; refine HM.out.mono ?_; rintro e w1 ⟨rfl, hb1⟩)
    go_ret
    exact ⟨rfl, hb1⟩
  | some k =>
    have hk := mostL_le hm
    rw [hm, Option.getD_some] at HM
    have i1 : (k : Int) ≤ 1048576 := by omega
    go_enter Tryd.func40, Tryd.ntmps40
    go_wp2_with (go_at_call 59; refine HM.out.mono ?_; rintro e w1 ⟨rfl, hb1⟩)
    go_ret
    exact ⟨by simp, hb1⟩

end Go.Proofs.YtpebjocmnojldaaDoor
