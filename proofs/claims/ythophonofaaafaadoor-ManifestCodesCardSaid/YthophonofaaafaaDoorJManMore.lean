/-
  What is proved here: what Make answers, in one form; small facts that the statements of layer 10 share.
  Conditions: those that each fact names.
-/
import Derived.Test.YthophonofaaafaaDoorJManAwake
import Derived.Test.YthophonofaaafaaDoorJManWhole
namespace Go.Proofs.YthophonofaaafaaDoor
open Go.RowKit

/-- What Make answers, in one form. -/
theorem make_gen (v : Int) (bv : Value) (bs : List UInt8) (c : Int) (w : World) (hbl : bs.length ≤ 1000000000) (hseg : Seg w bv bs) (L : Laid10 w) :
    Calls Tryd.prog 10 #[.int .i64 v, bv, .int .i64 c] w fun e w' => ∃ (M : MM) (su : Value) (er : Int), e = .returned (.tuple #[manV M su, .int .i64 er]) ∧ M.h.length = 32 ∧ M.u.length ≤ 128 ∧ Wds w' su M.u ∧ ((er = 0 ∧ numsOk (numsM v bs c) ∧ M = makeM v bs c) ∨ (er = 1 ∧ ¬ numsOk (numsM v bs c) ∧ M = zeroM)) ∧ Below w.heap.size w w' := by
  refine (make_any v bv bs c w hbl hseg L).mono ?_
  rintro e w' ⟨⟨hn, su, rfl, ho⟩ | ⟨hn, rfl⟩, hb⟩
  · exact ⟨_, su, 0, rfl, makeM_hash _ _ _, (okM_len (makeM_ok hn)).1, ho.wds, .inl ⟨rfl, hn, rfl⟩, hb⟩
  · exact ⟨zeroM, _, 1, rfl, by simp [zeroM], by simp [zeroM], ⟨none, 0, rfl, fun h => by simp [zeroM] at h⟩, .inr ⟨rfl, hn, rfl⟩, hb⟩
theorem isWhole_make {v : Int} {bs : List UInt8} {c : Int} (h : numsOk (numsM v bs c)) : isWhole (makeM v bs c) bs = true := decide_eq_true ⟨makeM_ok h, rfl, rfl⟩
theorem size_zeroMan (m : MM) (su : Value) (h : m.h.length = 32) : (manC zeroM (.slice none 0 0)).size = (manC m su).size := (manC_size _ _ (by simp [zeroM])).trans (manC_size _ _ h).symm

theorem fresh_below {w W : World} {o : Obj} (hg : (w.alloc o).grownBy W (some w.heap.size)) : Below w.heap.size w W :=
  below_grown ((Below.refl w.heap.size w).alloc (Nat.le_refl _) o) hg (by simp) (fun q hq => by cases hq; exact Nat.le_refl _)

theorem exec_addM {a : Act} {o : Oper} {w : World} (t : TypeId) (x y : Operand) (ho : o.op = .binOp .add t x y t) (m n : Int) (hx : a.eval x = .int .i64 m) (hy : a.eval y = .int .i64 n) (h0 : -9223372036854775808 ≤ m + n) (h1 : m + n < 9223372036854775808) : (execOp a.eval o).run Tryd.prog w = .ok (.value (.int .i64 (m + n))) w := by
  have hw : IntKind.i64.wrap (m + n) = m + n := by rw [IntKind.wrap_i64]; omega
  unfold execOp
  simp [ho, hx, hy]
  rw [← hw]
  rfl
end Go.Proofs.YthophonofaaafaaDoor
