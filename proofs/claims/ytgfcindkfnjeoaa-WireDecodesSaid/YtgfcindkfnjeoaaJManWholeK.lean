/-
  What is proved here: arrays of 32 bytes are compared; where a manifest's hash lies; a struct is read off the middle of a block.
  Conditions: those that each fact names.
-/
import Derived.Test.YtgfcindkfnjeoaaJManPlain
import Derived.Stop.BytesEq
import Derived.Laws.StructEq
namespace Go.Proofs.Ytgfcindkfnjeoaa
open Go.RowKit

theorem exec_loadsM {a : Act} {o : Oper} {w : World} (ty : TypeId) (x : Operand) (ho : o.op = .load ty x)
    (b off : Nat) (hx : a.eval x = .pointer (some ⟨b, off, none⟩)) (cs : List Value) (ca : Array Value) (hca : cs.toArray = ca) (d : TypeDesc) (hc : w.rangeAt b off cs)
    (hu : Try.prog.underlying ty = some d) (hd : d.isRow = true) (hi : (Try.prog.info? ty).map (·.size) = some cs.length) : (execOp a.eval o).run Try.prog w = .ok (.value (.agg ca)) w := by
  subst hca
  unfold execOp
  simp only [ho, hx, Instr.loadAt, Instr.sureAddr, Sem.run_bind, Sem.run_pure, Result.andThen_ok, run_loadVar_mid w b off ty cs d hc hu hd hi]
theorem eql_sums (xs ys : List UInt8) (hx : xs.length = 32) (hy : ys.length = 32) (w : World) : (binOp .eql 22 (.agg (xs.map v8).toArray) (.agg (ys.map v8).toArray)).run Try.prog w = .ok (.bool (xs == ys)) w := by
  have h : (Op.equalIn 10000 22 (.agg (xs.map v8).toArray) (.agg (ys.map v8).toArray)).run Try.prog w = .ok (xs == ys) w := run_equalIn_bytes (P := Try.prog) w 9998 22 5 32 Try.underlying22 Try.underlying5 (fun w => by kernel_rfl) xs ys hx hy
  rw [run_eql_struct, h]
  rfl
theorem man_range (m : MM) (su : Value) (B : Nat) (V : World) (h : Blk V B 25 (manC m su)) : V.rangeAt B 3 (m.h.map v8) := fun j v hv => by
  have hj : j < m.h.length := by
    rcases Nat.lt_or_ge j m.h.length with h | h
    · exact h
    · rw [List.getElem?_eq_none (by simpa using h)] at hv; cases hv
  refine h.cell ?_
  rw [manC_hash m su j hj, ← hv]
  simp [hj]
end Go.Proofs.Ytgfcindkfnjeoaa
