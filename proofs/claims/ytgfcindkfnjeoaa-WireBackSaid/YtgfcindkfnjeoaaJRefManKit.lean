/-
  What is proved here: operations on words and manifests that the document's manifest package uses.
  Conditions: those that each fact names.
-/
import Derived.Test.YtgfcindkfnjeoaaJRefManRight
import Derived.Test.YtgfcindkfnjeoaaJManFresh
namespace Go.Proofs.Ytgfcindkfnjeoaa
open Go.RowKit

theorem exec_addR {a : Act} {o : Oper} {w : World} (t : TypeId) (x y : Operand) (ho : o.op = .binOp .add t x y t) (m n : Int) (hx : a.eval x = .int .i64 m) (hy : a.eval y = .int .i64 n) (h0 : -9223372036854775808 ≤ m + n) (h1 : m + n < 9223372036854775808) : (execOp a.eval o).run Try.prog w = .ok (.value (.int .i64 (m + n))) w := exec_addM t x y ho m n hx hy h0 h1
theorem exec_minR {a : Act} {o : Oper} {w : World} (t : TypeId) (t' : TypeId) (x y : Operand) (ho : o.op = .call { callee := .builtin .min, args := #[x, y], argTypes := #[t, t'] }) (m n r : Int) (hx : a.eval x = .int .i64 m) (hy : a.eval y = .int .i64 n) (h : min m n = r) : (execOp a.eval o).run Try.prog w = .ok (.value (.int .i64 r)) w := by
  subst h
  unfold execOp
  simp [ho, resolve, invoke, hx, hy, builtin, Lib.run_min_ints]
theorem exec_word {a : Act} {o : Oper} {w : World} (x : Operand) (ho : o.op = .buildSlice 23 1 #[(0, x)]) (y : BitVec 32) (hx : a.eval x = v32 y) : (execOp a.eval o).run Try.prog w = .ok (.value (.slice (some ⟨w.heap.size, 0, none⟩) 1 1)) (w.alloc (.cells #[v32 y] 74)) := by
  unfold execOp
  simp only [ho]
  simp [go_sem]
  have hx' := hx
  simp [go_sem] at hx'
  simp [hx', v32]
theorem exec_storew {a : Act} {o : Oper} {w : World} (x y : Operand) (ho : o.op = .store 23 x y) (g i : Nat) (ao : Option Addr) (n c : Nat) (hx : a.eval x = .pointer (some ⟨g, i, none⟩)) (hy : a.eval y = .slice ao n c) {u : Value} (hc : w.cell? ⟨g, i, none⟩ = some u) (hf : w.frozen? ⟨g, i, none⟩ = false) : (execOp a.eval o).run Try.prog w = .ok .skip (w.setCell ⟨g, i, none⟩ (.slice ao n c)) := by
  unfold execOp
  simp only [ho, hx, hy]
  simp [go_sem, hc, hf]
theorem built_four (v s c : Int) (h : List UInt8) (hh : h.length = 32) : Try.prog.built 25 [(0, .int .i64 v), (1, .int .i64 s), (2, .int .i64 c), (3, .agg (h.map v8).toArray)] = some (manC ⟨v, s, c, h, []⟩ (.slice none 0 0)) :=
  match h, hh with
  | [a0, a1, a2, a3, a4, a5, a6, a7, a8, a9, a10, a11, a12, a13, a14, a15, a16, a17, a18, a19, a20, a21, a22, a23, a24, a25, a26, a27, a28, a29, a30, a31], _ => by kernel_rfl
/-- How many chunks, as a natural number. -/
def cntN (n c : Nat) : Nat := (n + c - 1) / c
theorem cntN_lt (n c k : Nat) (hc : 0 < c) : k < cntN n c ↔ c * k < n := by
  unfold cntN
  have h := Nat.le_div_iff_mul_le hc (x := k + 1) (y := n + c - 1)
  rw [Nat.add_mul, Nat.mul_comm k c] at h
  omega
theorem cntN_eq (v : Int) (bs : List UInt8) (c : Nat) (hc : 0 < c) : countM (numsM v bs c) = (cntN bs.length c : Int) := by
  show ((bs.length : Int) + (c : Int) - 1) / (c : Int) = _
  unfold cntN
  rw [show (bs.length : Int) + (c : Int) - 1 = ((bs.length + c - 1 : Nat) : Int) by omega]
  simp
end Go.Proofs.Ytgfcindkfnjeoaa
