/-
  What is proved here: plain steps of manifest.manifestOf: conversions of its numbers, a new manifest, a hash copied into it.
  Conditions: those that each fact names.
-/
import Derived.Test.YtgfcindkfnjeoaaJManDecP
namespace Go.Proofs.Ytgfcindkfnjeoaa
open Go.RowKit

theorem conv_i64M (n : Nat) (h : n < 9223372036854775808) (w : World) : (convert 60 3 (.int .u64 (n : Int))).run Try.prog w = .ok (.int .i64 (n : Int)) w := by
  have hw : IntKind.i64.wrap (n : Int) = (n : Int) := by rw [IntKind.wrap_i64]; omega
  have h2 : (convert 60 3 (.int .u64 (n : Int))).run Try.prog w = .ok (.int .i64 (IntKind.i64.wrap (n : Int))) w := by kernel_rfl
  rw [h2, hw]
theorem conv_w32M (x : BitVec 32) (w : World) : (convert 60 74 (.int .u64 (x.toNat : Int))).run Try.prog w = .ok (v32 x) w := by
  have hx := x.isLt
  have hw : IntKind.u32.wrap (x.toNat : Int) = (x.toNat : Int) := by rw [IntKind.wrap_u32]; omega
  have h2 : (convert 60 74 (.int .u64 (x.toNat : Int))).run Try.prog w = .ok (.int .u32 (IntKind.u32.wrap (x.toNat : Int))) w := by kernel_rfl
  rw [h2, hw]
  rfl
theorem exec_allocM {a : Act} {o : Oper} {w : World} (ho : o.op = .alloc 25) : (execOp a.eval o).run Try.prog w = .ok (.value (.pointer (some ⟨w.heap.size, 0, none⟩))) (w.alloc (.cells (manC zeroM (.slice none 0 0)) 25)) := by
  have hz := zeroMan
  unfold execOp
  simp only [ho]
  simp [go_sem, hz]
theorem exec_copyM {w : World} (g off bb so sCap : Nat)
    (cur : Array Value) (t : TypeId) (hg : Blk w g t cur) (c : List UInt8) (hn : c.length = 32) (hr : Row w bb so c) (hfit : off + 32 ≤ cur.size) :
    ∃ w', (∀ (a : Act) (o : Oper) (d s : Operand), o.op = .call { callee := .builtin .copy, args := #[d, s], argTypes := #[26, 26] } → a.eval d = .slice (some ⟨g, off, none⟩) 32 32 → a.eval s = .slice (some ⟨bb, so, none⟩) 32 sCap → (execOp a.eval o).run Try.prog w = .ok (.value (.int .i64 32)) w') ∧ Blk w' g t (splice cur.toList off (c.map v8)).toArray ∧ w.grownBy w' (some g) := by
  have hsz : (Try.prog.info? 5).map (·.size) = some 1 := by kernel_rfl
  have hrun := fun ty => run_copy_row (P := Try.prog) w 26 26 ty 5 g off 32 32 ⟨bb, so, none⟩ 32 sCap cur t (c.map v8) Try.underlying26 hsz hg (by rw [List.length_map, hn]; rfl) hr.at (by rw [List.length_map, hn]; exact hfit) (one8l c)
  rw [List.length_map, hn] at hrun
  refine ⟨_, ?_, (hg.setRow _).of_eq (by simp [splice]; rfl), ⟨rfl, rfl, rfl, by simp, fun k _ hk => setRow_other w g k _ (fun e => hk (by rw [e]))⟩⟩
  intro a o d s ho hd hs
  unfold execOp
  simp [ho, resolve, invoke, builtin, hd, hs, hrun, Result.andThen, hn]
  rfl
theorem splice_hashM (v s c : Int) (h : List UInt8) (hl : h.length = 32) : splice (manC ⟨v, s, c, List.replicate 32 0, []⟩ (.slice none 0 0)).toList 3 (h.map v8) = (manC ⟨v, s, c, h, []⟩ (.slice none 0 0)).toList := by
  unfold manC manL splice
  simp [hl]
end Go.Proofs.Ytgfcindkfnjeoaa
