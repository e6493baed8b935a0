/-
  What is proved here: small steps of statements that draw their order, and of rounds of loops over functions.
  Conditions: those that each fact names.
-/
import Derived.Test.YtgoehohadnkpdaaDoorJBootPure
import Derived.Test.YtgoehohadnkpdaaDoorJBytesClone
import Derived.Test.YtgoehohadnkpdaaDoorJHeldMore
import Derived.Test.YtgoehohadnkpdaaDoorJPackMost
import Derived.Laws.OwnMore
import Derived.RangeFuncBox
import Derived.RangeFuncLeaves
import Derived.RangeFuncCalls
import Derived.Shelf.Abstract
import Derived.OwnWalkIn
import Derived.TacticsInMore
import Derived.LoopNIn
import Derived.LoopIn
import Derived.Maps.OwnIn
import Derived.RangeFuncNested
import Derived.BigQuiet
namespace Go.Proofs.YtgoehohadnkpdaaDoor
open Go.RowKit
attribute [local go_sem] Oper.semAt_some

theorem exec_add9 {a : Act} {o : Oper} {w : World} (t : TypeId) (x y : Operand) (ho : o.op = .binOp .add t x y t) (m n : Int) (hx : a.eval x = .int .i64 m) (hy : a.eval y = .int .i64 n) (h0 : -9223372036854775808 ≤ m + n) (h1 : m + n < 9223372036854775808) : (execOp a.eval o).run Tryd.prog w = .ok (.value (.int .i64 (m + n))) w := by
  have hw : IntKind.i64.wrap (m + n) = m + n := by rw [IntKind.wrap_i64]; omega
  unfold execOp
  simp [ho, hx, hy]
  rw [← hw]
  rfl
theorem exec_mul9 {a : Act} {o : Oper} {w : World} (t : TypeId) (x y : Operand) (ho : o.op = .binOp .mul t x y t) (m n : Int) (hx : a.eval x = .int .i64 m) (hy : a.eval y = .int .i64 n) (h0 : -9223372036854775808 ≤ m * n) (h1 : m * n < 9223372036854775808) : (execOp a.eval o).run Tryd.prog w = .ok (.value (.int .i64 (m * n))) w := by
  have hw : IntKind.i64.wrap (m * n) = m * n := by
    generalize m * n = z at *
    rw [IntKind.wrap_i64]; omega
  unfold execOp
  simp [ho, hx, hy]
  rw [← hw]
  rfl
theorem there9 {s : FS} {a m : Int} (h0 : 0 ≤ m) (h1 : m ≤ 4096) (h2 : 0 ≤ a) (h3 : a ≤ (s.b.length : Int) - m) : thereB s a m = true := by
  unfold thereB
  rw [decide_eq_true h0, decide_eq_true h1, decide_eq_true h2, decide_eq_true h3]
  rfl
theorem blkB_len {s : FS} {n j : Nat} (hs : s.ok n) (h : j < n) : (blkB s j).length = 1024 := by
  unfold blkB
  rw [List.length_take, List.length_drop, hs.b]
  omega
theorem exec_geq9 {a : Act} {o : Oper} {w : World} (t : TypeId) (x y : Operand) (ho : o.op = .binOp .geq t x y t) (m n : Int) (b : Bool) (hx : a.eval x = .int .i64 m) (hy : a.eval y = .int .i64 n) (h : decide (n ≤ m) = b) : (execOp a.eval o).run Tryd.prog w = .ok (.value (.bool b)) w := by
  subst h
  unfold execOp
  simp [ho, hx, hy]
  rfl
theorem agree_chg {S T : Nat → Prop} {w W : World} (hc : Chg S w W) (hT : ∀ b, T b → b < w.heap.size → ¬ S b) : Agree w W T := ⟨hc.size, fun b o hb hl => World.cell?_of_block (w := w) (w' := W) (a := ⟨b, o, none⟩) (hc.2 b hl (hT b hb hl))⟩
theorem keeps_chg9 {S : Nat → Prop} {W W' : World} (B : Nat) (hc : Chg S W W') (hS : ∀ k, S k → ∀ o, W.heap[k]? = some o → o.isCells = true) : KeepsFrom B W W' :=
  ⟨hc.size, fun k o _ hk ho => by
    rw [hc.2 k (Array.getElem?_eq_some_iff.1 hk).1 (fun e => by have := hS k e o hk; rw [this] at ho; cases ho)]
    exact hk⟩
theorem blk_isCells9 {w : World} {g : Nat} {t : TypeId} {arr : Array Value} (h : Blk w g t arr) (o : Obj) (ho : w.heap[g]? = some o) : o.isCells = true := by
  rw [show w.heap[g]? = _ from h] at ho
  cases ho
  rfl
theorem exec_storeE9 {a : Act} {o : Oper} {w : World} (x y : Operand) (ho : o.op = .store 28 x y) (g i : Nat) (z : Int) (u : Value) (hx : a.eval x = .pointer (some ⟨g, i, none⟩)) (hy : a.eval y = .int .i64 z) (hc : w.cell? ⟨g, i, none⟩ = some u) (hf : w.frozen? ⟨g, i, none⟩ = false) : (execOp a.eval o).run Tryd.prog w = .ok .skip (w.setCell ⟨g, i, none⟩ (.int .i64 z)) := by
  unfold execOp
  simp only [ho, hx, hy]
  simp [go_sem, hc, hf]
theorem round_in9 {m m' l l' : Nat} {f : FuncId} {tmps : Array Value} {assign body : Code} {w : World} {R : Ending → World → Prop} (h : RoundIn Fence.wide m Tryd.prog l f tmps assign body w R) : RoundIn (Fence.wide.inRound l') m' Tryd.prog l f tmps assign body w R := ⟨trivial, fun c cs _ => h.2 c cs (room_wide _)⟩
theorem op_mid9 {ops : Array Oper} {Q : Exit → Act → World → Prop} {K : Act → World → Prop} {a : Act} {w : World} (i : Nat) (o : Oper) (hi : ops[i]? = some o) (hd : o.dst = none) (hw : Region.wanted o (yielded ops a.tmps) = true) (ty : TypeId) (x y : Operand) (ho : o.op = .store ty x y)
    (g off : Nat) (cells : Array Value) (hx : a.eval x = .pointer (some ⟨g, off, none⟩)) (hy : a.eval y = .agg cells) (t : TypeId) (old new : Array Value) (hg : Blk w g t old) (hin : (Tryd.prog.info? ty).map (·.size) = some cells.size) (hfit : off + cells.size ≤ old.size) (h1 : cells.all (·.oneCell') = true) (hnew : (splice old.toList off cells.toList).toArray = new)
    (h : ∀ w', Blk w' g t new → w.grownBy w' (some g) → K a w') : wpOp Tryd.prog ops Q i K a w := by
  have hth : w.there g off cells.size := fun j hj => ⟨by rw [hg.cell (v := old[off + j]'(by omega)) (by simp [show off + j < old.size by omega])]; rfl, hg.frozen _⟩
  unfold wpOp
  simp only [hi, hw, if_true]
  refine .inl ?_
  refine wp_store_mid ty x y ho g off cells hx hy hth hin h1 ?_
  rw [hd]
  obtain ⟨h2, _⟩ := grown_setCells g cells.toList off w
  exact h _ ((Blk.setCells cells.toList off w old hg (by simpa using hfit)).of_eq hnew) h2
/-- The numbers of places. -/
def nums (ys : List (Fin 32)) : List Nat := ys.map (·.val)
end Go.Proofs.YtgoehohadnkpdaaDoor
