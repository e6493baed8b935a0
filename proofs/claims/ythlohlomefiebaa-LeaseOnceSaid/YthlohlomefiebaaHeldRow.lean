/-
  What is proved here: more steps of a statement that draws its order.
  Conditions: those that each fact names.
-/
import Derived.Test.YthlohlomefiebaaHeldKit
namespace Go.Proofs.Ythlohlomefiebaa
open Go.RowKit

/-- An operation that is not wanted is passed by first. -/
theorem held_pass {ops : Array Oper} {Q : Exit → Act → World → Prop} {S : World → Prop} {fuel : Nat} {listed : Array Bool} {a : Act} {w : World} (i d : Nat) (o : Oper) (hi : ops[i]? = some o) (hd : o.dst = some d)
    (hs : Region.noSelect ops = true) (hf : Region.free .any ops listed i = true) (hr : (Region.ready .any ops listed).contains i = true) (hw : Region.wanted o (yielded ops a.tmps) = false) (hS : S w)
    (h : wpAnyH Try.prog .any ops (NoPanic Q) S fuel (listed.setIfInBounds i true) (a.put (some d) undef) w) : wpAnyH Try.prog .any ops (NoPanic Q) S (fuel + 1) listed a w :=
  wpAnyH_take hi hs hf hr (fun _ _ _ h => h) (.inr ⟨hw, rfl⟩) hS (by rw [hd]; exact h)
/-- A row is stored. -/
theorem op_row {ops : Array Oper} {Q : Exit → Act → World → Prop} {K : Act → World → Prop} {a : Act} {w : World} (i : Nat) (o : Oper) (hi : ops[i]? = some o) (hd : o.dst = none) (hw : Region.wanted o (yielded ops a.tmps) = true) (ty : TypeId) (x y : Operand) (ho : o.op = .store ty x y)
    (g : Nat) (cells : Array Value) (hx : a.eval x = .pointer (some ⟨g, 0, none⟩)) (hy : a.eval y = .agg cells) (t : TypeId) (old : Array Value) (hg : Blk w g t old) (hin : (Try.prog.info? ty).map (·.size) = some cells.size) (hold : old.size = cells.size) (h1 : cells.all (·.oneCell') = true)
    (h : ∀ w', Blk w' g t cells → w.grownBy w' (some g) → w'.heap.size = w.heap.size → K a w') : wpOp Try.prog ops Q i K a w := by
  unfold wpOp
  simp only [hi, hw, if_true]
  refine .inl ?_
  refine wp_store_row ty x y ho g cells hx hy t old hg hin hold h1 ?_
  rw [hd]
  exact h _ (hg.setRow _) ⟨rfl, rfl, rfl, by simp, fun k _ hk => setRow_other w g k cells (fun e => hk (by rw [e]))⟩ (by simp)
theorem exec_leq7 {a : Act} {o : Oper} {w : World} (t : TypeId) (x y : Operand) (ho : o.op = .binOp .leq t x y t) (m n : Int) (b : Bool) (hx : a.eval x = .int .i64 m) (hy : a.eval y = .int .i64 n) (h : decide (m ≤ n) = b) : (execOp a.eval o).run Try.prog w = .ok (.value (.bool b)) w := by
  subst h
  unfold execOp
  simp [ho, hx, hy]
  rfl
theorem exec_gtr7 {a : Act} {o : Oper} {w : World} (t : TypeId) (x y : Operand) (ho : o.op = .binOp .gtr t x y t) (m n : Int) (b : Bool) (hx : a.eval x = .int .i64 m) (hy : a.eval y = .int .i64 n) (h : decide (n < m) = b) : (execOp a.eval o).run Try.prog w = .ok (.value (.bool b)) w := by
  subst h
  unfold execOp
  simp [ho, hx, hy]
  rfl
theorem exec_eql7 {a : Act} {o : Oper} {w : World} (t : TypeId) (x y : Operand) (ho : o.op = .binOp .eql t x y t) (m n : Int) (b : Bool) (hx : a.eval x = .int .i64 m) (hy : a.eval y = .int .i64 n) (hg : ∀ w, (eqGuard .eql t x y (.int .i64 m) (.int .i64 n)).run Try.prog w = .ok () w) (h : (m == n) = b) : (execOp a.eval o).run Try.prog w = .ok (.value (.bool b)) w := by
  subst h
  refine exec_cmp .eql t t x y ho (.inr rfl) _ _ _ hx hy (hg w) ?_
  rfl
theorem exec_three8 {a : Act} {o : Oper} {w : World} (f : FuncId) (x y z : Operand) (ts : Array TypeId) (ho : o.op = .call { callee := .value (.func f), args := #[x, y, z], argTypes := ts }) (u v t : Value) (hx : a.eval x = u) (hy : a.eval y = v) (hz : a.eval z = t) (hc : ∀ args w, (callFunc f args).run Try.prog w = .ok (.enter f args) w) : (execOp a.eval o).run Try.prog w = .ok (.enter f #[u, v, t]) w := by
  have he : a.eval (.func f) = .func (.func f) #[] #[] := rfl
  unfold execOp
  simp [ho, resolve, invoke, Deferred.ofValue, he, hx, hy, hz, hc]
theorem exec_four8 {a : Act} {o : Oper} {w : World} (f : FuncId) (x y z p : Operand) (ts : Array TypeId) (ho : o.op = .call { callee := .value (.func f), args := #[x, y, z, p], argTypes := ts }) (u v t q : Value) (hx : a.eval x = u) (hy : a.eval y = v) (hz : a.eval z = t) (hp : a.eval p = q) (hc : ∀ args w, (callFunc f args).run Try.prog w = .ok (.enter f args) w) : (execOp a.eval o).run Try.prog w = .ok (.enter f #[u, v, t, q]) w := by
  have he : a.eval (.func f) = .func (.func f) #[] #[] := rfl
  unfold execOp
  simp [ho, resolve, invoke, Deferred.ofValue, he, hx, hy, hz, hp, hc]
theorem exec_two8 {a : Act} {o : Oper} {w : World} (f : FuncId) (x y : Operand) (ts : Array TypeId) (ho : o.op = .call { callee := .value (.func f), args := #[x, y], argTypes := ts }) (u v : Value) (hx : a.eval x = u) (hy : a.eval y = v) (hc : ∀ args w, (callFunc f args).run Try.prog w = .ok (.enter f args) w) : (execOp a.eval o).run Try.prog w = .ok (.enter f #[u, v]) w := by
  have he : a.eval (.func f) = .func (.func f) #[] #[] := rfl
  unfold execOp
  simp [ho, resolve, invoke, Deferred.ofValue, he, hx, hy, hc]
end Go.Proofs.Ythlohlomefiebaa
