/-
  What is proved here: laws for a statement that draws its order, some of whose operations are calls: what yields one value in every world of a kind is taken first; then one behind the other.
  Conditions: those that each law names.
-/
import Derived.Test.YtgfcindkfnjeoaaProg
import Derived.Test.YtgfcindkfnjeoaaJShaPure
import Derived.OrdersHeld
import Derived.Deep.RegionHeld3
namespace Go.Proofs.Ytgfcindkfnjeoaa
open Go.RowKit

theorem held_begin {id : Nat} {Q : Exit → Act → World → Prop} {a : Act} {w : World} {l : List Oper} (S : World → Prop) (hm : Try.prog.follows .mixedOrders = true)
    (h : wpAnyH Try.prog .any l.toArray (NoPanic Q) S l.toArray.size (Array.replicate l.toArray.size false) a w.drew) : (Code.region id l.toArray true).wp Try.prog Q a w :=
  wp_region_noPanic (wp_region_held hm h)
/-- An operation that yields its value in every world of the kind is taken first. -/
theorem held_take {ops : Array Oper} {Q : Exit → Act → World → Prop} {S : World → Prop} {fuel : Nat} {listed : Array Bool} {a : Act} {w : World} (i d : Nat) (o : Oper) (v : Value) (hi : ops[i]? = some o) (hd : o.dst = some d)
    (hs : Region.noSelect ops = true) (hf : Region.free .any ops listed i = true) (hr : (Region.ready .any ops listed).contains i = true) (hw : Region.wanted o (yielded ops a.tmps) = true) (hS : S w) (hrun : ∀ w, S w → (execOp a.eval o).run Try.prog w = .ok (.value v) w)
    (h : wpAnyH Try.prog .any ops (NoPanic Q) S fuel (listed.setIfInBounds i true) (a.put (some d) v) w) : wpAnyH Try.prog .any ops (NoPanic Q) S (fuel + 1) listed a w :=
  wpAnyH_take hi hs hf hr (fun _ _ _ h => h) (.inl ⟨hw, hrun⟩) hS (by rw [hd]; exact h)
/-- The one operation that may come up yields a value in the world at hand. -/
theorem held_one {ops : Array Oper} {Q : Exit → Act → World → Prop} {S : World → Prop} {fuel : Nat} {listed : Array Bool} {a : Act} {w : World} (i d : Nat) (o : Oper) (v : Value) (hi : ops[i]? = some o) (hd : o.dst = some d)
    (hr : Region.ready .any ops listed = [i]) (hw : Region.wanted o (yielded ops a.tmps) = true) (hS : S w) (hrun : (execOp a.eval o).run Try.prog w = .ok (.value v) w)
    (h : wpAnyH Try.prog .any ops Q S fuel (listed.setIfInBounds i true) (a.put (some d) v) w) : wpAnyH Try.prog .any ops Q S (fuel + 1) listed a w := by
  refine wpAnyH_all hr (by simp) fun k hk => ?_
  obtain rfl : k = i := by simpa using hk
  unfold wpOp
  simp only [hi, hw, if_true]
  refine .inl ?_
  unfold Oper.wp
  rw [hrun]
  show _ ∧ _
  rw [hd]; exact ⟨hS, h⟩
/-- The one operation that may come up is a call. -/
theorem held_call {ops : Array Oper} {Q : Exit → Act → World → Prop} {S : World → Prop} {fuel : Nat} {listed : Array Bool} {a : Act} {w : World} (i d : Nat) (o : Oper) (f : FuncId) (args : Array Value) (hi : ops[i]? = some o) (hd : o.dst = some d)
    (hr : Region.ready .any ops listed = [i]) (hw : Region.wanted o (yielded ops a.tmps) = true) (hrun : (execOp a.eval o).run Try.prog w = .ok (.enter f args) w)
    (h : Calls Try.prog f args w fun e w' => ∃ v, e = .returned v ∧ S w' ∧ wpAnyH Try.prog .any ops Q S fuel (listed.setIfInBounds i true) (a.put (some d) v) w') : wpAnyH Try.prog .any ops Q S (fuel + 1) listed a w := by
  refine wpAnyH_all hr (by simp) fun k hk => ?_
  obtain rfl : k = i := by simpa using hk
  unfold wpOp
  simp only [hi, hw, if_true]
  refine .inl ?_
  unfold Oper.wp
  rw [hrun]
  refine Calls.mono h ?_
  rintro e w' ⟨v, rfl, h1, h2⟩
  show _ ∧ _
  rw [hd]; exact ⟨h1, h2⟩
/-- The one operation that may come up is passed by. -/
theorem held_skip {ops : Array Oper} {Q : Exit → Act → World → Prop} {S : World → Prop} {fuel : Nat} {listed : Array Bool} {a : Act} {w : World} (i d : Nat) (o : Oper) (hi : ops[i]? = some o) (hd : o.dst = some d)
    (hr : Region.ready .any ops listed = [i]) (hw : Region.wanted o (yielded ops a.tmps) = false) (hS : S w)
    (h : wpAnyH Try.prog .any ops Q S fuel (listed.setIfInBounds i true) (a.put (some d) undef) w) : wpAnyH Try.prog .any ops Q S (fuel + 1) listed a w := by
  refine wpAnyH_all hr (by simp) fun k hk => ?_
  obtain rfl : k = i := by simpa using hk
  unfold wpOp
  simp only [hi, hw, Bool.false_eq_true, if_false]
  show _ ∧ _
  rw [hd]; exact ⟨hS, h⟩
/-- A narrower kind of worlds serves. -/
theorem held_weaken {ops : Array Oper} {Q : Exit → Act → World → Prop} {S S' : World → Prop} (hS : ∀ w, S' w → S w) : ∀ (fuel : Nat) (listed : Array Bool) (a : Act) (w : World), wpAnyH Try.prog .any ops Q S' fuel listed a w → wpAnyH Try.prog .any ops Q S fuel listed a w
  | 0, _, _, _, h => h
  | fuel + 1, _, _, _, h => ⟨h.1, fun i hi => wpOp_mono (fun a' w' h' => ⟨hS _ h'.1, held_weaken hS fuel _ a' w' h'.2⟩) (h.2 i hi)⟩
theorem eql_string_self (w : World) (s : ByteArray) : (binOp .eql 9 (.string s) (.string s)).run Try.prog w = .ok (.bool true) w := by
  rw [binOp_string_eql]
  simp
set_option maxRecDepth 100000 in
theorem eql_bool_self (w : World) (b : Bool) : (binOp .eql 4 (.bool b) (.bool b)).run Try.prog w = .ok (.bool true) w := by
  cases b <;> rfl
theorem exec_conv {a : Act} {o : Oper} {w : World} (src dst : TypeId) (x : Operand) (ho : o.op = .convert src dst x) (u v : Value) (hx : a.eval x = u) (h : (convert src dst u).run Try.prog w = .ok v w) : (execOp a.eval o).run Try.prog w = .ok (.value v) w := by
  unfold execOp
  simp [ho, hx, h]
theorem exec_cmp {a : Act} {o : Oper} {w : World} (b : BinOp) (t t' : TypeId) (x y : Operand) (ho : o.op = .binOp b t x y t') (hb : b = .neq ∨ b = .eql) (ux uy v : Value) (hx : a.eval x = ux) (hy : a.eval y = uy) (hg : (eqGuard b t x y ux uy).run Try.prog w = .ok () w) (h : (binOp b t ux uy).run Try.prog w = .ok v w) : (execOp a.eval o).run Try.prog w = .ok (.value v) w := by
  unfold execOp
  rcases hb with rfl | rfl <;> simp [ho, hx, hy, hg, h]
theorem exec_one {a : Act} {o : Oper} {w : World} (f : FuncId) (x : Operand) (ts : Array TypeId) (ho : o.op = .call { callee := .value (.func f), args := #[x], argTypes := ts }) (u : Value) (hx : a.eval x = u) (hc : ∀ args w, (callFunc f args).run Try.prog w = .ok (.enter f args) w) : (execOp a.eval o).run Try.prog w = .ok (.enter f #[u]) w := by
  have he : a.eval (.func f) = .func (.func f) #[] #[] := rfl
  unfold execOp
  simp [ho, resolve, invoke, Deferred.ofValue, he, hx, hc]
theorem str_beq (a b : List UInt8) : ((⟨a.toArray⟩ : ByteArray).toList == (⟨b.toArray⟩ : ByteArray).toList) = decide (a = b) := by
  rw [ByteArray.toList_mk, ByteArray.toList_mk]
  by_cases e : a = b <;> simp [e]
theorem neq_string (w : World) (a b : List UInt8) : (binOp .neq 9 (.string ⟨a.toArray⟩) (.string ⟨b.toArray⟩)).run Try.prog w = .ok (.bool (!decide (a = b))) w := by
  rw [← str_beq]
  rw [binOp_string_neq]; rfl
theorem eql_string (w : World) (a b : List UInt8) : (binOp .eql 9 (.string ⟨a.toArray⟩) (.string ⟨b.toArray⟩)).run Try.prog w = .ok (.bool (decide (a = b))) w := by
  rw [← str_beq]
  rw [binOp_string_eql]; rfl
end Go.Proofs.Ytgfcindkfnjeoaa
