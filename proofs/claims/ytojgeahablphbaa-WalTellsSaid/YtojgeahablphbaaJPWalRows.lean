/-
  What is proved here: steps of a statement that draws its order within a loop over a function; append of bytes, and of one more row, there.
  Conditions: those that each law names.
-/
import Derived.Test.YtojgeahablphbaaJWalSeq
import Derived.Test.YtojgeahablphbaaJBlkNe
import Derived.Test.YtojgeahablphbaaJHeldMore
namespace Go.Proofs.Ytojgeahablphbaa
open Go.RowKit

/-- append onto a slice of the call's own, within a loop over a function. -/
theorem app_own_in7 {F : Fence} {nF : Nat} (w : World) {ops : Array Oper} {rest : List Oper} {o : Oper} {a : Act} {Q : Exit → Act → World → Prop} (hgd : o.guard = none) (s x : Operand)
    (ho : o.op = .call { callee := .builtin .append, args := #[s, x], argTypes := #[22, 22] })
    (base : Nat) (v : Value) (bs : List UInt8) (hs : a.eval s = v) (hown : Own w base v bs) (xv : Value) (nw : List UInt8) (hx : a.eval x = xv) (hseg : Seg w xv nw)
    (hlen : bs.length + nw.length ≤ 1000000000) (hbase : base ≤ w.heap.size)
    (hK : ∀ v' w', Own w' base v' (bs ++ nw) → w.grownBy w' v.ownBlock → (v'.ownBlock = v.ownBlock ∨ v'.ownBlock = some w.heap.size) → wpListIn F nF Try.prog ops Q rest (a.put o.dst v') w') :
    wpListIn F nF Try.prog ops Q (o :: rest) a w := by
  obtain ⟨v', w', hr, h1, h2, h3⟩ := app_bytes w base v bs hown xv nw hseg hlen hbase
  refine wpListIn_plain hgd fun K hK' => ?_
  unfold Oper.wpIn
  refine ⟨by simp [Oper.about, ho, resolve, Target.leads, Sem.run_pure], ?_⟩
  rw [Oper.semAt_plain F _ _ (by rw [ho]; intro c hc'; cases hc'), exec_app s x 22 22 ho v xv v' hs hx hr, Oper.uponIn_value]
  exact hK' _ _ (hK v' w' h1 h2 h3)
theorem anyin_all2 {F : Fence} {nF : Nat} {ops : Array Oper} {Q : Exit → Act → World → Prop} {fuel : Nat} {listed : Array Bool} {a : Act} {w : World} (i j : Nat) (hr : Region.ready .any ops listed = [i, j])
    (h1 : wpOpIn F nF Try.prog ops Q i (wpAnyIn F nF Try.prog .any ops Q fuel (listed.setIfInBounds i true)) a w) (h2 : wpOpIn F nF Try.prog ops Q j (wpAnyIn F nF Try.prog .any ops Q fuel (listed.setIfInBounds j true)) a w) : wpAnyIn F nF Try.prog .any ops Q (fuel + 1) listed a w := by
  refine wpAnyIn_all hr (by simp) fun k hk => ?_
  simp only [List.mem_cons, List.not_mem_nil, or_false] at hk
  rcases hk with rfl | rfl
  · exact h1
  · exact h2
theorem anyin_all1 {F : Fence} {nF : Nat} {ops : Array Oper} {Q : Exit → Act → World → Prop} {fuel : Nat} {listed : Array Bool} {a : Act} {w : World} (i : Nat) (hr : Region.ready .any ops listed = [i])
    (h1 : wpOpIn F nF Try.prog ops Q i (wpAnyIn F nF Try.prog .any ops Q fuel (listed.setIfInBounds i true)) a w) : wpAnyIn F nF Try.prog .any ops Q (fuel + 1) listed a w := by
  refine wpAnyIn_all hr (by simp) fun k hk => ?_
  obtain rfl : k = i := by simpa using hk
  exact h1
theorem opin_value {F : Fence} {nF : Nat} {ops : Array Oper} {Q : Exit → Act → World → Prop} {K : Act → World → Prop} {a : Act} {w : World} (hF : ∀ f, F.fn f) (i d : Nat) (o : Oper) (v : Value) (w' : World) (hi : ops[i]? = some o) (hd : o.dst = some d) (hw : Region.wanted o (yielded ops a.tmps) = true) (hp : ∀ c, o.op ≠ .defer c) (hrun : (execOp a.eval o).run Try.prog w = .ok (.value v) w') (h : K (a.put (some d) v) w') : wpOpIn F nF Try.prog ops Q i K a w := by
  unfold wpOpIn
  simp only [hi, hw, if_true]
  unfold Oper.wpIn
  refine ⟨fun f _ => hF f, ?_⟩
  rw [Oper.semAt_plain F _ _ hp, hrun, Oper.uponIn_value, hd]
  exact h
theorem opin_skip {F : Fence} {nF : Nat} {ops : Array Oper} {Q : Exit → Act → World → Prop} {K : Act → World → Prop} {a : Act} {w : World} (hF : ∀ f, F.fn f) (i : Nat) (o : Oper) (w' : World) (hi : ops[i]? = some o) (hd : o.dst = none) (hw : Region.wanted o (yielded ops a.tmps) = true) (hp : ∀ c, o.op ≠ .defer c) (hrun : (execOp a.eval o).run Try.prog w = .ok .skip w') (h : K a w') : wpOpIn F nF Try.prog ops Q i K a w := by
  unfold wpOpIn
  simp only [hi, hw, if_true]
  unfold Oper.wpIn
  refine ⟨fun f _ => hF f, ?_⟩
  rw [Oper.semAt_plain F _ _ hp, hrun, Oper.uponIn_skip, hd]
  exact h
theorem opin_call {F : Fence} {nF : Nat} {ops : Array Oper} {Q : Exit → Act → World → Prop} {K : Act → World → Prop} {a : Act} {w : World} (hF : ∀ f, F.fn f) (hn : F.depth.isSome = true → 1 ≤ nF) (i d : Nat) (o : Oper) (f : FuncId) (args : Array Value) (hi : ops[i]? = some o) (hd : o.dst = some d) (hw : Region.wanted o (yielded ops a.tmps) = true) (hp : ∀ c, o.op ≠ .defer c) (hrun : (execOp a.eval o).run Try.prog w = .ok (.enter f args) w)
    (h : CallsIn F (nF - 1) Try.prog f args w fun e w' => ∃ v, e = .returned v ∧ K (a.put (some d) v) w') : wpOpIn F nF Try.prog ops Q i K a w := by
  unfold wpOpIn
  simp only [hi, hw, if_true]
  unfold Oper.wpIn
  refine ⟨fun f _ => hF f, ?_⟩
  rw [Oper.semAt_plain F _ _ hp, hrun, Oper.uponIn_enter]
  refine ⟨hn, h.mono ?_⟩
  rintro e w' ⟨v, rfl, h1⟩
  show K _ _
  rw [hd]; exact h1
/-- One more row. -/
theorem app_rows (w : World) (base : Nat) (v : Value) (vs : List Value) (rs : List (List UInt8)) (hown : Gat w base v vs rs) (g c : Nat) (u : Value) (r : List UInt8) (hc : w.cell? ⟨g, 0, none⟩ = some u) (hu : Own w base u r) (hlen : rs.length ≤ 1000000) (hbase : base ≤ w.heap.size) :
    ∃ v' w', (∀ ty, (Builtin.append_ #[39, 39] ty #[v, .slice (some ⟨g, 0, none⟩) 1 c]).run Try.prog w = .ok v' w') ∧ Gat w' base v' (vs ++ [u]) (rs ++ [r]) ∧ w.grownBy w' v.ownBlock ∧ (v'.ownBlock = v.ownBlock ∨ v'.ownBlock = some w.heap.size) := by
  obtain ⟨i0, hi, hz0, hz1, hz2⟩ := info_parts Try.info22p
  have hu1 : u.oneCell' = true := by
    obtain ⟨ao, c', rfl⟩ := Seg.shapeD hu.seg
    rfl
  obtain ⟨v', w', h0, h2, h3, _, h4⟩ := run_append_own_at (P := Try.prog) w base 39 39 22 i0 (.slice none 0 0) 1 24 Try.underlying39 hi hz0 hz1 hz2 rfl (by decide) v rs.length vs hown.own ⟨g, 0, none⟩ 1 c [u] rfl (fun j y hy => by
    match j, hy with
    | 0, hy => cases hy; exact hc
    | (j + 1), hy => cases hy) (fun y hy => by rw [show y = u by simpa using hy]; exact hu1) (by unfold maxLen; omega) (by omega) hbase
  refine ⟨v', w', fun ty => h0, ⟨by rw [List.length_append]; exact h2, fun i u' r' hu' hr' => ?_⟩, h3, h4⟩
  have hl := hown.len
  rcases Nat.lt_or_ge i vs.length with hi' | hi'
  · rw [List.getElem?_append_left hi'] at hu'
    rw [List.getElem?_append_left (by omega)] at hr'
    exact gat_keep hown h3 (hown.rows i u' r' hu' hr')
  · rw [List.getElem?_append_right hi'] at hu'
    rw [List.getElem?_append_right (by omega), ← hl] at hr'
    match hd : i - vs.length, hu', hr' with
    | 0, hu', hr' =>
      cases hu'; cases hr'
      exact gat_keep hown h3 hu
    | (j + 1), hu', hr' => simp at hu'
theorem exec_rows {a : Act} {o : Oper} {w : World} (x : Operand) (ho : o.op = .buildSlice 39 1 #[(0, x)]) (ao : Option Addr) (n c : Nat) (hx : a.eval x = .slice ao n c) : (execOp a.eval o).run Try.prog w = .ok (.value (.slice (some ⟨w.heap.size, 0, none⟩) 1 1)) (w.alloc (.cells #[.slice ao n c] 22)) := by
  unfold execOp
  simp only [ho, List.map_toArray, List.map_cons, List.map_nil, hx]
  generalize a.eval = ev
  simp [go_sem]
theorem exec_storer {a : Act} {o : Oper} {w : World} (x y : Operand) (ho : o.op = .store 39 x y) (g i : Nat) (ao : Option Addr) (n c : Nat) (u : Value) (hx : a.eval x = .pointer (some ⟨g, i, none⟩)) (hy : a.eval y = .slice ao n c) (hc : w.cell? ⟨g, i, none⟩ = some u) (hf : w.frozen? ⟨g, i, none⟩ = false) : (execOp a.eval o).run Try.prog w = .ok .skip (w.setCell ⟨g, i, none⟩ (.slice ao n c)) := by
  unfold execOp
  simp only [ho, hx, hy]
  simp [go_sem, hc, hf]
end Go.Proofs.Ytojgeahablphbaa
