/-
  What is proved here: small facts on manifests in memory that Make and the statements share.
  Conditions: those that each fact names.
-/
import Derived.Test.YtgfcindkfnjeoaaJManIn
import Derived.Test.YtgfcindkfnjeoaaJManWholeK
import Derived.Test.YtgfcindkfnjeoaaJBlkKit
namespace Go.Proofs.Ytgfcindkfnjeoaa
open Go.RowKit

theorem splice_all (old cells : Array Value) (h : old.size = cells.size) : (splice old.toList 0 cells.toList).toArray = cells := by
  unfold splice
  rw [List.take_zero, List.nil_append, List.drop_of_length_le (by simp [h]), List.append_nil]
theorem splice_hash (m : MM) (su : Value) (h : List UInt8) (h0 : m.h.length = 32) (h1 : h.length = 32) : (splice (manC m su).toList 3 (h.map v8)).toArray = manC { m with h := h } su := by
  unfold splice manC manL
  simp [h0, h1]
theorem man_set (m : MM) (su su' : Value) (h : m.h.length = 32) : (manC m su).setIfInBounds 35 su' = manC m su' := by
  unfold manC manL
  rw [List.setIfInBounds_toArray]
  congr 1
  simp only [List.set_cons_succ]
  rw [List.set_append_right _ _ (by simp [h])]
  simp [h]
theorem results_pairM {P : Program} {fn : Func} {p u : Tmp} {ty : TypeId} (h : fn.results = #[.cell p ty, .tmp u]) (tmps : Array Value) (w : World) (g : Nat) (t : TypeId) (cs : Array Value) (fr : Nat × Nat) (d : TypeDesc) (v : Value)
    (hp : tmps.getD p undef = .pointer (some ⟨g, 0, none⟩)) (hv : tmps.getD u undef = v) (hg : w.heap[g]? = some (.cells cs t fr))
    (hu : P.underlying ty = some d) (hd : (match d with | .struct _ | .array _ _ => true | _ => false) = true) (hi : (P.info? ty).map (·.size) = some cs.size) :
    (results fn tmps).run P w = .ok (.tuple #[.agg cs, v]) w := by
  have hp' : tmps[p]?.getD undef = .pointer (some ⟨g, 0, none⟩) := by simpa using hp
  have hv' : tmps[u]?.getD undef = v := by simpa using hv
  simp [results, h, hp', hv', asAddr, run_loadVar_row w g t ty cs fr d hg hu hd hi]
theorem lin_store {F : Fence} {nF : Nat} {ops : Array Oper} {rest : List Oper} {o : Oper} {a : Act} {w : World} {Q : Exit → Act → World → Prop} (hF : ∀ f, F.fn f) (hgd : o.guard = none) (ty : TypeId) (x y : Operand) (ho : o.op = .store ty x y) (hd : o.dst = none)
    (g off : Nat) (cells : Array Value) (hx : a.eval x = .pointer (some ⟨g, off, none⟩)) (hy : a.eval y = .agg cells) (t : TypeId) (old new : Array Value) (hg : Blk w g t old) (hi : (Try.prog.info? ty).map (·.size) = some cells.size) (hfit : off + cells.size ≤ old.size) (h1 : cells.all (·.oneCell') = true)
    (hnew : (splice old.toList off cells.toList).toArray = new)
    (hK : ∀ w', Blk w' g t new → w.grownBy w' (some g) → w'.heap.size = w.heap.size → wpListIn F nF Try.prog ops Q rest a w') : wpListIn F nF Try.prog ops Q (o :: rest) a w := by
  have hth : w.there g off cells.size := fun j hj => ⟨by rw [hg.cell (v := old[off + j]'(by omega)) (by simp [show off + j < old.size by omega])]; rfl, hg.frozen _⟩
  obtain ⟨h2, h3⟩ := grown_setCells g cells.toList off w
  refine lin_skip hF hgd (fun c hc => by rw [ho] at hc; cases hc) (w.setCells g off cells.toList) ?_ ?_
  · unfold execOp
    simp only [ho, hx, hy, Instr.storeAt, Instr.sureAddr, Sem.run_bind, Sem.run_pure, Result.andThen_ok, run_storeVar_mid w g off ty cells hth hi h1]
  · rw [hd]
    refine hK _ ?_ h2 h3
    rw [← hnew]
    exact Blk.setCells cells.toList off w old hg (by simpa using hfit)

theorem OwnW.mono {w : World} {base base' : Nat} {v : Value} {u : List (BitVec 32)} (h : OwnW w base v u) (hb : base' ≤ base) : OwnW w base' v u := by
  refine ⟨h.1, ?_⟩
  rcases h.2 with h2 | ⟨g, cap, cur, h1, h2, h3⟩
  · exact .inl h2
  · exact .inr ⟨g, cap, cur, h1, Nat.le_trans hb h2, h3⟩
theorem OwnW.keeps {W W' : World} {base : Nat} {v : Value} {u : List (BitVec 32)} (h : OwnW W base v u) (hg : W.grownBy W' v.ownBlock) : KeepsOthers W W' := by
  refine KeepsOthers.of_grownBy hg fun j o ej hj => ?_
  obtain ⟨cur, hb⟩ := h.blk j ej
  unfold Blk at hb
  rw [hb] at hj; cases hj; rfl
theorem OwnW.alloc {w : World} {base : Nat} {v : Value} {u : List (BitVec 32)} (h : OwnW w base v u) (o : Obj) : OwnW (w.alloc o) base v u := World.ownsRow.alloc h o
theorem grown_setCellM (w : World) (g i : Nat) (z : Value) : w.grownBy (w.setCell ⟨g, i, none⟩ z) (some g) := ⟨rfl, rfl, rfl, by simp, fun k _ hk => Below.heap_setCell w ⟨g, i, none⟩ z k (fun e => hk (by rw [e]))⟩
theorem size_zeroMan (m : MM) (su : Value) (h : m.h.length = 32) : (manC zeroM (.slice none 0 0)).size = (manC m su).size := (manC_size _ _ (by simp [zeroM])).trans (manC_size _ _ h).symm

theorem fresh_below {w W : World} {o : Obj} (hg : (w.alloc o).grownBy W (some w.heap.size)) : Below w.heap.size w W :=
  below_grown ((Below.refl w.heap.size w).alloc (Nat.le_refl _) o) hg (by simp) (fun q hq => by cases hq; exact Nat.le_refl _)

theorem exec_addM {a : Act} {o : Oper} {w : World} (t : TypeId) (x y : Operand) (ho : o.op = .binOp .add t x y t) (m n : Int) (hx : a.eval x = .int .i64 m) (hy : a.eval y = .int .i64 n) (h0 : -9223372036854775808 ≤ m + n) (h1 : m + n < 9223372036854775808) : (execOp a.eval o).run Try.prog w = .ok (.value (.int .i64 (m + n))) w := by
  have hw : IntKind.i64.wrap (m + n) = m + n := by rw [IntKind.wrap_i64]; omega
  unfold execOp
  simp [ho, hx, hy]
  rw [← hw]
  rfl
end Go.Proofs.Ytgfcindkfnjeoaa
