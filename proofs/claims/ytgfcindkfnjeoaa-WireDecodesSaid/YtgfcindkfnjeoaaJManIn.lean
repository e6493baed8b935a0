/-
  What is proved here: steps within a loop over a function; slices of words of the call's own; a manifest that is stored.
  Conditions: those that each law names.
-/
import Derived.Test.YtgfcindkfnjeoaaJManPlain
import Derived.Test.YtgfcindkfnjeoaaJChgKit
import Derived.Laws.OwnMore
import Derived.RangeFuncBox
import Derived.RangeFuncLeaves
import Derived.RangeFuncCalls
import Derived.Shelf.Abstract
import Derived.OwnWalkIn
import Derived.TacticsInMore
import Derived.LoopNIn
import Derived.LoopIn
import Derived.Maps.OwnIn
import Derived.RangeFuncNested
namespace Go.Proofs.Ytgfcindkfnjeoaa
open Go.RowKit
attribute [local go_sem] Oper.semAt_some

theorem lin_value {F : Fence} {nF : Nat} {ops : Array Oper} {rest : List Oper} {o : Oper} {a : Act} {w : World} {Q : Exit → Act → World → Prop} (hF : ∀ f, F.fn f) (hgd : o.guard = none) (hp : ∀ c, o.op ≠ .defer c) (v : Value) (w' : World)
    (hrun : (execOp a.eval o).run Try.prog w = .ok (.value v) w') (h : wpListIn F nF Try.prog ops Q rest (a.put o.dst v) w') : wpListIn F nF Try.prog ops Q (o :: rest) a w := by
  refine wpListIn_plain hgd fun K hK' => ?_
  unfold Oper.wpIn
  refine ⟨fun f _ => hF f, ?_⟩
  rw [Oper.semAt_plain F _ _ hp, hrun, Oper.uponIn_value]
  exact hK' _ _ h
theorem lin_skip {F : Fence} {nF : Nat} {ops : Array Oper} {rest : List Oper} {o : Oper} {a : Act} {w : World} {Q : Exit → Act → World → Prop} (hF : ∀ f, F.fn f) (hgd : o.guard = none) (hp : ∀ c, o.op ≠ .defer c) (w' : World)
    (hrun : (execOp a.eval o).run Try.prog w = .ok .skip w') (h : wpListIn F nF Try.prog ops Q rest (a.put o.dst undef) w') : wpListIn F nF Try.prog ops Q (o :: rest) a w := by
  refine wpListIn_plain hgd fun K hK' => ?_
  unfold Oper.wpIn
  refine ⟨fun f _ => hF f, ?_⟩
  rw [Oper.semAt_plain F _ _ hp, hrun, Oper.uponIn_skip]
  exact hK' _ _ h
theorem exec_storeM {a : Act} {o : Oper} {w : World} (ty : TypeId) (x y : Operand) (ho : o.op = .store ty x y) (g : Nat) (cells : Array Value) (hx : a.eval x = .pointer (some ⟨g, 0, none⟩)) (hy : a.eval y = .agg cells)
    (t : TypeId) (old : Array Value) (hg : Blk w g t old) (hi : (Try.prog.info? ty).map (·.size) = some cells.size) (hold : old.size = cells.size) (h1 : cells.all (·.oneCell') = true) : (execOp a.eval o).run Try.prog w = .ok .skip (w.setRow g cells) := by
  unfold execOp
  simp only [ho, hx, hy, Instr.storeAt, Instr.sureAddr, Sem.run_bind, Sem.run_pure, Result.andThen_ok, run_storeVar_row w g t ty old cells hg hi hold h1]
theorem exec_buildM {a : Act} {o : Oper} {w : World} (t : TypeId) (parts : Array (Nat × Operand)) (ho : o.op = .build t parts) (arr : Array Value) (hb0 : Try.prog.built t (parts.toList.map fun p => (p.1, a.eval p.2)) = some arr) : (execOp a.eval o).run Try.prog w = .ok (.value (.agg arr)) w := by
  have hb : Try.prog.built t (parts.map fun (i, x) => (i, a.eval x)).toList = some arr := by rw [Array.toList_map]; exact hb0
  unfold execOp
  simp only [ho, Sem.run_bind, run_build w t _ arr hb, Result.andThen_ok]
  rfl
theorem built_zero : Try.prog.built 25 [] = some (manC zeroM (.slice none 0 0)) := by kernel_rfl
theorem built_three (v s c : Int) : Try.prog.built 25 [(0, .int .i64 v), (1, .int .i64 s), (2, .int .i64 c)] = some (manC ⟨v, s, c, List.replicate 32 0, []⟩ (.slice none 0 0)) := by kernel_rfl
theorem zeroMan (w : World) : (zeroValue 25).run Try.prog w = .ok (.agg (manC zeroM (.slice none 0 0))) w := by kernel_rfl

/-- The value v is a slice of the call's own (its block is base or higher) that holds these words. -/
def OwnW (w : World) (base : Nat) (v : Value) (u : List (BitVec 32)) : Prop := w.ownsRow base 74 1 v u.length (u.map v32)
theorem Try.info74p : (Try.prog.info? 74).map (fun i => (i.zero, i.size, i.bytes)) = some (some (.int .u32 0), 1, 4) := by kernel_rfl
theorem ownW_nil (w : World) (base : Nat) : OwnW w base (.slice none 0 0) [] := ⟨rfl, .inl ⟨rfl, rfl⟩⟩
theorem OwnW.wds {w : World} {base : Nat} {v : Value} {u : List (BitVec 32)} (h : OwnW w base v u) : Wds w v u := by
  rcases Nat.eq_zero_or_pos u.length with h0 | h0
  · rcases h.2 with ⟨h1, _⟩ | ⟨g, cap, cur, h1, _⟩
    · exact ⟨none, 0, by rw [h1, h0], fun h => by omega⟩
    · exact ⟨_, cap, h1, fun h => by omega⟩
  · obtain ⟨g, cap, hv, hb, hl⟩ := World.ownsRow.form h h0
    refine ⟨_, cap, hv, fun _ => ⟨g, 0, rfl, ?_, fun j hj => ?_, hl⟩⟩
    · subst hv
      rcases h.2 with ⟨h1, _⟩ | ⟨g', cap', cur, h1, _, _, h4, _⟩
      · cases h1
      · cases h1; exact h4
    · have := World.ownsRow.cells h (g := g) (by rw [hv]; rfl) j (v32 u[j]) (by simp [hj])
      rwa [Addr.add_mid] at this
theorem OwnW.grown {w w' : World} {base : Nat} {v : Value} {u : List (BitVec 32)} {row : Option Nat} (h : OwnW w base v u) (hg : w.grownBy w' row) (hne : v.ownBlock = none ∨ v.ownBlock ≠ row) : OwnW w' base v u := World.ownsRow.kept h hg hne
theorem OwnW.blocks {w : World} {base : Nat} {v : Value} {u : List (BitVec 32)} (h : OwnW w base v u) : ∀ k, v.ownBlock = some k → base ≤ k ∧ k < w.heap.size := World.ownsRow.lt h
theorem OwnW.blk {w : World} {base : Nat} {v : Value} {u : List (BitVec 32)} (h : OwnW w base v u) (k : Nat) (hk : v.ownBlock = some k) : ∃ cur, Blk w k 74 cur := by
  rcases h.2 with ⟨h1, _⟩ | ⟨g, cap, cur, h1, _, h3, _⟩
  · rw [h1] at hk; cases hk
  · rw [h1] at hk; cases hk; exact ⟨cur, h3⟩
theorem one32l (l : List (BitVec 32)) : ∀ x ∈ l.map v32, x.oneCell' = true := fun x hx => by obtain ⟨b, _, rfl⟩ := List.mem_map.1 hx; rfl
/-- One word more. -/
theorem app_word (w : World) (base : Nat) (v : Value) (u : List (BitVec 32)) (hown : OwnW w base v u) (g c : Nat) (x : BitVec 32) (hc : w.cell? ⟨g, 0, none⟩ = some (v32 x)) (hlen : u.length ≤ 1000000) (hbase : base ≤ w.heap.size) :
    ∃ v' w', (∀ ty, (Builtin.append_ #[23, 23] ty #[v, .slice (some ⟨g, 0, none⟩) 1 c]).run Try.prog w = .ok v' w') ∧ OwnW w' base v' (u ++ [x]) ∧ w.grownBy w' v.ownBlock ∧ (v'.ownBlock = v.ownBlock ∨ v'.ownBlock = some w.heap.size) := by
  obtain ⟨i0, hi, hz0, hz1, hz2⟩ := info_parts Try.info74p
  obtain ⟨v', w', h0, h2, h3, _, h4⟩ := run_append_own_at (P := Try.prog) w base 23 23 74 i0 (.int .u32 0) 1 4 Try.underlying23 hi hz0 hz1 hz2 rfl (by decide) v u.length (u.map v32) hown ⟨g, 0, none⟩ 1 c [v32 x] rfl (fun j y hy => by
    match j, hy with
    | 0, hy => cases hy; exact hc
    | (j + 1), hy => cases hy) (fun y hy => by rw [show y = v32 x by simpa using hy]; rfl) (by unfold maxLen; omega) (by omega) hbase
  refine ⟨v', w', fun ty => h0, ?_, h3, h4⟩
  unfold OwnW
  rw [List.length_append, List.map_append]
  exact h2
end Go.Proofs.Ytgfcindkfnjeoaa
