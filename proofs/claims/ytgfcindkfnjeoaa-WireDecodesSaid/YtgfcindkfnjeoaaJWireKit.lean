/-
  What is proved here: fields of numbers and bytes as they lie in a block; stores into a block of cells; numberField, bytesField.
  Conditions: what each theorem names.
-/
import Derived.Test.YtgfcindkfnjeoaaJWireRec
import Derived.Test.YtgfcindkfnjeoaaJHeldKit
import Derived.Test.YtgfcindkfnjeoaaJShaPure
import Derived.Test.YtgfcindkfnjeoaaJChgKit
import Derived.Deep.MidRow
namespace Go.Proofs.Ytgfcindkfnjeoaa
open Go.RowKit

abbrev fldW (k : Int) (a b : Nat) : Array Value := #[.int .i64 k, .int .u64 (a : Int), .int .u64 (b : Int), .slice none 0 0]
theorem info_fldW : (Try.prog.info? 62).map (·.size) = some 4 := by kernel_rfl
theorem conv_u64W (n : Nat) (h : n < 18446744073709551616) (w : World) : (convert 3 60 (.int .i64 (n : Int))).run Try.prog w = .ok (.int .u64 (n : Int)) w := by
  have hw : IntKind.u64.wrap (n : Int) = (n : Int) := by rw [IntKind.wrap_u64]; omega
  have h2 : (convert 3 60 (.int .i64 (n : Int))).run Try.prog w = .ok (.int .u64 (IntKind.u64.wrap (n : Int))) w := by kernel_rfl
  rw [h2, hw]
theorem conv_i64W (n : Nat) (h : n < 9223372036854775808) (w : World) : (convert 60 3 (.int .u64 (n : Int))).run Try.prog w = .ok (.int .i64 (n : Int)) w := by
  have hw : IntKind.i64.wrap (n : Int) = (n : Int) := by rw [IntKind.wrap_i64]; omega
  have h2 : (convert 60 3 (.int .u64 (n : Int))).run Try.prog w = .ok (.int .i64 (IntKind.i64.wrap (n : Int))) w := by kernel_rfl
  rw [h2, hw]
/-- A whole struct read off its cells. -/
theorem exec_loadB {a : Act} {o : Oper} {w : World} (t : TypeId) (x : Operand) (ho : o.op = .load t x) (g off : Nat) (cs : List Value) (d : TypeDesc) (hx : a.eval x = .pointer (some ⟨g, off, none⟩)) (hc : w.rangeAt g off cs) (hu : Try.prog.underlying t = some d) (hd : d.isRow = true) (hi : (Try.prog.info? t).map (·.size) = some cs.length) : (execOp a.eval o).run Try.prog w = .ok (.value (.agg cs.toArray)) w := by
  unfold execOp
  simp only [ho, hx, Instr.loadAt, Instr.sureAddr, Sem.run_bind, Sem.run_pure, Result.andThen_ok, run_loadVar_mid w g off t cs _ hc hu hd hi]
theorem Blk.range {w : World} {g : Nat} {t : TypeId} {arr : Array Value} (h : Blk w g t arr) (off : Nat) (cs : List Value) (hs : ∀ (j : Nat) v, cs[j]? = some v → arr[off + j]? = some v) : w.rangeAt g off cs := fun j v hv => h.cell (hs j v hv)
set_option maxRecDepth 100000 in
theorem numF_any (a b : Nat) (w : World) (ha : a < 9223372036854775808) (hb : b < 9223372036854775808) : Calls Try.prog 33 #[.int .i64 (a : Int), .int .i64 (b : Int)] w fun e w' => e = .returned (.agg (fldW 1 a b)) ∧ Below w.heap.size w w' := by
  have ca := conv_u64W a (by omega)
  have cb := conv_u64W b (by omega)
  clear ha hb
  go_enter Try.func33, Try.ntmps33
  go_wp2
  exact bodyPost_ret (v := .agg (fldW 1 a b)) (by simp [results, Try.results33, go_sem, fldW]) rfl ⟨rfl, (Below.refl _ _).alloc (Nat.le_refl _) _⟩
set_option maxRecDepth 100000 in
theorem bytF_any (b : Nat) (w : World) (hb : b < 9223372036854775808) : Calls Try.prog 35 #[.int .i64 (b : Int)] w fun e w' => e = .returned (.agg (fldW 2 0 b)) ∧ Below w.heap.size w w' := by
  have cb := conv_u64W b (by omega)
  clear hb
  go_enter Try.func35, Try.ntmps35
  go_wp2
  exact bodyPost_ret (v := .agg (fldW 2 0 b)) (by simp [results, Try.results35, go_sem, fldW]) rfl ⟨rfl, (Below.refl _ _).alloc (Nat.le_refl _) _⟩
/-- Fields as they lie in a block. -/
def fldsW : List (Nat × Nat) → Option Nat → List Value
  | [], none => []
  | [], some m => (fldW 2 0 m).toList
  | x :: ns, mb => (fldW 1 x.1 x.2).toList ++ fldsW ns mb
theorem fldsW_len : ∀ (ns : List (Nat × Nat)) (mb : Option Nat), (fldsW ns mb).length = (recF ns mb).length * 4
  | [], none => rfl
  | [], some _ => rfl
  | x :: ns, mb => by
    show ((fldW 1 x.1 x.2).toList ++ fldsW ns mb).length = (recF ns mb).length.succ * 4
    rw [List.length_append, fldsW_len ns mb]
    show 4 + _ = _
    omega
theorem fldsW_at : ∀ (ns : List (Nat × Nat)) (mb : Option Nat) (i j : Nat) (f : Fld), (recF ns mb)[i]? = some f → j < 4 → (fldsW ns mb)[i * 4 + j]? = (#[Value.int .i64 f.kind, .int .u64 (f.min : Int), .int .u64 (f.max : Int), .slice none 0 0] : Array Value)[j]? ∧ f.of = []
  | [], none, _, _, _, h, _ => by cases h
  | [], some m, 0, j, f, h, hj => by
    cases h
    rw [Nat.zero_mul, Nat.zero_add]
    exact ⟨by simp [fldsW, Fld.kind, Fld.min, Fld.max], rfl⟩
  | [], some m, i + 1, _, _, h, _ => by cases h
  | x :: ns, mb, 0, j, f, h, hj => by
    cases h
    rw [Nat.zero_mul, Nat.zero_add]
    refine ⟨?_, rfl⟩
    show ((fldW 1 x.1 x.2).toList ++ fldsW ns mb)[j]? = _
    rw [List.getElem?_append_left (by exact hj)]
    simp [Fld.kind, Fld.min, Fld.max]
  | x :: ns, mb, i + 1, j, f, h, hj => by
    have h : (recF ns mb)[i]? = some f := h
    obtain ⟨h1, h2⟩ := fldsW_at ns mb i j f h hj
    refine ⟨?_, h2⟩
    show ((fldW 1 x.1 x.2).toList ++ fldsW ns mb)[(i + 1) * 4 + j]? = _
    rw [List.getElem?_append_right (by show 4 ≤ _; omega), ← h1]
    show (fldsW ns mb)[(i + 1) * 4 + j - 4]? = _
    rw [show (i + 1) * 4 + j - 4 = i * 4 + j by omega]
/-- Fields that lie in a block are such. -/
theorem fldsW_flds {w : World} {g c : Nat} {t : TypeId} {arr : Array Value} (ns : List (Nat × Nat)) (mb : Option Nat) (hk : Blk w g t arr) (ha : ∀ (j : Nat) v, (fldsW ns mb)[j]? = some v → arr[j]? = some v) (h1 : ∀ x ∈ ns, x.1 < 18446744073709551616 ∧ x.2 < 18446744073709551616) (h2 : ∀ m, mb = some m → m < 18446744073709551616) (hl : (recF ns mb).length ≤ 1000) (hc : (recF ns mb).length ≤ c) : Flds w 1 (.slice (some ⟨g, 0, none⟩) (recF ns mb).length c) (recF ns mb) := by
  have hb : ∀ (ns : List (Nat × Nat)) (i : Nat) (f : Fld), (∀ x ∈ ns, x.1 < 18446744073709551616 ∧ x.2 < 18446744073709551616) → (recF ns mb)[i]? = some f → f.min < 18446744073709551616 ∧ f.max < 18446744073709551616 := by
    intro ns
    induction ns with
    | nil =>
      intro i f _ hf
      cases mb with
      | none => cases hf
      | some m =>
        cases i with
        | zero => cases hf; exact ⟨by show 0 < _; omega, h2 m rfl⟩
        | succ i => cases hf
    | cons x ns ih =>
      intro i f hx hf
      cases i with
      | zero => cases hf; exact hx x List.mem_cons_self
      | succ i => exact ih i f (fun y hy => hx y (List.mem_cons_of_mem _ hy)) hf
  refine ⟨some ⟨g, 0, none⟩, c, rfl, by unfold maxLen; omega, fun _ => ⟨g, 0, rfl, hk.lt, hc, fun i f hf => ?_⟩⟩
  have hat := fun (j : Nat) (v : Value) (hj : j < 4) (e : (#[Value.int .i64 f.kind, .int .u64 (f.min : Int), .int .u64 (f.max : Int), .slice none 0 0] : Array Value)[j]? = some v) => hk.cell (ha (i * 4 + j) v ((fldsW_at ns mb i j f hf hj).1.trans e))
  obtain ⟨b1, b2⟩ := hb ns i f h1 hf
  rw [Nat.zero_add]
  refine ⟨hat 0 _ (by decide) rfl, hat 1 _ (by decide) rfl, hat 2 _ (by decide) rfl, ⟨_, hat 3 _ (by decide) rfl, ?_⟩, b1, b2⟩
  rw [(fldsW_at ns mb i 0 f hf (by decide)).2]
  exact ⟨rfl, rfl⟩
theorem exec_flds8 {a : Act} {o : Oper} {w : World} (x0 x1 x2 x3 x4 x5 x6 x7 : Operand) (ho : o.op = .buildSlice 40 8 #[(0, x0), (1, x1), (2, x2), (3, x3), (4, x4), (5, x5), (6, x6), (7, x7)]) (k0 a0 b0 k1 a1 b1 k2 a2 b2 k3 a3 b3 k4 a4 b4 k5 a5 b5 k6 a6 b6 k7 a7 b7 : Int) (h0 : a.eval x0 = .agg #[.int .i64 k0, .int .u64 a0, .int .u64 b0, .slice none 0 0]) (h1 : a.eval x1 = .agg #[.int .i64 k1, .int .u64 a1, .int .u64 b1, .slice none 0 0]) (h2 : a.eval x2 = .agg #[.int .i64 k2, .int .u64 a2, .int .u64 b2, .slice none 0 0]) (h3 : a.eval x3 = .agg #[.int .i64 k3, .int .u64 a3, .int .u64 b3, .slice none 0 0]) (h4 : a.eval x4 = .agg #[.int .i64 k4, .int .u64 a4, .int .u64 b4, .slice none 0 0]) (h5 : a.eval x5 = .agg #[.int .i64 k5, .int .u64 a5, .int .u64 b5, .slice none 0 0]) (h6 : a.eval x6 = .agg #[.int .i64 k6, .int .u64 a6, .int .u64 b6, .slice none 0 0]) (h7 : a.eval x7 = .agg #[.int .i64 k7, .int .u64 a7, .int .u64 b7, .slice none 0 0]) :
    (execOp a.eval o).run Try.prog w = .ok (.value (.slice (some ⟨w.heap.size, 0, none⟩) 8 8)) (w.alloc (.cells #[.int .i64 k0, .int .u64 a0, .int .u64 b0, .slice none 0 0, .int .i64 k1, .int .u64 a1, .int .u64 b1, .slice none 0 0, .int .i64 k2, .int .u64 a2, .int .u64 b2, .slice none 0 0, .int .i64 k3, .int .u64 a3, .int .u64 b3, .slice none 0 0, .int .i64 k4, .int .u64 a4, .int .u64 b4, .slice none 0 0, .int .i64 k5, .int .u64 a5, .int .u64 b5, .slice none 0 0, .int .i64 k6, .int .u64 a6, .int .u64 b6, .slice none 0 0, .int .i64 k7, .int .u64 a7, .int .u64 b7, .slice none 0 0] 62)) := by
  unfold execOp
  have e : Array.map (fun y : Nat × Operand => (y.1, a.eval y.2)) #[(0, x0), (1, x1), (2, x2), (3, x3), (4, x4), (5, x5), (6, x6), (7, x7)] = #[(0, .agg #[.int .i64 k0, .int .u64 a0, .int .u64 b0, .slice none 0 0]), (1, .agg #[.int .i64 k1, .int .u64 a1, .int .u64 b1, .slice none 0 0]), (2, .agg #[.int .i64 k2, .int .u64 a2, .int .u64 b2, .slice none 0 0]), (3, .agg #[.int .i64 k3, .int .u64 a3, .int .u64 b3, .slice none 0 0]), (4, .agg #[.int .i64 k4, .int .u64 a4, .int .u64 b4, .slice none 0 0]), (5, .agg #[.int .i64 k5, .int .u64 a5, .int .u64 b5, .slice none 0 0]), (6, .agg #[.int .i64 k6, .int .u64 a6, .int .u64 b6, .slice none 0 0]), (7, .agg #[.int .i64 k7, .int .u64 a7, .int .u64 b7, .slice none 0 0])] := by simp [h0, h1, h2, h3, h4, h5, h6, h7]
  simp only [ho, e]
  simp [go_sem]
theorem exec_buildW {a : Act} {o : Oper} {w : World} (t : TypeId) (parts : Array (Nat × Operand)) (ho : o.op = .build t parts) (arr : Array Value) (hb0 : Try.prog.built t (parts.toList.map fun p => (p.1, a.eval p.2)) = some arr) : (execOp a.eval o).run Try.prog w = .ok (.value (.agg arr)) w := by
  have hb : Try.prog.built t (parts.map fun (i, x) => (i, a.eval x)).toList = some arr := by rw [Array.toList_map]; exact hb0
  unfold execOp
  simp only [ho, Sem.run_bind, run_build w t _ arr hb, Result.andThen_ok]
  rfl
theorem grown_setCellW (w : World) (g i : Nat) (z : Value) : w.grownBy (w.setCell ⟨g, i, none⟩ z) (some g) := ⟨rfl, rfl, rfl, by simp, fun k _ hk => Below.heap_setCell w ⟨g, i, none⟩ z k (fun e => hk (by rw [e]))⟩
theorem store_u64W {w : World} {ops : Array Oper} {rest : List Oper} {o : Oper} {a : Act} {Q : Exit → Act → World → Prop} (hgd : o.guard = none) (x y : Operand) (ho : o.op = .store 60 x y) (hd : o.dst = none) (g i : Nat) (z : Int) (hx : a.eval x = .pointer (some ⟨g, i, none⟩)) (hy : a.eval y = .int .u64 z) (t : TypeId) (old : Array Value) (hg : Blk w g t old) (hi : i < old.size)
    (hK : ∀ w', Blk w' g t (old.setIfInBounds i (.int .u64 z)) → w.grownBy w' (some g) → wpList Try.prog ops Q rest a w') : wpList Try.prog ops Q (o :: rest) a w := by
  have hc : w.cell? ⟨g, i, none⟩ = some old[i] := hg.cell (by simp [hi])
  have hf := hg.frozen i
  have hrun : (execOp a.eval o).run Try.prog w = .ok .skip (w.setCell ⟨g, i, none⟩ (.int .u64 z)) := by
    unfold execOp
    simp only [ho, hx, hy]
    simp [go_sem, hc, hf]
  refine wpList_plain hgd fun K hK' => ?_
  unfold Oper.wp
  rw [hrun, Oper.upon_skip, hd]
  exact hK' _ _ (hK _ (hg.set i _) (grown_setCellW w g i _))
theorem store_intW {w : World} {ops : Array Oper} {rest : List Oper} {o : Oper} {a : Act} {Q : Exit → Act → World → Prop} (hgd : o.guard = none) (x y : Operand) (ho : o.op = .store 3 x y) (hd : o.dst = none) (g i : Nat) (z : Int) (hx : a.eval x = .pointer (some ⟨g, i, none⟩)) (hy : a.eval y = .int .i64 z) (t : TypeId) (old : Array Value) (hg : Blk w g t old) (hi : i < old.size)
    (hK : ∀ w', Blk w' g t (old.setIfInBounds i (.int .i64 z)) → w.grownBy w' (some g) → wpList Try.prog ops Q rest a w') : wpList Try.prog ops Q (o :: rest) a w := by
  have hc : w.cell? ⟨g, i, none⟩ = some old[i] := hg.cell (by simp [hi])
  have hf := hg.frozen i
  have hrun : (execOp a.eval o).run Try.prog w = .ok .skip (w.setCell ⟨g, i, none⟩ (.int .i64 z)) := by
    unfold execOp
    simp only [ho, hx, hy]
    simp [go_sem, hc, hf]
  refine wpList_plain hgd fun K hK' => ?_
  unfold Oper.wp
  rw [hrun, Oper.upon_skip, hd]
  exact hK' _ _ (hK _ (hg.set i _) (grown_setCellW w g i _))
theorem store_bytW {w : World} {ops : Array Oper} {rest : List Oper} {o : Oper} {a : Act} {Q : Exit → Act → World → Prop} (hgd : o.guard = none) (x y : Operand) (ho : o.op = .store 26 x y) (hd : o.dst = none) (g i : Nat) (ao : Option Addr) (n c : Nat) (hx : a.eval x = .pointer (some ⟨g, i, none⟩)) (hy : a.eval y = .slice ao n c) (t : TypeId) (old : Array Value) (hg : Blk w g t old) (hi : i < old.size)
    (hK : ∀ w', Blk w' g t (old.setIfInBounds i (.slice ao n c)) → w.grownBy w' (some g) → wpList Try.prog ops Q rest a w') : wpList Try.prog ops Q (o :: rest) a w := by
  have hc : w.cell? ⟨g, i, none⟩ = some old[i] := hg.cell (by simp [hi])
  have hf := hg.frozen i
  have hrun : (execOp a.eval o).run Try.prog w = .ok .skip (w.setCell ⟨g, i, none⟩ (.slice ao n c)) := by
    unfold execOp
    simp only [ho, hx, hy]
    simp [go_sem, hc, hf]
  refine wpList_plain hgd fun K hK' => ?_
  unfold Oper.wp
  rw [hrun, Oper.upon_skip, hd]
  exact hK' _ _ (hK _ (hg.set i _) (grown_setCellW w g i _))
end Go.Proofs.Ytgfcindkfnjeoaa
