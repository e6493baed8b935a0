/-
  What is proved here: wire's small calls on datagrams: isNode, numberField, bytesField, datagramFields.
  Conditions: none.
-/
import Derived.Test.YtpebjocmnojldaaDoorJWirePure
import Derived.Test.YtpebjocmnojldaaDoorJSegKit
import Derived.Test.YtpebjocmnojldaaDoorJChgWorld
import Derived.Deep.MidRow
namespace Go.Proofs.YtpebjocmnojldaaDoor
open Go.RowKit

abbrev fldW (k : Int) (a b : Nat) : Array Value := #[.int .i64 k, .int .u64 (a : Int), .int .u64 (b : Int), .slice none 0 0]
theorem info_fldW : (Tryd.prog.info? 72).map (·.size) = some 4 := by kernel_rfl
theorem conv_u64W (n : Nat) (h : n < 18446744073709551616) (w : World) : (convert 3 56 (.int .i64 (n : Int))).run Tryd.prog w = .ok (.int .u64 (n : Int)) w := by
  have hw : IntKind.u64.wrap (n : Int) = (n : Int) := by rw [IntKind.wrap_u64]; omega
  have h2 : (convert 3 56 (.int .i64 (n : Int))).run Tryd.prog w = .ok (.int .u64 (IntKind.u64.wrap (n : Int))) w := by kernel_rfl
  rw [h2, hw]
theorem conv_i64W (n : Nat) (h : n < 9223372036854775808) (w : World) : (convert 56 3 (.int .u64 (n : Int))).run Tryd.prog w = .ok (.int .i64 (n : Int)) w := by
  have hw : IntKind.i64.wrap (n : Int) = (n : Int) := by rw [IntKind.wrap_i64]; omega
  have h2 : (convert 56 3 (.int .u64 (n : Int))).run Tryd.prog w = .ok (.int .i64 (IntKind.i64.wrap (n : Int))) w := by kernel_rfl
  rw [h2, hw]
/-- A whole struct read off its cells. -/
theorem exec_loadB {a : Act} {o : Oper} {w : World} (t : TypeId) (x : Operand) (ho : o.op = .load t x) (g off : Nat) (cs : List Value) (d : TypeDesc) (hx : a.eval x = .pointer (some ⟨g, off, none⟩)) (hc : w.rangeAt g off cs) (hu : Tryd.prog.underlying t = some d) (hd : d.isRow = true) (hi : (Tryd.prog.info? t).map (·.size) = some cs.length) : (execOp a.eval o).run Tryd.prog w = .ok (.value (.agg cs.toArray)) w := by
  unfold execOp
  simp only [ho, hx, Instr.loadAt, Instr.sureAddr, Sem.run_bind, Sem.run_pure, Result.andThen_ok, run_loadVar_mid w g off t cs _ hc hu hd hi]
theorem Blk.range {w : World} {g : Nat} {t : TypeId} {arr : Array Value} (h : Blk w g t arr) (off : Nat) (cs : List Value) (hs : ∀ (j : Nat) v, cs[j]? = some v → arr[off + j]? = some v) : w.rangeAt g off cs := fun j v hv => h.cell (hs j v hv)
set_option maxRecDepth 100000 in
theorem node_any (n : Int) (w : World) : Calls Tryd.prog 14 #[.int .i64 n] w fun e w' => e = .returned (.bool (decide (nodeOk n))) ∧ w' = w := by
  by_cases h1 : 0 ≤ n
  · by_cases h2 : n ≤ 4096
    · have d1 : decide (0 ≤ n) = true := decide_eq_true h1
      have d2 : decide (n ≤ 4096) = true := decide_eq_true h2
      rw [decide_eq_true (show nodeOk n from ⟨h1, h2⟩)]
      clear h1 h2
      go_enter Tryd.func14, Tryd.ntmps14
      go_wp2
      go_ret
      exact ⟨rfl, rfl⟩
    · have d1 : decide (0 ≤ n) = true := decide_eq_true h1
      have d2 : decide (n ≤ 4096) = false := decide_eq_false h2
      rw [decide_eq_false (show ¬ nodeOk n from fun h => h2 h.2)]
      clear h1 h2
      go_enter Tryd.func14, Tryd.ntmps14
      go_wp2
      go_ret
      exact ⟨rfl, rfl⟩
  · have d1 : decide (0 ≤ n) = false := decide_eq_false h1
    rw [decide_eq_false (show ¬ nodeOk n from fun h => h1 h.1)]
    clear h1
    go_enter Tryd.func14, Tryd.ntmps14
    go_wp2
    go_ret
    exact ⟨rfl, rfl⟩
set_option maxRecDepth 100000 in
theorem numF_any (a b : Nat) (w : World) (ha : a < 9223372036854775808) (hb : b < 9223372036854775808) : Calls Tryd.prog 34 #[.int .i64 (a : Int), .int .i64 (b : Int)] w fun e w' => e = .returned (.agg (fldW 1 a b)) ∧ Below w.heap.size w w' := by
  have ca := conv_u64W a (by omega)
  have cb := conv_u64W b (by omega)
  clear ha hb
  go_enter Tryd.func34, Tryd.ntmps34
  go_wp2
  exact bodyPost_ret (v := .agg (fldW 1 a b)) (by simp [results, Tryd.results34, go_sem, fldW]) rfl ⟨rfl, (Below.refl _ _).alloc (Nat.le_refl _) _⟩
set_option maxRecDepth 100000 in
theorem bytF_any (b : Nat) (w : World) (hb : b < 9223372036854775808) : Calls Tryd.prog 35 #[.int .i64 (b : Int)] w fun e w' => e = .returned (.agg (fldW 2 0 b)) ∧ Below w.heap.size w w' := by
  have cb := conv_u64W b (by omega)
  clear hb
  go_enter Tryd.func35, Tryd.ntmps35
  go_wp2
  exact bodyPost_ret (v := .agg (fldW 2 0 b)) (by simp [results, Tryd.results35, go_sem, fldW]) rfl ⟨rfl, (Below.refl _ _).alloc (Nat.le_refl _) _⟩
/-- Fields as they lie in a block. -/
def fldsW : List (Nat × Nat) → Option Nat → List Value
  | [], none => []
  | [], some m => (fldW 2 0 m).toList
  | x :: ns, mb => (fldW 1 x.1 x.2).toList ++ fldsW ns mb
theorem fldsW_len : ∀ (ns : List (Nat × Nat)) (mb : Option Nat), (fldsW ns mb).length = (recF ns mb).length * 4
  | [], none => rfl
  | [], some _ => rfl
  | x :: ns, mb => by
    show ((fldW 1 x.1 x.2).toList ++ fldsW ns mb).length = (recF ns mb).length.succ * 4
    rw [List.length_append, fldsW_len ns mb]
    show 4 + _ = _
    omega
theorem fldsW_at : ∀ (ns : List (Nat × Nat)) (mb : Option Nat) (i j : Nat) (f : Fld), (recF ns mb)[i]? = some f → j < 4 → (fldsW ns mb)[i * 4 + j]? = (#[Value.int .i64 f.kind, .int .u64 (f.min : Int), .int .u64 (f.max : Int), .slice none 0 0] : Array Value)[j]? ∧ f.of = []
  | [], none, _, _, _, h, _ => by cases h
  | [], some m, 0, j, f, h, hj => by
    cases h
    rw [Nat.zero_mul, Nat.zero_add]
    exact ⟨by simp [fldsW, Fld.kind, Fld.min, Fld.max], rfl⟩
  | [], some m, i + 1, _, _, h, _ => by cases h
  | x :: ns, mb, 0, j, f, h, hj => by
    cases h
    rw [Nat.zero_mul, Nat.zero_add]
    refine ⟨?_, rfl⟩
    show ((fldW 1 x.1 x.2).toList ++ fldsW ns mb)[j]? = _
    rw [List.getElem?_append_left (by exact hj)]
    simp [Fld.kind, Fld.min, Fld.max]
  | x :: ns, mb, i + 1, j, f, h, hj => by
    have h : (recF ns mb)[i]? = some f := h
    obtain ⟨h1, h2⟩ := fldsW_at ns mb i j f h hj
    refine ⟨?_, h2⟩
    show ((fldW 1 x.1 x.2).toList ++ fldsW ns mb)[(i + 1) * 4 + j]? = _
    rw [List.getElem?_append_right (by show 4 ≤ _; omega), ← h1]
    show (fldsW ns mb)[(i + 1) * 4 + j - 4]? = _
    rw [show (i + 1) * 4 + j - 4 = i * 4 + j by omega]
/-- Fields that lie in a block are such. -/
theorem fldsW_flds {w : World} {g c : Nat} {t : TypeId} {arr : Array Value} (ns : List (Nat × Nat)) (mb : Option Nat) (hk : Blk w g t arr) (ha : ∀ (j : Nat) v, (fldsW ns mb)[j]? = some v → arr[j]? = some v) (h1 : ∀ x ∈ ns, x.1 < 18446744073709551616 ∧ x.2 < 18446744073709551616) (h2 : ∀ m, mb = some m → m < 18446744073709551616) (hl : (recF ns mb).length ≤ 1000) (hc : (recF ns mb).length ≤ c) : Flds w 1 (.slice (some ⟨g, 0, none⟩) (recF ns mb).length c) (recF ns mb) := by
  have hb : ∀ (ns : List (Nat × Nat)) (i : Nat) (f : Fld), (∀ x ∈ ns, x.1 < 18446744073709551616 ∧ x.2 < 18446744073709551616) → (recF ns mb)[i]? = some f → f.min < 18446744073709551616 ∧ f.max < 18446744073709551616 := by
    intro ns
    induction ns with
    | nil =>
      intro i f _ hf
      cases mb with
      | none => cases hf
      | some m =>
        cases i with
        | zero => cases hf; exact ⟨by show 0 < _; omega, h2 m rfl⟩
        | succ i => cases hf
    | cons x ns ih =>
      intro i f hx hf
      cases i with
      | zero => cases hf; exact hx x List.mem_cons_self
      | succ i => exact ih i f (fun y hy => hx y (List.mem_cons_of_mem _ hy)) hf
  refine ⟨some ⟨g, 0, none⟩, c, rfl, by unfold maxLen; omega, fun _ => ⟨g, 0, rfl, hk.lt, hc, fun i f hf => ?_⟩⟩
  have hat := fun (j : Nat) (v : Value) (hj : j < 4) (e : (#[Value.int .i64 f.kind, .int .u64 (f.min : Int), .int .u64 (f.max : Int), .slice none 0 0] : Array Value)[j]? = some v) => hk.cell (ha (i * 4 + j) v ((fldsW_at ns mb i j f hf hj).1.trans e))
  obtain ⟨b1, b2⟩ := hb ns i f h1 hf
  rw [Nat.zero_add]
  refine ⟨hat 0 _ (by decide) rfl, hat 1 _ (by decide) rfl, hat 2 _ (by decide) rfl, ⟨_, hat 3 _ (by decide) rfl, ?_⟩, b1, b2⟩
  rw [(fldsW_at ns mb i 0 f hf (by decide)).2]
  exact ⟨rfl, rfl⟩
theorem exec_flds8 {a : Act} {o : Oper} {w : World} (x0 x1 x2 x3 x4 x5 x6 x7 : Operand) (ho : o.op = .buildSlice 50 8 #[(0, x0), (1, x1), (2, x2), (3, x3), (4, x4), (5, x5), (6, x6), (7, x7)]) (k0 a0 b0 k1 a1 b1 k2 a2 b2 k3 a3 b3 k4 a4 b4 k5 a5 b5 k6 a6 b6 k7 a7 b7 : Int) (h0 : a.eval x0 = .agg #[.int .i64 k0, .int .u64 a0, .int .u64 b0, .slice none 0 0]) (h1 : a.eval x1 = .agg #[.int .i64 k1, .int .u64 a1, .int .u64 b1, .slice none 0 0]) (h2 : a.eval x2 = .agg #[.int .i64 k2, .int .u64 a2, .int .u64 b2, .slice none 0 0]) (h3 : a.eval x3 = .agg #[.int .i64 k3, .int .u64 a3, .int .u64 b3, .slice none 0 0]) (h4 : a.eval x4 = .agg #[.int .i64 k4, .int .u64 a4, .int .u64 b4, .slice none 0 0]) (h5 : a.eval x5 = .agg #[.int .i64 k5, .int .u64 a5, .int .u64 b5, .slice none 0 0]) (h6 : a.eval x6 = .agg #[.int .i64 k6, .int .u64 a6, .int .u64 b6, .slice none 0 0]) (h7 : a.eval x7 = .agg #[.int .i64 k7, .int .u64 a7, .int .u64 b7, .slice none 0 0]) :
    (execOp a.eval o).run Tryd.prog w = .ok (.value (.slice (some ⟨w.heap.size, 0, none⟩) 8 8)) (w.alloc (.cells #[.int .i64 k0, .int .u64 a0, .int .u64 b0, .slice none 0 0, .int .i64 k1, .int .u64 a1, .int .u64 b1, .slice none 0 0, .int .i64 k2, .int .u64 a2, .int .u64 b2, .slice none 0 0, .int .i64 k3, .int .u64 a3, .int .u64 b3, .slice none 0 0, .int .i64 k4, .int .u64 a4, .int .u64 b4, .slice none 0 0, .int .i64 k5, .int .u64 a5, .int .u64 b5, .slice none 0 0, .int .i64 k6, .int .u64 a6, .int .u64 b6, .slice none 0 0, .int .i64 k7, .int .u64 a7, .int .u64 b7, .slice none 0 0] 72)) := by
  unfold execOp
  have e : Array.map (fun y : Nat × Operand => (y.1, a.eval y.2)) #[(0, x0), (1, x1), (2, x2), (3, x3), (4, x4), (5, x5), (6, x6), (7, x7)] = #[(0, .agg #[.int .i64 k0, .int .u64 a0, .int .u64 b0, .slice none 0 0]), (1, .agg #[.int .i64 k1, .int .u64 a1, .int .u64 b1, .slice none 0 0]), (2, .agg #[.int .i64 k2, .int .u64 a2, .int .u64 b2, .slice none 0 0]), (3, .agg #[.int .i64 k3, .int .u64 a3, .int .u64 b3, .slice none 0 0]), (4, .agg #[.int .i64 k4, .int .u64 a4, .int .u64 b4, .slice none 0 0]), (5, .agg #[.int .i64 k5, .int .u64 a5, .int .u64 b5, .slice none 0 0]), (6, .agg #[.int .i64 k6, .int .u64 a6, .int .u64 b6, .slice none 0 0]), (7, .agg #[.int .i64 k7, .int .u64 a7, .int .u64 b7, .slice none 0 0])] := by simp [h0, h1, h2, h3, h4, h5, h6, h7]
  simp only [ho, e]
  simp [go_sem]
set_option maxRecDepth 100000 in
set_option maxHeartbeats 2000000 in
theorem dgF_any (w : World) : Calls Tryd.prog 16 #[] w fun e w' => ∃ v, e = .returned v ∧ Flds w' 1 v dgF ∧ Below w.heap.size w w' := by
  have H1 : Hid (∀ (a b : Nat) V, a < 9223372036854775808 → b < 9223372036854775808 → Calls Tryd.prog 34 #[.int .i64 (a : Int), .int .i64 (b : Int)] V fun e w' => e = .returned (.agg (fldW 1 a b)) ∧ Below V.heap.size V w') := fun a b V ha hb => numF_any a b V ha hb
  have H2 : Hid (∀ (b : Nat) V, b < 9223372036854775808 → Calls Tryd.prog 35 #[.int .i64 (b : Int)] V fun e w' => e = .returned (.agg (fldW 2 0 b)) ∧ Below V.heap.size V w') := fun b V hb => bytF_any b V hb
  go_enter Tryd.func16, Tryd.ntmps16
  go_wp2_with fail
  refine (H1.out 0 4096 _ (by decide) (by decide)).mono ?_
  rintro e wa ⟨rfl, hba⟩
  go_wp2_with fail
  refine (H1.out 0 1073741824 _ (by decide) (by decide)).mono ?_
  rintro e wb ⟨rfl, hbb⟩
  have hBb := hba.trans (hbb.mono hba.size)
  obtain ⟨g, hg⟩ : ∃ g, g = wb.heap.size := ⟨_, rfl⟩
  have kA := (Blk.new wb 72 (fldW 1 0 4096)).alloc (.cells (fldW 1 0 1073741824) 72)
  have kB : Blk ((wb.alloc (.cells (fldW 1 0 4096) 72)).alloc (.cells (fldW 1 0 1073741824) 72)) (wb.heap.size + 1) 72 (fldW 1 0 1073741824) := Blk.newAt _ _ _ _ (by simp)
  have hBc := (hBb.alloc hBb.size (.cells (fldW 1 0 4096) 72)).alloc (by simp; have := hBb.size; omega) (.cells (fldW 1 0 1073741824) 72)
  go_wp2_with fail
  have hS0 : (fun V => Blk V g 72 (fldW 1 0 4096) ∧ Blk V (g + 1) 72 (fldW 1 0 1073741824)) ((wb.alloc (.cells (fldW 1 0 4096) 72)).alloc (.cells (fldW 1 0 1073741824) 72)).drew := ⟨by rw [hg]; exact kA.drew, by rw [hg]; exact kB.drew⟩
  have hB0 := hBc.drew
  rw [← hg]
  generalize ((wb.alloc (.cells (fldW 1 0 4096) 72)).alloc (.cells (fldW 1 0 1073741824) 72)) = WC at *
  clear kA kB hBc hBb hba hbb hg
  refine held_begin (fun V => Blk V g 72 (fldW 1 0 4096) ∧ Blk V (g + 1) 72 (fldW 1 0 1073741824)) (by kernel_rfl) ?_
  refine held_take 0 5 _ (.agg (fldW 1 0 4096)) rfl rfl (by kernel_rfl) (by kernel_rfl) (by kernel_rfl) rfl hS0 (fun V hV => exec_loadB 72 _ rfl g 0 (fldW 1 0 4096).toList _ rfl (hV.1.range 0 _ (fun j v hj => by rw [Nat.zero_add]; simpa using hj)) Tryd.underlying72 rfl info_fldW) ?_
  simp only [Act.put, List.setIfInBounds_toArray, List.set_cons_succ, List.set_cons_zero]
  refine held_take 1 6 _ (.agg (fldW 1 0 4096)) rfl rfl (by kernel_rfl) (by kernel_rfl) (by kernel_rfl) rfl hS0 (fun V hV => exec_loadB 72 _ rfl g 0 (fldW 1 0 4096).toList _ rfl (hV.1.range 0 _ (fun j v hj => by rw [Nat.zero_add]; simpa using hj)) Tryd.underlying72 rfl info_fldW) ?_
  simp only [Act.put, List.setIfInBounds_toArray, List.set_cons_succ, List.set_cons_zero]
  refine held_take 4 9 _ (.agg (fldW 1 0 1073741824)) rfl rfl (by kernel_rfl) (by kernel_rfl) (by kernel_rfl) rfl hS0 (fun V hV => exec_loadB 72 _ rfl (g + 1) 0 (fldW 1 0 1073741824).toList _ rfl (hV.2.range 0 _ (fun j v hj => by rw [Nat.zero_add]; simpa using hj)) Tryd.underlying72 rfl info_fldW) ?_
  simp only [Act.put, List.setIfInBounds_toArray, List.set_cons_succ, List.set_cons_zero]
  refine held_take 5 10 _ (.agg (fldW 1 0 1073741824)) rfl rfl (by kernel_rfl) (by kernel_rfl) (by kernel_rfl) rfl hS0 (fun V hV => exec_loadB 72 _ rfl (g + 1) 0 (fldW 1 0 1073741824).toList _ rfl (hV.2.range 0 _ (fun j v hj => by rw [Nat.zero_add]; simpa using hj)) Tryd.underlying72 rfl info_fldW) ?_
  simp only [Act.put, List.setIfInBounds_toArray, List.set_cons_succ, List.set_cons_zero]
  refine held_take 6 11 _ (.agg (fldW 1 0 1073741824)) rfl rfl (by kernel_rfl) (by kernel_rfl) (by kernel_rfl) rfl hS0 (fun V hV => exec_loadB 72 _ rfl (g + 1) 0 (fldW 1 0 1073741824).toList _ rfl (hV.2.range 0 _ (fun j v hj => by rw [Nat.zero_add]; simpa using hj)) Tryd.underlying72 rfl info_fldW) ?_
  simp only [Act.put, List.setIfInBounds_toArray, List.set_cons_succ, List.set_cons_zero]
  refine held_all1 2 (by kernel_rfl) (op_call 2 7 _ 34 #[.int .i64 1, .int .i64 3] rfl rfl rfl (exec_two8 34 _ _ _ rfl _ _ rfl rfl Tryd.call34) ((H1.out 1 3 _ (by decide) (by decide)).mono ?_))
  rintro e w1 ⟨rfl, hb1⟩
  have hS1 : (fun V => Blk V g 72 (fldW 1 0 4096) ∧ Blk V (g + 1) 72 (fldW 1 0 1073741824)) w1 := ⟨hS0.1.below hb1 hS0.1.lt, hS0.2.below hb1 hS0.2.lt⟩
  have hB1 := hB0.trans (hb1.mono hB0.size)
  refine ⟨_, rfl, hS1, ?_⟩
  simp only [Act.put, List.setIfInBounds_toArray, List.set_cons_succ, List.set_cons_zero]
  refine held_all1 3 (by kernel_rfl) (op_call 3 8 _ 34 #[.int .i64 1, .int .i64 1073741824] rfl rfl rfl (exec_two8 34 _ _ _ rfl _ _ rfl rfl Tryd.call34) ((H1.out 1 1073741824 _ (by decide) (by decide)).mono ?_))
  rintro e w2 ⟨rfl, hb2⟩
  have hS2 : (fun V => Blk V g 72 (fldW 1 0 4096) ∧ Blk V (g + 1) 72 (fldW 1 0 1073741824)) w2 := ⟨hS1.1.below hb2 hS1.1.lt, hS1.2.below hb2 hS1.2.lt⟩
  have hB2 := hB1.trans (hb2.mono hB1.size)
  refine ⟨_, rfl, hS2, ?_⟩
  simp only [Act.put, List.setIfInBounds_toArray, List.set_cons_succ, List.set_cons_zero]
  refine held_all1 7 (by kernel_rfl) (op_call 7 12 _ 35 #[.int .i64 1500] rfl rfl rfl (exec_one 35 _ _ rfl _ rfl Tryd.call35) ((H2.out 1500 _ (by decide)).mono ?_))
  rintro e w3 ⟨rfl, hb3⟩
  have hS3 : (fun V => Blk V g 72 (fldW 1 0 4096) ∧ Blk V (g + 1) 72 (fldW 1 0 1073741824)) w3 := ⟨hS2.1.below hb3 hS2.1.lt, hS2.2.below hb3 hS2.2.lt⟩
  have hB3 := hB2.trans (hb3.mono hB2.size)
  refine ⟨_, rfl, hS3, ?_⟩
  simp only [Act.put, List.setIfInBounds_toArray, List.set_cons_succ, List.set_cons_zero]
  have hB4 := hB3.alloc hB3.size (.cells (fldsW dgN (some 1500)).toArray 72)
  have k4 := Blk.new w3 72 (fldsW dgN (some 1500)).toArray
  have hS4 : (fun V => Blk V g 72 (fldW 1 0 4096) ∧ Blk V (g + 1) 72 (fldW 1 0 1073741824)) (w3.alloc (.cells (fldsW dgN (some 1500)).toArray 72)) := ⟨hS3.1.alloc _, hS3.2.alloc _⟩
  refine held_all1 8 (by kernel_rfl) (op_value 8 13 _ (.slice (some ⟨w3.heap.size, 0, none⟩) 8 8) (w3.alloc (.cells (fldsW dgN (some 1500)).toArray 72)) rfl rfl rfl (exec_flds8 _ _ _ _ _ _ _ _ rfl _ _ _ _ _ _ _ _ _ _ _ _ _ _ _ _ _ _ _ _ _ _ _ _ rfl rfl rfl rfl rfl rfl rfl rfl ) ⟨hS4, ?_⟩)
  simp only [Act.put, List.setIfInBounds_toArray, List.set_cons_succ, List.set_cons_zero]
  refine held_take 9 0 _ (.slice (some ⟨w3.heap.size, 0, none⟩) 8 8) rfl rfl (by kernel_rfl) (by kernel_rfl) (by kernel_rfl) rfl hS4 (fun _ _ => rfl) ?_
  simp only [Act.put, List.setIfInBounds_toArray, List.set_cons_zero]
  refine wpAnyH_done (by kernel_rfl) ?_ _
  refine NoPanic.normal ?_
  have HF : Hid (Flds (w3.alloc (.cells (fldsW dgN (some 1500)).toArray 72)) 1 (.slice (some ⟨w3.heap.size, 0, none⟩) 8 8) dgF) := fldsW_flds (c := 8) dgN (some 1500) k4 (fun j v hj => by simpa using hj) (by decide) (fun m h => by cases h; decide) (by decide) (by decide)
  clear hS4 hS3 hS2 hS1 hS0 hB3 hB2 hB1 hB0 k4 H1 H2 hb1 hb2 hb3
  generalize w3.alloc (.cells (fldsW dgN (some 1500)).toArray 72) = W4 at *
  go_wp2
  go_ret
  exact ⟨_, rfl, HF.out, hB4⟩

abbrev ptrsW (G : Nat) : Array Value := #[.pointer (some ⟨G, 0, none⟩), .pointer (some ⟨G, 1, none⟩), .pointer (some ⟨G, 2, none⟩), .pointer (some ⟨G, 3, none⟩), .pointer (some ⟨G, 4, none⟩), .pointer (some ⟨G, 5, none⟩), .pointer (some ⟨G, 6, none⟩)]
theorem info_ptrs : (Tryd.prog.info? 77).map (·.size) = some 7 := by kernel_rfl
theorem built_ptrs (G : Nat) : Tryd.prog.built 77 [(0, .pointer (some ⟨G, 0, none⟩)), (1, .pointer (some ⟨G, 1, none⟩)), (2, .pointer (some ⟨G, 2, none⟩)), (3, .pointer (some ⟨G, 3, none⟩)), (4, .pointer (some ⟨G, 4, none⟩)), (5, .pointer (some ⟨G, 5, none⟩)), (6, .pointer (some ⟨G, 6, none⟩))] = some (ptrsW G) := by kernel_rfl
theorem exec_buildW {a : Act} {o : Oper} {w : World} (t : TypeId) (parts : Array (Nat × Operand)) (ho : o.op = .build t parts) (arr : Array Value) (hb0 : Tryd.prog.built t (parts.toList.map fun p => (p.1, a.eval p.2)) = some arr) : (execOp a.eval o).run Tryd.prog w = .ok (.value (.agg arr)) w := by
  have hb : Tryd.prog.built t (parts.map fun (i, x) => (i, a.eval x)).toList = some arr := by rw [Array.toList_map]; exact hb0
  unfold execOp
  simp only [ho, Sem.run_bind, run_build w t _ arr hb, Result.andThen_ok]
  rfl
set_option maxRecDepth 100000 in
set_option maxHeartbeats 2000000 in
theorem nums_any (G : Nat) (w : World) : Calls Tryd.prog 36 #[.pointer (some ⟨G, 0, none⟩)] w fun e w' => e = .returned (.agg (ptrsW G)) ∧ Below w.heap.size w w' := by
  have kR := Blk.new w 77 #[.pointer none, .pointer none, .pointer none, .pointer none, .pointer none, .pointer none, .pointer none]
  go_enter Tryd.func36, Tryd.ntmps36
  go_wp2_with fail
  refine held_begin (fun _ => True) (by kernel_rfl) ?_
  refine held_take 0 7 _ (.pointer (some ⟨G, 0, none⟩)) rfl rfl (by kernel_rfl) (by kernel_rfl) (by kernel_rfl) rfl trivial (fun _ _ => rfl) ?_
  simp only [Act.put, List.setIfInBounds_toArray, List.set_cons_succ, List.set_cons_zero]
  refine held_take 1 8 _ (.pointer (some ⟨G, 0, none⟩)) rfl rfl (by kernel_rfl) (by kernel_rfl) (by kernel_rfl) rfl trivial (fun _ _ => rfl) ?_
  simp only [Act.put, List.setIfInBounds_toArray, List.set_cons_succ, List.set_cons_zero]
  refine held_take 2 9 _ (.pointer (some ⟨G, 0, none⟩)) rfl rfl (by kernel_rfl) (by kernel_rfl) (by kernel_rfl) rfl trivial (fun _ _ => rfl) ?_
  simp only [Act.put, List.setIfInBounds_toArray, List.set_cons_succ, List.set_cons_zero]
  refine held_take 3 10 _ (.pointer (some ⟨G, 0, none⟩)) rfl rfl (by kernel_rfl) (by kernel_rfl) (by kernel_rfl) rfl trivial (fun _ _ => rfl) ?_
  simp only [Act.put, List.setIfInBounds_toArray, List.set_cons_succ, List.set_cons_zero]
  refine held_take 4 11 _ (.pointer (some ⟨G, 0, none⟩)) rfl rfl (by kernel_rfl) (by kernel_rfl) (by kernel_rfl) rfl trivial (fun _ _ => rfl) ?_
  simp only [Act.put, List.setIfInBounds_toArray, List.set_cons_succ, List.set_cons_zero]
  refine held_take 5 12 _ (.pointer (some ⟨G, 1, none⟩)) rfl rfl (by kernel_rfl) (by kernel_rfl) (by kernel_rfl) rfl trivial (fun _ _ => rfl) ?_
  simp only [Act.put, List.setIfInBounds_toArray, List.set_cons_succ, List.set_cons_zero]
  refine held_take 6 13 _ (.pointer (some ⟨G, 2, none⟩)) rfl rfl (by kernel_rfl) (by kernel_rfl) (by kernel_rfl) rfl trivial (fun _ _ => rfl) ?_
  simp only [Act.put, List.setIfInBounds_toArray, List.set_cons_succ, List.set_cons_zero]
  refine held_take 7 14 _ (.pointer (some ⟨G, 2, none⟩)) rfl rfl (by kernel_rfl) (by kernel_rfl) (by kernel_rfl) rfl trivial (fun _ _ => rfl) ?_
  simp only [Act.put, List.setIfInBounds_toArray, List.set_cons_succ, List.set_cons_zero]
  refine held_take 8 15 _ (.pointer (some ⟨G, 2, none⟩)) rfl rfl (by kernel_rfl) (by kernel_rfl) (by kernel_rfl) rfl trivial (fun _ _ => rfl) ?_
  simp only [Act.put, List.setIfInBounds_toArray, List.set_cons_succ, List.set_cons_zero]
  refine held_take 9 16 _ (.pointer (some ⟨G, 2, none⟩)) rfl rfl (by kernel_rfl) (by kernel_rfl) (by kernel_rfl) rfl trivial (fun _ _ => rfl) ?_
  simp only [Act.put, List.setIfInBounds_toArray, List.set_cons_succ, List.set_cons_zero]
  refine held_take 10 17 _ (.pointer (some ⟨G, 2, none⟩)) rfl rfl (by kernel_rfl) (by kernel_rfl) (by kernel_rfl) rfl trivial (fun _ _ => rfl) ?_
  simp only [Act.put, List.setIfInBounds_toArray, List.set_cons_succ, List.set_cons_zero]
  refine held_take 11 18 _ (.pointer (some ⟨G, 3, none⟩)) rfl rfl (by kernel_rfl) (by kernel_rfl) (by kernel_rfl) rfl trivial (fun _ _ => rfl) ?_
  simp only [Act.put, List.setIfInBounds_toArray, List.set_cons_succ, List.set_cons_zero]
  refine held_take 12 19 _ (.pointer (some ⟨G, 2, none⟩)) rfl rfl (by kernel_rfl) (by kernel_rfl) (by kernel_rfl) rfl trivial (fun _ _ => rfl) ?_
  simp only [Act.put, List.setIfInBounds_toArray, List.set_cons_succ, List.set_cons_zero]
  refine held_take 13 20 _ (.pointer (some ⟨G, 2, none⟩)) rfl rfl (by kernel_rfl) (by kernel_rfl) (by kernel_rfl) rfl trivial (fun _ _ => rfl) ?_
  simp only [Act.put, List.setIfInBounds_toArray, List.set_cons_succ, List.set_cons_zero]
  refine held_take 14 21 _ (.pointer (some ⟨G, 4, none⟩)) rfl rfl (by kernel_rfl) (by kernel_rfl) (by kernel_rfl) rfl trivial (fun _ _ => rfl) ?_
  simp only [Act.put, List.setIfInBounds_toArray, List.set_cons_succ, List.set_cons_zero]
  refine held_take 15 22 _ (.pointer (some ⟨G, 2, none⟩)) rfl rfl (by kernel_rfl) (by kernel_rfl) (by kernel_rfl) rfl trivial (fun _ _ => rfl) ?_
  simp only [Act.put, List.setIfInBounds_toArray, List.set_cons_succ, List.set_cons_zero]
  refine held_take 16 23 _ (.pointer (some ⟨G, 2, none⟩)) rfl rfl (by kernel_rfl) (by kernel_rfl) (by kernel_rfl) rfl trivial (fun _ _ => rfl) ?_
  simp only [Act.put, List.setIfInBounds_toArray, List.set_cons_succ, List.set_cons_zero]
  refine held_take 17 24 _ (.pointer (some ⟨G, 5, none⟩)) rfl rfl (by kernel_rfl) (by kernel_rfl) (by kernel_rfl) rfl trivial (fun _ _ => rfl) ?_
  simp only [Act.put, List.setIfInBounds_toArray, List.set_cons_succ, List.set_cons_zero]
  refine held_take 18 25 _ (.pointer (some ⟨G, 2, none⟩)) rfl rfl (by kernel_rfl) (by kernel_rfl) (by kernel_rfl) rfl trivial (fun _ _ => rfl) ?_
  simp only [Act.put, List.setIfInBounds_toArray, List.set_cons_succ, List.set_cons_zero]
  refine held_take 19 26 _ (.pointer (some ⟨G, 2, none⟩)) rfl rfl (by kernel_rfl) (by kernel_rfl) (by kernel_rfl) rfl trivial (fun _ _ => rfl) ?_
  simp only [Act.put, List.setIfInBounds_toArray, List.set_cons_succ, List.set_cons_zero]
  refine held_take 20 27 _ (.pointer (some ⟨G, 6, none⟩)) rfl rfl (by kernel_rfl) (by kernel_rfl) (by kernel_rfl) rfl trivial (fun _ _ => rfl) ?_
  simp only [Act.put, List.setIfInBounds_toArray, List.set_cons_succ, List.set_cons_zero]
  refine held_take 21 28 _ (.agg (ptrsW G)) rfl rfl (by kernel_rfl) (by kernel_rfl) (by kernel_rfl) rfl trivial (fun V _ => exec_buildW 77 #[(0, .tmp 9), (1, .tmp 12), (2, .tmp 15), (3, .tmp 18), (4, .tmp 21), (5, .tmp 24), (6, .tmp 27)] rfl _ (built_ptrs G)) ?_
  simp only [Act.put, List.setIfInBounds_toArray, List.set_cons_succ, List.set_cons_zero]
  refine held_all1 22 (by kernel_rfl) (op_row 22 _ rfl rfl rfl 77 _ _ rfl w.heap.size (ptrsW G) rfl rfl 77 _ kR.drew info_ptrs rfl (by simp [Value.oneCell']) ?_)
  intro W1 kR1 hg1 _
  have hb1 : Below w.heap.size w W1 := below_grown (Below.drew ((Below.refl w.heap.size w).alloc (Nat.le_refl _) _)) hg1 (by simp) (fun q hq => by cases hq; exact Nat.le_refl _)
  refine ⟨trivial, ?_⟩
  refine wpAnyH_done (by kernel_rfl) ?_ _
  refine NoPanic.normal ?_
  go_wp2
  refine bodyPost_ret (v := .agg (ptrsW G)) (results_cell_row Tryd.results36 _ _ w.heap.size 77 _ (0, 0) _ rfl kR1 Tryd.underlying77 rfl info_ptrs) rfl ⟨rfl, hb1⟩
end Go.Proofs.YtpebjocmnojldaaDoor
