/-
  What is proved here: what bytes of a place tell, by the document's told.
  Conditions: those that each fact names.
-/
import Derived.Test.YtbdhkkdombdnkaaDoorJRefBootEnt
import Derived.Test.YtbdhkkdombdnkaaDoorJHeldMore
namespace Go.Proofs.YtbdhkkdombdnkaaDoor
open Go.RowKit

theorem leVal_of4 (c : List UInt8) (h : 4 ≤ c.length) : leVal (c.take 4) = of4 c := by
  match c, h with
  | a :: b :: d :: e :: r, _ => simp [leVal, of4]; omega
theorem zeroB9 (w : World) : (zeroValue 40).run Tryd.prog w = .ok (.agg #[.int .i64 0, .int .i64 0, .int .i64 0, .int .i64 0, .int .i64 0]) w := by kernel_rfl
theorem op_allocB {ops : Array Oper} {Q : Exit → Act → World → Prop} {K : Act → World → Prop} {a : Act} {w : World} (i d : Nat) (o : Oper) (hi : ops[i]? = some o) (hd : o.dst = some d) (hw : Region.wanted o (yielded ops a.tmps) = true) (ho : o.op = .alloc 40)
    (h : ∀ g w', w.heap.size ≤ g → Blk w' g 40 #[.int .i64 0, .int .i64 0, .int .i64 0, .int .i64 0, .int .i64 0] → Below w.heap.size w w' → K (a.put (some d) (.pointer (some ⟨g, 0, none⟩))) w') : wpOp Tryd.prog ops Q i K a w := by
  have hz := zeroB9
  refine op_value i d o _ _ hi hd hw (show (execOp a.eval o).run Tryd.prog w = .ok (.value (.pointer (some ⟨w.heap.size, 0, none⟩))) (w.alloc (.cells #[.int .i64 0, .int .i64 0, .int .i64 0, .int .i64 0, .int .i64 0] 40)) from ?_) (h _ _ (Nat.le_refl _) (Blk.new _ _ _) ((Below.refl w.heap.size w).alloc (Nat.le_refl _) _))
  unfold execOp
  simp only [ho]
  simp [go_sem, hz]
theorem exec_buildB {a : Act} {o : Oper} {w : World} (t : TypeId) (parts : Array (Nat × Operand)) (ho : o.op = .build t parts) (arr : Array Value) (hb0 : Tryd.prog.built t (parts.toList.map fun p => (p.1, a.eval p.2)) = some arr) : (execOp a.eval o).run Tryd.prog w = .ok (.value (.agg arr)) w := by
  have hb : Tryd.prog.built t (parts.map fun (i, x) => (i, a.eval x)).toList = some arr := by rw [Array.toList_map]; exact hb0
  unfold execOp
  simp only [ho, Sem.run_bind, run_build w t _ arr hb, Result.andThen_ok]
  rfl
theorem built_two9 (x y : Int) : Tryd.prog.built 38 [(0, .int .i64 x), (1, .int .i64 y)] = some #[.int .i64 x, .int .i64 y] := by kernel_rfl
theorem built_boot9 (a t r x y : Int) : Tryd.prog.built 40 [(0, .int .i64 a), (1, .int .i64 t), (2, .int .i64 r), (3, .agg #[.int .i64 x, .int .i64 y])] = some #[.int .i64 a, .int .i64 t, .int .i64 r, .int .i64 x, .int .i64 y] := by kernel_rfl
theorem built_none9 : Tryd.prog.built 40 [] = some #[.int .i64 0, .int .i64 0, .int .i64 0, .int .i64 0, .int .i64 0] := by kernel_rfl
theorem conv_b9 (c : Int) (h0 : 0 ≤ c) (h1 : c < 256) (w : World) : (convert 5 3 (.int .u8 c)).run Tryd.prog w = .ok (.int .i64 c) w := by
  have hw : IntKind.i64.wrap c = c := by rw [IntKind.wrap_i64]; omega
  have h : (convert 5 3 (.int .u8 c)).run Tryd.prog w = .ok (.int .i64 (IntKind.i64.wrap c)) w := by kernel_rfl
  rw [h, hw]
theorem exec_lss9 {a : Act} {o : Oper} {w : World} (t : TypeId) (x y : Operand) (ho : o.op = .binOp .lss t x y t) (m n : Int) (b : Bool) (hx : a.eval x = .int .i64 m) (hy : a.eval y = .int .i64 n) (h : decide (m < n) = b) : (execOp a.eval o).run Tryd.prog w = .ok (.value (.bool b)) w := by
  subst h
  unfold execOp
  simp [ho, hx, hy]
  rfl
theorem exec_not9 {a : Act} {o : Oper} {w : World} (t : TypeId) (x : Operand) (ho : o.op = .unOp .not t x) (b r : Bool) (hx : a.eval x = .bool b) (h : (!b) = r) : (execOp a.eval o).run Tryd.prog w = .ok (.value (.bool r)) w := by
  subst h
  unfold execOp
  simp [ho, hx]
  rfl
theorem exec_neqs9 {a : Act} {o : Oper} {w : World} (x y : Operand) (ho : o.op = .binOp .neq 9 x y 9) (p q : List UInt8) (hx : a.eval x = .string ⟨p.toArray⟩) (hy : a.eval y = .string ⟨q.toArray⟩) (r : Bool) (h : (!decide (p = q)) = r) : (execOp a.eval o).run Tryd.prog w = .ok (.value (.bool r)) w := by
  refine exec_cmp .neq _ _ x y ho (.inl rfl) _ _ _ hx hy ?_ ?_
  · simp [eqGuard]
  · subst h
    exact neq_string w p q
theorem results_pairT {P : Program} {fn : Func} {p u : Tmp} {ty : TypeId} (h : fn.results = #[.tmp u, .cell p ty]) (tmps : Array Value) (w : World) (g : Nat) (t : TypeId) (cs : Array Value) (fr : Nat × Nat) (d : TypeDesc) (v : Value)
    (hp : tmps.getD p undef = .pointer (some ⟨g, 0, none⟩)) (hv : tmps.getD u undef = v) (hg : w.heap[g]? = some (.cells cs t fr))
    (hu : P.underlying ty = some d) (hd : (match d with | .struct _ | .array _ _ => true | _ => false) = true) (hi : (P.info? ty).map (·.size) = some cs.size) :
    (results fn tmps).run P w = .ok (.tuple #[v, .agg cs]) w := by
  have hp' : tmps[p]?.getD undef = .pointer (some ⟨g, 0, none⟩) := by simpa using hp
  have hv' : tmps[u]?.getD undef = v := by simpa using hv
  simp [results, h, hp', hv', asAddr, run_loadVar_row w g t ty cs fr d hg hu hd hi]
/-- What bytes of a place tell: the generation (0: none) and the record. -/
def toldE (c : List UInt8) : Nat × BR := match decE c with | none => (0, ⟨0, 0, 0, 0, 0⟩) | some p => p
set_option maxRecDepth 100000 in
set_option maxHeartbeats 4000000 in
theorem rtold9_any (x : Value) (c : List UInt8) (w : World) (hS : Seg w x c) (hl : c.length = 32) :
    Calls Tryd.prog 31 #[x] w fun e w' => e = .returned (.tuple #[.int .i64 ((toldE c).1 : Int), brV (toldE c).2]) ∧ Below w.heap.size w w' := by
  obtain ⟨ab, cb, rfl⟩ := Seg.shapeD hS
  rw [hl] at hS
  obtain ⟨bb, off, rfl, hbc, hrow, hbl⟩ := hS.formD (by omega)
  have d : ∀ j, j < 32 → ∃ u : Int, w.cell? ⟨bb, off + j, none⟩ = some (.int .u8 u) ∧ 0 ≤ u ∧ u < 256 ∧ ((c.getD j 0).toNat : Int) = u := fun j hj => by
    have hl := (c.getD j 0).toNat_lt
    refine ⟨((c.getD j 0).toNat : Int), ?_, by omega, by omega, rfl⟩
    rw [hrow j (by omega)]
    simp [n8, show j < c.length by omega]
  obtain ⟨c4, d4, a4, b4, e4⟩ := d 4 (by decide)
  obtain ⟨c5, d5, a5, b5, e5⟩ := d 5 (by decide)
  obtain ⟨c6, d6, a6, b6, e6⟩ := d 6 (by decide)
  obtain ⟨s7, hs7⟩ : ∃ v, v = Value.slice (restD (some ⟨bb, off, none⟩) cb 7) (32 - 7) (cb - 7) := ⟨_, rfl⟩
  obtain ⟨s11, hs11⟩ : ∃ v, v = Value.slice (restD (some ⟨bb, off, none⟩) cb 11) (32 - 11) (cb - 11) := ⟨_, rfl⟩
  have l7 : ∀ V, (Instr.slice 41 (.slice (some ⟨bb, off, none⟩) 32 cb) (some (.int .i64 7)) none none).run Tryd.prog V = .ok s7 V := fun V => by rw [hs7]; exact slice_restD _ 32 cb 7 (by omega) V
  have l11 : ∀ V, (Instr.slice 41 (.slice (some ⟨bb, off, none⟩) 32 cb) (some (.int .i64 11)) none none).run Tryd.prog V = .ok s11 V := fun V => by rw [hs11]; exact slice_restD _ 32 cb 11 (by omega) V
  obtain ⟨V0, hV0⟩ : ∃ v, v = of4 (c.drop 7) := ⟨_, rfl⟩
  obtain ⟨V1, hV1⟩ : ∃ v, v = of4 (c.drop 11) := ⟨_, rfl⟩
  obtain ⟨G, hG⟩ : ∃ v, v = of4 c := ⟨_, rfl⟩
  have HSG : Hid (∀ W, Below w.heap.size w W → Seg W (.slice (some ⟨bb, off, none⟩) 32 cb) c) := fun W hW => hS.below hW (Nat.le_refl _)
  have HOF : Hid (∀ W, Below w.heap.size w W → Calls Tryd.prog 50 #[.slice (some ⟨bb, off, none⟩) 32 cb] W fun e w' => e = .returned (.int .i64 (G : Int)) ∧ Below W.heap.size W w') := fun W hW => by rw [hG]; exact of9_any _ c W (HSG.out W hW) (by omega)
  have HOF7 : Hid (∀ W, Below w.heap.size w W → Calls Tryd.prog 50 #[s7] W fun e w' => e = .returned (.int .i64 (V0 : Int)) ∧ Below W.heap.size W w') := fun W hW => by rw [hs7, hV0]; exact of9_any _ _ W ((HSG.out W hW).dropsD 7 (by omega)) (by rw [List.length_drop]; omega)
  have HOF11 : Hid (∀ W, Below w.heap.size w W → Calls Tryd.prog 50 #[s11] W fun e w' => e = .returned (.int .i64 (V1 : Int)) ∧ Below W.heap.size W w') := fun W hW => by rw [hs11, hV1]; exact of9_any _ _ W ((HSG.out W hW).dropsD 11 (by omega)) (by rw [List.length_drop]; omega)
  have HR : Hid (rec9 c = ⟨c4, c5 - 1, c6, (V0 : Int), (V1 : Int)⟩) := by
    show _ = _
    unfold rec9
    rw [e4, e5, e6, leVal_of4 _ (by rw [List.length_drop]; omega), leVal_of4 _ (by rw [List.length_drop]; omega), hV0, hV1]
  have HGN : Hid (gen9 c = G) := by show _ = _; unfold gen9; rw [leVal_of4 _ (by omega), hG]
  have HDT : Hid (decE c = if 1 ≤ gen9 c ∧ gen9 c ≤ 1073741824 ∧ (rec9 c).ok ∧ entB (gen9 c) (rec9 c) = c then some (gen9 c, rec9 c) else none) := decE_told c hl
  rw [HR.out, HGN.out] at HDT
  have hG4 : G < 4294967296 := by rw [hG]; exact of4_lt _
  have hV04 : V0 < 4294967296 := by rw [hV0]; exact of4_lt _
  have hV14 : V1 < 4294967296 := by rw [hV1]; exact of4_lt _
  have HT0 : Hid (¬ (1 ≤ G ∧ G ≤ 1073741824 ∧ BR.ok ⟨c4, c5 - 1, c6, (V0 : Int), (V1 : Int)⟩ ∧ entB G ⟨c4, c5 - 1, c6, (V0 : Int), (V1 : Int)⟩ = c) → toldE c = (0, ⟨0, 0, 0, 0, 0⟩)) := fun h => by unfold toldE; rw [HDT.out, if_neg h]
  have HT1 : Hid ((1 ≤ G ∧ G ≤ 1073741824 ∧ BR.ok ⟨c4, c5 - 1, c6, (V0 : Int), (V1 : Int)⟩ ∧ entB G ⟨c4, c5 - 1, c6, (V0 : Int), (V1 : Int)⟩ = c) → toldE c = (G, ⟨c4, c5 - 1, c6, (V0 : Int), (V1 : Int)⟩)) := fun h => by unfold toldE; rw [HDT.out, if_pos h]
  generalize toldE c = TE at *
  clear HDT
  clear hs7 hs11 hV0 hV1 hG d e4 e5 e6 hrow HR HGN
  have HRG : Hid (∀ W, Calls Tryd.prog 40 #[.agg #[.int .i64 c4, .int .i64 (c5 - 1), .int .i64 c6, .int .i64 (V0 : Int), .int .i64 (V1 : Int)]] W fun e w' => e = .returned (.bool (rightR ⟨c4, c5 - 1, c6, (V0 : Int), (V1 : Int)⟩)) ∧ Below W.heap.size W w') := fun W => rright9_any ⟨c4, c5 - 1, c6, (V0 : Int), (V1 : Int)⟩ W
  rw [hl]
  have hb0 := (Below.refl w.heap.size w).alloc (Nat.le_refl _) (.cells #[.int .i64 0, .int .i64 0, .int .i64 0, .int .i64 0, .int .i64 0] 40)
  have k0 := Blk.new w 40 #[.int .i64 0, .int .i64 0, .int .i64 0, .int .i64 0, .int .i64 0]
  go_enter Tryd.func31, Tryd.ntmps31
  go_upto_region 2 with (go_at_call 50; refine (HOF.out _ hb0).mono ?_; rintro e w1 ⟨rfl, hb1⟩)
  have hB1 : Below w.heap.size w w1 := hb0.trans (hb1.mono hb0.size)
  have m0 := k0.below hb1 k0.lt
  have hsz : w.heap.size < w1.heap.size := m0.lt
  clear k0 hb0 hb1 HOF
  have q4 : ∀ V, Below w1.heap.size w1 V → V.cell? ⟨bb, off + 4, none⟩ = some (.int .u8 c4) := fun V hV => by rw [(hB1.trans (hV.mono hB1.size)).cell (p := ⟨bb, off + 4, none⟩) hbl]; exact d4
  have q5 : ∀ V, Below w1.heap.size w1 V → V.cell? ⟨bb, off + 5, none⟩ = some (.int .u8 c5) := fun V hV => by rw [(hB1.trans (hV.mono hB1.size)).cell (p := ⟨bb, off + 5, none⟩) hbl]; exact d5
  have q6 : ∀ V, Below w1.heap.size w1 V → V.cell? ⟨bb, off + 6, none⟩ = some (.int .u8 c6) := fun V hV => by rw [(hB1.trans (hV.mono hB1.size)).cell (p := ⟨bb, off + 6, none⟩) hbl]; exact d6
  go_cut [5] from 9 to 30 (fun s5 wx => ∃ g, s5 = .pointer (some ⟨g, 0, none⟩) ∧ w.heap.size < g ∧ Blk wx g 40 #[.int .i64 c4, .int .i64 (c5 - 1), .int .i64 c6, .int .i64 (V0 : Int), .int .i64 (V1 : Int)] ∧ Blk wx w.heap.size 40 #[.int .i64 0, .int .i64 0, .int .i64 0, .int .i64 0, .int .i64 0] ∧ Below w.heap.size w wx)
  case first =>
    have HE : Hid (∀ g W9, w1.heap.size ≤ g → Blk W9 g 40 #[.int .i64 c4, .int .i64 (c5 - 1), .int .i64 c6, .int .i64 (V0 : Int), .int .i64 (V1 : Int)] → Below w1.heap.size w1 W9 → ∃ g', Value.pointer (some ⟨g, 0, none⟩) = .pointer (some ⟨g', 0, none⟩) ∧ w.heap.size < g' ∧ Blk W9 g' 40 #[.int .i64 c4, .int .i64 (c5 - 1), .int .i64 c6, .int .i64 (V0 : Int), .int .i64 (V1 : Int)] ∧ Blk W9 w.heap.size 40 #[.int .i64 0, .int .i64 0, .int .i64 0, .int .i64 0, .int .i64 0] ∧ Below w.heap.size w W9) := fun g W9 h1 h2 h3 => ⟨g, rfl, by omega, h2, m0.below h3 m0.lt, hB1.trans (h3.mono hB1.size)⟩
    clear m0 d4 d5 d6 HT0 HT1 HSG HRG
    have hS0 : Below w1.heap.size w1 w1.drew := (Below.refl w1.heap.size w1).drew
    refine held_begin (fun V => Below w1.heap.size w1 V) (by kernel_rfl) ?_
    refine held_take 0 9 _ (.slice (some ⟨bb, off, none⟩) 32 cb) rfl rfl (by kernel_rfl) (by kernel_rfl) (by kernel_rfl) rfl hS0 (fun _ _ => rfl) ?_
    simp only [Act.put, List.setIfInBounds_toArray, List.set_cons_succ, List.set_cons_zero]
    refine held_take 1 10 _ (.pointer (some ⟨bb, off + 4, none⟩)) rfl rfl (by kernel_rfl) (by kernel_rfl) (by kernel_rfl) rfl hS0 (fun V _ => exec_indexat 41 _ _ rfl (.slice (some ⟨bb, off, none⟩) 32 cb) (.int .i64 4) _ rfl rfl (index7 bb off 32 cb 4 4 rfl (by omega) V)) ?_
    simp only [Act.put, List.setIfInBounds_toArray, List.set_cons_succ, List.set_cons_zero]
    refine held_take 2 11 _ (.int .u8 c4) rfl rfl (by kernel_rfl) (by kernel_rfl) (by kernel_rfl) rfl hS0 (fun V hV => exec_loadc 5 _ rfl _ _ rfl (load_one 5 (fun _ => by kernel_rfl) V _ _ _ (q4 V hV))) ?_
    simp only [Act.put, List.setIfInBounds_toArray, List.set_cons_succ, List.set_cons_zero]
    refine held_take 3 12 _ (.int .i64 c4) rfl rfl (by kernel_rfl) (by kernel_rfl) (by kernel_rfl) rfl hS0 (fun V _ => exec_conv 5 3 _ rfl (.int .u8 c4) (.int .i64 c4) rfl (conv_b9 c4 a4 b4 V)) ?_
    simp only [Act.put, List.setIfInBounds_toArray, List.set_cons_succ, List.set_cons_zero]
    refine held_take 4 13 _ (.slice (some ⟨bb, off, none⟩) 32 cb) rfl rfl (by kernel_rfl) (by kernel_rfl) (by kernel_rfl) rfl hS0 (fun _ _ => rfl) ?_
    simp only [Act.put, List.setIfInBounds_toArray, List.set_cons_succ, List.set_cons_zero]
    refine held_take 5 14 _ (.pointer (some ⟨bb, off + 5, none⟩)) rfl rfl (by kernel_rfl) (by kernel_rfl) (by kernel_rfl) rfl hS0 (fun V _ => exec_indexat 41 _ _ rfl (.slice (some ⟨bb, off, none⟩) 32 cb) (.int .i64 5) _ rfl rfl (index7 bb off 32 cb 5 5 rfl (by omega) V)) ?_
    simp only [Act.put, List.setIfInBounds_toArray, List.set_cons_succ, List.set_cons_zero]
    refine held_take 6 15 _ (.int .u8 c5) rfl rfl (by kernel_rfl) (by kernel_rfl) (by kernel_rfl) rfl hS0 (fun V hV => exec_loadc 5 _ rfl _ _ rfl (load_one 5 (fun _ => by kernel_rfl) V _ _ _ (q5 V hV))) ?_
    simp only [Act.put, List.setIfInBounds_toArray, List.set_cons_succ, List.set_cons_zero]
    refine held_take 7 16 _ (.int .i64 c5) rfl rfl (by kernel_rfl) (by kernel_rfl) (by kernel_rfl) rfl hS0 (fun V _ => exec_conv 5 3 _ rfl (.int .u8 c5) (.int .i64 c5) rfl (conv_b9 c5 a5 b5 V)) ?_
    simp only [Act.put, List.setIfInBounds_toArray, List.set_cons_succ, List.set_cons_zero]
    refine held_take 8 17 _ (.int .i64 (c5 - 1)) rfl rfl (by kernel_rfl) (by kernel_rfl) (by kernel_rfl) rfl hS0 (fun V _ => exec_subi 3 _ _ rfl c5 1 rfl rfl (by omega) (by omega)) ?_
    simp only [Act.put, List.setIfInBounds_toArray, List.set_cons_succ, List.set_cons_zero]
    refine held_take 9 18 _ (.slice (some ⟨bb, off, none⟩) 32 cb) rfl rfl (by kernel_rfl) (by kernel_rfl) (by kernel_rfl) rfl hS0 (fun _ _ => rfl) ?_
    simp only [Act.put, List.setIfInBounds_toArray, List.set_cons_succ, List.set_cons_zero]
    refine held_take 10 19 _ (.pointer (some ⟨bb, off + 6, none⟩)) rfl rfl (by kernel_rfl) (by kernel_rfl) (by kernel_rfl) rfl hS0 (fun V _ => exec_indexat 41 _ _ rfl (.slice (some ⟨bb, off, none⟩) 32 cb) (.int .i64 6) _ rfl rfl (index7 bb off 32 cb 6 6 rfl (by omega) V)) ?_
    simp only [Act.put, List.setIfInBounds_toArray, List.set_cons_succ, List.set_cons_zero]
    refine held_take 11 20 _ (.int .u8 c6) rfl rfl (by kernel_rfl) (by kernel_rfl) (by kernel_rfl) rfl hS0 (fun V hV => exec_loadc 5 _ rfl _ _ rfl (load_one 5 (fun _ => by kernel_rfl) V _ _ _ (q6 V hV))) ?_
    simp only [Act.put, List.setIfInBounds_toArray, List.set_cons_succ, List.set_cons_zero]
    refine held_take 12 21 _ (.int .i64 c6) rfl rfl (by kernel_rfl) (by kernel_rfl) (by kernel_rfl) rfl hS0 (fun V _ => exec_conv 5 3 _ rfl (.int .u8 c6) (.int .i64 c6) rfl (conv_b9 c6 a6 b6 V)) ?_
    simp only [Act.put, List.setIfInBounds_toArray, List.set_cons_succ, List.set_cons_zero]
    refine held_take 13 22 _ (.slice (some ⟨bb, off, none⟩) 32 cb) rfl rfl (by kernel_rfl) (by kernel_rfl) (by kernel_rfl) rfl hS0 (fun _ _ => rfl) ?_
    simp only [Act.put, List.setIfInBounds_toArray, List.set_cons_succ, List.set_cons_zero]
    refine held_take 14 23 _ (s7) rfl rfl (by kernel_rfl) (by kernel_rfl) (by kernel_rfl) rfl hS0 (fun V _ => exec_slice7 _ _ _ _ rfl (.slice (some ⟨bb, off, none⟩) 32 cb) s7 (some (.int .i64 7)) none none rfl rfl rfl rfl (l7 V)) ?_
    simp only [Act.put, List.setIfInBounds_toArray, List.set_cons_succ, List.set_cons_zero]
    refine held_take 16 25 _ (.slice (some ⟨bb, off, none⟩) 32 cb) rfl rfl (by kernel_rfl) (by kernel_rfl) (by kernel_rfl) rfl hS0 (fun _ _ => rfl) ?_
    simp only [Act.put, List.setIfInBounds_toArray, List.set_cons_succ, List.set_cons_zero]
    refine held_take 17 26 _ (s11) rfl rfl (by kernel_rfl) (by kernel_rfl) (by kernel_rfl) rfl hS0 (fun V _ => exec_slice7 _ _ _ _ rfl (.slice (some ⟨bb, off, none⟩) 32 cb) s11 (some (.int .i64 11)) none none rfl rfl rfl rfl (l11 V)) ?_
    simp only [Act.put, List.setIfInBounds_toArray, List.set_cons_succ, List.set_cons_zero]
    refine held_all2 15 21 (by kernel_rfl) ?_ ?_
    · refine op_call 15 24 _ 50 #[s7] rfl rfl rfl (exec_one 50 _ _ rfl s7 rfl (fun _ _ => by kernel_rfl)) ?_
      refine (HOF7.out _ (hB1.trans (hS0.mono hB1.size))).mono ?_
      rintro e W1 ⟨rfl, hb1⟩
      have hS1 : Below w1.heap.size w1 W1 := hS0.trans (hb1.mono hS0.size)
      refine ⟨_, rfl, hS1, ?_⟩
      simp only [Act.put, List.setIfInBounds_toArray, List.set_cons_succ, List.set_cons_zero]
      refine held_all2 18 21 (by kernel_rfl) ?_ ?_
      · refine op_call 18 27 _ 50 #[s11] rfl rfl rfl (exec_one 50 _ _ rfl s11 rfl (fun _ _ => by kernel_rfl)) ?_
        refine (HOF11.out _ (hB1.trans (hS1.mono hB1.size))).mono ?_
        rintro e W2 ⟨rfl, hb2⟩
        have hS2 : Below w1.heap.size w1 W2 := hS1.trans (hb2.mono hS1.size)
        refine ⟨_, rfl, hS2, ?_⟩
        simp only [Act.put, List.setIfInBounds_toArray, List.set_cons_succ, List.set_cons_zero]
        refine held_take 19 28 _ (.agg #[.int .i64 (V0 : Int), .int .i64 (V1 : Int)]) rfl rfl (by kernel_rfl) (by kernel_rfl) (by kernel_rfl) rfl hS2 (fun V _ => exec_buildB _ _ rfl _ (built_two9 _ _)) ?_
        simp only [Act.put, List.setIfInBounds_toArray, List.set_cons_succ, List.set_cons_zero]
        refine held_take 20 29 _ (.agg #[.int .i64 c4, .int .i64 (c5 - 1), .int .i64 c6, .int .i64 (V0 : Int), .int .i64 (V1 : Int)]) rfl rfl (by kernel_rfl) (by kernel_rfl) (by kernel_rfl) rfl hS2 (fun V _ => exec_buildB _ _ rfl _ (built_boot9 _ _ _ _ _)) ?_
        simp only [Act.put, List.setIfInBounds_toArray, List.set_cons_succ, List.set_cons_zero]
        refine held_all1 21 (by kernel_rfl) ?_
        · refine op_allocB 21 5 _ rfl rfl rfl rfl ?_
          intro g W3 hgk k3 hb3
          have hge : w1.heap.size ≤ g := by have := hS2.size; omega
          have hS3 : Below w1.heap.size w1 W3 := hS2.trans (hb3.mono hS2.size)
          refine ⟨hS3, ?_⟩
          simp only [Act.put, List.setIfInBounds_toArray, List.set_cons_succ, List.set_cons_zero]
          refine held_all1 22 (by kernel_rfl) (op_row 22 _ rfl rfl rfl 40 _ _ rfl g #[.int .i64 c4, .int .i64 (c5 - 1), .int .i64 c6, .int .i64 (V0 : Int), .int .i64 (V1 : Int)] rfl rfl 40 _ k3 info_boot9 rfl (by simp [Value.oneCell']) ?_)
          intro W9 hb9 hg9 hs9
          have hS9 : Below w1.heap.size w1 W9 := below_grown hS3 hg9 hS3.size (fun q hq => by have h2 := Option.some.inj hq; omega)
          refine ⟨hS9, ?_⟩
          refine wpAnyH_done (by kernel_rfl) ?_ _
          refine NoPanic.normal ?_
          go_wp2_with fail
          go_meet
          exact HE.out g W9 hge hb9 hS9
      · refine op_allocB 21 5 _ rfl rfl rfl rfl ?_
        intro g W5 hgk k5 hb5
        have hge : w1.heap.size ≤ g := by have := hS1.size; omega
        have hS5 : Below w1.heap.size w1 W5 := hS1.trans (hb5.mono hS1.size)
        refine ⟨hS5, ?_⟩
        simp only [Act.put, List.setIfInBounds_toArray, List.set_cons_succ, List.set_cons_zero]
        refine held_all1 18 (by kernel_rfl) ?_
        · refine op_call 18 27 _ 50 #[s11] rfl rfl rfl (exec_one 50 _ _ rfl s11 rfl (fun _ _ => by kernel_rfl)) ?_
          refine (HOF11.out _ (hB1.trans (hS5.mono hB1.size))).mono ?_
          rintro e W6 ⟨rfl, hb6⟩
          have hS6 : Below w1.heap.size w1 W6 := hS5.trans (hb6.mono hS5.size)
          have k6 := k5.below hb6 k5.lt
          refine ⟨_, rfl, hS6, ?_⟩
          simp only [Act.put, List.setIfInBounds_toArray, List.set_cons_succ, List.set_cons_zero]
          refine held_take 19 28 _ (.agg #[.int .i64 (V0 : Int), .int .i64 (V1 : Int)]) rfl rfl (by kernel_rfl) (by kernel_rfl) (by kernel_rfl) rfl hS6 (fun V _ => exec_buildB _ _ rfl _ (built_two9 _ _)) ?_
          simp only [Act.put, List.setIfInBounds_toArray, List.set_cons_succ, List.set_cons_zero]
          refine held_take 20 29 _ (.agg #[.int .i64 c4, .int .i64 (c5 - 1), .int .i64 c6, .int .i64 (V0 : Int), .int .i64 (V1 : Int)]) rfl rfl (by kernel_rfl) (by kernel_rfl) (by kernel_rfl) rfl hS6 (fun V _ => exec_buildB _ _ rfl _ (built_boot9 _ _ _ _ _)) ?_
          simp only [Act.put, List.setIfInBounds_toArray, List.set_cons_succ, List.set_cons_zero]
          refine held_all1 22 (by kernel_rfl) (op_row 22 _ rfl rfl rfl 40 _ _ rfl g #[.int .i64 c4, .int .i64 (c5 - 1), .int .i64 c6, .int .i64 (V0 : Int), .int .i64 (V1 : Int)] rfl rfl 40 _ k6 info_boot9 rfl (by simp [Value.oneCell']) ?_)
          intro W9 hb9 hg9 hs9
          have hS9 : Below w1.heap.size w1 W9 := below_grown hS6 hg9 hS6.size (fun q hq => by have h2 := Option.some.inj hq; omega)
          refine ⟨hS9, ?_⟩
          refine wpAnyH_done (by kernel_rfl) ?_ _
          refine NoPanic.normal ?_
          go_wp2_with fail
          go_meet
          exact HE.out g W9 hge hb9 hS9
    · refine op_allocB 21 5 _ rfl rfl rfl rfl ?_
      intro g W8 hgk k8 hb8
      have hge : w1.heap.size ≤ g := by have := hS0.size; omega
      have hS8 : Below w1.heap.size w1 W8 := hS0.trans (hb8.mono hS0.size)
      refine ⟨hS8, ?_⟩
      simp only [Act.put, List.setIfInBounds_toArray, List.set_cons_succ, List.set_cons_zero]
      refine held_all1 15 (by kernel_rfl) ?_
      · refine op_call 15 24 _ 50 #[s7] rfl rfl rfl (exec_one 50 _ _ rfl s7 rfl (fun _ _ => by kernel_rfl)) ?_
        refine (HOF7.out _ (hB1.trans (hS8.mono hB1.size))).mono ?_
        rintro e W9 ⟨rfl, hb9⟩
        have hS9 : Below w1.heap.size w1 W9 := hS8.trans (hb9.mono hS8.size)
        have k9 := k8.below hb9 k8.lt
        refine ⟨_, rfl, hS9, ?_⟩
        simp only [Act.put, List.setIfInBounds_toArray, List.set_cons_succ, List.set_cons_zero]
        refine held_all1 18 (by kernel_rfl) ?_
        · refine op_call 18 27 _ 50 #[s11] rfl rfl rfl (exec_one 50 _ _ rfl s11 rfl (fun _ _ => by kernel_rfl)) ?_
          refine (HOF11.out _ (hB1.trans (hS9.mono hB1.size))).mono ?_
          rintro e W10 ⟨rfl, hb10⟩
          have hS10 : Below w1.heap.size w1 W10 := hS9.trans (hb10.mono hS9.size)
          have k10 := k9.below hb10 k9.lt
          refine ⟨_, rfl, hS10, ?_⟩
          simp only [Act.put, List.setIfInBounds_toArray, List.set_cons_succ, List.set_cons_zero]
          refine held_take 19 28 _ (.agg #[.int .i64 (V0 : Int), .int .i64 (V1 : Int)]) rfl rfl (by kernel_rfl) (by kernel_rfl) (by kernel_rfl) rfl hS10 (fun V _ => exec_buildB _ _ rfl _ (built_two9 _ _)) ?_
          simp only [Act.put, List.setIfInBounds_toArray, List.set_cons_succ, List.set_cons_zero]
          refine held_take 20 29 _ (.agg #[.int .i64 c4, .int .i64 (c5 - 1), .int .i64 c6, .int .i64 (V0 : Int), .int .i64 (V1 : Int)]) rfl rfl (by kernel_rfl) (by kernel_rfl) (by kernel_rfl) rfl hS10 (fun V _ => exec_buildB _ _ rfl _ (built_boot9 _ _ _ _ _)) ?_
          simp only [Act.put, List.setIfInBounds_toArray, List.set_cons_succ, List.set_cons_zero]
          refine held_all1 22 (by kernel_rfl) (op_row 22 _ rfl rfl rfl 40 _ _ rfl g #[.int .i64 c4, .int .i64 (c5 - 1), .int .i64 c6, .int .i64 (V0 : Int), .int .i64 (V1 : Int)] rfl rfl 40 _ k10 info_boot9 rfl (by simp [Value.oneCell']) ?_)
          intro W9 hb9 hg9 hs9
          have hS9 : Below w1.heap.size w1 W9 := below_grown hS10 hg9 hS10.size (fun q hq => by have h2 := Option.some.inj hq; omega)
          refine ⟨hS9, ?_⟩
          refine wpAnyH_done (by kernel_rfl) ?_ _
          refine NoPanic.normal ?_
          go_wp2_with fail
          go_meet
          exact HE.out g W9 hge hb9 hS9
  case rest =>
    obtain ⟨g, rfl, hgw, kb, kz, hB2⟩ := hcut
    clear q4 q5 q6 d4 d5 d6 l7 l11 HOF7 HOF11 m0 hB1 hsz
    have f0 : wc.cell? ⟨g, 0, none⟩ = some (.int .i64 c4) := kb.cell (j := 0) rfl
    have f1 : wc.cell? ⟨g, 1, none⟩ = some (.int .i64 (c5 - 1)) := kb.cell (j := 1) rfl
    have f2 : wc.cell? ⟨g, 2, none⟩ = some (.int .i64 c6) := kb.cell (j := 2) rfl
    have f3 : wc.cell? ⟨g, 3, none⟩ = some (.int .i64 (V0 : Int)) := kb.cell (j := 3) rfl
    have f4 : wc.cell? ⟨g, 4, none⟩ = some (.int .i64 (V1 : Int)) := kb.cell (j := 4) rfl
    go_upto_region 4 with (go_at_call 40; refine (HRG.out _).mono ?_; rintro e w3 ⟨rfl, hb3⟩)
    have hB3 : Below w.heap.size w w3 := hB2.trans (hb3.mono hB2.size)
    have mb := kb.below hb3 kb.lt
    have mz := kz.below hb3 kz.lt
    clear f0 f1 f2 f3 f4 kb kz hb3 hB2 HRG
    by_cases g1 : (G : Int) < 1
    · have hA : decide ((G : Int) < 1) = true := decide_eq_true g1
      have HTE : Hid (TE = (0, ⟨0, 0, 0, 0, 0⟩)) := HT0.out (fun h => by omega)
      clear HT0 HT1 g1
      have hT0 : Below w3.heap.size w3 w3.drew := (Below.refl w3.heap.size w3).drew
      refine held_begin (fun V => Below w3.heap.size w3 V) (by kernel_rfl) ?_
      refine held_take 0 32 _ (.int .i64 (G : Int)) rfl rfl (by kernel_rfl) (by kernel_rfl) (by kernel_rfl) rfl hT0 (fun _ _ => rfl) ?_
      simp only [Act.put, List.setIfInBounds_toArray, List.set_cons_succ, List.set_cons_zero]
      refine held_take 1 33 _ (.bool true) rfl rfl (by kernel_rfl) (by kernel_rfl) (by kernel_rfl) rfl hT0 (fun V _ => exec_lss9 3 _ _ rfl (G : Int) 1 _ rfl rfl hA) ?_
      simp only [Act.put, List.setIfInBounds_toArray, List.set_cons_succ, List.set_cons_zero]
      refine held_take 2 34 _ (.bool true) rfl rfl (by kernel_rfl) (by kernel_rfl) (by kernel_rfl) rfl hT0 (fun _ _ => rfl) ?_
      simp only [Act.put, List.setIfInBounds_toArray, List.set_cons_succ, List.set_cons_zero]
      refine held_pass 3 35 _ rfl rfl (by kernel_rfl) (by kernel_rfl) (by kernel_rfl) rfl hT0 ?_
      simp only [Act.put, List.setIfInBounds_toArray, List.set_cons_succ, List.set_cons_zero]
      refine held_pass 4 36 _ rfl rfl (by kernel_rfl) (by kernel_rfl) (by kernel_rfl) rfl hT0 ?_
      simp only [Act.put, List.setIfInBounds_toArray, List.set_cons_succ, List.set_cons_zero]
      refine held_take 5 37 _ (.bool true) rfl rfl (by kernel_rfl) (by kernel_rfl) (by kernel_rfl) rfl hT0 (fun _ _ => rfl) ?_
      simp only [Act.put, List.setIfInBounds_toArray, List.set_cons_succ, List.set_cons_zero]
      refine held_take 6 38 _ (.bool true) rfl rfl (by kernel_rfl) (by kernel_rfl) (by kernel_rfl) rfl hT0 (fun _ _ => rfl) ?_
      simp only [Act.put, List.setIfInBounds_toArray, List.set_cons_succ, List.set_cons_zero]
      refine held_pass 7 39 _ rfl rfl (by kernel_rfl) (by kernel_rfl) (by kernel_rfl) rfl hT0 ?_
      simp only [Act.put, List.setIfInBounds_toArray, List.set_cons_succ, List.set_cons_zero]
      refine held_pass 8 40 _ rfl rfl (by kernel_rfl) (by kernel_rfl) (by kernel_rfl) rfl hT0 ?_
      simp only [Act.put, List.setIfInBounds_toArray, List.set_cons_succ, List.set_cons_zero]
      refine held_take 9 41 _ (.bool true) rfl rfl (by kernel_rfl) (by kernel_rfl) (by kernel_rfl) rfl hT0 (fun _ _ => rfl) ?_
      simp only [Act.put, List.setIfInBounds_toArray, List.set_cons_succ, List.set_cons_zero]
      refine held_take 10 42 _ (.bool true) rfl rfl (by kernel_rfl) (by kernel_rfl) (by kernel_rfl) rfl hT0 (fun _ _ => rfl) ?_
      simp only [Act.put, List.setIfInBounds_toArray, List.set_cons_succ, List.set_cons_zero]
      refine held_pass 11 43 _ rfl rfl (by kernel_rfl) (by kernel_rfl) (by kernel_rfl) rfl hT0 ?_
      simp only [Act.put, List.setIfInBounds_toArray, List.set_cons_succ, List.set_cons_zero]
      refine held_pass 12 44 _ rfl rfl (by kernel_rfl) (by kernel_rfl) (by kernel_rfl) rfl hT0 ?_
      simp only [Act.put, List.setIfInBounds_toArray, List.set_cons_succ, List.set_cons_zero]
      refine held_pass 13 45 _ rfl rfl (by kernel_rfl) (by kernel_rfl) (by kernel_rfl) rfl hT0 ?_
      simp only [Act.put, List.setIfInBounds_toArray, List.set_cons_succ, List.set_cons_zero]
      refine held_pass 14 46 _ rfl rfl (by kernel_rfl) (by kernel_rfl) (by kernel_rfl) rfl hT0 ?_
      simp only [Act.put, List.setIfInBounds_toArray, List.set_cons_succ, List.set_cons_zero]
      refine held_pass 15 47 _ rfl rfl (by kernel_rfl) (by kernel_rfl) (by kernel_rfl) rfl hT0 ?_
      simp only [Act.put, List.setIfInBounds_toArray, List.set_cons_succ, List.set_cons_zero]
      refine held_pass 16 48 _ rfl rfl (by kernel_rfl) (by kernel_rfl) (by kernel_rfl) rfl hT0 ?_
      simp only [Act.put, List.setIfInBounds_toArray, List.set_cons_succ, List.set_cons_zero]
      refine held_pass 17 49 _ rfl rfl (by kernel_rfl) (by kernel_rfl) (by kernel_rfl) rfl hT0 ?_
      simp only [Act.put, List.setIfInBounds_toArray, List.set_cons_succ, List.set_cons_zero]
      refine held_take 18 50 _ (.bool true) rfl rfl (by kernel_rfl) (by kernel_rfl) (by kernel_rfl) rfl hT0 (fun _ _ => rfl) ?_
      simp only [Act.put, List.setIfInBounds_toArray, List.set_cons_succ, List.set_cons_zero]
      refine wpAnyH_done (by kernel_rfl) ?_ _
      refine NoPanic.normal ?_
      have mzd := mz.drew
      have hBd := hB3.drew
      go_wp2_with (refine store_blk rfl 40 _ _ rfl rfl w.heap.size #[.int .i64 0, .int .i64 0, .int .i64 0, .int .i64 0, .int .i64 0] rfl rfl 40 _ mzd info_boot9 rfl (by simp [Value.oneCell']) ?_; intro w7 hb7 hg7 hs7)
      (try simp only [Exit.inBlock, Exit.then])
      refine bodyPost_ret (results_pairT rfl _ _ w.heap.size 40 #[.int .i64 0, .int .i64 0, .int .i64 0, .int .i64 0, .int .i64 0] (0, 0) _ _ rfl rfl hb7 Tryd.underlying40 rfl info_boot9) rfl ?_
      rw [HTE.out]
      exact ⟨rfl, below_grown hBd hg7 hBd.size (fun q hq => by have h2 := Option.some.inj hq; omega)⟩
    have hA : decide ((G : Int) < 1) = false := decide_eq_false g1
    by_cases g2 : (1073741824 : Int) < (G : Int)
    · have hBG : decide ((1073741824 : Int) < (G : Int)) = true := decide_eq_true g2
      have HTE : Hid (TE = (0, ⟨0, 0, 0, 0, 0⟩)) := HT0.out (fun h => by omega)
      clear HT0 HT1 g1 g2
      have hT0 : Below w3.heap.size w3 w3.drew := (Below.refl w3.heap.size w3).drew
      refine held_begin (fun V => Below w3.heap.size w3 V) (by kernel_rfl) ?_
      refine held_take 0 32 _ (.int .i64 (G : Int)) rfl rfl (by kernel_rfl) (by kernel_rfl) (by kernel_rfl) rfl hT0 (fun _ _ => rfl) ?_
      simp only [Act.put, List.setIfInBounds_toArray, List.set_cons_succ, List.set_cons_zero]
      refine held_take 1 33 _ (.bool false) rfl rfl (by kernel_rfl) (by kernel_rfl) (by kernel_rfl) rfl hT0 (fun V _ => exec_lss9 3 _ _ rfl (G : Int) 1 _ rfl rfl hA) ?_
      simp only [Act.put, List.setIfInBounds_toArray, List.set_cons_succ, List.set_cons_zero]
      refine held_take 2 34 _ (.bool false) rfl rfl (by kernel_rfl) (by kernel_rfl) (by kernel_rfl) rfl hT0 (fun _ _ => rfl) ?_
      simp only [Act.put, List.setIfInBounds_toArray, List.set_cons_succ, List.set_cons_zero]
      refine held_take 3 35 _ (.int .i64 (G : Int)) rfl rfl (by kernel_rfl) (by kernel_rfl) (by kernel_rfl) rfl hT0 (fun _ _ => rfl) ?_
      simp only [Act.put, List.setIfInBounds_toArray, List.set_cons_succ, List.set_cons_zero]
      refine held_take 4 36 _ (.bool true) rfl rfl (by kernel_rfl) (by kernel_rfl) (by kernel_rfl) rfl hT0 (fun V _ => exec_gtr7 3 _ _ rfl (G : Int) 1073741824 _ rfl rfl hBG) ?_
      simp only [Act.put, List.setIfInBounds_toArray, List.set_cons_succ, List.set_cons_zero]
      refine held_take 5 37 _ (.bool true) rfl rfl (by kernel_rfl) (by kernel_rfl) (by kernel_rfl) rfl hT0 (fun _ _ => rfl) ?_
      simp only [Act.put, List.setIfInBounds_toArray, List.set_cons_succ, List.set_cons_zero]
      refine held_take 6 38 _ (.bool true) rfl rfl (by kernel_rfl) (by kernel_rfl) (by kernel_rfl) rfl hT0 (fun _ _ => rfl) ?_
      simp only [Act.put, List.setIfInBounds_toArray, List.set_cons_succ, List.set_cons_zero]
      refine held_pass 7 39 _ rfl rfl (by kernel_rfl) (by kernel_rfl) (by kernel_rfl) rfl hT0 ?_
      simp only [Act.put, List.setIfInBounds_toArray, List.set_cons_succ, List.set_cons_zero]
      refine held_pass 8 40 _ rfl rfl (by kernel_rfl) (by kernel_rfl) (by kernel_rfl) rfl hT0 ?_
      simp only [Act.put, List.setIfInBounds_toArray, List.set_cons_succ, List.set_cons_zero]
      refine held_take 9 41 _ (.bool true) rfl rfl (by kernel_rfl) (by kernel_rfl) (by kernel_rfl) rfl hT0 (fun _ _ => rfl) ?_
      simp only [Act.put, List.setIfInBounds_toArray, List.set_cons_succ, List.set_cons_zero]
      refine held_take 10 42 _ (.bool true) rfl rfl (by kernel_rfl) (by kernel_rfl) (by kernel_rfl) rfl hT0 (fun _ _ => rfl) ?_
      simp only [Act.put, List.setIfInBounds_toArray, List.set_cons_succ, List.set_cons_zero]
      refine held_pass 11 43 _ rfl rfl (by kernel_rfl) (by kernel_rfl) (by kernel_rfl) rfl hT0 ?_
      simp only [Act.put, List.setIfInBounds_toArray, List.set_cons_succ, List.set_cons_zero]
      refine held_pass 12 44 _ rfl rfl (by kernel_rfl) (by kernel_rfl) (by kernel_rfl) rfl hT0 ?_
      simp only [Act.put, List.setIfInBounds_toArray, List.set_cons_succ, List.set_cons_zero]
      refine held_pass 13 45 _ rfl rfl (by kernel_rfl) (by kernel_rfl) (by kernel_rfl) rfl hT0 ?_
      simp only [Act.put, List.setIfInBounds_toArray, List.set_cons_succ, List.set_cons_zero]
      refine held_pass 14 46 _ rfl rfl (by kernel_rfl) (by kernel_rfl) (by kernel_rfl) rfl hT0 ?_
      simp only [Act.put, List.setIfInBounds_toArray, List.set_cons_succ, List.set_cons_zero]
      refine held_pass 15 47 _ rfl rfl (by kernel_rfl) (by kernel_rfl) (by kernel_rfl) rfl hT0 ?_
      simp only [Act.put, List.setIfInBounds_toArray, List.set_cons_succ, List.set_cons_zero]
      refine held_pass 16 48 _ rfl rfl (by kernel_rfl) (by kernel_rfl) (by kernel_rfl) rfl hT0 ?_
      simp only [Act.put, List.setIfInBounds_toArray, List.set_cons_succ, List.set_cons_zero]
      refine held_pass 17 49 _ rfl rfl (by kernel_rfl) (by kernel_rfl) (by kernel_rfl) rfl hT0 ?_
      simp only [Act.put, List.setIfInBounds_toArray, List.set_cons_succ, List.set_cons_zero]
      refine held_take 18 50 _ (.bool true) rfl rfl (by kernel_rfl) (by kernel_rfl) (by kernel_rfl) rfl hT0 (fun _ _ => rfl) ?_
      simp only [Act.put, List.setIfInBounds_toArray, List.set_cons_succ, List.set_cons_zero]
      refine wpAnyH_done (by kernel_rfl) ?_ _
      refine NoPanic.normal ?_
      have mzd := mz.drew
      have hBd := hB3.drew
      go_wp2_with (refine store_blk rfl 40 _ _ rfl rfl w.heap.size #[.int .i64 0, .int .i64 0, .int .i64 0, .int .i64 0, .int .i64 0] rfl rfl 40 _ mzd info_boot9 rfl (by simp [Value.oneCell']) ?_; intro w7 hb7 hg7 hs7)
      (try simp only [Exit.inBlock, Exit.then])
      refine bodyPost_ret (results_pairT rfl _ _ w.heap.size 40 #[.int .i64 0, .int .i64 0, .int .i64 0, .int .i64 0, .int .i64 0] (0, 0) _ _ rfl rfl hb7 Tryd.underlying40 rfl info_boot9) rfl ?_
      rw [HTE.out]
      exact ⟨rfl, below_grown hBd hg7 hBd.size (fun q hq => by have h2 := Option.some.inj hq; omega)⟩
    have hBG : decide ((1073741824 : Int) < (G : Int)) = false := decide_eq_false g2
    cases hRB : rightR ⟨c4, c5 - 1, c6, (V0 : Int), (V1 : Int)⟩ with
    | false =>
      have HTE : Hid (TE = (0, ⟨0, 0, 0, 0, 0⟩)) := HT0.out (fun h => by have := decide_eq_true h.2.2.1; rw [show rightR _ = decide _ from rfl] at hRB; rw [this] at hRB; cases hRB)
      clear HT0 HT1 g1 g2 hRB
      have hT0 : Below w3.heap.size w3 w3.drew := (Below.refl w3.heap.size w3).drew
      refine held_begin (fun V => Below w3.heap.size w3 V) (by kernel_rfl) ?_
      refine held_take 0 32 _ (.int .i64 (G : Int)) rfl rfl (by kernel_rfl) (by kernel_rfl) (by kernel_rfl) rfl hT0 (fun _ _ => rfl) ?_
      simp only [Act.put, List.setIfInBounds_toArray, List.set_cons_succ, List.set_cons_zero]
      refine held_take 1 33 _ (.bool false) rfl rfl (by kernel_rfl) (by kernel_rfl) (by kernel_rfl) rfl hT0 (fun V _ => exec_lss9 3 _ _ rfl (G : Int) 1 _ rfl rfl hA) ?_
      simp only [Act.put, List.setIfInBounds_toArray, List.set_cons_succ, List.set_cons_zero]
      refine held_take 2 34 _ (.bool false) rfl rfl (by kernel_rfl) (by kernel_rfl) (by kernel_rfl) rfl hT0 (fun _ _ => rfl) ?_
      simp only [Act.put, List.setIfInBounds_toArray, List.set_cons_succ, List.set_cons_zero]
      refine held_take 3 35 _ (.int .i64 (G : Int)) rfl rfl (by kernel_rfl) (by kernel_rfl) (by kernel_rfl) rfl hT0 (fun _ _ => rfl) ?_
      simp only [Act.put, List.setIfInBounds_toArray, List.set_cons_succ, List.set_cons_zero]
      refine held_take 4 36 _ (.bool false) rfl rfl (by kernel_rfl) (by kernel_rfl) (by kernel_rfl) rfl hT0 (fun V _ => exec_gtr7 3 _ _ rfl (G : Int) 1073741824 _ rfl rfl hBG) ?_
      simp only [Act.put, List.setIfInBounds_toArray, List.set_cons_succ, List.set_cons_zero]
      refine held_take 5 37 _ (.bool false) rfl rfl (by kernel_rfl) (by kernel_rfl) (by kernel_rfl) rfl hT0 (fun _ _ => rfl) ?_
      simp only [Act.put, List.setIfInBounds_toArray, List.set_cons_succ, List.set_cons_zero]
      refine held_take 6 38 _ (.bool false) rfl rfl (by kernel_rfl) (by kernel_rfl) (by kernel_rfl) rfl hT0 (fun _ _ => rfl) ?_
      simp only [Act.put, List.setIfInBounds_toArray, List.set_cons_succ, List.set_cons_zero]
      refine held_take 7 39 _ (.bool false) rfl rfl (by kernel_rfl) (by kernel_rfl) (by kernel_rfl) rfl hT0 (fun _ _ => rfl) ?_
      simp only [Act.put, List.setIfInBounds_toArray, List.set_cons_succ, List.set_cons_zero]
      refine held_take 8 40 _ (.bool true) rfl rfl (by kernel_rfl) (by kernel_rfl) (by kernel_rfl) rfl hT0 (fun V _ => exec_not9 4 _ rfl false true rfl rfl) ?_
      simp only [Act.put, List.setIfInBounds_toArray, List.set_cons_succ, List.set_cons_zero]
      refine held_take 9 41 _ (.bool true) rfl rfl (by kernel_rfl) (by kernel_rfl) (by kernel_rfl) rfl hT0 (fun _ _ => rfl) ?_
      simp only [Act.put, List.setIfInBounds_toArray, List.set_cons_succ, List.set_cons_zero]
      refine held_take 10 42 _ (.bool true) rfl rfl (by kernel_rfl) (by kernel_rfl) (by kernel_rfl) rfl hT0 (fun _ _ => rfl) ?_
      simp only [Act.put, List.setIfInBounds_toArray, List.set_cons_succ, List.set_cons_zero]
      refine held_pass 11 43 _ rfl rfl (by kernel_rfl) (by kernel_rfl) (by kernel_rfl) rfl hT0 ?_
      simp only [Act.put, List.setIfInBounds_toArray, List.set_cons_succ, List.set_cons_zero]
      refine held_pass 12 44 _ rfl rfl (by kernel_rfl) (by kernel_rfl) (by kernel_rfl) rfl hT0 ?_
      simp only [Act.put, List.setIfInBounds_toArray, List.set_cons_succ, List.set_cons_zero]
      refine held_pass 13 45 _ rfl rfl (by kernel_rfl) (by kernel_rfl) (by kernel_rfl) rfl hT0 ?_
      simp only [Act.put, List.setIfInBounds_toArray, List.set_cons_succ, List.set_cons_zero]
      refine held_pass 14 46 _ rfl rfl (by kernel_rfl) (by kernel_rfl) (by kernel_rfl) rfl hT0 ?_
      simp only [Act.put, List.setIfInBounds_toArray, List.set_cons_succ, List.set_cons_zero]
      refine held_pass 15 47 _ rfl rfl (by kernel_rfl) (by kernel_rfl) (by kernel_rfl) rfl hT0 ?_
      simp only [Act.put, List.setIfInBounds_toArray, List.set_cons_succ, List.set_cons_zero]
      refine held_pass 16 48 _ rfl rfl (by kernel_rfl) (by kernel_rfl) (by kernel_rfl) rfl hT0 ?_
      simp only [Act.put, List.setIfInBounds_toArray, List.set_cons_succ, List.set_cons_zero]
      refine held_pass 17 49 _ rfl rfl (by kernel_rfl) (by kernel_rfl) (by kernel_rfl) rfl hT0 ?_
      simp only [Act.put, List.setIfInBounds_toArray, List.set_cons_succ, List.set_cons_zero]
      refine held_take 18 50 _ (.bool true) rfl rfl (by kernel_rfl) (by kernel_rfl) (by kernel_rfl) rfl hT0 (fun _ _ => rfl) ?_
      simp only [Act.put, List.setIfInBounds_toArray, List.set_cons_succ, List.set_cons_zero]
      refine wpAnyH_done (by kernel_rfl) ?_ _
      refine NoPanic.normal ?_
      have mzd := mz.drew
      have hBd := hB3.drew
      go_wp2_with (refine store_blk rfl 40 _ _ rfl rfl w.heap.size #[.int .i64 0, .int .i64 0, .int .i64 0, .int .i64 0, .int .i64 0] rfl rfl 40 _ mzd info_boot9 rfl (by simp [Value.oneCell']) ?_; intro w7 hb7 hg7 hs7)
      (try simp only [Exit.inBlock, Exit.then])
      refine bodyPost_ret (results_pairT rfl _ _ w.heap.size 40 #[.int .i64 0, .int .i64 0, .int .i64 0, .int .i64 0, .int .i64 0] (0, 0) _ _ rfl rfl hb7 Tryd.underlying40 rfl info_boot9) rfl ?_
      rw [HTE.out]
      exact ⟨rfl, below_grown hBd hg7 hBd.size (fun q hq => by have h2 := Option.some.inj hq; omega)⟩
    | true =>
      have hok : BR.ok ⟨c4, c5 - 1, c6, (V0 : Int), (V1 : Int)⟩ := of_decide_eq_true hRB
      have HEN' : Hid (∀ W, Calls Tryd.prog 43 #[.int .i64 (G : Int), .agg #[.int .i64 c4, .int .i64 (c5 - 1), .int .i64 c6, .int .i64 (V0 : Int), .int .i64 (V1 : Int)]] W fun e w' => ∃ v, e = .returned v ∧ Own w' W.heap.size v (entB G ⟨c4, c5 - 1, c6, (V0 : Int), (V1 : Int)⟩) ∧ Below W.heap.size W w') := fun W => rentry9_any G ⟨c4, c5 - 1, c6, (V0 : Int), (V1 : Int)⟩ W (by omega) hok
      have HT0' := fun h => HT0.out h
      have HT1' := fun h => HT1.out h
      obtain ⟨ET, hET⟩ : ∃ ET, ET = entB G ⟨c4, c5 - 1, c6, (V0 : Int), (V1 : Int)⟩ := ⟨_, rfl⟩
      rw [← hET] at HEN' HT0' HT1'
      have HEN := HEN'
      by_cases heq : ET = c
      · have HTE : Hid (TE = (G, ⟨c4, c5 - 1, c6, (V0 : Int), (V1 : Int)⟩)) := HT1' ⟨by omega, by omega, hok, heq⟩
        have hEQ : (!decide (ET = c)) = false := by rw [decide_eq_true heq]; rfl
        clear HT0 HT1 HT0' HT1' g1 g2 hRB hok hET heq HEN'
        have hT0 : Below w3.heap.size w3 w3.drew := (Below.refl w3.heap.size w3).drew
        refine held_begin (fun V => Below w3.heap.size w3 V) (by kernel_rfl) ?_
        refine held_take 0 32 _ (.int .i64 (G : Int)) rfl rfl (by kernel_rfl) (by kernel_rfl) (by kernel_rfl) rfl hT0 (fun _ _ => rfl) ?_
        simp only [Act.put, List.setIfInBounds_toArray, List.set_cons_succ, List.set_cons_zero]
        refine held_take 1 33 _ (.bool false) rfl rfl (by kernel_rfl) (by kernel_rfl) (by kernel_rfl) rfl hT0 (fun V _ => exec_lss9 3 _ _ rfl (G : Int) 1 _ rfl rfl hA) ?_
        simp only [Act.put, List.setIfInBounds_toArray, List.set_cons_succ, List.set_cons_zero]
        refine held_take 2 34 _ (.bool false) rfl rfl (by kernel_rfl) (by kernel_rfl) (by kernel_rfl) rfl hT0 (fun _ _ => rfl) ?_
        simp only [Act.put, List.setIfInBounds_toArray, List.set_cons_succ, List.set_cons_zero]
        refine held_take 3 35 _ (.int .i64 (G : Int)) rfl rfl (by kernel_rfl) (by kernel_rfl) (by kernel_rfl) rfl hT0 (fun _ _ => rfl) ?_
        simp only [Act.put, List.setIfInBounds_toArray, List.set_cons_succ, List.set_cons_zero]
        refine held_take 4 36 _ (.bool false) rfl rfl (by kernel_rfl) (by kernel_rfl) (by kernel_rfl) rfl hT0 (fun V _ => exec_gtr7 3 _ _ rfl (G : Int) 1073741824 _ rfl rfl hBG) ?_
        simp only [Act.put, List.setIfInBounds_toArray, List.set_cons_succ, List.set_cons_zero]
        refine held_take 5 37 _ (.bool false) rfl rfl (by kernel_rfl) (by kernel_rfl) (by kernel_rfl) rfl hT0 (fun _ _ => rfl) ?_
        simp only [Act.put, List.setIfInBounds_toArray, List.set_cons_succ, List.set_cons_zero]
        refine held_take 6 38 _ (.bool false) rfl rfl (by kernel_rfl) (by kernel_rfl) (by kernel_rfl) rfl hT0 (fun _ _ => rfl) ?_
        simp only [Act.put, List.setIfInBounds_toArray, List.set_cons_succ, List.set_cons_zero]
        refine held_take 7 39 _ (.bool true) rfl rfl (by kernel_rfl) (by kernel_rfl) (by kernel_rfl) rfl hT0 (fun _ _ => rfl) ?_
        simp only [Act.put, List.setIfInBounds_toArray, List.set_cons_succ, List.set_cons_zero]
        refine held_take 8 40 _ (.bool false) rfl rfl (by kernel_rfl) (by kernel_rfl) (by kernel_rfl) rfl hT0 (fun V _ => exec_not9 4 _ rfl true false rfl rfl) ?_
        simp only [Act.put, List.setIfInBounds_toArray, List.set_cons_succ, List.set_cons_zero]
        refine held_take 9 41 _ (.bool false) rfl rfl (by kernel_rfl) (by kernel_rfl) (by kernel_rfl) rfl hT0 (fun _ _ => rfl) ?_
        simp only [Act.put, List.setIfInBounds_toArray, List.set_cons_succ, List.set_cons_zero]
        refine held_take 10 42 _ (.bool false) rfl rfl (by kernel_rfl) (by kernel_rfl) (by kernel_rfl) rfl hT0 (fun _ _ => rfl) ?_
        simp only [Act.put, List.setIfInBounds_toArray, List.set_cons_succ, List.set_cons_zero]
        refine held_take 11 43 _ (.int .i64 (G : Int)) rfl rfl (by kernel_rfl) (by kernel_rfl) (by kernel_rfl) rfl hT0 (fun _ _ => rfl) ?_
        simp only [Act.put, List.setIfInBounds_toArray, List.set_cons_succ, List.set_cons_zero]
        refine held_take 12 44 _ (.agg #[.int .i64 c4, .int .i64 (c5 - 1), .int .i64 c6, .int .i64 (V0 : Int), .int .i64 (V1 : Int)]) rfl rfl (by kernel_rfl) (by kernel_rfl) (by kernel_rfl) rfl hT0 (fun V hV => exec_loads 40 _ rfl g 0 rfl [.int .i64 c4, .int .i64 (c5 - 1), .int .i64 c6, .int .i64 (V0 : Int), .int .i64 (V1 : Int)] _ (mb.below hV mb.lt).range' Tryd.underlying40 rfl info_boot9) ?_
        simp only [Act.put, List.setIfInBounds_toArray, List.set_cons_succ, List.set_cons_zero]
        refine held_take 15 47 _ (.slice (some ⟨bb, off, none⟩) 32 cb) rfl rfl (by kernel_rfl) (by kernel_rfl) (by kernel_rfl) rfl hT0 (fun _ _ => rfl) ?_
        simp only [Act.put, List.setIfInBounds_toArray, List.set_cons_succ, List.set_cons_zero]
        refine held_take 16 48 _ (.string ⟨c.toArray⟩) rfl rfl (by kernel_rfl) (by kernel_rfl) (by kernel_rfl) rfl hT0 (fun V hV => exec_conv _ _ _ rfl _ _ rfl (seg_stringD (HSG.out V (hB3.trans (hV.mono hB3.size))) 9 Tryd.underlying9)) ?_
        simp only [Act.put, List.setIfInBounds_toArray, List.set_cons_succ, List.set_cons_zero]
        refine held_all1 13 (by kernel_rfl) (op_call 13 45 _ 43 #[.int .i64 (G : Int), .agg #[.int .i64 c4, .int .i64 (c5 - 1), .int .i64 c6, .int .i64 (V0 : Int), .int .i64 (V1 : Int)]] rfl rfl rfl (exec_two8 43 _ _ _ rfl _ _ rfl rfl Tryd.call43) ((HEN.out _).mono ?_))
        rintro e W5 ⟨v5, rfl, ho5, hb5⟩
        have hT5 : Below w3.heap.size w3 W5 := hT0.trans (hb5.mono hT0.size)
        refine ⟨_, rfl, hT5, ?_⟩
        simp only [Act.put, List.setIfInBounds_toArray, List.set_cons_succ, List.set_cons_zero]
        refine held_one 14 46 _ (.string ⟨ET.toArray⟩) rfl rfl (by kernel_rfl) rfl hT5 (exec_conv _ _ _ rfl _ _ rfl (seg_stringD ho5.seg 9 Tryd.underlying9)) ?_
        simp only [Act.put, List.setIfInBounds_toArray, List.set_cons_succ, List.set_cons_zero]
        refine held_take 17 49 _ (.bool false) rfl rfl (by kernel_rfl) (by kernel_rfl) (by kernel_rfl) rfl hT5 (fun V _ => exec_neqs9 _ _ rfl ET c rfl rfl _ hEQ) ?_
        simp only [Act.put, List.setIfInBounds_toArray, List.set_cons_succ, List.set_cons_zero]
        refine held_take 18 50 _ (.bool false) rfl rfl (by kernel_rfl) (by kernel_rfl) (by kernel_rfl) rfl hT5 (fun _ _ => rfl) ?_
        simp only [Act.put, List.setIfInBounds_toArray, List.set_cons_succ, List.set_cons_zero]
        refine wpAnyH_done (by kernel_rfl) ?_ _
        refine NoPanic.normal ?_
        have mz5 := mz.below hT5 mz.lt
        have hB5 : Below w.heap.size w W5 := hB3.trans (hT5.mono hB3.size)
        go_wp2_with fail
        have m5 := mb.below hT5 mb.lt
        have hT6 : Below w.heap.size w W5.drew ∧ W5.drew.rangeAt g 0 [.int .i64 c4, .int .i64 (c5 - 1), .int .i64 c6, .int .i64 (V0 : Int), .int .i64 (V1 : Int)] := ⟨hB5.drew, m5.drew.range'⟩
        refine held_begin (fun V => Below w.heap.size w V ∧ V.rangeAt g 0 [.int .i64 c4, .int .i64 (c5 - 1), .int .i64 c6, .int .i64 (V0 : Int), .int .i64 (V1 : Int)]) (by kernel_rfl) ?_
        refine held_take 0 52 _ (.int .i64 (G : Int)) rfl rfl (by kernel_rfl) (by kernel_rfl) (by kernel_rfl) rfl hT6 (fun _ _ => rfl) ?_
        simp only [Act.put, List.setIfInBounds_toArray, List.set_cons_succ, List.set_cons_zero]
        refine held_take 1 53 _ (.agg #[.int .i64 c4, .int .i64 (c5 - 1), .int .i64 c6, .int .i64 (V0 : Int), .int .i64 (V1 : Int)]) rfl rfl (by kernel_rfl) (by kernel_rfl) (by kernel_rfl) rfl hT6 (fun V hV => exec_loads 40 _ rfl g 0 rfl [.int .i64 c4, .int .i64 (c5 - 1), .int .i64 c6, .int .i64 (V0 : Int), .int .i64 (V1 : Int)] _ hV.2 Tryd.underlying40 rfl info_boot9) ?_
        simp only [Act.put, List.setIfInBounds_toArray, List.set_cons_succ, List.set_cons_zero]
        refine held_all1 2 (by kernel_rfl) (op_value 2 2 _ (.int .i64 (G : Int)) W5.drew rfl rfl rfl rfl ⟨hT6, ?_⟩)
        simp only [Act.put, List.setIfInBounds_toArray, List.set_cons_succ, List.set_cons_zero]
        refine held_all1 3 (by kernel_rfl) (op_row 3 _ rfl rfl rfl 40 _ _ rfl w.heap.size #[.int .i64 c4, .int .i64 (c5 - 1), .int .i64 c6, .int .i64 (V0 : Int), .int .i64 (V1 : Int)] rfl rfl 40 _ mz5.drew info_boot9 rfl (by simp [Value.oneCell']) ?_)
        intro W9 hb9 hg9 hs9
        have hB9 : Below w.heap.size w W9 := below_grown hB5.drew hg9 hB5.drew.size (fun q hq => by have h2 := Option.some.inj hq; omega)
        refine ⟨⟨hB9, (m5.drew.grown hg9 (fun e => by have := Option.some.inj e; omega)).range'⟩, ?_⟩
        refine wpAnyH_done (by kernel_rfl) ?_ _
        refine NoPanic.normal ?_
        go_wp2
        (try simp only [Exit.inBlock, Exit.then])
        refine bodyPost_ret (results_pairT rfl _ _ w.heap.size 40 #[.int .i64 c4, .int .i64 (c5 - 1), .int .i64 c6, .int .i64 (V0 : Int), .int .i64 (V1 : Int)] (0, 0) _ _ rfl rfl hb9 Tryd.underlying40 rfl info_boot9) rfl ?_
        rw [HTE.out]
        exact ⟨rfl, hB9⟩
      · have HTE : Hid (TE = (0, ⟨0, 0, 0, 0, 0⟩)) := HT0' (fun h => heq h.2.2.2)
        have hEQ : (!decide (ET = c)) = true := by rw [decide_eq_false heq]; rfl
        clear HT0 HT1 HT0' HT1' g1 g2 hRB hok hET heq HEN'
        have hT0 : Below w3.heap.size w3 w3.drew := (Below.refl w3.heap.size w3).drew
        refine held_begin (fun V => Below w3.heap.size w3 V) (by kernel_rfl) ?_
        refine held_take 0 32 _ (.int .i64 (G : Int)) rfl rfl (by kernel_rfl) (by kernel_rfl) (by kernel_rfl) rfl hT0 (fun _ _ => rfl) ?_
        simp only [Act.put, List.setIfInBounds_toArray, List.set_cons_succ, List.set_cons_zero]
        refine held_take 1 33 _ (.bool false) rfl rfl (by kernel_rfl) (by kernel_rfl) (by kernel_rfl) rfl hT0 (fun V _ => exec_lss9 3 _ _ rfl (G : Int) 1 _ rfl rfl hA) ?_
        simp only [Act.put, List.setIfInBounds_toArray, List.set_cons_succ, List.set_cons_zero]
        refine held_take 2 34 _ (.bool false) rfl rfl (by kernel_rfl) (by kernel_rfl) (by kernel_rfl) rfl hT0 (fun _ _ => rfl) ?_
        simp only [Act.put, List.setIfInBounds_toArray, List.set_cons_succ, List.set_cons_zero]
        refine held_take 3 35 _ (.int .i64 (G : Int)) rfl rfl (by kernel_rfl) (by kernel_rfl) (by kernel_rfl) rfl hT0 (fun _ _ => rfl) ?_
        simp only [Act.put, List.setIfInBounds_toArray, List.set_cons_succ, List.set_cons_zero]
        refine held_take 4 36 _ (.bool false) rfl rfl (by kernel_rfl) (by kernel_rfl) (by kernel_rfl) rfl hT0 (fun V _ => exec_gtr7 3 _ _ rfl (G : Int) 1073741824 _ rfl rfl hBG) ?_
        simp only [Act.put, List.setIfInBounds_toArray, List.set_cons_succ, List.set_cons_zero]
        refine held_take 5 37 _ (.bool false) rfl rfl (by kernel_rfl) (by kernel_rfl) (by kernel_rfl) rfl hT0 (fun _ _ => rfl) ?_
        simp only [Act.put, List.setIfInBounds_toArray, List.set_cons_succ, List.set_cons_zero]
        refine held_take 6 38 _ (.bool false) rfl rfl (by kernel_rfl) (by kernel_rfl) (by kernel_rfl) rfl hT0 (fun _ _ => rfl) ?_
        simp only [Act.put, List.setIfInBounds_toArray, List.set_cons_succ, List.set_cons_zero]
        refine held_take 7 39 _ (.bool true) rfl rfl (by kernel_rfl) (by kernel_rfl) (by kernel_rfl) rfl hT0 (fun _ _ => rfl) ?_
        simp only [Act.put, List.setIfInBounds_toArray, List.set_cons_succ, List.set_cons_zero]
        refine held_take 8 40 _ (.bool false) rfl rfl (by kernel_rfl) (by kernel_rfl) (by kernel_rfl) rfl hT0 (fun V _ => exec_not9 4 _ rfl true false rfl rfl) ?_
        simp only [Act.put, List.setIfInBounds_toArray, List.set_cons_succ, List.set_cons_zero]
        refine held_take 9 41 _ (.bool false) rfl rfl (by kernel_rfl) (by kernel_rfl) (by kernel_rfl) rfl hT0 (fun _ _ => rfl) ?_
        simp only [Act.put, List.setIfInBounds_toArray, List.set_cons_succ, List.set_cons_zero]
        refine held_take 10 42 _ (.bool false) rfl rfl (by kernel_rfl) (by kernel_rfl) (by kernel_rfl) rfl hT0 (fun _ _ => rfl) ?_
        simp only [Act.put, List.setIfInBounds_toArray, List.set_cons_succ, List.set_cons_zero]
        refine held_take 11 43 _ (.int .i64 (G : Int)) rfl rfl (by kernel_rfl) (by kernel_rfl) (by kernel_rfl) rfl hT0 (fun _ _ => rfl) ?_
        simp only [Act.put, List.setIfInBounds_toArray, List.set_cons_succ, List.set_cons_zero]
        refine held_take 12 44 _ (.agg #[.int .i64 c4, .int .i64 (c5 - 1), .int .i64 c6, .int .i64 (V0 : Int), .int .i64 (V1 : Int)]) rfl rfl (by kernel_rfl) (by kernel_rfl) (by kernel_rfl) rfl hT0 (fun V hV => exec_loads 40 _ rfl g 0 rfl [.int .i64 c4, .int .i64 (c5 - 1), .int .i64 c6, .int .i64 (V0 : Int), .int .i64 (V1 : Int)] _ (mb.below hV mb.lt).range' Tryd.underlying40 rfl info_boot9) ?_
        simp only [Act.put, List.setIfInBounds_toArray, List.set_cons_succ, List.set_cons_zero]
        refine held_take 15 47 _ (.slice (some ⟨bb, off, none⟩) 32 cb) rfl rfl (by kernel_rfl) (by kernel_rfl) (by kernel_rfl) rfl hT0 (fun _ _ => rfl) ?_
        simp only [Act.put, List.setIfInBounds_toArray, List.set_cons_succ, List.set_cons_zero]
        refine held_take 16 48 _ (.string ⟨c.toArray⟩) rfl rfl (by kernel_rfl) (by kernel_rfl) (by kernel_rfl) rfl hT0 (fun V hV => exec_conv _ _ _ rfl _ _ rfl (seg_stringD (HSG.out V (hB3.trans (hV.mono hB3.size))) 9 Tryd.underlying9)) ?_
        simp only [Act.put, List.setIfInBounds_toArray, List.set_cons_succ, List.set_cons_zero]
        refine held_all1 13 (by kernel_rfl) (op_call 13 45 _ 43 #[.int .i64 (G : Int), .agg #[.int .i64 c4, .int .i64 (c5 - 1), .int .i64 c6, .int .i64 (V0 : Int), .int .i64 (V1 : Int)]] rfl rfl rfl (exec_two8 43 _ _ _ rfl _ _ rfl rfl Tryd.call43) ((HEN.out _).mono ?_))
        rintro e W5 ⟨v5, rfl, ho5, hb5⟩
        have hT5 : Below w3.heap.size w3 W5 := hT0.trans (hb5.mono hT0.size)
        refine ⟨_, rfl, hT5, ?_⟩
        simp only [Act.put, List.setIfInBounds_toArray, List.set_cons_succ, List.set_cons_zero]
        refine held_one 14 46 _ (.string ⟨ET.toArray⟩) rfl rfl (by kernel_rfl) rfl hT5 (exec_conv _ _ _ rfl _ _ rfl (seg_stringD ho5.seg 9 Tryd.underlying9)) ?_
        simp only [Act.put, List.setIfInBounds_toArray, List.set_cons_succ, List.set_cons_zero]
        refine held_take 17 49 _ (.bool true) rfl rfl (by kernel_rfl) (by kernel_rfl) (by kernel_rfl) rfl hT5 (fun V _ => exec_neqs9 _ _ rfl ET c rfl rfl _ hEQ) ?_
        simp only [Act.put, List.setIfInBounds_toArray, List.set_cons_succ, List.set_cons_zero]
        refine held_take 18 50 _ (.bool true) rfl rfl (by kernel_rfl) (by kernel_rfl) (by kernel_rfl) rfl hT5 (fun _ _ => rfl) ?_
        simp only [Act.put, List.setIfInBounds_toArray, List.set_cons_succ, List.set_cons_zero]
        refine wpAnyH_done (by kernel_rfl) ?_ _
        refine NoPanic.normal ?_
        have mz5 := mz.below hT5 mz.lt
        have hB5 : Below w.heap.size w W5 := hB3.trans (hT5.mono hB3.size)
        go_wp2_with (refine store_blk rfl 40 _ _ rfl rfl w.heap.size #[.int .i64 0, .int .i64 0, .int .i64 0, .int .i64 0, .int .i64 0] rfl rfl 40 _ mz5 info_boot9 rfl (by simp [Value.oneCell']) ?_; intro w7 hb7 hg7 hs7)
        (try simp only [Exit.inBlock, Exit.then])
        refine bodyPost_ret (results_pairT rfl _ _ w.heap.size 40 #[.int .i64 0, .int .i64 0, .int .i64 0, .int .i64 0, .int .i64 0] (0, 0) _ _ rfl rfl hb7 Tryd.underlying40 rfl info_boot9) rfl ?_
        rw [HTE.out]
        exact ⟨rfl, below_grown hB5 hg7 hB5.size (fun q hq => by have h2 := Option.some.inj hq; omega)⟩
end Go.Proofs.YtbdhkkdombdnkaaDoor
