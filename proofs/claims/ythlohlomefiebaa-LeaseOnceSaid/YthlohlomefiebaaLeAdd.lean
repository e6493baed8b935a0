/-
  What is proved here: Table.add lays one more lease, Table.end ends one.
  Conditions: the table lies in memory as laws hold it; such a lease may be the next one; the one that ends is open.
-/
import Derived.Test.YthlohlomefiebaaLeOf
import Derived.Test.YthlohlomefiebaaHeldRow
namespace Go.Proofs.Ythlohlomefiebaa
open Go.RowKit Go.Maps

theorem exec_rowE {a : Act} {o : Oper} {w : World} (x : Operand) (ho : o.op = .buildSlice 27 1 #[(0, x)]) (en ed eu : Int) (hx : a.eval x = .agg #[.int .i64 en, .int .i64 ed, .int .i64 eu]) : (execOp a.eval o).run Try.prog w = .ok (.value (.slice (some ⟨w.heap.size, 0, none⟩) 1 1)) (w.alloc (.cells #[.int .i64 en, .int .i64 ed, .int .i64 eu] 43)) := by
  generalize hy : a.eval x = y at hx
  subst hx
  unfold execOp
  simp only [ho]
  simp only [List.map_toArray, List.map_cons, List.map_nil, hy]
  simp [go_sem]
theorem exec_storesE {a : Act} {o : Oper} {w : World} (x y : Operand) (ho : o.op = .store 27 x y) (g i : Nat) (ao : Option Addr) (n c : Nat) (u : Value) (hx : a.eval x = .pointer (some ⟨g, i, none⟩)) (hy : a.eval y = .slice ao n c) (hc : w.cell? ⟨g, i, none⟩ = some u) (hf : w.frozen? ⟨g, i, none⟩ = false) : (execOp a.eval o).run Try.prog w = .ok .skip (w.setCell ⟨g, i, none⟩ (.slice ao n c)) := by
  unfold execOp
  simp only [ho, hx, hy]
  simp [go_sem, hc, hf]
theorem exec_storeiE {a : Act} {o : Oper} {w : World} (x y : Operand) (ho : o.op = .store 3 x y) (g i : Nat) (z : Int) (u : Value) (hx : a.eval x = .pointer (some ⟨g, i, none⟩)) (hy : a.eval y = .int .i64 z) (hc : w.cell? ⟨g, i, none⟩ = some u) (hf : w.frozen? ⟨g, i, none⟩ = false) : (execOp a.eval o).run Try.prog w = .ok .skip (w.setCell ⟨g, i, none⟩ (.int .i64 z)) := by
  unfold execOp
  simp only [ho, hx, hy]
  simp [go_sem, hc, hf]
theorem exec_mapE {a : Act} {o : Oper} {w w' : World} (m x v : Operand) (ho : o.op = .mapUpdate 49 m x v) (vm vx vv : Value) (hm : a.eval m = vm) (hx : a.eval x = vx) (hv : a.eval v = vv) (hr : (Instr.mapUpdate 49 vm vx vv).run Try.prog w = .ok () w') : (execOp a.eval o).run Try.prog w = .ok .skip w' := by
  unfold execOp
  simp [ho, hm, hx, hv, hr, Result.andThen]
theorem exec_delE {a : Act} {o : Oper} {w w' : World} (m x : Operand) (ho : o.op = .call { callee := .builtin .delete, args := #[m, x], argTypes := #[49, 3] }) (vm vx : Value) (hm : a.eval m = vm) (hx : a.eval x = vx) (hr : (Builtin.delete_ #[49, 3] o.type #[vm, vx]).run Try.prog w = .ok (.tuple #[]) w') : (execOp a.eval o).run Try.prog w = .ok (.value (.tuple #[])) w' := by
  simp [execOp, ho, resolve, invoke, builtin, hm, hx, hr, Result.andThen]
theorem op_void {ops : Array Oper} {Q : Exit → Act → World → Prop} {K : Act → World → Prop} {a : Act} {w : World} (i : Nat) (o : Oper) (v : Value) (w' : World) (hi : ops[i]? = some o) (hd : o.dst = none) (hw : Region.wanted o (yielded ops a.tmps) = true) (hrun : (execOp a.eval o).run Try.prog w = .ok (.value v) w') (h : K a w') : wpOp Try.prog ops Q i K a w := by
  unfold wpOp
  simp only [hi, hw, if_true]
  refine .inl ?_
  unfold Oper.wp
  rw [hrun, Oper.upon_value, hd]
  exact h
theorem chg_undrew {S : Nat → Prop} {w w' : World} (h : Chg S w.drew w') : Chg S w w' := ((Chg.refl S w).drew).trans (S' := S) h (fun _ _ e => e)
/-- What stands behind the first statement of add. -/
structure MidA (w W : World) (lo G b : Nat) (v v' : Value) (l : List LE) (e : LE) : Prop where
  head : Blk W G 60 #[v', .map (some b)]
  row : LeR W lo v' (l ++ [e])
  map : ∃ m D, W.ownsMap Try.prog 3 numR b m D ∧ HoldsT D l ∧ m ≤ l.length
  box : Blk W w.heap.size 43 #[.int .i64 e.n, .int .i64 e.d, .int .i64 e.u]
  new : ∀ q, v'.ownBlock = some q → v.ownBlock = some q ∨ w.heap.size ≤ q
  chg : Chg (LeM G b v) w W
theorem midA {w : World} {lo G b : Nat} {ao : Option Addr} {c : Nat} {l : List LE} (h : LeT w lo G b (.slice ao l.length c) l) (hlo : lo ≤ w.heap.size) (e : LE) (W1 : World) (hB1 : Below (w.alloc (.cells #[.int .i64 e.n, .int .i64 e.d, .int .i64 e.u] 43)).heap.size (w.alloc (.cells #[.int .i64 e.n, .int .i64 e.d, .int .i64 e.u] 43)) W1) :
    ∃ a3 n3 c3 W3, (∀ ty, (Builtin.append_ #[27, 27] ty #[.slice ao l.length c, .slice (some ⟨W1.heap.size, 0, none⟩) 1 1]).run Try.prog (W1.alloc (.cells #[.int .i64 e.n, .int .i64 e.d, .int .i64 e.u] 43)) = .ok (.slice a3 n3 c3) W3) ∧ Blk W3 G 60 #[.slice ao l.length c, .map (some b)] ∧ MidA w (W3.setCell ⟨G, 0, none⟩ (.slice a3 n3 c3)) lo G b (.slice ao l.length c) (.slice a3 n3 c3) l e := by
  have hB0 := below_newE w (.cells #[.int .i64 e.n, .int .i64 e.d, .int .i64 e.u] 43)
  have hBw : Below w.heap.size w W1 := hB0.trans (hB1.mono hB0.size)
  have h1 := h.after hBw (Nat.le_refl _)
  have hbx := (Blk.new w 43 #[.int .i64 e.n, .int .i64 e.d, .int .i64 e.u]).below hB1 (Blk.new w 43 #[.int .i64 e.n, .int .i64 e.d, .int .i64 e.u]).lt
  have hlen := h.ok.len
  obtain ⟨v3, W3, r0, r1, r2, r3⟩ := h1.row.more e (by omega) (Nat.le_trans hlo hBw.size)
  obtain ⟨a3, c3, rfl⟩ := r1.shape
  have hGl := h.head.lt
  have hbl := h.bl
  have hs1 := hBw.size
  have hS : ∀ q, q < w.heap.size ∨ q = w.heap.size → (Value.slice ao l.length c).ownBlock = some q → q ≠ w.heap.size := fun q _ e2 e3 => by
    have := (h.row.lt q e2).2
    omega
  have hk3 := h1.head.chg r3 h1.nG
  have hbx3 := hbx.chg r3 (fun e2 => hS _ (.inr rfl) e2 rfl)
  have hc3 : Chg (fun q => q = G) W3 (W3.setCell ⟨G, 0, none⟩ (.slice a3 (l ++ [e]).length c3)) := (Chg.refl (fun q => q = G) W3).setCell G 0 _ (fun _ => rfl)
  have hnG : ∀ q, (Value.slice a3 (l ++ [e]).length c3).ownBlock = some q → q ≠ G := fun q hq e2 => by
    rcases r2 q hq with k | k
    · exact h.nG (by rw [k, e2])
    · omega
  obtain ⟨m, D, hm1, hm2, hm3⟩ := h1.map
  refine ⟨a3, _, c3, W3, r0, hk3, ⟨(hk3.set 0 _).of_eq rfl, r1.chg hc3 hnG, ⟨m, D, own_chgE (own_chgE hm1 r3 h1.nb) hc3 (fun e2 => h.ne e2.symm), hm2, hm3⟩, hbx3.chg hc3 (fun e2 => by omega), fun q hq => (r2 q hq).imp_right (fun k => by omega), ?_⟩⟩
  exact ((Chg.of_below (S := LeM G b (.slice ao l.length c)) hBw (Nat.le_refl _)).trans (S' := LeM G b (.slice ao l.length c)) (r3.weaken (fun q e2 => .inr (.inr e2))) (fun _ _ e2 => e2)).trans (S' := LeM G b (.slice ao l.length c)) (hc3.weaken (fun q e2 => .inl e2)) (fun _ _ e2 => e2)
set_option maxRecDepth 100000 in
set_option maxHeartbeats 4000000 in
theorem add16_any {w : World} {lo G b : Nat} {v : Value} {l : List LE} (h : LeT w lo G b v l) (hlo : lo ≤ w.heap.size) (e : LE) (hok : OkT (l ++ [e])) (ho : 0 < e.u → openD l e.d = none) : Calls Try.prog 30 #[.pointer (some ⟨G, 0, none⟩), leV e] w fun r w' => r = .returned (.tuple #[]) ∧ ∃ v', LeT w' lo G b v' (l ++ [e]) ∧ (∀ q, v'.ownBlock = some q → v.ownBlock = some q ∨ w.heap.size ≤ q) ∧ Chg (LeM G b v) w w' := by
  obtain ⟨ao, c, rfl⟩ := h.row.shape
  have hed := hok.dev e (by simp)
  have hen := hok.num l.length e (by simp)
  have HLEN : Hid (l.length ≤ 20000) := h.ok.len
  have HAP : Hid (∀ W1, Below (w.alloc (.cells #[.int .i64 e.n, .int .i64 e.d, .int .i64 e.u] 43)).heap.size (w.alloc (.cells #[.int .i64 e.n, .int .i64 e.d, .int .i64 e.u] 43)) W1 → ∃ a3 n3 c3 W3, (∀ ty, (Builtin.append_ #[27, 27] ty #[.slice ao l.length c, .slice (some ⟨W1.heap.size, 0, none⟩) 1 1]).run Try.prog (W1.alloc (.cells #[.int .i64 e.n, .int .i64 e.d, .int .i64 e.u] 43)) = .ok (.slice a3 n3 c3) W3) ∧ Blk W3 G 60 #[.slice ao l.length c, .map (some b)] ∧ MidA w (W3.setCell ⟨G, 0, none⟩ (.slice a3 n3 c3)) lo G b (.slice ao l.length c) (.slice a3 n3 c3) l e) := fun W1 hW1 => midA h hlo e W1 hW1
  have hB0 := below_newE w (.cells #[.int .i64 e.n, .int .i64 e.d, .int .i64 e.u] 43)
  have hB0s := hB0.size
  have HF : Hid (∀ V, Below (w.alloc (.cells #[.int .i64 e.n, .int .i64 e.d, .int .i64 e.u] 43)).heap.size (w.alloc (.cells #[.int .i64 e.n, .int .i64 e.d, .int .i64 e.u] 43)) V → V.cell? ⟨G, 0, none⟩ = some (.slice ao l.length c)) := fun V hV => (hV.cell (p := ⟨G, 0, none⟩) (Nat.lt_of_lt_of_le h.head.lt hB0.size)).trans ((hB0.cell (p := ⟨G, 0, none⟩) h.head.lt).trans (h.head.cell (j := 0) rfl))
  have HBX : Hid (∀ V, Below (w.alloc (.cells #[.int .i64 e.n, .int .i64 e.d, .int .i64 e.u] 43)).heap.size (w.alloc (.cells #[.int .i64 e.n, .int .i64 e.d, .int .i64 e.u] 43)) V → V.rangeAt w.heap.size 0 [.int .i64 e.n, .int .i64 e.d, .int .i64 e.u]) := fun V hV => ((Blk.new w 43 #[.int .i64 e.n, .int .i64 e.d, .int .i64 e.u]).below hV (Blk.new w 43 #[.int .i64 e.n, .int .i64 e.d, .int .i64 e.u]).lt).range 0 _ (fun j u hu => by rw [Nat.zero_add]; simpa using hu)
  have HI := fun W => is16_any e W
  have HKE : Hid (keyOf Try.prog 3 (.int .i64 e.d) = some (.int .i64 e.d)) := key_intE e.d (by omega) (by omega)
  have HNE : Hid (numR (.int .i64 e.n) = some (.lit (.int .i64 e.n), [])) := numR_mk e.n (by have := HLEN.out; omega) (by have := HLEN.out; omega)
  have HEND : Hid (¬ 0 < e.u → ∀ W4 a3 n3 c3 w5, MidA w W4 lo G b (.slice ao l.length c) (.slice a3 n3 c3) l e → Below W4.heap.size W4 w5 → (Ending.returned (.tuple #[]) : Ending) = .returned (.tuple #[]) ∧ ∃ v', LeT w5 lo G b v' (l ++ [e]) ∧ (∀ q, v'.ownBlock = some q → (Value.slice ao l.length c).ownBlock = some q ∨ w.heap.size ≤ q) ∧ Chg (LeM G b (.slice ao l.length c)) w w5) := fun hu W4 a3 n3 c3 w5 hm hb => by
    obtain ⟨m, D, k1, k2, k3⟩ := hm.map
    have hbl := h.bl
    have hGl := h.head.lt
    refine ⟨rfl, _, ⟨hm.head.below hb hm.head.lt, hm.row.after hb (Nat.le_refl _), ⟨m, D, own_chgE k1 (Chg.of_below hb (Nat.le_refl _)) (S := fun _ => False) id, k2.more e hu, by rw [List.length_append]; omega⟩, hok, h.gG, h.gb, fun e2 => ?_, fun e2 => ?_, h.ne⟩, hm.new, hm.chg.trans (S' := fun _ => False) (Chg.of_below hb (Nat.le_refl _)) (fun _ _ e => e.elim)⟩
    · rcases hm.new _ e2 with k | k
      · exact h.nG k
      · omega
    · rcases hm.new _ e2 with k | k
      · exact h.nb k
      · omega
  have HEND2 : Hid (0 < e.u → ∀ W4 a3 n3 c3 (w5 w6 : World) m D, MidA w W4 lo G b (.slice ao l.length c) (.slice a3 n3 c3) l e → Below W4.heap.size W4 w5 → HoldsT D l → m ≤ l.length → Tidy D → w6.ownsMap Try.prog 3 numR b (m + 1) (D.put (.int .i64 e.d) (.lit (.int .i64 e.n))) → w5.drew.grownBy w6 (some b) → (Ending.returned (.tuple #[]) : Ending) = .returned (.tuple #[]) ∧ ∃ v', LeT w6 lo G b v' (l ++ [e]) ∧ (∀ q, v'.ownBlock = some q → (Value.slice ao l.length c).ownBlock = some q ∨ w.heap.size ≤ q) ∧ Chg (LeM G b (.slice ao l.length c)) w w6) := fun hu W4 a3 n3 c3 w5 w6 m D hm hb k2 k3 hT hown6 hg6 => by
    have hbl := h.bl
    have hGl := h.head.lt
    have hc6 : Chg (fun q => q = b) w5 w6 := chg_undrew (Chg.of_grown hg6 (fun k e2 => (Option.some.inj e2).symm))
    have hn1 : (Value.slice a3 n3 c3).ownBlock ≠ some G := fun e2 => by
      rcases hm.new _ e2 with k | k
      · exact h.nG k
      · omega
    have hn2 : (Value.slice a3 n3 c3).ownBlock ≠ some b := fun e2 => by
      rcases hm.new _ e2 with k | k
      · exact h.nb k
      · omega
    refine ⟨rfl, _, ⟨(hm.head.below hb hm.head.lt).chg hc6 h.ne, (hm.row.after hb (Nat.le_refl _)).chg hc6 (fun q e2 e3 => hn2 (by rw [e2, e3])), ⟨m + 1, _, hown6, k2.put hT e (keyE.key (key_intE e.d (by omega) (by omega))) (ho hu) hu, by rw [List.length_append]; show m + 1 ≤ l.length + 1; omega⟩, hok, h.gG, h.gb, hn1, hn2, h.ne⟩, hm.new, ?_⟩
    exact (hm.chg.trans (S' := fun _ => False) (Chg.of_below hb (Nat.le_refl _)) (fun _ _ e => e.elim)).trans (S' := LeM G b (.slice ao l.length c)) (hc6.weaken (fun q e2 => .inr (.inl e2))) (fun _ _ e2 => e2)
  have HSS : Hid (∀ W4 a3 n3 c3 (w5 w6 : World), MidA w W4 lo G b (.slice ao l.length c) (.slice a3 n3 c3) l e → Below W4.heap.size W4 w5 → w5.drew.grownBy w6 (some b) → w6.cell? ⟨G, 1, none⟩ = some (.map (some b)) ∧ w6.cell? ⟨w.heap.size, 1, none⟩ = some (.int .i64 e.d) ∧ w6.cell? ⟨w.heap.size, 0, none⟩ = some (.int .i64 e.n)) := fun W4 a3 n3 c3 w5 w6 hm hb hg6 => by
    have hbl := h.bl
    have hc6 : Chg (fun q => q = b) w5 w6 := chg_undrew (Chg.of_grown hg6 (fun k e2 => (Option.some.inj e2).symm))
    have q1 := (hm.head.below hb hm.head.lt).chg hc6 h.ne
    have q2 := (hm.box.below hb hm.box.lt).chg hc6 (fun e2 => by omega)
    exact ⟨q1.cell (j := 1) rfl, q2.cell (j := 1) rfl, q2.cell (j := 0) rfl⟩
  by_cases hu : 0 < e.u
  · rw [decide_eq_true hu] at HI
    have HEND3 : Hid _ := HEND2.out hu
    clear HEND HEND2 hu h hok ho hed hen hB0 hB0s
    have HEND2 := HEND3
    clear HEND3
    obtain ⟨en, ed, eu⟩ := e
    unfold leV leL at *
    dsimp only at *
    go_enter Try.func30, Try.ntmps30
    go_wp2_with fail
    refine held_begin (fun _ => True) (by kernel_rfl) ?_
    refine held_take 0 4 _ (.pointer (some ⟨G, 0, none⟩)) rfl rfl (by kernel_rfl) (by kernel_rfl) (by kernel_rfl) rfl trivial (fun _ _ => rfl) ?_
    simp only [Act.put, List.setIfInBounds_toArray, List.set_cons_succ, List.set_cons_zero]
    refine held_take 1 5 _ (.pointer (some ⟨G, 0, none⟩)) rfl rfl (by kernel_rfl) (by kernel_rfl) (by kernel_rfl) rfl trivial (fun _ _ => rfl) ?_
    simp only [Act.put, List.setIfInBounds_toArray, List.set_cons_succ, List.set_cons_zero]
    refine held_take 2 6 _ (.pointer (some ⟨G, 0, none⟩)) rfl rfl (by kernel_rfl) (by kernel_rfl) (by kernel_rfl) rfl trivial (fun _ _ => rfl) ?_
    simp only [Act.put, List.setIfInBounds_toArray, List.set_cons_succ, List.set_cons_zero]
    refine held_take 3 7 _ (.pointer (some ⟨G, 0, none⟩)) rfl rfl (by kernel_rfl) (by kernel_rfl) (by kernel_rfl) rfl trivial (fun _ _ => rfl) ?_
    simp only [Act.put, List.setIfInBounds_toArray, List.set_cons_succ, List.set_cons_zero]
    refine held_all2 4 5 (by kernel_rfl) ?_ ?_
    · refine op_value 4 8 _ (.slice ao l.length c) ((w.alloc (.cells #[.int .i64 en, .int .i64 ed, .int .i64 eu] 43)).drew) rfl rfl rfl (exec_loadc 27 _ rfl _ _ rfl (load_one 27 (fun _ => by kernel_rfl) ((w.alloc (.cells #[.int .i64 en, .int .i64 ed, .int .i64 eu] 43)).drew) _ _ _ (HF.out _ ((Below.refl _ _).drew)))) ⟨trivial, ?_⟩
      simp only [Act.put, List.setIfInBounds_toArray, List.set_cons_succ, List.set_cons_zero]
      refine held_all1 5 (by kernel_rfl) (op_value 5 9 _ (.agg #[.int .i64 en, .int .i64 ed, .int .i64 eu]) ((w.alloc (.cells #[.int .i64 en, .int .i64 ed, .int .i64 eu] 43)).drew) rfl rfl rfl (exec_load 43 _ rfl w.heap.size 0 rfl [.int .i64 en, .int .i64 ed, .int .i64 eu] _ (HBX.out _ ((Below.refl _ _).drew)) Try.underlying43 rfl info_le) ⟨trivial, ?_⟩)
      simp only [Act.put, List.setIfInBounds_toArray, List.set_cons_succ, List.set_cons_zero]
      refine held_all1 6 (by kernel_rfl) (op_value 6 10 _ (.slice (some ⟨((w.alloc (.cells #[.int .i64 en, .int .i64 ed, .int .i64 eu] 43)).drew).heap.size, 0, none⟩) 1 1) (((w.alloc (.cells #[.int .i64 en, .int .i64 ed, .int .i64 eu] 43)).drew).alloc (.cells #[.int .i64 en, .int .i64 ed, .int .i64 eu] 43)) rfl rfl rfl (exec_rowE _ rfl en ed eu rfl) ⟨trivial, ?_⟩)
      simp only [Act.put, List.setIfInBounds_toArray, List.set_cons_succ, List.set_cons_zero]
      obtain ⟨a3, n3, c3, W3, happ, hk3, hmid⟩ := HAP.out ((w.alloc (.cells #[.int .i64 en, .int .i64 ed, .int .i64 eu] 43)).drew) ((Below.refl _ _).drew)
      refine held_all1 7 (by kernel_rfl) (op_value 7 11 _ (.slice a3 n3 c3) W3 rfl rfl rfl (exec_app (.tmp 8) (.tmp 10) 27 27 rfl (.slice ao l.length c) (.slice (some ⟨((w.alloc (.cells #[.int .i64 en, .int .i64 ed, .int .i64 eu] 43)).drew).heap.size, 0, none⟩) 1 1) (.slice a3 n3 c3) rfl rfl happ) ⟨trivial, ?_⟩)
      simp only [Act.put, List.setIfInBounds_toArray, List.set_cons_succ, List.set_cons_zero]
      refine held_take 8 12 _ (.pointer (some ⟨G, 0, none⟩)) rfl rfl (by kernel_rfl) (by kernel_rfl) (by kernel_rfl) rfl trivial (fun _ _ => rfl) ?_
      simp only [Act.put, List.setIfInBounds_toArray, List.set_cons_succ, List.set_cons_zero]
      refine held_take 9 13 _ (.pointer (some ⟨G, 0, none⟩)) rfl rfl (by kernel_rfl) (by kernel_rfl) (by kernel_rfl) rfl trivial (fun _ _ => rfl) ?_
      simp only [Act.put, List.setIfInBounds_toArray, List.set_cons_succ, List.set_cons_zero]
      refine held_all1 10 (by kernel_rfl) (op_skip 10 _ (W3.setCell ⟨G, 0, none⟩ (.slice a3 n3 c3)) rfl rfl rfl (exec_storesE _ _ rfl G 0 a3 n3 c3 _ rfl rfl (hk3.cell (j := 0) rfl) (hk3.frozen 0)) ⟨trivial, ?_⟩)
      refine wpAnyH_done (by kernel_rfl) ?_ _
      refine NoPanic.normal ?_
      generalize W3.setCell ⟨G, 0, none⟩ (.slice a3 n3 c3) = W4 at *
      clear happ hk3
      have x0 : W4.cell? ⟨w.heap.size, 0, none⟩ = some (.int .i64 en) := hmid.box.cell (j := 0) rfl
      have x1 : W4.cell? ⟨w.heap.size, 1, none⟩ = some (.int .i64 ed) := hmid.box.cell (j := 1) rfl
      have x2 : W4.cell? ⟨w.heap.size, 2, none⟩ = some (.int .i64 eu) := hmid.box.cell (j := 2) rfl
      have HMID : Hid (MidA w W4 lo G b (.slice ao l.length c) (.slice a3 n3 c3) l ⟨en, ed, eu⟩) := hmid
      clear hmid
      go_wp2_with fail
      refine (HI W4).mono ?_
      rintro e' w5 ⟨rfl, hb5⟩
      clear x0 x1 x2
      obtain ⟨m, D, hown, hH, hmD⟩ := HMID.out.map
      have hown5 := own_chgE hown (Chg.of_below hb5 (Nat.le_refl _)) (S := fun _ => False) id
      have HOW : Hid (w5.ownsMap Try.prog 3 numR b m D) := hown5
      have HHT : Hid (HoldsT D l) := hH
      have HMD : Hid (m ≤ l.length) := hmD
      have HML : Hid (m < maxLen) := by have := HLEN.out; show m < maxLen; unfold maxLen; omega
      have hbl5 := HMID.out.box.below hb5 HMID.out.box.lt
      have hhd5 := HMID.out.head.below hb5 HMID.out.head.lt
      have y0 : w5.cell? ⟨w.heap.size, 0, none⟩ = some (.int .i64 en) := hbl5.cell (j := 0) rfl
      have y1 : w5.cell? ⟨w.heap.size, 1, none⟩ = some (.int .i64 ed) := hbl5.cell (j := 1) rfl
      have yG : w5.cell? ⟨G, 1, none⟩ = some (.map (some b)) := hhd5.cell (j := 1) rfl
      have hS0 : (fun V : World => V.cell? ⟨G, 1, none⟩ = some (.map (some b)) ∧ V.cell? ⟨w.heap.size, 1, none⟩ = some (.int .i64 ed) ∧ V.cell? ⟨w.heap.size, 0, none⟩ = some (.int .i64 en)) w5.drew := ⟨yG, y1, y0⟩
      clear hown hH hmD hown5 hbl5 hhd5 y0 y1 yG
      go_wp2_with fail
      refine held_begin (fun V => V.cell? ⟨G, 1, none⟩ = some (.map (some b)) ∧ V.cell? ⟨w.heap.size, 1, none⟩ = some (.int .i64 ed) ∧ V.cell? ⟨w.heap.size, 0, none⟩ = some (.int .i64 en)) (by kernel_rfl) ?_
      refine held_take 0 16 _ (.pointer (some ⟨G, 0, none⟩)) rfl rfl (by kernel_rfl) (by kernel_rfl) (by kernel_rfl) rfl hS0 (fun _ _ => rfl) ?_
      simp only [Act.put, List.setIfInBounds_toArray, List.set_cons_succ, List.set_cons_zero]
      refine held_take 1 17 _ (.pointer (some ⟨G, 0, none⟩)) rfl rfl (by kernel_rfl) (by kernel_rfl) (by kernel_rfl) rfl hS0 (fun _ _ => rfl) ?_
      simp only [Act.put, List.setIfInBounds_toArray, List.set_cons_succ, List.set_cons_zero]
      refine held_take 2 18 _ (.pointer (some ⟨G, 1, none⟩)) rfl rfl (by kernel_rfl) (by kernel_rfl) (by kernel_rfl) rfl hS0 (fun _ _ => rfl) ?_
      simp only [Act.put, List.setIfInBounds_toArray, List.set_cons_succ, List.set_cons_zero]
      refine held_take 3 19 _ (.map (some b)) rfl rfl (by kernel_rfl) (by kernel_rfl) (by kernel_rfl) rfl hS0 (fun V hV => exec_loadc 49 _ rfl _ _ rfl (load_one 49 (fun _ => by kernel_rfl) V _ _ _ hV.1)) ?_
      simp only [Act.put, List.setIfInBounds_toArray, List.set_cons_succ, List.set_cons_zero]
      refine held_take 4 20 _ (.pointer (some ⟨w.heap.size, 1, none⟩)) rfl rfl (by kernel_rfl) (by kernel_rfl) (by kernel_rfl) rfl hS0 (fun _ _ => rfl) ?_
      simp only [Act.put, List.setIfInBounds_toArray, List.set_cons_succ, List.set_cons_zero]
      refine held_take 5 21 _ (.int .i64 ed) rfl rfl (by kernel_rfl) (by kernel_rfl) (by kernel_rfl) rfl hS0 (fun V hV => exec_loadc 3 _ rfl _ _ rfl (load_one 3 (fun _ => by kernel_rfl) V _ _ _ hV.2.1)) ?_
      simp only [Act.put, List.setIfInBounds_toArray, List.set_cons_succ, List.set_cons_zero]
      refine held_take 6 22 _ (.pointer (some ⟨w.heap.size, 0, none⟩)) rfl rfl (by kernel_rfl) (by kernel_rfl) (by kernel_rfl) rfl hS0 (fun _ _ => rfl) ?_
      simp only [Act.put, List.setIfInBounds_toArray, List.set_cons_succ, List.set_cons_zero]
      refine held_take 7 23 _ (.int .i64 en) rfl rfl (by kernel_rfl) (by kernel_rfl) (by kernel_rfl) rfl hS0 (fun V hV => exec_loadc 3 _ rfl _ _ rfl (load_one 3 (fun _ => by kernel_rfl) V _ _ _ hV.2.2)) ?_
      simp only [Act.put, List.setIfInBounds_toArray, List.set_cons_succ, List.set_cons_zero]
      obtain ⟨w6, hrun, hown6, hg6⟩ := HOW.out.drew.update keyE Try.underlying49 HML.out HKE.out HNE.out
      refine held_all1 8 (by kernel_rfl) (op_skip 8 _ w6 rfl rfl rfl (exec_mapE _ _ _ rfl (.map (some b)) (.int .i64 ed) (.int .i64 en) rfl rfl rfl hrun) ⟨?_, ?_⟩)
      · exact HSS.out W4 a3 n3 c3 w5 w6 HMID.out hb5 hg6
      · refine wpAnyH_done (by kernel_rfl) ?_ _
        refine NoPanic.normal ?_
        go_wp2
        go_end0
        exact ⟨rfl, (HEND2.out W4 a3 n3 c3 w5 w6 m D HMID.out hb5 HHT.out HMD.out (HOW.out.tidy keyE) hown6 hg6).2⟩
    · refine op_value 5 9 _ (.agg #[.int .i64 en, .int .i64 ed, .int .i64 eu]) ((w.alloc (.cells #[.int .i64 en, .int .i64 ed, .int .i64 eu] 43)).drew) rfl rfl rfl (exec_load 43 _ rfl w.heap.size 0 rfl [.int .i64 en, .int .i64 ed, .int .i64 eu] _ (HBX.out _ ((Below.refl _ _).drew)) Try.underlying43 rfl info_le) ⟨trivial, ?_⟩
      simp only [Act.put, List.setIfInBounds_toArray, List.set_cons_succ, List.set_cons_zero]
      refine held_all2 4 6 (by kernel_rfl) ?_ ?_
      · refine op_value 4 8 _ (.slice ao l.length c) ((w.alloc (.cells #[.int .i64 en, .int .i64 ed, .int .i64 eu] 43)).drew) rfl rfl rfl (exec_loadc 27 _ rfl _ _ rfl (load_one 27 (fun _ => by kernel_rfl) ((w.alloc (.cells #[.int .i64 en, .int .i64 ed, .int .i64 eu] 43)).drew) _ _ _ (HF.out _ ((Below.refl _ _).drew)))) ⟨trivial, ?_⟩
        simp only [Act.put, List.setIfInBounds_toArray, List.set_cons_succ, List.set_cons_zero]
        refine held_all1 6 (by kernel_rfl) (op_value 6 10 _ (.slice (some ⟨((w.alloc (.cells #[.int .i64 en, .int .i64 ed, .int .i64 eu] 43)).drew).heap.size, 0, none⟩) 1 1) (((w.alloc (.cells #[.int .i64 en, .int .i64 ed, .int .i64 eu] 43)).drew).alloc (.cells #[.int .i64 en, .int .i64 ed, .int .i64 eu] 43)) rfl rfl rfl (exec_rowE _ rfl en ed eu rfl) ⟨trivial, ?_⟩)
        simp only [Act.put, List.setIfInBounds_toArray, List.set_cons_succ, List.set_cons_zero]
        obtain ⟨a3, n3, c3, W3, happ, hk3, hmid⟩ := HAP.out ((w.alloc (.cells #[.int .i64 en, .int .i64 ed, .int .i64 eu] 43)).drew) ((Below.refl _ _).drew)
        refine held_all1 7 (by kernel_rfl) (op_value 7 11 _ (.slice a3 n3 c3) W3 rfl rfl rfl (exec_app (.tmp 8) (.tmp 10) 27 27 rfl (.slice ao l.length c) (.slice (some ⟨((w.alloc (.cells #[.int .i64 en, .int .i64 ed, .int .i64 eu] 43)).drew).heap.size, 0, none⟩) 1 1) (.slice a3 n3 c3) rfl rfl happ) ⟨trivial, ?_⟩)
        simp only [Act.put, List.setIfInBounds_toArray, List.set_cons_succ, List.set_cons_zero]
        refine held_take 8 12 _ (.pointer (some ⟨G, 0, none⟩)) rfl rfl (by kernel_rfl) (by kernel_rfl) (by kernel_rfl) rfl trivial (fun _ _ => rfl) ?_
        simp only [Act.put, List.setIfInBounds_toArray, List.set_cons_succ, List.set_cons_zero]
        refine held_take 9 13 _ (.pointer (some ⟨G, 0, none⟩)) rfl rfl (by kernel_rfl) (by kernel_rfl) (by kernel_rfl) rfl trivial (fun _ _ => rfl) ?_
        simp only [Act.put, List.setIfInBounds_toArray, List.set_cons_succ, List.set_cons_zero]
        refine held_all1 10 (by kernel_rfl) (op_skip 10 _ (W3.setCell ⟨G, 0, none⟩ (.slice a3 n3 c3)) rfl rfl rfl (exec_storesE _ _ rfl G 0 a3 n3 c3 _ rfl rfl (hk3.cell (j := 0) rfl) (hk3.frozen 0)) ⟨trivial, ?_⟩)
        refine wpAnyH_done (by kernel_rfl) ?_ _
        refine NoPanic.normal ?_
        generalize W3.setCell ⟨G, 0, none⟩ (.slice a3 n3 c3) = W4 at *
        clear happ hk3
        have x0 : W4.cell? ⟨w.heap.size, 0, none⟩ = some (.int .i64 en) := hmid.box.cell (j := 0) rfl
        have x1 : W4.cell? ⟨w.heap.size, 1, none⟩ = some (.int .i64 ed) := hmid.box.cell (j := 1) rfl
        have x2 : W4.cell? ⟨w.heap.size, 2, none⟩ = some (.int .i64 eu) := hmid.box.cell (j := 2) rfl
        have HMID : Hid (MidA w W4 lo G b (.slice ao l.length c) (.slice a3 n3 c3) l ⟨en, ed, eu⟩) := hmid
        clear hmid
        go_wp2_with fail
        refine (HI W4).mono ?_
        rintro e' w5 ⟨rfl, hb5⟩
        clear x0 x1 x2
        obtain ⟨m, D, hown, hH, hmD⟩ := HMID.out.map
        have hown5 := own_chgE hown (Chg.of_below hb5 (Nat.le_refl _)) (S := fun _ => False) id
        have HOW : Hid (w5.ownsMap Try.prog 3 numR b m D) := hown5
        have HHT : Hid (HoldsT D l) := hH
        have HMD : Hid (m ≤ l.length) := hmD
        have HML : Hid (m < maxLen) := by have := HLEN.out; show m < maxLen; unfold maxLen; omega
        have hbl5 := HMID.out.box.below hb5 HMID.out.box.lt
        have hhd5 := HMID.out.head.below hb5 HMID.out.head.lt
        have y0 : w5.cell? ⟨w.heap.size, 0, none⟩ = some (.int .i64 en) := hbl5.cell (j := 0) rfl
        have y1 : w5.cell? ⟨w.heap.size, 1, none⟩ = some (.int .i64 ed) := hbl5.cell (j := 1) rfl
        have yG : w5.cell? ⟨G, 1, none⟩ = some (.map (some b)) := hhd5.cell (j := 1) rfl
        have hS0 : (fun V : World => V.cell? ⟨G, 1, none⟩ = some (.map (some b)) ∧ V.cell? ⟨w.heap.size, 1, none⟩ = some (.int .i64 ed) ∧ V.cell? ⟨w.heap.size, 0, none⟩ = some (.int .i64 en)) w5.drew := ⟨yG, y1, y0⟩
        clear hown hH hmD hown5 hbl5 hhd5 y0 y1 yG
        go_wp2_with fail
        refine held_begin (fun V => V.cell? ⟨G, 1, none⟩ = some (.map (some b)) ∧ V.cell? ⟨w.heap.size, 1, none⟩ = some (.int .i64 ed) ∧ V.cell? ⟨w.heap.size, 0, none⟩ = some (.int .i64 en)) (by kernel_rfl) ?_
        refine held_take 0 16 _ (.pointer (some ⟨G, 0, none⟩)) rfl rfl (by kernel_rfl) (by kernel_rfl) (by kernel_rfl) rfl hS0 (fun _ _ => rfl) ?_
        simp only [Act.put, List.setIfInBounds_toArray, List.set_cons_succ, List.set_cons_zero]
        refine held_take 1 17 _ (.pointer (some ⟨G, 0, none⟩)) rfl rfl (by kernel_rfl) (by kernel_rfl) (by kernel_rfl) rfl hS0 (fun _ _ => rfl) ?_
        simp only [Act.put, List.setIfInBounds_toArray, List.set_cons_succ, List.set_cons_zero]
        refine held_take 2 18 _ (.pointer (some ⟨G, 1, none⟩)) rfl rfl (by kernel_rfl) (by kernel_rfl) (by kernel_rfl) rfl hS0 (fun _ _ => rfl) ?_
        simp only [Act.put, List.setIfInBounds_toArray, List.set_cons_succ, List.set_cons_zero]
        refine held_take 3 19 _ (.map (some b)) rfl rfl (by kernel_rfl) (by kernel_rfl) (by kernel_rfl) rfl hS0 (fun V hV => exec_loadc 49 _ rfl _ _ rfl (load_one 49 (fun _ => by kernel_rfl) V _ _ _ hV.1)) ?_
        simp only [Act.put, List.setIfInBounds_toArray, List.set_cons_succ, List.set_cons_zero]
        refine held_take 4 20 _ (.pointer (some ⟨w.heap.size, 1, none⟩)) rfl rfl (by kernel_rfl) (by kernel_rfl) (by kernel_rfl) rfl hS0 (fun _ _ => rfl) ?_
        simp only [Act.put, List.setIfInBounds_toArray, List.set_cons_succ, List.set_cons_zero]
        refine held_take 5 21 _ (.int .i64 ed) rfl rfl (by kernel_rfl) (by kernel_rfl) (by kernel_rfl) rfl hS0 (fun V hV => exec_loadc 3 _ rfl _ _ rfl (load_one 3 (fun _ => by kernel_rfl) V _ _ _ hV.2.1)) ?_
        simp only [Act.put, List.setIfInBounds_toArray, List.set_cons_succ, List.set_cons_zero]
        refine held_take 6 22 _ (.pointer (some ⟨w.heap.size, 0, none⟩)) rfl rfl (by kernel_rfl) (by kernel_rfl) (by kernel_rfl) rfl hS0 (fun _ _ => rfl) ?_
        simp only [Act.put, List.setIfInBounds_toArray, List.set_cons_succ, List.set_cons_zero]
        refine held_take 7 23 _ (.int .i64 en) rfl rfl (by kernel_rfl) (by kernel_rfl) (by kernel_rfl) rfl hS0 (fun V hV => exec_loadc 3 _ rfl _ _ rfl (load_one 3 (fun _ => by kernel_rfl) V _ _ _ hV.2.2)) ?_
        simp only [Act.put, List.setIfInBounds_toArray, List.set_cons_succ, List.set_cons_zero]
        obtain ⟨w6, hrun, hown6, hg6⟩ := HOW.out.drew.update keyE Try.underlying49 HML.out HKE.out HNE.out
        refine held_all1 8 (by kernel_rfl) (op_skip 8 _ w6 rfl rfl rfl (exec_mapE _ _ _ rfl (.map (some b)) (.int .i64 ed) (.int .i64 en) rfl rfl rfl hrun) ⟨?_, ?_⟩)
        · exact HSS.out W4 a3 n3 c3 w5 w6 HMID.out hb5 hg6
        · refine wpAnyH_done (by kernel_rfl) ?_ _
          refine NoPanic.normal ?_
          go_wp2
          go_end0
          exact ⟨rfl, (HEND2.out W4 a3 n3 c3 w5 w6 m D HMID.out hb5 HHT.out HMD.out (HOW.out.tidy keyE) hown6 hg6).2⟩
      · refine op_value 6 10 _ (.slice (some ⟨((w.alloc (.cells #[.int .i64 en, .int .i64 ed, .int .i64 eu] 43)).drew).heap.size, 0, none⟩) 1 1) (((w.alloc (.cells #[.int .i64 en, .int .i64 ed, .int .i64 eu] 43)).drew).alloc (.cells #[.int .i64 en, .int .i64 ed, .int .i64 eu] 43)) rfl rfl rfl (exec_rowE _ rfl en ed eu rfl) ⟨trivial, ?_⟩
        simp only [Act.put, List.setIfInBounds_toArray, List.set_cons_succ, List.set_cons_zero]
        refine held_all1 4 (by kernel_rfl) (op_value 4 8 _ (.slice ao l.length c) (((w.alloc (.cells #[.int .i64 en, .int .i64 ed, .int .i64 eu] 43)).drew).alloc (.cells #[.int .i64 en, .int .i64 ed, .int .i64 eu] 43)) rfl rfl rfl (exec_loadc 27 _ rfl _ _ rfl (load_one 27 (fun _ => by kernel_rfl) (((w.alloc (.cells #[.int .i64 en, .int .i64 ed, .int .i64 eu] 43)).drew).alloc (.cells #[.int .i64 en, .int .i64 ed, .int .i64 eu] 43)) _ _ _ (HF.out _ (low_new ((Below.refl _ _).drew) _)))) ⟨trivial, ?_⟩)
        simp only [Act.put, List.setIfInBounds_toArray, List.set_cons_succ, List.set_cons_zero]
        obtain ⟨a3, n3, c3, W3, happ, hk3, hmid⟩ := HAP.out ((w.alloc (.cells #[.int .i64 en, .int .i64 ed, .int .i64 eu] 43)).drew) ((Below.refl _ _).drew)
        refine held_all1 7 (by kernel_rfl) (op_value 7 11 _ (.slice a3 n3 c3) W3 rfl rfl rfl (exec_app (.tmp 8) (.tmp 10) 27 27 rfl (.slice ao l.length c) (.slice (some ⟨((w.alloc (.cells #[.int .i64 en, .int .i64 ed, .int .i64 eu] 43)).drew).heap.size, 0, none⟩) 1 1) (.slice a3 n3 c3) rfl rfl happ) ⟨trivial, ?_⟩)
        simp only [Act.put, List.setIfInBounds_toArray, List.set_cons_succ, List.set_cons_zero]
        refine held_take 8 12 _ (.pointer (some ⟨G, 0, none⟩)) rfl rfl (by kernel_rfl) (by kernel_rfl) (by kernel_rfl) rfl trivial (fun _ _ => rfl) ?_
        simp only [Act.put, List.setIfInBounds_toArray, List.set_cons_succ, List.set_cons_zero]
        refine held_take 9 13 _ (.pointer (some ⟨G, 0, none⟩)) rfl rfl (by kernel_rfl) (by kernel_rfl) (by kernel_rfl) rfl trivial (fun _ _ => rfl) ?_
        simp only [Act.put, List.setIfInBounds_toArray, List.set_cons_succ, List.set_cons_zero]
        refine held_all1 10 (by kernel_rfl) (op_skip 10 _ (W3.setCell ⟨G, 0, none⟩ (.slice a3 n3 c3)) rfl rfl rfl (exec_storesE _ _ rfl G 0 a3 n3 c3 _ rfl rfl (hk3.cell (j := 0) rfl) (hk3.frozen 0)) ⟨trivial, ?_⟩)
        refine wpAnyH_done (by kernel_rfl) ?_ _
        refine NoPanic.normal ?_
        generalize W3.setCell ⟨G, 0, none⟩ (.slice a3 n3 c3) = W4 at *
        clear happ hk3
        have x0 : W4.cell? ⟨w.heap.size, 0, none⟩ = some (.int .i64 en) := hmid.box.cell (j := 0) rfl
        have x1 : W4.cell? ⟨w.heap.size, 1, none⟩ = some (.int .i64 ed) := hmid.box.cell (j := 1) rfl
        have x2 : W4.cell? ⟨w.heap.size, 2, none⟩ = some (.int .i64 eu) := hmid.box.cell (j := 2) rfl
        have HMID : Hid (MidA w W4 lo G b (.slice ao l.length c) (.slice a3 n3 c3) l ⟨en, ed, eu⟩) := hmid
        clear hmid
        go_wp2_with fail
        refine (HI W4).mono ?_
        rintro e' w5 ⟨rfl, hb5⟩
        clear x0 x1 x2
        obtain ⟨m, D, hown, hH, hmD⟩ := HMID.out.map
        have hown5 := own_chgE hown (Chg.of_below hb5 (Nat.le_refl _)) (S := fun _ => False) id
        have HOW : Hid (w5.ownsMap Try.prog 3 numR b m D) := hown5
        have HHT : Hid (HoldsT D l) := hH
        have HMD : Hid (m ≤ l.length) := hmD
        have HML : Hid (m < maxLen) := by have := HLEN.out; show m < maxLen; unfold maxLen; omega
        have hbl5 := HMID.out.box.below hb5 HMID.out.box.lt
        have hhd5 := HMID.out.head.below hb5 HMID.out.head.lt
        have y0 : w5.cell? ⟨w.heap.size, 0, none⟩ = some (.int .i64 en) := hbl5.cell (j := 0) rfl
        have y1 : w5.cell? ⟨w.heap.size, 1, none⟩ = some (.int .i64 ed) := hbl5.cell (j := 1) rfl
        have yG : w5.cell? ⟨G, 1, none⟩ = some (.map (some b)) := hhd5.cell (j := 1) rfl
        have hS0 : (fun V : World => V.cell? ⟨G, 1, none⟩ = some (.map (some b)) ∧ V.cell? ⟨w.heap.size, 1, none⟩ = some (.int .i64 ed) ∧ V.cell? ⟨w.heap.size, 0, none⟩ = some (.int .i64 en)) w5.drew := ⟨yG, y1, y0⟩
        clear hown hH hmD hown5 hbl5 hhd5 y0 y1 yG
        go_wp2_with fail
        refine held_begin (fun V => V.cell? ⟨G, 1, none⟩ = some (.map (some b)) ∧ V.cell? ⟨w.heap.size, 1, none⟩ = some (.int .i64 ed) ∧ V.cell? ⟨w.heap.size, 0, none⟩ = some (.int .i64 en)) (by kernel_rfl) ?_
        refine held_take 0 16 _ (.pointer (some ⟨G, 0, none⟩)) rfl rfl (by kernel_rfl) (by kernel_rfl) (by kernel_rfl) rfl hS0 (fun _ _ => rfl) ?_
        simp only [Act.put, List.setIfInBounds_toArray, List.set_cons_succ, List.set_cons_zero]
        refine held_take 1 17 _ (.pointer (some ⟨G, 0, none⟩)) rfl rfl (by kernel_rfl) (by kernel_rfl) (by kernel_rfl) rfl hS0 (fun _ _ => rfl) ?_
        simp only [Act.put, List.setIfInBounds_toArray, List.set_cons_succ, List.set_cons_zero]
        refine held_take 2 18 _ (.pointer (some ⟨G, 1, none⟩)) rfl rfl (by kernel_rfl) (by kernel_rfl) (by kernel_rfl) rfl hS0 (fun _ _ => rfl) ?_
        simp only [Act.put, List.setIfInBounds_toArray, List.set_cons_succ, List.set_cons_zero]
        refine held_take 3 19 _ (.map (some b)) rfl rfl (by kernel_rfl) (by kernel_rfl) (by kernel_rfl) rfl hS0 (fun V hV => exec_loadc 49 _ rfl _ _ rfl (load_one 49 (fun _ => by kernel_rfl) V _ _ _ hV.1)) ?_
        simp only [Act.put, List.setIfInBounds_toArray, List.set_cons_succ, List.set_cons_zero]
        refine held_take 4 20 _ (.pointer (some ⟨w.heap.size, 1, none⟩)) rfl rfl (by kernel_rfl) (by kernel_rfl) (by kernel_rfl) rfl hS0 (fun _ _ => rfl) ?_
        simp only [Act.put, List.setIfInBounds_toArray, List.set_cons_succ, List.set_cons_zero]
        refine held_take 5 21 _ (.int .i64 ed) rfl rfl (by kernel_rfl) (by kernel_rfl) (by kernel_rfl) rfl hS0 (fun V hV => exec_loadc 3 _ rfl _ _ rfl (load_one 3 (fun _ => by kernel_rfl) V _ _ _ hV.2.1)) ?_
        simp only [Act.put, List.setIfInBounds_toArray, List.set_cons_succ, List.set_cons_zero]
        refine held_take 6 22 _ (.pointer (some ⟨w.heap.size, 0, none⟩)) rfl rfl (by kernel_rfl) (by kernel_rfl) (by kernel_rfl) rfl hS0 (fun _ _ => rfl) ?_
        simp only [Act.put, List.setIfInBounds_toArray, List.set_cons_succ, List.set_cons_zero]
        refine held_take 7 23 _ (.int .i64 en) rfl rfl (by kernel_rfl) (by kernel_rfl) (by kernel_rfl) rfl hS0 (fun V hV => exec_loadc 3 _ rfl _ _ rfl (load_one 3 (fun _ => by kernel_rfl) V _ _ _ hV.2.2)) ?_
        simp only [Act.put, List.setIfInBounds_toArray, List.set_cons_succ, List.set_cons_zero]
        obtain ⟨w6, hrun, hown6, hg6⟩ := HOW.out.drew.update keyE Try.underlying49 HML.out HKE.out HNE.out
        refine held_all1 8 (by kernel_rfl) (op_skip 8 _ w6 rfl rfl rfl (exec_mapE _ _ _ rfl (.map (some b)) (.int .i64 ed) (.int .i64 en) rfl rfl rfl hrun) ⟨?_, ?_⟩)
        · exact HSS.out W4 a3 n3 c3 w5 w6 HMID.out hb5 hg6
        · refine wpAnyH_done (by kernel_rfl) ?_ _
          refine NoPanic.normal ?_
          go_wp2
          go_end0
          exact ⟨rfl, (HEND2.out W4 a3 n3 c3 w5 w6 m D HMID.out hb5 HHT.out HMD.out (HOW.out.tidy keyE) hown6 hg6).2⟩
  · rw [decide_eq_false hu] at HI
    have HEND3 : Hid _ := HEND.out hu
    clear HEND HEND2 hu h hok ho hed hen hB0 hB0s HKE HNE HSS
    have HEND := HEND3
    clear HEND3
    obtain ⟨en, ed, eu⟩ := e
    unfold leV leL at *
    dsimp only at *
    go_enter Try.func30, Try.ntmps30
    go_wp2_with fail
    refine held_begin (fun _ => True) (by kernel_rfl) ?_
    refine held_take 0 4 _ (.pointer (some ⟨G, 0, none⟩)) rfl rfl (by kernel_rfl) (by kernel_rfl) (by kernel_rfl) rfl trivial (fun _ _ => rfl) ?_
    simp only [Act.put, List.setIfInBounds_toArray, List.set_cons_succ, List.set_cons_zero]
    refine held_take 1 5 _ (.pointer (some ⟨G, 0, none⟩)) rfl rfl (by kernel_rfl) (by kernel_rfl) (by kernel_rfl) rfl trivial (fun _ _ => rfl) ?_
    simp only [Act.put, List.setIfInBounds_toArray, List.set_cons_succ, List.set_cons_zero]
    refine held_take 2 6 _ (.pointer (some ⟨G, 0, none⟩)) rfl rfl (by kernel_rfl) (by kernel_rfl) (by kernel_rfl) rfl trivial (fun _ _ => rfl) ?_
    simp only [Act.put, List.setIfInBounds_toArray, List.set_cons_succ, List.set_cons_zero]
    refine held_take 3 7 _ (.pointer (some ⟨G, 0, none⟩)) rfl rfl (by kernel_rfl) (by kernel_rfl) (by kernel_rfl) rfl trivial (fun _ _ => rfl) ?_
    simp only [Act.put, List.setIfInBounds_toArray, List.set_cons_succ, List.set_cons_zero]
    refine held_all2 4 5 (by kernel_rfl) ?_ ?_
    · refine op_value 4 8 _ (.slice ao l.length c) ((w.alloc (.cells #[.int .i64 en, .int .i64 ed, .int .i64 eu] 43)).drew) rfl rfl rfl (exec_loadc 27 _ rfl _ _ rfl (load_one 27 (fun _ => by kernel_rfl) ((w.alloc (.cells #[.int .i64 en, .int .i64 ed, .int .i64 eu] 43)).drew) _ _ _ (HF.out _ ((Below.refl _ _).drew)))) ⟨trivial, ?_⟩
      simp only [Act.put, List.setIfInBounds_toArray, List.set_cons_succ, List.set_cons_zero]
      refine held_all1 5 (by kernel_rfl) (op_value 5 9 _ (.agg #[.int .i64 en, .int .i64 ed, .int .i64 eu]) ((w.alloc (.cells #[.int .i64 en, .int .i64 ed, .int .i64 eu] 43)).drew) rfl rfl rfl (exec_load 43 _ rfl w.heap.size 0 rfl [.int .i64 en, .int .i64 ed, .int .i64 eu] _ (HBX.out _ ((Below.refl _ _).drew)) Try.underlying43 rfl info_le) ⟨trivial, ?_⟩)
      simp only [Act.put, List.setIfInBounds_toArray, List.set_cons_succ, List.set_cons_zero]
      refine held_all1 6 (by kernel_rfl) (op_value 6 10 _ (.slice (some ⟨((w.alloc (.cells #[.int .i64 en, .int .i64 ed, .int .i64 eu] 43)).drew).heap.size, 0, none⟩) 1 1) (((w.alloc (.cells #[.int .i64 en, .int .i64 ed, .int .i64 eu] 43)).drew).alloc (.cells #[.int .i64 en, .int .i64 ed, .int .i64 eu] 43)) rfl rfl rfl (exec_rowE _ rfl en ed eu rfl) ⟨trivial, ?_⟩)
      simp only [Act.put, List.setIfInBounds_toArray, List.set_cons_succ, List.set_cons_zero]
      obtain ⟨a3, n3, c3, W3, happ, hk3, hmid⟩ := HAP.out ((w.alloc (.cells #[.int .i64 en, .int .i64 ed, .int .i64 eu] 43)).drew) ((Below.refl _ _).drew)
      refine held_all1 7 (by kernel_rfl) (op_value 7 11 _ (.slice a3 n3 c3) W3 rfl rfl rfl (exec_app (.tmp 8) (.tmp 10) 27 27 rfl (.slice ao l.length c) (.slice (some ⟨((w.alloc (.cells #[.int .i64 en, .int .i64 ed, .int .i64 eu] 43)).drew).heap.size, 0, none⟩) 1 1) (.slice a3 n3 c3) rfl rfl happ) ⟨trivial, ?_⟩)
      simp only [Act.put, List.setIfInBounds_toArray, List.set_cons_succ, List.set_cons_zero]
      refine held_take 8 12 _ (.pointer (some ⟨G, 0, none⟩)) rfl rfl (by kernel_rfl) (by kernel_rfl) (by kernel_rfl) rfl trivial (fun _ _ => rfl) ?_
      simp only [Act.put, List.setIfInBounds_toArray, List.set_cons_succ, List.set_cons_zero]
      refine held_take 9 13 _ (.pointer (some ⟨G, 0, none⟩)) rfl rfl (by kernel_rfl) (by kernel_rfl) (by kernel_rfl) rfl trivial (fun _ _ => rfl) ?_
      simp only [Act.put, List.setIfInBounds_toArray, List.set_cons_succ, List.set_cons_zero]
      refine held_all1 10 (by kernel_rfl) (op_skip 10 _ (W3.setCell ⟨G, 0, none⟩ (.slice a3 n3 c3)) rfl rfl rfl (exec_storesE _ _ rfl G 0 a3 n3 c3 _ rfl rfl (hk3.cell (j := 0) rfl) (hk3.frozen 0)) ⟨trivial, ?_⟩)
      refine wpAnyH_done (by kernel_rfl) ?_ _
      refine NoPanic.normal ?_
      generalize W3.setCell ⟨G, 0, none⟩ (.slice a3 n3 c3) = W4 at *
      clear happ hk3
      have x0 : W4.cell? ⟨w.heap.size, 0, none⟩ = some (.int .i64 en) := hmid.box.cell (j := 0) rfl
      have x1 : W4.cell? ⟨w.heap.size, 1, none⟩ = some (.int .i64 ed) := hmid.box.cell (j := 1) rfl
      have x2 : W4.cell? ⟨w.heap.size, 2, none⟩ = some (.int .i64 eu) := hmid.box.cell (j := 2) rfl
      have HMID : Hid (MidA w W4 lo G b (.slice ao l.length c) (.slice a3 n3 c3) l ⟨en, ed, eu⟩) := hmid
      clear hmid
      go_wp2_with fail
      refine (HI W4).mono ?_
      rintro e' w5 ⟨rfl, hb5⟩
      clear x0 x1 x2
      go_wp2
      go_end0
      exact ⟨rfl, (HEND.out W4 a3 n3 c3 w5 HMID.out hb5).2⟩
    · refine op_value 5 9 _ (.agg #[.int .i64 en, .int .i64 ed, .int .i64 eu]) ((w.alloc (.cells #[.int .i64 en, .int .i64 ed, .int .i64 eu] 43)).drew) rfl rfl rfl (exec_load 43 _ rfl w.heap.size 0 rfl [.int .i64 en, .int .i64 ed, .int .i64 eu] _ (HBX.out _ ((Below.refl _ _).drew)) Try.underlying43 rfl info_le) ⟨trivial, ?_⟩
      simp only [Act.put, List.setIfInBounds_toArray, List.set_cons_succ, List.set_cons_zero]
      refine held_all2 4 6 (by kernel_rfl) ?_ ?_
      · refine op_value 4 8 _ (.slice ao l.length c) ((w.alloc (.cells #[.int .i64 en, .int .i64 ed, .int .i64 eu] 43)).drew) rfl rfl rfl (exec_loadc 27 _ rfl _ _ rfl (load_one 27 (fun _ => by kernel_rfl) ((w.alloc (.cells #[.int .i64 en, .int .i64 ed, .int .i64 eu] 43)).drew) _ _ _ (HF.out _ ((Below.refl _ _).drew)))) ⟨trivial, ?_⟩
        simp only [Act.put, List.setIfInBounds_toArray, List.set_cons_succ, List.set_cons_zero]
        refine held_all1 6 (by kernel_rfl) (op_value 6 10 _ (.slice (some ⟨((w.alloc (.cells #[.int .i64 en, .int .i64 ed, .int .i64 eu] 43)).drew).heap.size, 0, none⟩) 1 1) (((w.alloc (.cells #[.int .i64 en, .int .i64 ed, .int .i64 eu] 43)).drew).alloc (.cells #[.int .i64 en, .int .i64 ed, .int .i64 eu] 43)) rfl rfl rfl (exec_rowE _ rfl en ed eu rfl) ⟨trivial, ?_⟩)
        simp only [Act.put, List.setIfInBounds_toArray, List.set_cons_succ, List.set_cons_zero]
        obtain ⟨a3, n3, c3, W3, happ, hk3, hmid⟩ := HAP.out ((w.alloc (.cells #[.int .i64 en, .int .i64 ed, .int .i64 eu] 43)).drew) ((Below.refl _ _).drew)
        refine held_all1 7 (by kernel_rfl) (op_value 7 11 _ (.slice a3 n3 c3) W3 rfl rfl rfl (exec_app (.tmp 8) (.tmp 10) 27 27 rfl (.slice ao l.length c) (.slice (some ⟨((w.alloc (.cells #[.int .i64 en, .int .i64 ed, .int .i64 eu] 43)).drew).heap.size, 0, none⟩) 1 1) (.slice a3 n3 c3) rfl rfl happ) ⟨trivial, ?_⟩)
        simp only [Act.put, List.setIfInBounds_toArray, List.set_cons_succ, List.set_cons_zero]
        refine held_take 8 12 _ (.pointer (some ⟨G, 0, none⟩)) rfl rfl (by kernel_rfl) (by kernel_rfl) (by kernel_rfl) rfl trivial (fun _ _ => rfl) ?_
        simp only [Act.put, List.setIfInBounds_toArray, List.set_cons_succ, List.set_cons_zero]
        refine held_take 9 13 _ (.pointer (some ⟨G, 0, none⟩)) rfl rfl (by kernel_rfl) (by kernel_rfl) (by kernel_rfl) rfl trivial (fun _ _ => rfl) ?_
        simp only [Act.put, List.setIfInBounds_toArray, List.set_cons_succ, List.set_cons_zero]
        refine held_all1 10 (by kernel_rfl) (op_skip 10 _ (W3.setCell ⟨G, 0, none⟩ (.slice a3 n3 c3)) rfl rfl rfl (exec_storesE _ _ rfl G 0 a3 n3 c3 _ rfl rfl (hk3.cell (j := 0) rfl) (hk3.frozen 0)) ⟨trivial, ?_⟩)
        refine wpAnyH_done (by kernel_rfl) ?_ _
        refine NoPanic.normal ?_
        generalize W3.setCell ⟨G, 0, none⟩ (.slice a3 n3 c3) = W4 at *
        clear happ hk3
        have x0 : W4.cell? ⟨w.heap.size, 0, none⟩ = some (.int .i64 en) := hmid.box.cell (j := 0) rfl
        have x1 : W4.cell? ⟨w.heap.size, 1, none⟩ = some (.int .i64 ed) := hmid.box.cell (j := 1) rfl
        have x2 : W4.cell? ⟨w.heap.size, 2, none⟩ = some (.int .i64 eu) := hmid.box.cell (j := 2) rfl
        have HMID : Hid (MidA w W4 lo G b (.slice ao l.length c) (.slice a3 n3 c3) l ⟨en, ed, eu⟩) := hmid
        clear hmid
        go_wp2_with fail
        refine (HI W4).mono ?_
        rintro e' w5 ⟨rfl, hb5⟩
        clear x0 x1 x2
        go_wp2
        go_end0
        exact ⟨rfl, (HEND.out W4 a3 n3 c3 w5 HMID.out hb5).2⟩
      · refine op_value 6 10 _ (.slice (some ⟨((w.alloc (.cells #[.int .i64 en, .int .i64 ed, .int .i64 eu] 43)).drew).heap.size, 0, none⟩) 1 1) (((w.alloc (.cells #[.int .i64 en, .int .i64 ed, .int .i64 eu] 43)).drew).alloc (.cells #[.int .i64 en, .int .i64 ed, .int .i64 eu] 43)) rfl rfl rfl (exec_rowE _ rfl en ed eu rfl) ⟨trivial, ?_⟩
        simp only [Act.put, List.setIfInBounds_toArray, List.set_cons_succ, List.set_cons_zero]
        refine held_all1 4 (by kernel_rfl) (op_value 4 8 _ (.slice ao l.length c) (((w.alloc (.cells #[.int .i64 en, .int .i64 ed, .int .i64 eu] 43)).drew).alloc (.cells #[.int .i64 en, .int .i64 ed, .int .i64 eu] 43)) rfl rfl rfl (exec_loadc 27 _ rfl _ _ rfl (load_one 27 (fun _ => by kernel_rfl) (((w.alloc (.cells #[.int .i64 en, .int .i64 ed, .int .i64 eu] 43)).drew).alloc (.cells #[.int .i64 en, .int .i64 ed, .int .i64 eu] 43)) _ _ _ (HF.out _ (low_new ((Below.refl _ _).drew) _)))) ⟨trivial, ?_⟩)
        simp only [Act.put, List.setIfInBounds_toArray, List.set_cons_succ, List.set_cons_zero]
        obtain ⟨a3, n3, c3, W3, happ, hk3, hmid⟩ := HAP.out ((w.alloc (.cells #[.int .i64 en, .int .i64 ed, .int .i64 eu] 43)).drew) ((Below.refl _ _).drew)
        refine held_all1 7 (by kernel_rfl) (op_value 7 11 _ (.slice a3 n3 c3) W3 rfl rfl rfl (exec_app (.tmp 8) (.tmp 10) 27 27 rfl (.slice ao l.length c) (.slice (some ⟨((w.alloc (.cells #[.int .i64 en, .int .i64 ed, .int .i64 eu] 43)).drew).heap.size, 0, none⟩) 1 1) (.slice a3 n3 c3) rfl rfl happ) ⟨trivial, ?_⟩)
        simp only [Act.put, List.setIfInBounds_toArray, List.set_cons_succ, List.set_cons_zero]
        refine held_take 8 12 _ (.pointer (some ⟨G, 0, none⟩)) rfl rfl (by kernel_rfl) (by kernel_rfl) (by kernel_rfl) rfl trivial (fun _ _ => rfl) ?_
        simp only [Act.put, List.setIfInBounds_toArray, List.set_cons_succ, List.set_cons_zero]
        refine held_take 9 13 _ (.pointer (some ⟨G, 0, none⟩)) rfl rfl (by kernel_rfl) (by kernel_rfl) (by kernel_rfl) rfl trivial (fun _ _ => rfl) ?_
        simp only [Act.put, List.setIfInBounds_toArray, List.set_cons_succ, List.set_cons_zero]
        refine held_all1 10 (by kernel_rfl) (op_skip 10 _ (W3.setCell ⟨G, 0, none⟩ (.slice a3 n3 c3)) rfl rfl rfl (exec_storesE _ _ rfl G 0 a3 n3 c3 _ rfl rfl (hk3.cell (j := 0) rfl) (hk3.frozen 0)) ⟨trivial, ?_⟩)
        refine wpAnyH_done (by kernel_rfl) ?_ _
        refine NoPanic.normal ?_
        generalize W3.setCell ⟨G, 0, none⟩ (.slice a3 n3 c3) = W4 at *
        clear happ hk3
        have x0 : W4.cell? ⟨w.heap.size, 0, none⟩ = some (.int .i64 en) := hmid.box.cell (j := 0) rfl
        have x1 : W4.cell? ⟨w.heap.size, 1, none⟩ = some (.int .i64 ed) := hmid.box.cell (j := 1) rfl
        have x2 : W4.cell? ⟨w.heap.size, 2, none⟩ = some (.int .i64 eu) := hmid.box.cell (j := 2) rfl
        have HMID : Hid (MidA w W4 lo G b (.slice ao l.length c) (.slice a3 n3 c3) l ⟨en, ed, eu⟩) := hmid
        clear hmid
        go_wp2_with fail
        refine (HI W4).mono ?_
        rintro e' w5 ⟨rfl, hb5⟩
        clear x0 x1 x2
        go_wp2
        go_end0
        exact ⟨rfl, (HEND.out W4 a3 n3 c3 w5 HMID.out hb5).2⟩
set_option maxRecDepth 100000 in
set_option maxHeartbeats 4000000 in
theorem close16_any {w : World} {lo G b : Nat} {v : Value} {l : List LE} (h : LeT w lo G b v l) {i : Nat} {e : LE} (hi : l[i]? = some e) (hu : 0 < e.u) : Calls Try.prog 37 #[.pointer (some ⟨G, 0, none⟩), leV e] w fun r w' => r = .returned (.tuple #[]) ∧ LeT w' lo G b v (l.set i e.off) ∧ Chg (LeM G b v) w w' := by
  have hn := h.ok.num i e hi
  have hil : i < l.length := (List.getElem?_eq_some_iff.1 hi).1
  have hlen := h.ok.len
  have hed := h.ok.dev e (List.mem_iff_getElem?.2 ⟨i, hi⟩)
  have hB := below_newE w (.cells #[.int .i64 ((i : Int) + 1), .int .i64 e.d, .int .i64 e.u] 43)
  have kX := Blk.new w 43 #[.int .i64 ((i : Int) + 1), .int .i64 e.d, .int .i64 e.u]
  have h1 := h.after hB (Nat.le_refl _)
  obtain ⟨B, c, e1, hBl, hBlo, hcell⟩ := h1.row.at hi
  subst e1
  have hbl := h.bl
  have hGl := h.head.lt
  have hBl0 := (h.row.lt B rfl).2
  have hr5d := LeR.until (w := (w.alloc (.cells #[.int .i64 ((i : Int) + 1), .int .i64 e.d, .int .i64 e.u] 43)).drew) h1.row hi 0
  have hc5 : Chg (fun q => q = B) (w.alloc (.cells #[.int .i64 ((i : Int) + 1), .int .i64 e.d, .int .i64 e.u] 43)) ((w.alloc (.cells #[.int .i64 ((i : Int) + 1), .int .i64 e.d, .int .i64 e.u] 43)).setCell ⟨B, i * 3 + 2, none⟩ (.int .i64 0)) := (Chg.refl (fun q => q = B) _).setCell B _ _ (fun _ => rfl)
  have hGB : G ≠ B := fun e2 => h.nG (by rw [e2]; rfl)
  have hbB : b ≠ B := fun e2 => h.nb (by rw [e2]; rfl)
  have hh5 := h1.head.chg hc5 hGB
  have kX5 := kX.chg hc5 (fun e2 => by omega)
  obtain ⟨m, D, hown, hH, hmD⟩ := h1.map
  have hown5 := own_chgE hown hc5 hbB
  have hC2 : ((w.alloc (.cells #[.int .i64 ((i : Int) + 1), .int .i64 e.d, .int .i64 e.u] 43)).drew).cell? ⟨B, i * 3 + 2, none⟩ = some (.int .i64 e.u) := hcell 2 _ rfl
  have hF2 : ((w.alloc (.cells #[.int .i64 ((i : Int) + 1), .int .i64 e.d, .int .i64 e.u] 43)).drew).frozen? ⟨B, i * 3 + 2, none⟩ = false := by
    obtain ⟨b', c', cur, f1, _, f3, _⟩ := h1.row.blk (by omega)
    cases f1
    exact f3.frozen _
  have HNB : Hid (w.heap.size ≠ b) := fun e2 => by omega
  have HIX : Hid (∀ V, (Instr.indexAt 27 (.slice (some ⟨B, 0, none⟩) l.length c) (.int .i64 (i : Int))).run Try.prog V = .ok (.pointer (some ⟨B, i * 3, none⟩)) V) := fun V => index_le0 B l.length c i V hil
  have HSUB : Hid ((i : Int) + 1 - 1 = (i : Int)) := by show _ = _; omega
  have HKE : Hid (keyOf Try.prog 3 (.int .i64 e.d) = some (.int .i64 e.d)) := key_intE e.d (by omega) (by omega)
  have hS0 : (fun V : World => V.cell? ⟨G, 0, none⟩ = some (.slice (some ⟨B, 0, none⟩) l.length c) ∧ V.cell? ⟨w.heap.size, 0, none⟩ = some (.int .i64 ((i : Int) + 1))) (w.alloc (.cells #[.int .i64 ((i : Int) + 1), .int .i64 e.d, .int .i64 e.u] 43)).drew := ⟨h1.head.cell (j := 0) rfl, kX.cell (j := 0) rfl⟩
  have HS1 : Hid (((w.alloc (.cells #[.int .i64 ((i : Int) + 1), .int .i64 e.d, .int .i64 e.u] 43)).drew.setCell ⟨B, i * 3 + 2, none⟩ (.int .i64 0)).cell? ⟨G, 0, none⟩ = some (.slice (some ⟨B, 0, none⟩) l.length c) ∧ ((w.alloc (.cells #[.int .i64 ((i : Int) + 1), .int .i64 e.d, .int .i64 e.u] 43)).drew.setCell ⟨B, i * 3 + 2, none⟩ (.int .i64 0)).cell? ⟨w.heap.size, 0, none⟩ = some (.int .i64 ((i : Int) + 1))) := ⟨(hh5.drew).cell (j := 0) rfl, (kX5.drew).cell (j := 0) rfl⟩
  have HC2 : Hid (((w.alloc (.cells #[.int .i64 ((i : Int) + 1), .int .i64 e.d, .int .i64 e.u] 43)).drew).cell? ⟨B, i * 3 + 2, none⟩ = some (.int .i64 e.u) ∧ ((w.alloc (.cells #[.int .i64 ((i : Int) + 1), .int .i64 e.d, .int .i64 e.u] 43)).drew).frozen? ⟨B, i * 3 + 2, none⟩ = false) := ⟨hC2, hF2⟩
  have HW5 : Hid (∃ W5, W5 = ((w.alloc (.cells #[.int .i64 ((i : Int) + 1), .int .i64 e.d, .int .i64 e.u] 43)).drew.setCell ⟨B, i * 3 + 2, none⟩ (.int .i64 0)) ∧ Blk W5 G 60 #[.slice (some ⟨B, 0, none⟩) l.length c, .map (some b)] ∧ Blk W5 w.heap.size 43 #[.int .i64 ((i : Int) + 1), .int .i64 e.d, .int .i64 e.u] ∧ W5.ownsMap Try.prog 3 numR b m D ∧
      ∀ w6 : World, w6.ownsMap Try.prog 3 numR b m (D.del (.int .i64 e.d)) → Chg (fun q => q = b) W5 w6 → LeT w6 lo G b (.slice (some ⟨B, 0, none⟩) l.length c) (l.set i e.off) ∧ Chg (LeM G b (.slice (some ⟨B, 0, none⟩) l.length c)) w w6) := by
    refine ⟨_, rfl, hh5.drew, kX5.drew, hown5.drew, fun w6 ho6 hc6 => ?_⟩
    have hrow6 : LeR w6 lo (.slice (some ⟨B, 0, none⟩) l.length c) (l.set i e.off) := hr5d.chg hc6 (fun q e2 e3 => h.nb (by rw [← e3]; exact e2))
    refine ⟨⟨(hh5.drew).chg hc6 (fun e2 => h.ne e2), hrow6, ⟨m, _, ho6, hH.del (hown.tidy keyE) h.ok hi hu, by rw [List.length_set]; exact hmD⟩, ?_, h.gG, h.gb, h.nG, h.nb, h.ne⟩, ?_⟩
    · exact h.ok.set hi 0 (by omega) (by omega) (fun h0 => absurd h0 (by omega))
    · have hcw : Chg (LeM G b (.slice (some ⟨B, 0, none⟩) l.length c)) w ((w.alloc (.cells #[.int .i64 ((i : Int) + 1), .int .i64 e.d, .int .i64 e.u] 43)).setCell ⟨B, i * 3 + 2, none⟩ (.int .i64 0)) := (Chg.of_below hB (Nat.le_refl _)).trans (S' := fun q => q = B) hc5 (fun q _ e2 => .inr (.inr (by rw [e2]; rfl)))
      exact (hcw.drew).trans (S' := fun q => q = b) hc6 (fun q _ e2 => .inr (.inl e2))
  clear hr5d hc5 hGB hbB hh5 kX5 hown hH hmD hown5 hC2 hF2 hcell h1 hB kX hBl hBlo hbl hGl hBl0 h hed hi
  rw [show leV e = .agg #[.int .i64 ((i : Int) + 1), .int .i64 e.d, .int .i64 e.u] from by unfold leV leL; rw [hn]]
  unfold LE.off at *
  obtain ⟨en, ed, eu⟩ := e
  dsimp only at *
  clear hn hu
  go_enter Try.func37, Try.ntmps37
  go_wp2_with fail
  refine held_begin (fun V => V.cell? ⟨G, 0, none⟩ = some (.slice (some ⟨B, 0, none⟩) l.length c) ∧ V.cell? ⟨w.heap.size, 0, none⟩ = some (.int .i64 ((i : Int) + 1))) (by kernel_rfl) ?_
  refine held_take 0 4 _ (.pointer (some ⟨G, 0, none⟩)) rfl rfl (by kernel_rfl) (by kernel_rfl) (by kernel_rfl) rfl hS0 (fun _ _ => rfl) ?_
  simp only [Act.put, List.setIfInBounds_toArray, List.set_cons_succ, List.set_cons_zero]
  refine held_take 1 5 _ (.pointer (some ⟨G, 0, none⟩)) rfl rfl (by kernel_rfl) (by kernel_rfl) (by kernel_rfl) rfl hS0 (fun _ _ => rfl) ?_
  simp only [Act.put, List.setIfInBounds_toArray, List.set_cons_succ, List.set_cons_zero]
  refine held_take 2 6 _ (.pointer (some ⟨G, 0, none⟩)) rfl rfl (by kernel_rfl) (by kernel_rfl) (by kernel_rfl) rfl hS0 (fun _ _ => rfl) ?_
  simp only [Act.put, List.setIfInBounds_toArray, List.set_cons_succ, List.set_cons_zero]
  refine held_take 3 7 _ (.slice (some ⟨B, 0, none⟩) l.length c) rfl rfl (by kernel_rfl) (by kernel_rfl) (by kernel_rfl) rfl hS0 (fun V hV => exec_loadc 27 _ rfl _ _ rfl (load_one 27 (fun _ => by kernel_rfl) V _ _ _ hV.1)) ?_
  simp only [Act.put, List.setIfInBounds_toArray, List.set_cons_succ, List.set_cons_zero]
  refine held_take 4 8 _ (.pointer (some ⟨w.heap.size, 0, none⟩)) rfl rfl (by kernel_rfl) (by kernel_rfl) (by kernel_rfl) rfl hS0 (fun _ _ => rfl) ?_
  simp only [Act.put, List.setIfInBounds_toArray, List.set_cons_succ, List.set_cons_zero]
  refine held_take 5 9 _ (.int .i64 ((i : Int) + 1)) rfl rfl (by kernel_rfl) (by kernel_rfl) (by kernel_rfl) rfl hS0 (fun V hV => exec_loadc 3 _ rfl _ _ rfl (load_one 3 (fun _ => by kernel_rfl) V _ _ _ hV.2)) ?_
  simp only [Act.put, List.setIfInBounds_toArray, List.set_cons_succ, List.set_cons_zero]
  refine held_take 6 10 _ (.int .i64 (i : Int)) rfl rfl (by kernel_rfl) (by kernel_rfl) (by kernel_rfl) rfl hS0 (fun V hV => (exec_subi 3 _ _ rfl ((i : Int) + 1) 1 rfl rfl (by omega) (by omega)).trans (by rw [HSUB.out])) ?_
  simp only [Act.put, List.setIfInBounds_toArray, List.set_cons_succ, List.set_cons_zero]
  refine held_take 7 11 _ (.pointer (some ⟨B, i * 3, none⟩)) rfl rfl (by kernel_rfl) (by kernel_rfl) (by kernel_rfl) rfl hS0 (fun V hV => exec_indexat 27 _ _ rfl (.slice (some ⟨B, 0, none⟩) l.length c) (.int .i64 (i : Int)) _ rfl rfl (HIX.out V)) ?_
  simp only [Act.put, List.setIfInBounds_toArray, List.set_cons_succ, List.set_cons_zero]
  refine held_take 8 12 _ (.pointer (some ⟨B, i * 3 + 2, none⟩)) rfl rfl (by kernel_rfl) (by kernel_rfl) (by kernel_rfl) rfl hS0 (fun _ _ => rfl) ?_
  simp only [Act.put, List.setIfInBounds_toArray, List.set_cons_succ, List.set_cons_zero]
  refine held_all1 9 (by kernel_rfl) (op_skip 9 _ (((w.alloc (.cells #[.int .i64 ((i : Int) + 1), .int .i64 ed, .int .i64 eu] 43)).drew).setCell ⟨B, i * 3 + 2, none⟩ (.int .i64 0)) rfl rfl rfl (exec_storeiE _ _ rfl B (i * 3 + 2) 0 _ rfl rfl HC2.out.1 HC2.out.2) ⟨HS1.out, ?_⟩)
  refine wpAnyH_done (by kernel_rfl) ?_ _
  refine NoPanic.normal ?_
  obtain ⟨W5, hW5, k1, k2, k3, k4⟩ := HW5.out
  rw [← hW5]
  clear hW5 HW5 HC2 HS1 hS0
  have HOW : Hid (W5.ownsMap Try.prog 3 numR b m D) := k3
  have HFIN : Hid (∀ w6 : World, w6.ownsMap Try.prog 3 numR b m (D.del (.int .i64 ed)) → Chg (fun q => q = b) W5 w6 → LeT w6 lo G b (.slice (some ⟨B, 0, none⟩) l.length c) (l.set i ⟨en, ed, 0⟩) ∧ Chg (LeM G b (.slice (some ⟨B, 0, none⟩) l.length c)) w w6) := k4
  have HBK : Hid (Blk W5 G 60 #[.slice (some ⟨B, 0, none⟩) l.length c, .map (some b)] ∧ Blk W5 w.heap.size 43 #[.int .i64 ((i : Int) + 1), .int .i64 ed, .int .i64 eu]) := ⟨k1, k2⟩
  have hS0 : (fun V : World => V.cell? ⟨G, 1, none⟩ = some (.map (some b)) ∧ V.cell? ⟨w.heap.size, 1, none⟩ = some (.int .i64 ed)) W5.drew := ⟨k1.cell (j := 1) rfl, k2.cell (j := 1) rfl⟩
  clear k1 k2 k3 k4
  go_wp2_with fail
  refine held_begin (fun V => V.cell? ⟨G, 1, none⟩ = some (.map (some b)) ∧ V.cell? ⟨w.heap.size, 1, none⟩ = some (.int .i64 ed)) (by kernel_rfl) ?_
  refine held_take 0 13 _ (.pointer (some ⟨G, 0, none⟩)) rfl rfl (by kernel_rfl) (by kernel_rfl) (by kernel_rfl) rfl hS0 (fun _ _ => rfl) ?_
  simp only [Act.put, List.setIfInBounds_toArray, List.set_cons_succ, List.set_cons_zero]
  refine held_take 1 14 _ (.pointer (some ⟨G, 0, none⟩)) rfl rfl (by kernel_rfl) (by kernel_rfl) (by kernel_rfl) rfl hS0 (fun _ _ => rfl) ?_
  simp only [Act.put, List.setIfInBounds_toArray, List.set_cons_succ, List.set_cons_zero]
  refine held_take 2 15 _ (.pointer (some ⟨G, 1, none⟩)) rfl rfl (by kernel_rfl) (by kernel_rfl) (by kernel_rfl) rfl hS0 (fun _ _ => rfl) ?_
  simp only [Act.put, List.setIfInBounds_toArray, List.set_cons_succ, List.set_cons_zero]
  refine held_take 3 16 _ (.map (some b)) rfl rfl (by kernel_rfl) (by kernel_rfl) (by kernel_rfl) rfl hS0 (fun V hV => exec_loadc 49 _ rfl _ _ rfl (load_one 49 (fun _ => by kernel_rfl) V _ _ _ hV.1)) ?_
  simp only [Act.put, List.setIfInBounds_toArray, List.set_cons_succ, List.set_cons_zero]
  refine held_take 4 17 _ (.pointer (some ⟨w.heap.size, 1, none⟩)) rfl rfl (by kernel_rfl) (by kernel_rfl) (by kernel_rfl) rfl hS0 (fun _ _ => rfl) ?_
  simp only [Act.put, List.setIfInBounds_toArray, List.set_cons_succ, List.set_cons_zero]
  refine held_take 5 18 _ (.int .i64 ed) rfl rfl (by kernel_rfl) (by kernel_rfl) (by kernel_rfl) rfl hS0 (fun V hV => exec_loadc 3 _ rfl _ _ rfl (load_one 3 (fun _ => by kernel_rfl) V _ _ _ hV.2)) ?_
  simp only [Act.put, List.setIfInBounds_toArray, List.set_cons_succ, List.set_cons_zero]
  obtain ⟨w6, hrun, hown6, htu6⟩ := HOW.out.drew.drop keyE Try.underlying49 HKE.out _
  refine held_all1 6 (by kernel_rfl) (op_void 6 _ (.tuple #[]) w6 rfl rfl rfl (exec_delE _ _ rfl (.map (some b)) (.int .i64 ed) rfl rfl hrun) ⟨?_, ?_⟩)
  · have hc6 : Chg (fun q => q = b) W5 w6 := chg_undrew (Chg.of_grown htu6.grown (fun k e2 => (Option.some.inj e2).symm))
    obtain ⟨f1, f2⟩ := HFIN.out w6 hown6 hc6
    exact ⟨f1.head.cell (j := 1) rfl, (HBK.out.2.chg hc6 (HNB.out)).cell (j := 1) rfl⟩
  · have hc6 : Chg (fun q => q = b) W5 w6 := chg_undrew (Chg.of_grown htu6.grown (fun k e2 => (Option.some.inj e2).symm))
    refine wpAnyH_done (by kernel_rfl) ?_ _
    refine NoPanic.normal ?_
    go_wp2
    go_end0
    exact ⟨rfl, HFIN.out w6 hown6 hc6⟩
end Go.Proofs.Ythlohlomefiebaa
