/-
  What is proved here: BootNext: of any record boot.Right and boot.Next answer what the document's do.
  Conditions: the variable fourBits holds the sixteen words.
-/
import Derived.Test.YtlnekjilafcojaaDoorJRefBootNext
import Derived.Test.YtlnekjilafcojaaDoorJBootEq
namespace Go.Proofs.YtlnekjilafcojaaDoor
open Go.RowKit

theorem exec_eqb9 {a : Act} {o : Oper} {w : World} (t : TypeId) (x y : Operand) (ho : o.op = .binOp .eql t x y t) (u v r : Value) (hx : a.eval x = u) (hy : a.eval y = v) (hg : ∀ w, (eqGuard .eql t x y u v).run Tryd.prog w = .ok () w) (h : ∀ w, (binOp .eql t u v).run Tryd.prog w = .ok r w) : (execOp a.eval o).run Tryd.prog w = .ok (.value r) w := exec_cmp .eql t t x y ho (.inr rfl) u v r hx hy (hg w) (h w)

set_option maxRecDepth 100000 in
set_option maxHeartbeats 8000000 in
theorem bootNext_any (b : BR) (most : Int) (w : World) (hgf : 1 < w.heap.size) (hf : Tab w 1 (fours.map v32)) : Calls Tryd.prog 3 #[brV b, .int .i64 most] w fun e w' => e = .returned (.bool true) ∧ Below w.heap.size w w' := by
  have hB0 := (Below.refl w.heap.size w).alloc (Nat.le_refl _) (.cells (brL b) 24)
  have k2 := Blk.new w 24 (brL b)
  have HA : Hid (Calls Tryd.prog 9 #[] (w.alloc (.cells (brL b) 24)) fun e w' => e = .returned (.bool true) ∧ Below (w.alloc (.cells (brL b) 24)).heap.size (w.alloc (.cells (brL b) 24)) w') := awake9_any _ (Nat.lt_of_lt_of_le hgf hB0.size) (hf.below hB0 hgf)
  have HNX : Hid (∀ W, Calls Tryd.prog 10 #[brV b, .int .i64 most] W fun e w' => e = .returned (.tuple #[brV (nextR b most).1, .int .i64 (nextR b most).2]) ∧ Below W.heap.size W w') := fun W => next9_any b most W
  have HRN : Hid (∀ W, Calls Tryd.prog 11 #[brV b, .int .i64 most] W fun e w' => e = .returned (.tuple #[brV (nextR b most).1, .int .i64 (nextR b most).2]) ∧ Below W.heap.size W w') := fun W => rnext9_any b most W
  have HRG : Hid (∀ W, Calls Tryd.prog 12 #[brV b] W fun e w' => e = .returned (.bool (rightR b)) ∧ Below W.heap.size W w') := fun W => right9_any b W
  have HRR : Hid (∀ W, Calls Tryd.prog 13 #[brV b] W fun e w' => e = .returned (.bool (rightR b)) ∧ Below W.heap.size W w') := fun W => rright9_any b W
  clear hf
  generalize nextR b most = NX at *
  obtain ⟨⟨xa, xt, xr, x0, x1⟩, sl⟩ := NX
  generalize rightR b = RB at *
  obtain ⟨a, t, r, v0, v1⟩ := b
  have heb : ∀ w, (binOp .eql 24 (.agg #[.int .i64 xa, .int .i64 xt, .int .i64 xr, .int .i64 x0, .int .i64 x1]) (.agg #[.int .i64 xa, .int .i64 xt, .int .i64 xr, .int .i64 x0, .int .i64 x1])).run Tryd.prog w = .ok (.bool true) w := fun w => by rw [eq_br]; simp
  have HEB : Hid (∀ w, (binOp .eql 24 (.agg #[.int .i64 xa, .int .i64 xt, .int .i64 xr, .int .i64 x0, .int .i64 x1]) (.agg #[.int .i64 xa, .int .i64 xt, .int .i64 xr, .int .i64 x0, .int .i64 x1])).run Tryd.prog w = .ok (.bool true) w) := heb
  clear heb
  unfold brV brL at *
  simp only at *
  go_enter Tryd.func3, Tryd.ntmps3
  go_wp2_with fail
  refine HA.out.mono ?_
  rintro e w1 ⟨rfl, hb1⟩
  clear HA
  have m2 := k2.below hb1 k2.lt
  have hB1 : Below w.heap.size w w1 := hB0.trans (hb1.mono hB0.size)
  obtain ⟨B0, hBe⟩ : ∃ B0, B0 = w.heap.size := ⟨_, rfl⟩
  have hBw : w.heap.size ≤ B0 := by omega
  rw [← hBe] at m2 ⊢
  clear hBe k2 hb1 hB0
  have c0 : w1.cell? ⟨B0, 0, none⟩ = some (.int .i64 a) := m2.cell (j := 0) rfl
  have c1 : w1.cell? ⟨B0, 1, none⟩ = some (.int .i64 t) := m2.cell (j := 1) rfl
  have c2 : w1.cell? ⟨B0, 2, none⟩ = some (.int .i64 r) := m2.cell (j := 2) rfl
  have c3 : w1.cell? ⟨B0, 3, none⟩ = some (.int .i64 v0) := m2.cell (j := 3) rfl
  have c4 : w1.cell? ⟨B0, 4, none⟩ = some (.int .i64 v1) := m2.cell (j := 4) rfl
  go_wp2_with fail
  refine (HNX.out _).mono ?_
  rintro e w2 ⟨rfl, hb2⟩
  clear HNX c0 c1 c2 c3 c4
  have hb3 := (Below.refl w2.heap.size w2).alloc (Nat.le_refl _) (.cells #[.int .i64 xa, .int .i64 xt, .int .i64 xr, .int .i64 x0, .int .i64 x1] 24)
  have k6 := Blk.new w2 24 #[.int .i64 xa, .int .i64 xt, .int .i64 xr, .int .i64 x0, .int .i64 x1]
  have q2 := (m2.below hb2 m2.lt).below hb3 (Nat.lt_of_lt_of_le m2.lt hb2.size)
  have hB3 : Below w.heap.size w (w2.alloc (.cells #[.int .i64 xa, .int .i64 xt, .int .i64 xr, .int .i64 x0, .int .i64 x1] 24)) := (hB1.trans (hb2.mono hB1.size)).trans (hb3.mono (Nat.le_trans hB1.size hb2.size))
  obtain ⟨B6, hB6⟩ : ∃ B6, B6 = w2.heap.size := ⟨_, rfl⟩
  rw [← hB6] at k6
  have c0 : (w2.alloc (.cells #[.int .i64 xa, .int .i64 xt, .int .i64 xr, .int .i64 x0, .int .i64 x1] 24)).cell? ⟨B0, 0, none⟩ = some (.int .i64 a) := q2.cell (j := 0) rfl
  have c1 : (w2.alloc (.cells #[.int .i64 xa, .int .i64 xt, .int .i64 xr, .int .i64 x0, .int .i64 x1] 24)).cell? ⟨B0, 1, none⟩ = some (.int .i64 t) := q2.cell (j := 1) rfl
  have c2 : (w2.alloc (.cells #[.int .i64 xa, .int .i64 xt, .int .i64 xr, .int .i64 x0, .int .i64 x1] 24)).cell? ⟨B0, 2, none⟩ = some (.int .i64 r) := q2.cell (j := 2) rfl
  have c3 : (w2.alloc (.cells #[.int .i64 xa, .int .i64 xt, .int .i64 xr, .int .i64 x0, .int .i64 x1] 24)).cell? ⟨B0, 3, none⟩ = some (.int .i64 v0) := q2.cell (j := 3) rfl
  have c4 : (w2.alloc (.cells #[.int .i64 xa, .int .i64 xt, .int .i64 xr, .int .i64 x0, .int .i64 x1] 24)).cell? ⟨B0, 4, none⟩ = some (.int .i64 v1) := q2.cell (j := 4) rfl
  go_wp2_with fail
  rw [← hB6]
  refine (HRN.out _).mono ?_
  rintro e w4 ⟨rfl, hb4⟩
  clear HRN hB6 c0 c1 c2 c3 c4 hb3 hb2 m2 hB1
  have hb5 := (Below.refl w4.heap.size w4).alloc (Nat.le_refl _) (.cells #[.int .i64 xa, .int .i64 xt, .int .i64 xr, .int .i64 x0, .int .i64 x1] 24)
  have k8 := Blk.new w4 24 #[.int .i64 xa, .int .i64 xt, .int .i64 xr, .int .i64 x0, .int .i64 x1]
  have r2 := (q2.below hb4 q2.lt).below hb5 (Nat.lt_of_lt_of_le q2.lt hb4.size)
  have r6 := (k6.below hb4 k6.lt).below hb5 (Nat.lt_of_lt_of_le k6.lt hb4.size)
  have hB5 : Below w.heap.size w (w4.alloc (.cells #[.int .i64 xa, .int .i64 xt, .int .i64 xr, .int .i64 x0, .int .i64 x1] 24)) := (hB3.trans (hb4.mono hB3.size)).trans (hb5.mono (Nat.le_trans hB3.size hb4.size))
  obtain ⟨B8, hB8⟩ : ∃ B8, B8 = w4.heap.size := ⟨_, rfl⟩
  rw [← hB8] at k8
  clear q2 k6 hb4 hB3 hb5
  go_wp2_with fail
  rw [← hB8]
  clear hB8
  generalize w4.alloc (.cells #[.int .i64 xa, .int .i64 xt, .int .i64 xr, .int .i64 x0, .int .i64 x1] 24) = W5 at *
  have HCL : Hid (∀ V, Below W5.heap.size W5 V → V.rangeAt B0 0 [.int .i64 a, .int .i64 t, .int .i64 r, .int .i64 v0, .int .i64 v1] ∧ V.rangeAt B6 0 [.int .i64 xa, .int .i64 xt, .int .i64 xr, .int .i64 x0, .int .i64 x1] ∧ V.rangeAt B8 0 [.int .i64 xa, .int .i64 xt, .int .i64 xr, .int .i64 x0, .int .i64 x1]) := fun V hV => ⟨(r2.below hV r2.lt).range', (r6.below hV r6.lt).range', (k8.below hV k8.lt).range'⟩
  have hx0 : Below W5.heap.size W5 W5.drew := (Below.refl _ _).drew
  have hS0 := HCL.out W5.drew hx0
  refine held_begin (fun V => V.rangeAt B0 0 [.int .i64 a, .int .i64 t, .int .i64 r, .int .i64 v0, .int .i64 v1] ∧ V.rangeAt B6 0 [.int .i64 xa, .int .i64 xt, .int .i64 xr, .int .i64 x0, .int .i64 x1] ∧ V.rangeAt B8 0 [.int .i64 xa, .int .i64 xt, .int .i64 xr, .int .i64 x0, .int .i64 x1]) (by kernel_rfl) ?_
  refine held_take 0 23 _ (.bool true) rfl rfl (by kernel_rfl) (by kernel_rfl) (by kernel_rfl) rfl hS0 (fun _ _ => rfl) ?_
  simp only [Act.put, List.setIfInBounds_toArray, List.set_cons_succ, List.set_cons_zero]
  refine held_take 1 24 _ (.bool true) rfl rfl (by kernel_rfl) (by kernel_rfl) (by kernel_rfl) rfl hS0 (fun _ _ => rfl) ?_
  simp only [Act.put, List.setIfInBounds_toArray, List.set_cons_succ, List.set_cons_zero]
  refine held_take 2 25 _ (.agg #[.int .i64 a, .int .i64 t, .int .i64 r, .int .i64 v0, .int .i64 v1]) rfl rfl (by kernel_rfl) (by kernel_rfl) (by kernel_rfl) rfl hS0 (fun V hV => exec_loads 24 _ rfl B0 0 rfl [.int .i64 a, .int .i64 t, .int .i64 r, .int .i64 v0, .int .i64 v1] _ hV.1 Tryd.underlying24 rfl info_boot9) ?_
  simp only [Act.put, List.setIfInBounds_toArray, List.set_cons_succ, List.set_cons_zero]
  refine held_take 4 27 _ (.agg #[.int .i64 a, .int .i64 t, .int .i64 r, .int .i64 v0, .int .i64 v1]) rfl rfl (by kernel_rfl) (by kernel_rfl) (by kernel_rfl) rfl hS0 (fun V hV => exec_loads 24 _ rfl B0 0 rfl [.int .i64 a, .int .i64 t, .int .i64 r, .int .i64 v0, .int .i64 v1] _ hV.1 Tryd.underlying24 rfl info_boot9) ?_
  simp only [Act.put, List.setIfInBounds_toArray, List.set_cons_succ, List.set_cons_zero]
  refine held_all1 3 (by kernel_rfl) (op_call 3 26 _ 12 #[.agg #[.int .i64 a, .int .i64 t, .int .i64 r, .int .i64 v0, .int .i64 v1]] rfl rfl rfl (exec_one 12 _ _ rfl _ rfl Tryd.call12) ((HRG.out _).mono ?_))
  rintro e W6 ⟨rfl, hb6⟩
  have hx6 : Below W5.heap.size W5 W6 := hx0.trans hb6
  have hS6 := HCL.out W6 hx6
  refine ⟨_, rfl, hS6, ?_⟩
  simp only [Act.put, List.setIfInBounds_toArray, List.set_cons_succ, List.set_cons_zero]
  refine held_all1 5 (by kernel_rfl) (op_call 5 28 _ 13 #[.agg #[.int .i64 a, .int .i64 t, .int .i64 r, .int .i64 v0, .int .i64 v1]] rfl rfl rfl (exec_one 13 _ _ rfl _ rfl Tryd.call13) ((HRR.out _).mono ?_))
  rintro e W7 ⟨rfl, hb7⟩
  have hx7 : Below W5.heap.size W5 W7 := hx6.trans (hb7.mono hx6.size)
  have hS7 := HCL.out W7 hx7
  refine ⟨_, rfl, hS7, ?_⟩
  simp only [Act.put, List.setIfInBounds_toArray, List.set_cons_succ, List.set_cons_zero]
  refine held_take 6 29 _ (.bool true) rfl rfl (by kernel_rfl) (by kernel_rfl) (by kernel_rfl) rfl hS7 (fun V _ => exec_eqb9 4 _ _ rfl (.bool RB) (.bool RB) _ rfl rfl (fun _ => by cases RB <;> kernel_rfl) (fun _ => by cases RB <;> kernel_rfl)) ?_
  simp only [Act.put, List.setIfInBounds_toArray, List.set_cons_succ, List.set_cons_zero]
  refine held_take 7 30 _ (.bool true) rfl rfl (by kernel_rfl) (by kernel_rfl) (by kernel_rfl) rfl hS7 (fun _ _ => rfl) ?_
  simp only [Act.put, List.setIfInBounds_toArray, List.set_cons_succ, List.set_cons_zero]
  refine held_take 8 31 _ (.bool true) rfl rfl (by kernel_rfl) (by kernel_rfl) (by kernel_rfl) rfl hS7 (fun _ _ => rfl) ?_
  simp only [Act.put, List.setIfInBounds_toArray, List.set_cons_succ, List.set_cons_zero]
  refine held_take 9 32 _ (.agg #[.int .i64 xa, .int .i64 xt, .int .i64 xr, .int .i64 x0, .int .i64 x1]) rfl rfl (by kernel_rfl) (by kernel_rfl) (by kernel_rfl) rfl hS7 (fun V hV => exec_loads 24 _ rfl B6 0 rfl [.int .i64 xa, .int .i64 xt, .int .i64 xr, .int .i64 x0, .int .i64 x1] _ hV.2.1 Tryd.underlying24 rfl info_boot9) ?_
  simp only [Act.put, List.setIfInBounds_toArray, List.set_cons_succ, List.set_cons_zero]
  refine held_take 10 33 _ (.agg #[.int .i64 xa, .int .i64 xt, .int .i64 xr, .int .i64 x0, .int .i64 x1]) rfl rfl (by kernel_rfl) (by kernel_rfl) (by kernel_rfl) rfl hS7 (fun V hV => exec_loads 24 _ rfl B8 0 rfl [.int .i64 xa, .int .i64 xt, .int .i64 xr, .int .i64 x0, .int .i64 x1] _ hV.2.2 Tryd.underlying24 rfl info_boot9) ?_
  simp only [Act.put, List.setIfInBounds_toArray, List.set_cons_succ, List.set_cons_zero]
  refine held_take 11 34 _ (.bool true) rfl rfl (by kernel_rfl) (by kernel_rfl) (by kernel_rfl) rfl hS7 (fun V _ => exec_eqb9 24 _ _ rfl (.agg #[.int .i64 xa, .int .i64 xt, .int .i64 xr, .int .i64 x0, .int .i64 x1]) (.agg #[.int .i64 xa, .int .i64 xt, .int .i64 xr, .int .i64 x0, .int .i64 x1]) (.bool true) rfl rfl (fun w => run_eqGuard_agg w .eql 24 _ _ _ _ (by kernel_rfl)) HEB.out) ?_
  simp only [Act.put, List.setIfInBounds_toArray, List.set_cons_succ, List.set_cons_zero]
  refine held_take 12 35 _ (.bool true) rfl rfl (by kernel_rfl) (by kernel_rfl) (by kernel_rfl) rfl hS7 (fun _ _ => rfl) ?_
  simp only [Act.put, List.setIfInBounds_toArray, List.set_cons_succ, List.set_cons_zero]
  refine held_take 13 36 _ (.bool true) rfl rfl (by kernel_rfl) (by kernel_rfl) (by kernel_rfl) rfl hS7 (fun _ _ => rfl) ?_
  simp only [Act.put, List.setIfInBounds_toArray, List.set_cons_succ, List.set_cons_zero]
  refine held_take 14 37 _ (.int .i64 sl) rfl rfl (by kernel_rfl) (by kernel_rfl) (by kernel_rfl) rfl hS7 (fun _ _ => rfl) ?_
  simp only [Act.put, List.setIfInBounds_toArray, List.set_cons_succ, List.set_cons_zero]
  refine held_take 15 38 _ (.int .i64 sl) rfl rfl (by kernel_rfl) (by kernel_rfl) (by kernel_rfl) rfl hS7 (fun _ _ => rfl) ?_
  simp only [Act.put, List.setIfInBounds_toArray, List.set_cons_succ, List.set_cons_zero]
  refine held_take 16 39 _ (.bool true) rfl rfl (by kernel_rfl) (by kernel_rfl) (by kernel_rfl) rfl hS7 (fun V _ => exec_eql7 3 _ _ rfl sl sl _ rfl rfl (fun _ => by kernel_rfl) (by simp)) ?_
  simp only [Act.put, List.setIfInBounds_toArray, List.set_cons_succ, List.set_cons_zero]
  refine held_take 17 40 _ (.bool true) rfl rfl (by kernel_rfl) (by kernel_rfl) (by kernel_rfl) rfl hS7 (fun _ _ => rfl) ?_
  simp only [Act.put, List.setIfInBounds_toArray, List.set_cons_succ, List.set_cons_zero]
  refine held_take 18 4 _ (.bool true) rfl rfl (by kernel_rfl) (by kernel_rfl) (by kernel_rfl) rfl hS7 (fun _ _ => rfl) ?_
  simp only [Act.put, List.setIfInBounds_toArray, List.set_cons_succ, List.set_cons_zero]
  refine wpAnyH_done (by kernel_rfl) ?_ _
  refine NoPanic.normal ?_
  go_wp2
  go_ret
  exact ⟨rfl, hB5.trans (hx7.mono hB5.size)⟩
end Go.Proofs.YtlnekjilafcojaaDoor
