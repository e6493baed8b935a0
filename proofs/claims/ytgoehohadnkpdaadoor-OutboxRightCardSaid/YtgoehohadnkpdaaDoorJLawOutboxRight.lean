/-
  What is proved here: outbox.Right tells of any report what the document's own tells.
  Conditions: the variable fourBits holds the sixteen words.
-/
import Derived.Test.YtgoehohadnkpdaaDoorJOutBC
namespace Go.Proofs.YtgoehohadnkpdaaDoor
open Go.RowKit

set_option maxRecDepth 100000 in
set_option maxHeartbeats 4000000 in
theorem outboxRight_any (r : RP) (w : World) (hgf : 1 < w.heap.size) (hf : Tab w 1 (fours.map v32)) : Calls Tryd.prog 3 #[rpV r] w fun e w' => e = .returned (.bool true) ∧ Below w.heap.size w w' := by
  have hbA := (Below.refl w.heap.size w).alloc (Nat.le_refl _) (.cells (rpL r).toArray 23)
  have kR := Blk.new w 23 (rpL r).toArray
  have HAW : Hid (Calls Tryd.prog 8 #[] (w.alloc (.cells (rpL r).toArray 23)) fun e w' => e = .returned (.bool true) ∧ Below (w.alloc (.cells (rpL r).toArray 23)).heap.size (w.alloc (.cells (rpL r).toArray 23)) w') := awakeX _ (Nat.lt_of_lt_of_le hgf hbA.size) (hf.below hbA hgf)
  have HR1 : Hid (∀ W, Calls Tryd.prog 9 #[rpV r] W fun e w' => e = .returned (.bool (rightO r)) ∧ Below W.heap.size W w') := rightX r
  have HR2 : Hid (∀ W, Calls Tryd.prog 10 #[rpV r] W fun e w' => e = .returned (.bool (rightO r)) ∧ Below W.heap.size W w') := refRightX r
  generalize rightO r = RB at *
  have HRP : Hid (rpL r = [.int .i64 r.c, .int .i64 r.l, .int .i64 r.v, .int .i64 r.o]) := rfl
  unfold rpV at *
  rw [HRP.out] at hbA kR HAW HR1 HR2 ⊢
  obtain ⟨Br, hBr⟩ : ∃ B, B = w.heap.size := ⟨_, rfl⟩
  rw [← hBr] at kR
  go_enter Tryd.func3, Tryd.ntmps3
  go_wp2_with fail
  rw [← hBr]
  refine HAW.out.mono ?_
  rintro e w1 ⟨rfl, hb1⟩
  have hB1 : Below w.heap.size w w1 := hbA.trans (hb1.mono hbA.size)
  have kR1 := kR.below hb1 kR.lt
  clear hBr kR HAW hbA hb1
  go_wp2_with fail
  have HCL : Hid (∀ V, Below w1.heap.size w1 V → V.rangeAt Br 0 [.int .i64 r.c, .int .i64 r.l, .int .i64 r.v, .int .i64 r.o]) := fun V hV => (kR1.below hV kR1.lt).range'
  have hS0 := HCL.out w1.drew (Below.refl _ _).drew
  refine held_begin (fun V => V.rangeAt Br 0 [.int .i64 r.c, .int .i64 r.l, .int .i64 r.v, .int .i64 r.o]) (by kernel_rfl) ?_
  refine held_take 0 5 _ (.bool true) rfl rfl (by kernel_rfl) (by kernel_rfl) (by kernel_rfl) rfl hS0 (fun _ _ => rfl) ?_
  simp only [Act.put, List.setIfInBounds_toArray, List.set_cons_succ, List.set_cons_zero]
  refine held_take 1 6 _ (.bool true) rfl rfl (by kernel_rfl) (by kernel_rfl) (by kernel_rfl) rfl hS0 (fun _ _ => rfl) ?_
  simp only [Act.put, List.setIfInBounds_toArray, List.set_cons_succ, List.set_cons_zero]
  refine held_take 2 7 _ (.agg #[.int .i64 r.c, .int .i64 r.l, .int .i64 r.v, .int .i64 r.o]) rfl rfl (by kernel_rfl) (by kernel_rfl) (by kernel_rfl) rfl hS0 (fun V hV => exec_loads 23 _ rfl Br 0 rfl [.int .i64 r.c, .int .i64 r.l, .int .i64 r.v, .int .i64 r.o] _ hV Tryd.underlying23 rfl info_rep12) ?_
  simp only [Act.put, List.setIfInBounds_toArray, List.set_cons_succ, List.set_cons_zero]
  refine held_take 4 9 _ (.agg #[.int .i64 r.c, .int .i64 r.l, .int .i64 r.v, .int .i64 r.o]) rfl rfl (by kernel_rfl) (by kernel_rfl) (by kernel_rfl) rfl hS0 (fun V hV => exec_loads 23 _ rfl Br 0 rfl [.int .i64 r.c, .int .i64 r.l, .int .i64 r.v, .int .i64 r.o] _ hV Tryd.underlying23 rfl info_rep12) ?_
  simp only [Act.put, List.setIfInBounds_toArray, List.set_cons_succ, List.set_cons_zero]
  refine held_all1 3 (by kernel_rfl) (op_call 3 8 _ 9 #[.agg #[.int .i64 r.c, .int .i64 r.l, .int .i64 r.v, .int .i64 r.o]] rfl rfl rfl (exec_one 9 _ _ rfl _ rfl Tryd.call9) ((HR1.out _).mono ?_))
  rintro e w2 ⟨rfl, hb2⟩
  have hB2 : Below w1.heap.size w1 w2 := ((Below.refl w1.heap.size w1).drew).trans hb2
  have hS2 := HCL.out w2 hB2
  refine ⟨_, rfl, hS2, ?_⟩
  simp only [Act.put, List.setIfInBounds_toArray, List.set_cons_succ, List.set_cons_zero]
  refine held_all1 5 (by kernel_rfl) (op_call 5 10 _ 10 #[.agg #[.int .i64 r.c, .int .i64 r.l, .int .i64 r.v, .int .i64 r.o]] rfl rfl rfl (exec_one 10 _ _ rfl _ rfl Tryd.call10) ((HR2.out _).mono ?_))
  rintro e w3 ⟨rfl, hb3⟩
  have hB3 : Below w1.heap.size w1 w3 := hB2.trans (hb3.mono hB2.size)
  have hS3 := HCL.out w3 hB3
  refine ⟨_, rfl, hS3, ?_⟩
  simp only [Act.put, List.setIfInBounds_toArray, List.set_cons_succ, List.set_cons_zero]
  refine held_take 6 11 _ (.bool true) rfl rfl (by kernel_rfl) (by kernel_rfl) (by kernel_rfl) rfl hS3 (fun V _ => exec_cmp .eql 4 4 _ _ rfl (.inr rfl) (.bool RB) (.bool RB) _ rfl rfl (by kernel_rfl) (eql_bool_self V RB)) ?_
  simp only [Act.put, List.setIfInBounds_toArray, List.set_cons_succ, List.set_cons_zero]
  refine held_take 7 12 _ (.bool true) rfl rfl (by kernel_rfl) (by kernel_rfl) (by kernel_rfl) rfl hS3 (fun _ _ => rfl) ?_
  simp only [Act.put, List.setIfInBounds_toArray, List.set_cons_succ, List.set_cons_zero]
  refine held_take 8 2 _ (.bool true) rfl rfl (by kernel_rfl) (by kernel_rfl) (by kernel_rfl) rfl hS3 (fun _ _ => rfl) ?_
  simp only [Act.put, List.setIfInBounds_toArray, List.set_cons_succ, List.set_cons_zero]
  refine wpAnyH_done (by kernel_rfl) ?_ _
  refine NoPanic.normal ?_
  go_wp2
  go_ret
  exact ⟨rfl, hB1.trans (hB3.mono hB1.size)⟩
end Go.Proofs.YtgoehohadnkpdaaDoor
