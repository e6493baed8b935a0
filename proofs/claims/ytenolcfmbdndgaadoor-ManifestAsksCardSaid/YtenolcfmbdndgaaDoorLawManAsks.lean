/-
  What is proved here: ManifestAsks: of any manifest, number and bytes manifest.Right, Count, Span, Chunk and Whole answer what the document's do.
  Conditions: the variables fourBits, firstWords and roundWords hold their words.
-/
import Derived.Test.YtenolcfmbdndgaaDoorManMore
import Derived.Test.YtenolcfmbdndgaaDoorManChunk
import Derived.Test.YtenolcfmbdndgaaDoorRefManAsks
import Derived.Test.YtenolcfmbdndgaaDoorRefManWhole
namespace Go.Proofs.YtenolcfmbdndgaaDoor
open Go.RowKit

theorem eql_int_self (w : World) (z : Int) : (binOp .eql 3 (.int .i64 z) (.int .i64 z)).run Tryd.prog w = .ok (.bool true) w := by simp [go_sem]
theorem eql_err_self (w : World) (z : Int) : (binOp .eql 28 (.int .i64 z) (.int .i64 z)).run Tryd.prog w = .ok (.bool true) w := by simp [go_sem]
set_option maxRecDepth 100000 in
theorem few10_any (m : MM) (su : Value) (w : World) (hh : m.h.length = 32) (hu : Wds w su m.u) : Calls Tryd.prog 13 #[manV m su] w fun e w' => e = .returned (.bool (decide (m.u.length ≤ 1000))) ∧ Below w.heap.size w w' := by
  have hB := (Below.refl w.heap.size w).alloc (Nat.le_refl _) (.cells (manC m su) 27)
  have c35 := (Blk.new w 27 (manC m su)).cell (manC_35 m su hh)
  obtain ⟨ao, c, rfl⟩ := hu.shape
  clear hu hh
  have HD : Hid (decide ((m.u.length : Int) ≤ 1000) = decide (m.u.length ≤ 1000)) := by show _ = _; exact decide_eq_decide.2 (by omega)
  unfold manV
  generalize manC m (.slice ao m.u.length c) = MC at *
  go_enter Tryd.func13, Tryd.ntmps13
  go_wp2
  go_ret
  exact ⟨ret_bool HD.out, hB⟩

set_option maxRecDepth 100000 in
set_option maxHeartbeats 4000000 in
theorem manifestAsks_any (m : MM) (su : Value) (i : Int) (x : Value) (bs : List UInt8) (ao : Option Addr) (len cp : Nat) (w : World) (hh : m.h.length = 32) (hu : Wds w su m.u) (hx : x = .slice ao len cp) (hl : bs.length = len) (hm : len ≤ maxLen) (hseg : Seg w x bs) (L : Laid10 w) :
    Calls Tryd.prog 4 #[manV m su, .int .i64 i, x] w fun e w' => e = .returned (.bool true) ∧ Below w.heap.size w w' := by
  subst hx
  unfold maxLen at hm
  have hBb := (Below.refl w.heap.size w).alloc (Nat.le_refl _) (.cells (manC m su) 27)
  have k3 := Blk.new w 27 (manC m su)
  have hi := manC_info m su hh
  have HA : Hid (Calls Tryd.prog 9 #[] (w.alloc (.cells (manC m su) 27)) fun e w' => e = .returned (.bool true) ∧ Below (w.alloc (.cells (manC m su) 27)).heap.size (w.alloc (.cells (manC m su) 27)) w') := awake10_any _ (L.below hBb)
  have HU : Hid (∀ V, Below w.heap.size w V → Wds V su m.u) := fun V hV => hu.below hV (Nat.le_refl _)
  have HFW : Hid (∀ V, Below w.heap.size w V → Calls Tryd.prog 13 #[manV m su] V fun e w' => e = .returned (.bool (decide (m.u.length ≤ 1000))) ∧ Below V.heap.size V w') := fun V hV => few10_any m su V hh (HU.out V hV)
  by_cases hgo : m.u.length ≤ 1000 ∧ len ≤ 50000
  · obtain ⟨hul, hlen⟩ := hgo
    rw [decide_eq_true hul] at HFW
    have HSP1 : Hid (∀ V, Below w.heap.size w V → Calls Tryd.prog 14 #[manV m su, .int .i64 i] V fun e w' => e = .returned (tup3 (spanE m i)) ∧ Below V.heap.size V w') := fun V hV => span_any m su i V hh (by omega) (HU.out V hV)
    have HSP2 : Hid (∀ V, Below w.heap.size w V → Calls Tryd.prog 15 #[manV m su, .int .i64 i] V fun e w' => e = .returned (tup3 (spanE m i)) ∧ Below V.heap.size V w') := fun V hV => rspan_any m su i V hh (by omega) (HU.out V hV)
    have HQ1 : Hid (∀ V, Below w.heap.size w V → Calls Tryd.prog 16 #[manV m su] V fun e w' => e = .returned (.bool (decide (okM m))) ∧ Below V.heap.size V w') := fun V hV => mright_any m su V hh (by omega) (HU.out V hV)
    have HQ2 : Hid (∀ V, Below w.heap.size w V → Calls Tryd.prog 17 #[manV m su] V fun e w' => e = .returned (.bool (decide (okM m))) ∧ Below V.heap.size V w') := fun V hV => rmright_any m su V hh (by omega) (HU.out V hV)
    have HQ3 : Hid (∀ V, Below w.heap.size w V → Calls Tryd.prog 18 #[manV m su] V fun e w' => e = .returned (.int .i64 (countE m)) ∧ Below V.heap.size V w') := fun V hV => count_any m su V hh (by omega) (HU.out V hV)
    have HQ4 : Hid (∀ V, Below w.heap.size w V → Calls Tryd.prog 19 #[manV m su] V fun e w' => e = .returned (.int .i64 (countE m)) ∧ Below V.heap.size V w') := fun V hV => rcount_any m su V hh (by omega) (HU.out V hV)
    have HQ5 : Hid (∀ V, Below w.heap.size w V → Calls Tryd.prog 20 #[manV m su, .int .i64 i, .slice ao len cp] V fun e w' => e = .returned (.bool (isChunk m i bs)) ∧ Below V.heap.size V w') := fun V hV => mchunk_any m su i _ bs V hh (by omega) (HU.out V hV) (by omega) (hseg.below hV (Nat.le_refl _)) (L.below hV).g4 (L.below hV).f4
    have HQ6 : Hid (∀ V, Below w.heap.size w V → Calls Tryd.prog 21 #[manV m su, .int .i64 i, .slice ao len cp] V fun e w' => e = .returned (.bool (isChunk m i bs)) ∧ Below V.heap.size V w') := fun V hV => rchunk_any m su i _ bs V hh (by omega) (HU.out V hV) (by omega) (hseg.below hV (Nat.le_refl _))
    have HQ7 : Hid (∀ V, Below w.heap.size w V → Calls Tryd.prog 22 #[manV m su, .slice ao len cp] V fun e w' => e = .returned (.bool (isWhole m bs)) ∧ Below V.heap.size V w') := fun V hV => whole_any m su _ bs V hh (by omega) (HU.out V hV) (by omega) (hseg.below hV (Nat.le_refl _)) (L.below hV).gf (L.below hV).ff (L.below hV).gk (L.below hV).fk
    have HQ8 : Hid (∀ V, Below w.heap.size w V → Calls Tryd.prog 23 #[manV m su, .slice ao len cp] V fun e w' => e = .returned (.bool (isWhole m bs)) ∧ Below V.heap.size V w') := fun V hV => rwhole_any m su _ bs V hh (by omega) (HU.out V hV) (by omega) (hseg.below hV (Nat.le_refl _))
    have hlen' : ¬ (50000 : Int) < (len : Int) := by omega
    clear hseg L hu HU hh hul
    unfold manV tup3 at *
    generalize decide (okM m) = RB at *
    generalize countE m = CN at *
    generalize isChunk m i bs = CB at *
    generalize isWhole m bs = WB at *
    generalize (spanE m i).1 = SA at *
    generalize (spanE m i).2.1 = SB at *
    generalize (spanE m i).2.2 = SC at *
    generalize manC m su = MC at *
    obtain ⟨B3, hB3⟩ : ∃ B3, B3 = w.heap.size := ⟨_, rfl⟩
    rw [← hB3] at k3
    go_enter Tryd.func4, Tryd.ntmps4
    go_wp2_with fail
    refine HA.out.mono ?_
    rintro e w1 ⟨rfl, hb1⟩
    have k31 := k3.below hb1 k3.lt
    have hB1 : Below w.heap.size w w1 := hBb.trans (hb1.mono hBb.size)
    rw [← hB3]
    clear HA k3 hb1 hBb hB3
    go_wp2_with (refine wpList_load_row rfl 27 _ rfl B3 rfl 27 _ (0, 0) _ k31 Tryd.underlying27 rfl hi ?_)
    refine (HFW.out _ hB1).mono ?_
    rintro e w2 ⟨rfl, hb2⟩
    have k32 := k31.below hb2 k31.lt
    have hB2 : Below w.heap.size w w2 := hB1.trans (hb2.mono hB1.size)
    clear k31 hb2 hB1
    go_wp2_with (refine wpList_load_row rfl 27 _ rfl B3 rfl 27 _ (0, 0) _ k32 Tryd.underlying27 rfl hi ?_)
    refine (HSP1.out _ hB2).mono ?_
    rintro e w3 ⟨rfl, hb3⟩
    have k33 := k32.below hb3 k32.lt
    have hB3 : Below w.heap.size w w3 := hB2.trans (hb3.mono hB2.size)
    clear k32 hb3 hB2
    go_wp2_with (refine wpList_load_row rfl 27 _ rfl B3 rfl 27 _ (0, 0) _ k33 Tryd.underlying27 rfl hi ?_)
    refine (HSP2.out _ hB3).mono ?_
    rintro e W5 ⟨rfl, hb5⟩
    have k5 := k33.below hb5 k33.lt
    have hB5 : Below w.heap.size w W5 := hB3.trans (hb5.mono hB3.size)
    clear k33 hb5 hB3 HSP1 HSP2 HFW
    have HT : Hid (∀ V, Below W5.heap.size W5 V → Below w.heap.size w V) := fun V hV => hB5.trans (hV.mono hB5.size)
    have HR1 : Hid (∀ V, Below W5.heap.size W5 V → Calls Tryd.prog 16 #[.agg MC] V fun e w' => e = .returned (.bool RB) ∧ Below V.heap.size V w') := fun V hV => HQ1.out V (HT.out V hV)
    have HR2 : Hid (∀ V, Below W5.heap.size W5 V → Calls Tryd.prog 17 #[.agg MC] V fun e w' => e = .returned (.bool RB) ∧ Below V.heap.size V w') := fun V hV => HQ2.out V (HT.out V hV)
    have HN1 : Hid (∀ V, Below W5.heap.size W5 V → Calls Tryd.prog 18 #[.agg MC] V fun e w' => e = .returned (.int .i64 CN) ∧ Below V.heap.size V w') := fun V hV => HQ3.out V (HT.out V hV)
    have HN2 : Hid (∀ V, Below W5.heap.size W5 V → Calls Tryd.prog 19 #[.agg MC] V fun e w' => e = .returned (.int .i64 CN) ∧ Below V.heap.size V w') := fun V hV => HQ4.out V (HT.out V hV)
    have HC1 : Hid (∀ V, Below W5.heap.size W5 V → Calls Tryd.prog 20 #[.agg MC, .int .i64 i, .slice ao len cp] V fun e w' => e = .returned (.bool CB) ∧ Below V.heap.size V w') := fun V hV => HQ5.out V (HT.out V hV)
    have HC2 : Hid (∀ V, Below W5.heap.size W5 V → Calls Tryd.prog 21 #[.agg MC, .int .i64 i, .slice ao len cp] V fun e w' => e = .returned (.bool CB) ∧ Below V.heap.size V w') := fun V hV => HQ6.out V (HT.out V hV)
    have HW1 : Hid (∀ V, Below W5.heap.size W5 V → Calls Tryd.prog 22 #[.agg MC, .slice ao len cp] V fun e w' => e = .returned (.bool WB) ∧ Below V.heap.size V w') := fun V hV => HQ7.out V (HT.out V hV)
    have HW2 : Hid (∀ V, Below W5.heap.size W5 V → Calls Tryd.prog 23 #[.agg MC, .slice ao len cp] V fun e w' => e = .returned (.bool WB) ∧ Below V.heap.size V w') := fun V hV => HQ8.out V (HT.out V hV)
    clear HQ1 HQ2 HQ3 HQ4 HQ5 HQ6 HQ7 HQ8
    go_wp2_with fail
    have hX0 : Below W5.heap.size W5 W5.drew := (Below.refl _ _).drew
    refine held_begin (fun V => Below W5.heap.size W5 V) (by kernel_rfl) ?_
    refine held_take 0 45 _ (.agg MC) rfl rfl (by kernel_rfl) (by kernel_rfl) (by kernel_rfl) rfl hX0 (fun V hV => exec_loadM _ rfl _ rfl (k5.below hV k5.lt) hi) ?_
    simp only [Act.put, List.setIfInBounds_toArray, List.set_cons_succ, List.set_cons_zero]
    refine held_take 2 47 _ (.agg MC) rfl rfl (by kernel_rfl) (by kernel_rfl) (by kernel_rfl) rfl hX0 (fun V hV => exec_loadM _ rfl _ rfl (k5.below hV k5.lt) hi) ?_
    simp only [Act.put, List.setIfInBounds_toArray, List.set_cons_succ, List.set_cons_zero]
    refine held_all1 1 (by kernel_rfl) (op_call 1 46 _ 16 #[.agg MC] rfl rfl rfl (exec_one 16 _ _ rfl _ rfl Tryd.call16) ((HR1.out _ hX0).mono ?_))
    rintro e v1 ⟨rfl, hc1⟩
    have hX1 : Below W5.heap.size W5 v1 := Below.trans hX0 (hc1.mono (Below.size hX0))
    refine ⟨_, rfl, hX1, ?_⟩
    simp only [Act.put, List.setIfInBounds_toArray, List.set_cons_succ, List.set_cons_zero]
    refine held_all1 3 (by kernel_rfl) (op_call 3 48 _ 17 #[.agg MC] rfl rfl rfl (exec_one 17 _ _ rfl _ rfl Tryd.call17) ((HR2.out _ hX1).mono ?_))
    rintro e v2 ⟨rfl, hc2⟩
    have hX2 : Below W5.heap.size W5 v2 := Below.trans hX1 (hc2.mono (Below.size hX1))
    refine ⟨_, rfl, hX2, ?_⟩
    simp only [Act.put, List.setIfInBounds_toArray, List.set_cons_succ, List.set_cons_zero]
    refine held_take 4 49 _ (.bool true) rfl rfl (by kernel_rfl) (by kernel_rfl) (by kernel_rfl) rfl hX2 (fun V _ => exec_cmp .eql 4 4 _ _ rfl (.inr rfl) (.bool RB) (.bool RB) (.bool true) rfl rfl (by cases RB <;> kernel_rfl) (by cases RB <;> kernel_rfl)) ?_
    simp only [Act.put, List.setIfInBounds_toArray, List.set_cons_succ, List.set_cons_zero]
    refine held_take 5 50 _ (.bool true) rfl rfl (by kernel_rfl) (by kernel_rfl) (by kernel_rfl) rfl hX2 (fun _ _ => rfl) ?_
    simp only [Act.put, List.setIfInBounds_toArray, List.set_cons_succ, List.set_cons_zero]
    refine held_take 6 51 _ (.agg MC) rfl rfl (by kernel_rfl) (by kernel_rfl) (by kernel_rfl) rfl hX2 (fun V hV => exec_loadM _ rfl _ rfl (k5.below hV k5.lt) hi) ?_
    simp only [Act.put, List.setIfInBounds_toArray, List.set_cons_succ, List.set_cons_zero]
    refine held_take 8 53 _ (.agg MC) rfl rfl (by kernel_rfl) (by kernel_rfl) (by kernel_rfl) rfl hX2 (fun V hV => exec_loadM _ rfl _ rfl (k5.below hV k5.lt) hi) ?_
    simp only [Act.put, List.setIfInBounds_toArray, List.set_cons_succ, List.set_cons_zero]
    refine held_all1 7 (by kernel_rfl) (op_call 7 52 _ 18 #[.agg MC] rfl rfl rfl (exec_one 18 _ _ rfl _ rfl Tryd.call18) ((HN1.out _ hX2).mono ?_))
    rintro e v3 ⟨rfl, hc3⟩
    have hX3 : Below W5.heap.size W5 v3 := Below.trans hX2 (hc3.mono (Below.size hX2))
    refine ⟨_, rfl, hX3, ?_⟩
    simp only [Act.put, List.setIfInBounds_toArray, List.set_cons_succ, List.set_cons_zero]
    refine held_all1 9 (by kernel_rfl) (op_call 9 54 _ 19 #[.agg MC] rfl rfl rfl (exec_one 19 _ _ rfl _ rfl Tryd.call19) ((HN2.out _ hX3).mono ?_))
    rintro e v4 ⟨rfl, hc4⟩
    have hX4 : Below W5.heap.size W5 v4 := Below.trans hX3 (hc4.mono (Below.size hX3))
    refine ⟨_, rfl, hX4, ?_⟩
    simp only [Act.put, List.setIfInBounds_toArray, List.set_cons_succ, List.set_cons_zero]
    refine held_take 10 55 _ (.bool true) rfl rfl (by kernel_rfl) (by kernel_rfl) (by kernel_rfl) rfl hX4 (fun V _ => exec_cmp .eql 3 3 _ _ rfl (.inr rfl) (.int .i64 CN) (.int .i64 CN) (.bool true) rfl rfl (by kernel_rfl) (eql_int_self V CN)) ?_
    simp only [Act.put, List.setIfInBounds_toArray, List.set_cons_succ, List.set_cons_zero]
    refine held_take 11 56 _ (.bool true) rfl rfl (by kernel_rfl) (by kernel_rfl) (by kernel_rfl) rfl hX4 (fun _ _ => rfl) ?_
    simp only [Act.put, List.setIfInBounds_toArray, List.set_cons_succ, List.set_cons_zero]
    refine held_take 12 15 _ (.bool true) rfl rfl (by kernel_rfl) (by kernel_rfl) (by kernel_rfl) rfl hX4 (fun _ _ => rfl) ?_
    simp only [Act.put, List.setIfInBounds_toArray, List.set_cons_succ, List.set_cons_zero]
    refine wpAnyH_done (by kernel_rfl) ?_ _
    refine NoPanic.normal ?_
    go_wp2_with fail
    have hY0 := hX4.drew
    refine held_begin (fun V => Below W5.heap.size W5 V) (by kernel_rfl) ?_
    refine held_take 0 57 _ (.bool true) rfl rfl (by kernel_rfl) (by kernel_rfl) (by kernel_rfl) rfl hY0 (fun _ _ => rfl) ?_
    simp only [Act.put, List.setIfInBounds_toArray, List.set_cons_succ, List.set_cons_zero]
    refine held_take 1 58 _ (.bool true) rfl rfl (by kernel_rfl) (by kernel_rfl) (by kernel_rfl) rfl hY0 (fun _ _ => rfl) ?_
    simp only [Act.put, List.setIfInBounds_toArray, List.set_cons_succ, List.set_cons_zero]
    refine held_take 2 59 _ (.int .i64 SA) rfl rfl (by kernel_rfl) (by kernel_rfl) (by kernel_rfl) rfl hY0 (fun _ _ => rfl) ?_
    simp only [Act.put, List.setIfInBounds_toArray, List.set_cons_succ, List.set_cons_zero]
    refine held_take 3 60 _ (.int .i64 SA) rfl rfl (by kernel_rfl) (by kernel_rfl) (by kernel_rfl) rfl hY0 (fun _ _ => rfl) ?_
    simp only [Act.put, List.setIfInBounds_toArray, List.set_cons_succ, List.set_cons_zero]
    refine held_take 4 61 _ (.bool true) rfl rfl (by kernel_rfl) (by kernel_rfl) (by kernel_rfl) rfl hY0 (fun V _ => exec_cmp .eql 3 3 _ _ rfl (.inr rfl) (.int .i64 SA) (.int .i64 SA) (.bool true) rfl rfl (by kernel_rfl) (eql_int_self V SA)) ?_
    simp only [Act.put, List.setIfInBounds_toArray, List.set_cons_succ, List.set_cons_zero]
    refine held_take 5 62 _ (.bool true) rfl rfl (by kernel_rfl) (by kernel_rfl) (by kernel_rfl) rfl hY0 (fun _ _ => rfl) ?_
    simp only [Act.put, List.setIfInBounds_toArray, List.set_cons_succ, List.set_cons_zero]
    refine held_take 6 63 _ (.bool true) rfl rfl (by kernel_rfl) (by kernel_rfl) (by kernel_rfl) rfl hY0 (fun _ _ => rfl) ?_
    simp only [Act.put, List.setIfInBounds_toArray, List.set_cons_succ, List.set_cons_zero]
    refine held_take 7 64 _ (.int .i64 SB) rfl rfl (by kernel_rfl) (by kernel_rfl) (by kernel_rfl) rfl hY0 (fun _ _ => rfl) ?_
    simp only [Act.put, List.setIfInBounds_toArray, List.set_cons_succ, List.set_cons_zero]
    refine held_take 8 65 _ (.int .i64 SB) rfl rfl (by kernel_rfl) (by kernel_rfl) (by kernel_rfl) rfl hY0 (fun _ _ => rfl) ?_
    simp only [Act.put, List.setIfInBounds_toArray, List.set_cons_succ, List.set_cons_zero]
    refine held_take 9 66 _ (.bool true) rfl rfl (by kernel_rfl) (by kernel_rfl) (by kernel_rfl) rfl hY0 (fun V _ => exec_cmp .eql 3 3 _ _ rfl (.inr rfl) (.int .i64 SB) (.int .i64 SB) (.bool true) rfl rfl (by kernel_rfl) (eql_int_self V SB)) ?_
    simp only [Act.put, List.setIfInBounds_toArray, List.set_cons_succ, List.set_cons_zero]
    refine held_take 10 67 _ (.bool true) rfl rfl (by kernel_rfl) (by kernel_rfl) (by kernel_rfl) rfl hY0 (fun _ _ => rfl) ?_
    simp only [Act.put, List.setIfInBounds_toArray, List.set_cons_succ, List.set_cons_zero]
    refine held_take 11 68 _ (.bool true) rfl rfl (by kernel_rfl) (by kernel_rfl) (by kernel_rfl) rfl hY0 (fun _ _ => rfl) ?_
    simp only [Act.put, List.setIfInBounds_toArray, List.set_cons_succ, List.set_cons_zero]
    refine held_take 12 69 _ (.int .i64 SC) rfl rfl (by kernel_rfl) (by kernel_rfl) (by kernel_rfl) rfl hY0 (fun _ _ => rfl) ?_
    simp only [Act.put, List.setIfInBounds_toArray, List.set_cons_succ, List.set_cons_zero]
    refine held_take 13 70 _ (.int .i64 SC) rfl rfl (by kernel_rfl) (by kernel_rfl) (by kernel_rfl) rfl hY0 (fun _ _ => rfl) ?_
    simp only [Act.put, List.setIfInBounds_toArray, List.set_cons_succ, List.set_cons_zero]
    refine held_take 14 71 _ (.bool true) rfl rfl (by kernel_rfl) (by kernel_rfl) (by kernel_rfl) rfl hY0 (fun V _ => exec_cmp .eql 28 28 _ _ rfl (.inr rfl) (.int .i64 SC) (.int .i64 SC) (.bool true) rfl rfl (by kernel_rfl) (eql_err_self V SC)) ?_
    simp only [Act.put, List.setIfInBounds_toArray, List.set_cons_succ, List.set_cons_zero]
    refine held_take 15 72 _ (.bool true) rfl rfl (by kernel_rfl) (by kernel_rfl) (by kernel_rfl) rfl hY0 (fun _ _ => rfl) ?_
    simp only [Act.put, List.setIfInBounds_toArray, List.set_cons_succ, List.set_cons_zero]
    refine held_take 16 73 _ (.bool true) rfl rfl (by kernel_rfl) (by kernel_rfl) (by kernel_rfl) rfl hY0 (fun _ _ => rfl) ?_
    simp only [Act.put, List.setIfInBounds_toArray, List.set_cons_succ, List.set_cons_zero]
    refine held_take 17 74 _ (.agg MC) rfl rfl (by kernel_rfl) (by kernel_rfl) (by kernel_rfl) rfl hY0 (fun V hV => exec_loadM _ rfl _ rfl (k5.below hV k5.lt) hi) ?_
    simp only [Act.put, List.setIfInBounds_toArray, List.set_cons_succ, List.set_cons_zero]
    refine held_take 18 75 _ (.int .i64 i) rfl rfl (by kernel_rfl) (by kernel_rfl) (by kernel_rfl) rfl hY0 (fun _ _ => rfl) ?_
    simp only [Act.put, List.setIfInBounds_toArray, List.set_cons_succ, List.set_cons_zero]
    refine held_take 19 76 _ (.slice ao len cp) rfl rfl (by kernel_rfl) (by kernel_rfl) (by kernel_rfl) rfl hY0 (fun _ _ => rfl) ?_
    simp only [Act.put, List.setIfInBounds_toArray, List.set_cons_succ, List.set_cons_zero]
    refine held_take 21 78 _ (.agg MC) rfl rfl (by kernel_rfl) (by kernel_rfl) (by kernel_rfl) rfl hY0 (fun V hV => exec_loadM _ rfl _ rfl (k5.below hV k5.lt) hi) ?_
    simp only [Act.put, List.setIfInBounds_toArray, List.set_cons_succ, List.set_cons_zero]
    refine held_take 22 79 _ (.int .i64 i) rfl rfl (by kernel_rfl) (by kernel_rfl) (by kernel_rfl) rfl hY0 (fun _ _ => rfl) ?_
    simp only [Act.put, List.setIfInBounds_toArray, List.set_cons_succ, List.set_cons_zero]
    refine held_take 23 80 _ (.slice ao len cp) rfl rfl (by kernel_rfl) (by kernel_rfl) (by kernel_rfl) rfl hY0 (fun _ _ => rfl) ?_
    simp only [Act.put, List.setIfInBounds_toArray, List.set_cons_succ, List.set_cons_zero]
    refine held_all1 20 (by kernel_rfl) (op_call 20 77 _ 20 #[.agg MC, .int .i64 i, .slice ao len cp] rfl rfl rfl (exec_three8 20 _ _ _ _ rfl _ _ _ rfl rfl rfl Tryd.call20) ((HC1.out _ hY0).mono ?_))
    rintro e v5 ⟨rfl, hc5⟩
    have hX5 : Below W5.heap.size W5 v5 := Below.trans hY0 (hc5.mono (Below.size hY0))
    refine ⟨_, rfl, hX5, ?_⟩
    simp only [Act.put, List.setIfInBounds_toArray, List.set_cons_succ, List.set_cons_zero]
    refine held_all1 24 (by kernel_rfl) (op_call 24 81 _ 21 #[.agg MC, .int .i64 i, .slice ao len cp] rfl rfl rfl (exec_three8 21 _ _ _ _ rfl _ _ _ rfl rfl rfl Tryd.call21) ((HC2.out _ hX5).mono ?_))
    rintro e v6 ⟨rfl, hc6⟩
    have hX6 : Below W5.heap.size W5 v6 := Below.trans hX5 (hc6.mono (Below.size hX5))
    refine ⟨_, rfl, hX6, ?_⟩
    simp only [Act.put, List.setIfInBounds_toArray, List.set_cons_succ, List.set_cons_zero]
    refine held_take 25 82 _ (.bool true) rfl rfl (by kernel_rfl) (by kernel_rfl) (by kernel_rfl) rfl hX6 (fun V _ => exec_cmp .eql 4 4 _ _ rfl (.inr rfl) (.bool CB) (.bool CB) (.bool true) rfl rfl (by cases CB <;> kernel_rfl) (by cases CB <;> kernel_rfl)) ?_
    simp only [Act.put, List.setIfInBounds_toArray, List.set_cons_succ, List.set_cons_zero]
    refine held_take 26 83 _ (.bool true) rfl rfl (by kernel_rfl) (by kernel_rfl) (by kernel_rfl) rfl hX6 (fun _ _ => rfl) ?_
    simp only [Act.put, List.setIfInBounds_toArray, List.set_cons_succ, List.set_cons_zero]
    refine held_take 27 84 _ (.bool true) rfl rfl (by kernel_rfl) (by kernel_rfl) (by kernel_rfl) rfl hX6 (fun _ _ => rfl) ?_
    simp only [Act.put, List.setIfInBounds_toArray, List.set_cons_succ, List.set_cons_zero]
    refine held_take 28 85 _ (.agg MC) rfl rfl (by kernel_rfl) (by kernel_rfl) (by kernel_rfl) rfl hX6 (fun V hV => exec_loadM _ rfl _ rfl (k5.below hV k5.lt) hi) ?_
    simp only [Act.put, List.setIfInBounds_toArray, List.set_cons_succ, List.set_cons_zero]
    refine held_take 29 86 _ (.slice ao len cp) rfl rfl (by kernel_rfl) (by kernel_rfl) (by kernel_rfl) rfl hX6 (fun _ _ => rfl) ?_
    simp only [Act.put, List.setIfInBounds_toArray, List.set_cons_succ, List.set_cons_zero]
    refine held_take 31 88 _ (.agg MC) rfl rfl (by kernel_rfl) (by kernel_rfl) (by kernel_rfl) rfl hX6 (fun V hV => exec_loadM _ rfl _ rfl (k5.below hV k5.lt) hi) ?_
    simp only [Act.put, List.setIfInBounds_toArray, List.set_cons_succ, List.set_cons_zero]
    refine held_take 32 89 _ (.slice ao len cp) rfl rfl (by kernel_rfl) (by kernel_rfl) (by kernel_rfl) rfl hX6 (fun _ _ => rfl) ?_
    simp only [Act.put, List.setIfInBounds_toArray, List.set_cons_succ, List.set_cons_zero]
    refine held_all1 30 (by kernel_rfl) (op_call 30 87 _ 22 #[.agg MC, .slice ao len cp] rfl rfl rfl (exec_two8 22 _ _ _ rfl _ _ rfl rfl Tryd.call22) ((HW1.out _ hX6).mono ?_))
    rintro e v7 ⟨rfl, hc7⟩
    have hX7 : Below W5.heap.size W5 v7 := Below.trans hX6 (hc7.mono (Below.size hX6))
    refine ⟨_, rfl, hX7, ?_⟩
    simp only [Act.put, List.setIfInBounds_toArray, List.set_cons_succ, List.set_cons_zero]
    refine held_all1 33 (by kernel_rfl) (op_call 33 90 _ 23 #[.agg MC, .slice ao len cp] rfl rfl rfl (exec_two8 23 _ _ _ rfl _ _ rfl rfl Tryd.call23) ((HW2.out _ hX7).mono ?_))
    rintro e v8 ⟨rfl, hc8⟩
    have hX8 : Below W5.heap.size W5 v8 := Below.trans hX7 (hc8.mono (Below.size hX7))
    refine ⟨_, rfl, hX8, ?_⟩
    simp only [Act.put, List.setIfInBounds_toArray, List.set_cons_succ, List.set_cons_zero]
    refine held_take 34 91 _ (.bool true) rfl rfl (by kernel_rfl) (by kernel_rfl) (by kernel_rfl) rfl hX8 (fun V _ => exec_cmp .eql 4 4 _ _ rfl (.inr rfl) (.bool WB) (.bool WB) (.bool true) rfl rfl (by cases WB <;> kernel_rfl) (by cases WB <;> kernel_rfl)) ?_
    simp only [Act.put, List.setIfInBounds_toArray, List.set_cons_succ, List.set_cons_zero]
    refine held_take 35 92 _ (.bool true) rfl rfl (by kernel_rfl) (by kernel_rfl) (by kernel_rfl) rfl hX8 (fun _ _ => rfl) ?_
    simp only [Act.put, List.setIfInBounds_toArray, List.set_cons_succ, List.set_cons_zero]
    refine held_take 36 6 _ (.bool true) rfl rfl (by kernel_rfl) (by kernel_rfl) (by kernel_rfl) rfl hX8 (fun _ _ => rfl) ?_
    simp only [Act.put, List.setIfInBounds_toArray, List.set_cons_succ, List.set_cons_zero]
    refine wpAnyH_done (by kernel_rfl) ?_ _
    refine NoPanic.normal ?_
    go_wp2
    go_ret
    exact ⟨rfl, HT.out _ hX8⟩
  · obtain ⟨B3, hB3⟩ : ∃ B3, B3 = w.heap.size := ⟨_, rfl⟩
    rw [← hB3] at k3
    unfold manV at *
    clear hu HU hseg L
    by_cases hul : m.u.length ≤ 1000
    · rw [decide_eq_true hul] at HFW
      have hlen' : (50000 : Int) < (len : Int) := by omega
      generalize manC m su = MC at *
      go_enter Tryd.func4, Tryd.ntmps4
      go_wp2_with fail
      refine HA.out.mono ?_
      rintro e w1 ⟨rfl, hb1⟩
      have k31 := k3.below hb1 k3.lt
      have hB1 : Below w.heap.size w w1 := hBb.trans (hb1.mono hBb.size)
      rw [← hB3]
      clear HA k3 hb1 hBb hB3
      go_wp2_with (refine wpList_load_row rfl 27 _ rfl B3 rfl 27 _ (0, 0) _ k31 Tryd.underlying27 rfl hi ?_)
      refine (HFW.out _ hB1).mono ?_
      rintro e w2 ⟨rfl, hb2⟩
      go_wp2
      go_ret
      exact ⟨rfl, hB1.trans (hb2.mono hB1.size)⟩
    · rw [decide_eq_false hul] at HFW
      generalize manC m su = MC at *
      go_enter Tryd.func4, Tryd.ntmps4
      go_wp2_with fail
      refine HA.out.mono ?_
      rintro e w1 ⟨rfl, hb1⟩
      have k31 := k3.below hb1 k3.lt
      have hB1 : Below w.heap.size w w1 := hBb.trans (hb1.mono hBb.size)
      rw [← hB3]
      clear HA k3 hb1 hBb hB3
      go_wp2_with (refine wpList_load_row rfl 27 _ rfl B3 rfl 27 _ (0, 0) _ k31 Tryd.underlying27 rfl hi ?_)
      refine (HFW.out _ hB1).mono ?_
      rintro e w2 ⟨rfl, hb2⟩
      go_wp2
      go_ret
      exact ⟨rfl, hB1.trans (hb2.mono hB1.size)⟩
end Go.Proofs.YtenolcfmbdndgaaDoor
