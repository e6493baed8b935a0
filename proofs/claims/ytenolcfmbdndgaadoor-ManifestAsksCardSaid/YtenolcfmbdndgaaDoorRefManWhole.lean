/-
  What is proved here: the document's Whole of layer 10 answers as the plain function does.
  Conditions: those that the fact names.
-/
import Derived.Test.YtenolcfmbdndgaaDoorRefManRight
import Derived.Test.YtenolcfmbdndgaaDoorManWhole
import Derived.Test.YtenolcfmbdndgaaDoorRefSum
namespace Go.Proofs.YtenolcfmbdndgaaDoor
open Go.RowKit

set_option maxRecDepth 100000 in
set_option maxHeartbeats 1000000 in
theorem rwhole_any (m : MM) (su : Value) (bv : Value) (bs : List UInt8) (w : World) (hh : m.h.length = 32) (hm : m.u.length ≤ 1000000000) (hu : Wds w su m.u) (hbl : bs.length ≤ 1000000) (hseg : Seg w bv bs) :
    Calls Tryd.prog 23 #[manV m su, bv] w fun e w' => e = .returned (.bool (isWhole m bs)) ∧ Below w.heap.size w w' := by
  have hB := (Below.refl w.heap.size w).alloc (Nat.le_refl _) (.cells (manC m su) 27)
  have k := Blk.new w 27 (manC m su)
  have hi := manC_info m su hh
  have h1 := manC_1 m su
  have HR : Hid (Calls Tryd.prog 17 #[manV m su] (w.alloc (.cells (manC m su) 27)) fun e w' => e = .returned (.bool (decide (okM m))) ∧ Below (w.alloc (.cells (manC m su) 27)).heap.size (w.alloc (.cells (manC m su) 27)) w') := rmright_any m su _ hh hm (hu.alloc _)
  have HS : Hid (∀ V, Below w.heap.size w V → Calls Tryd.prog 28 #[bv] V fun e w' => e = .returned (.agg ((shaOf bs).map v8).toArray) ∧ Below V.heap.size V w') := fun V hV => refSum_any bv bs V (hseg.below hV (Nat.le_refl _)) hbl
  have HE : Hid (∀ V, (binOp .eql 24 (.agg ((shaOf bs).map v8).toArray) (.agg (m.h.map v8).toArray)).run Tryd.prog V = .ok (.bool (shaOf bs == m.h)) V) := fun V => eql_sums _ _ (wbytes_len _) hh V
  have H3 : Hid (∀ V, Blk V w.heap.size 27 (manC m su) → V.rangeAt w.heap.size 3 (m.h.map v8)) := fun V h => man_range m su _ V h
  have hil : (Tryd.prog.info? 24).map (·.size) = some (m.h.map v8).length := by rw [List.length_map, hh]; kernel_rfl
  obtain ⟨ab, cb, rfl⟩ := hseg.shapeD
  clear hu hseg hm hh
  unfold manV at *
  obtain ⟨B0, hB0⟩ : ∃ B0, B0 = w.heap.size := ⟨_, rfl⟩
  rw [← hB0] at k H3
  obtain ⟨HL, hHL⟩ : ∃ HL, HL = m.h.map v8 := ⟨_, rfl⟩
  rw [← hHL] at HE H3 hil
  obtain ⟨HA, hHA⟩ : ∃ HA, HA = HL.toArray := ⟨_, rfl⟩
  rw [← hHA] at HE
  obtain ⟨SA, hSA⟩ : ∃ SA, SA = ((shaOf bs).map v8).toArray := ⟨_, rfl⟩
  rw [← hSA] at HE HS
  by_cases hn : okM m
  · rw [decide_eq_true hn] at HR
    by_cases hl : (bs.length : Int) = m.s
    · have HW : Hid (isWhole m bs = (shaOf bs == m.h)) := by
        show _ = _
        unfold isWhole
        by_cases he : shaOf bs = m.h <;> simp [he, hn, hl]
      rw [HW.out]
      have heq : ((bs.length : Int) == m.s) = true := by simpa using hl
      clear HW hn hl hHL hSA
      generalize (shaOf bs == m.h) = E at *
      generalize manC m su = MC at *
      generalize m.s = sz at *
      subst hHA
      generalize hHA : HL.toArray = HA at *
      go_enter Tryd.func23, Tryd.ntmps23
      go_wp2_with (refine wpList_load_row rfl 27 _ rfl w.heap.size rfl 27 MC (0, 0) _ (by exact hB0 ▸ k) Tryd.underlying27 rfl hi ?_)
      refine HR.out.mono ?_
      rintro e w1 ⟨rfl, hb1⟩
      have k1 := k.below hb1 k.lt
      have hB1 : Below w.heap.size w w1 := hB.trans (hb1.mono hB.size)
      clear HR
      go_wp2_with fail
      rw [← hB0]
      clear hB0
      have hS1 : Blk w1.drew B0 27 MC := k1.drew
      refine held_begin (fun V => Blk V B0 27 MC) (by kernel_rfl) ?_
      refine held_take 0 8 _ (.bool true) rfl rfl (by kernel_rfl) (by kernel_rfl) (by kernel_rfl) rfl hS1 (fun _ _ => rfl) ?_
      simp only [Act.put, List.setIfInBounds_toArray, List.set_cons_succ, List.set_cons_zero]
      refine held_take 1 9 _ (.bool true) rfl rfl (by kernel_rfl) (by kernel_rfl) (by kernel_rfl) rfl hS1 (fun _ _ => rfl) ?_
      simp only [Act.put, List.setIfInBounds_toArray, List.set_cons_succ, List.set_cons_zero]
      refine held_take 2 10 _ (.slice ab bs.length cb) rfl rfl (by kernel_rfl) (by kernel_rfl) (by kernel_rfl) rfl hS1 (fun _ _ => rfl) ?_
      simp only [Act.put, List.setIfInBounds_toArray, List.set_cons_succ, List.set_cons_zero]
      refine held_take 3 11 _ (.int .i64 (bs.length : Int)) rfl rfl (by kernel_rfl) (by kernel_rfl) (by kernel_rfl) rfl hS1 (fun V _ => exec_len _ rfl _ _ _ rfl) ?_
      simp only [Act.put, List.setIfInBounds_toArray, List.set_cons_succ, List.set_cons_zero]
      refine held_take 4 12 _ (.pointer (some ⟨B0, 1, none⟩)) rfl rfl (by kernel_rfl) (by kernel_rfl) (by kernel_rfl) rfl hS1 (fun _ _ => rfl) ?_
      simp only [Act.put, List.setIfInBounds_toArray, List.set_cons_succ, List.set_cons_zero]
      refine held_take 5 13 _ (.int .i64 sz) rfl rfl (by kernel_rfl) (by kernel_rfl) (by kernel_rfl) rfl hS1 (fun V hV => exec_loadc 3 _ rfl _ _ rfl (load_one 3 (fun _ => by kernel_rfl) V _ _ _ (hV.cell h1))) ?_
      simp only [Act.put, List.setIfInBounds_toArray, List.set_cons_succ, List.set_cons_zero]
      refine held_take 6 14 _ (.bool true) rfl rfl (by kernel_rfl) (by kernel_rfl) (by kernel_rfl) rfl hS1 (fun V _ => exec_eql7 3 _ _ rfl _ _ _ rfl rfl (fun _ => by kernel_rfl) heq) ?_
      simp only [Act.put, List.setIfInBounds_toArray, List.set_cons_succ, List.set_cons_zero]
      refine held_take 7 15 _ (.bool true) rfl rfl (by kernel_rfl) (by kernel_rfl) (by kernel_rfl) rfl hS1 (fun _ _ => rfl) ?_
      simp only [Act.put, List.setIfInBounds_toArray, List.set_cons_succ, List.set_cons_zero]
      refine held_take 8 16 _ (.bool true) rfl rfl (by kernel_rfl) (by kernel_rfl) (by kernel_rfl) rfl hS1 (fun _ _ => rfl) ?_
      simp only [Act.put, List.setIfInBounds_toArray, List.set_cons_succ, List.set_cons_zero]
      refine held_take 9 17 _ (.slice ab bs.length cb) rfl rfl (by kernel_rfl) (by kernel_rfl) (by kernel_rfl) rfl hS1 (fun _ _ => rfl) ?_
      simp only [Act.put, List.setIfInBounds_toArray, List.set_cons_succ, List.set_cons_zero]
      refine held_take 11 19 _ (.pointer (some ⟨B0, 3, none⟩)) rfl rfl (by kernel_rfl) (by kernel_rfl) (by kernel_rfl) rfl hS1 (fun _ _ => rfl) ?_
      simp only [Act.put, List.setIfInBounds_toArray, List.set_cons_succ, List.set_cons_zero]
      refine held_take 12 20 _ (.agg HA) rfl rfl (by kernel_rfl) (by kernel_rfl) (by kernel_rfl) rfl hS1 (fun V hV => exec_loadsM 24 _ rfl B0 3 rfl HL HA hHA _ (H3.out V hV) Tryd.underlying24 rfl hil) ?_
      simp only [Act.put, List.setIfInBounds_toArray, List.set_cons_succ, List.set_cons_zero]
      refine held_all1 10 (by kernel_rfl) (op_call 10 18 _ 28 #[.slice ab bs.length cb] rfl rfl rfl (exec_one 28 _ _ rfl _ rfl Tryd.call28) ((HS.out w1.drew hB1.drew).mono ?_))
      rintro e w2 ⟨rfl, hb2⟩
      have hS2 := hS1.below hb2 hS1.lt
      have hB2 : Below w.heap.size w w2 := hB1.drew.trans (hb2.mono hB1.size)
      refine ⟨_, rfl, hS2, ?_⟩
      simp only [Act.put, List.setIfInBounds_toArray, List.set_cons_succ, List.set_cons_zero]
      refine held_take 13 21 _ (.bool E) rfl rfl (by kernel_rfl) (by kernel_rfl) (by kernel_rfl) rfl hS2 (fun V _ => exec_cmp .eql 24 24 _ _ rfl (.inr rfl) (.agg SA) (.agg HA) _ rfl rfl (run_eqGuard_agg V .eql 24 _ _ _ _ (by kernel_rfl)) (HE.out V)) ?_
      simp only [Act.put, List.setIfInBounds_toArray, List.set_cons_succ, List.set_cons_zero]
      refine held_take 14 22 _ (.bool E) rfl rfl (by kernel_rfl) (by kernel_rfl) (by kernel_rfl) rfl hS2 (fun _ _ => rfl) ?_
      simp only [Act.put, List.setIfInBounds_toArray, List.set_cons_succ, List.set_cons_zero]
      refine held_take 15 4 _ (.bool E) rfl rfl (by kernel_rfl) (by kernel_rfl) (by kernel_rfl) rfl hS2 (fun _ _ => rfl) ?_
      simp only [Act.put, List.setIfInBounds_toArray, List.set_cons_succ, List.set_cons_zero]
      refine wpAnyH_done (by kernel_rfl) ?_ _
      refine NoPanic.normal ?_
      go_wp2
      go_ret
      exact ⟨rfl, hB2⟩
    · have HW : Hid (isWhole m bs = false) := decide_eq_false fun h => hl h.2.1
      rw [HW.out]
      have heq : ((bs.length : Int) == m.s) = false := by simpa using hl
      clear HW hn hl hHL hSA HS HE H3 hHA hil
      generalize manC m su = MC at *
      generalize m.s = sz at *
      go_enter Tryd.func23, Tryd.ntmps23
      go_wp2_with (refine wpList_load_row rfl 27 _ rfl w.heap.size rfl 27 MC (0, 0) _ (by exact hB0 ▸ k) Tryd.underlying27 rfl hi ?_)
      refine HR.out.mono ?_
      rintro e w1 ⟨rfl, hb1⟩
      have k1 := k.below hb1 k.lt
      have hB1 : Below w.heap.size w w1 := hB.trans (hb1.mono hB.size)
      clear HR
      go_wp2_with fail
      rw [← hB0]
      clear hB0
      have hS1 : Blk w1.drew B0 27 MC := k1.drew
      refine held_begin (fun V => Blk V B0 27 MC) (by kernel_rfl) ?_
      refine held_take 0 8 _ (.bool true) rfl rfl (by kernel_rfl) (by kernel_rfl) (by kernel_rfl) rfl hS1 (fun _ _ => rfl) ?_
      simp only [Act.put, List.setIfInBounds_toArray, List.set_cons_succ, List.set_cons_zero]
      refine held_take 1 9 _ (.bool true) rfl rfl (by kernel_rfl) (by kernel_rfl) (by kernel_rfl) rfl hS1 (fun _ _ => rfl) ?_
      simp only [Act.put, List.setIfInBounds_toArray, List.set_cons_succ, List.set_cons_zero]
      refine held_take 2 10 _ (.slice ab bs.length cb) rfl rfl (by kernel_rfl) (by kernel_rfl) (by kernel_rfl) rfl hS1 (fun _ _ => rfl) ?_
      simp only [Act.put, List.setIfInBounds_toArray, List.set_cons_succ, List.set_cons_zero]
      refine held_take 3 11 _ (.int .i64 (bs.length : Int)) rfl rfl (by kernel_rfl) (by kernel_rfl) (by kernel_rfl) rfl hS1 (fun V _ => exec_len _ rfl _ _ _ rfl) ?_
      simp only [Act.put, List.setIfInBounds_toArray, List.set_cons_succ, List.set_cons_zero]
      refine held_take 4 12 _ (.pointer (some ⟨B0, 1, none⟩)) rfl rfl (by kernel_rfl) (by kernel_rfl) (by kernel_rfl) rfl hS1 (fun _ _ => rfl) ?_
      simp only [Act.put, List.setIfInBounds_toArray, List.set_cons_succ, List.set_cons_zero]
      refine held_take 5 13 _ (.int .i64 sz) rfl rfl (by kernel_rfl) (by kernel_rfl) (by kernel_rfl) rfl hS1 (fun V hV => exec_loadc 3 _ rfl _ _ rfl (load_one 3 (fun _ => by kernel_rfl) V _ _ _ (hV.cell h1))) ?_
      simp only [Act.put, List.setIfInBounds_toArray, List.set_cons_succ, List.set_cons_zero]
      refine held_take 6 14 _ (.bool false) rfl rfl (by kernel_rfl) (by kernel_rfl) (by kernel_rfl) rfl hS1 (fun V _ => exec_eql7 3 _ _ rfl _ _ _ rfl rfl (fun _ => by kernel_rfl) heq) ?_
      simp only [Act.put, List.setIfInBounds_toArray, List.set_cons_succ, List.set_cons_zero]
      refine held_take 7 15 _ (.bool false) rfl rfl (by kernel_rfl) (by kernel_rfl) (by kernel_rfl) rfl hS1 (fun _ _ => rfl) ?_
      simp only [Act.put, List.setIfInBounds_toArray, List.set_cons_succ, List.set_cons_zero]
      refine held_take 8 16 _ (.bool false) rfl rfl (by kernel_rfl) (by kernel_rfl) (by kernel_rfl) rfl hS1 (fun _ _ => rfl) ?_
      simp only [Act.put, List.setIfInBounds_toArray, List.set_cons_succ, List.set_cons_zero]
      refine held_pass 9 17 _ rfl rfl (by kernel_rfl) (by kernel_rfl) (by kernel_rfl) rfl hS1 ?_
      simp only [Act.put, List.setIfInBounds_toArray, List.set_cons_succ, List.set_cons_zero]
      refine held_pass 10 18 _ rfl rfl (by kernel_rfl) (by kernel_rfl) (by kernel_rfl) rfl hS1 ?_
      simp only [Act.put, List.setIfInBounds_toArray, List.set_cons_succ, List.set_cons_zero]
      refine held_pass 11 19 _ rfl rfl (by kernel_rfl) (by kernel_rfl) (by kernel_rfl) rfl hS1 ?_
      simp only [Act.put, List.setIfInBounds_toArray, List.set_cons_succ, List.set_cons_zero]
      refine held_pass 12 20 _ rfl rfl (by kernel_rfl) (by kernel_rfl) (by kernel_rfl) rfl hS1 ?_
      simp only [Act.put, List.setIfInBounds_toArray, List.set_cons_succ, List.set_cons_zero]
      refine held_pass 13 21 _ rfl rfl (by kernel_rfl) (by kernel_rfl) (by kernel_rfl) rfl hS1 ?_
      simp only [Act.put, List.setIfInBounds_toArray, List.set_cons_succ, List.set_cons_zero]
      refine held_take 14 22 _ (.bool false) rfl rfl (by kernel_rfl) (by kernel_rfl) (by kernel_rfl) rfl hS1 (fun _ _ => rfl) ?_
      simp only [Act.put, List.setIfInBounds_toArray, List.set_cons_succ, List.set_cons_zero]
      refine held_take 15 4 _ (.bool false) rfl rfl (by kernel_rfl) (by kernel_rfl) (by kernel_rfl) rfl hS1 (fun _ _ => rfl) ?_
      simp only [Act.put, List.setIfInBounds_toArray, List.set_cons_succ, List.set_cons_zero]
      refine wpAnyH_done (by kernel_rfl) ?_ _
      refine NoPanic.normal ?_
      go_wp2
      go_ret
      exact ⟨rfl, hB1.drew⟩
  · rw [decide_eq_false hn] at HR
    have HW : Hid (isWhole m bs = false) := decide_eq_false fun h => hn h.1
    rw [HW.out]
    clear HW hn hHL hSA HS HE H3 hHA hil
    generalize manC m su = MC at *
    generalize m.s = sz at *
    go_enter Tryd.func23, Tryd.ntmps23
    go_wp2_with (refine wpList_load_row rfl 27 _ rfl w.heap.size rfl 27 MC (0, 0) _ (by exact hB0 ▸ k) Tryd.underlying27 rfl hi ?_)
    refine HR.out.mono ?_
    rintro e w1 ⟨rfl, hb1⟩
    have k1 := k.below hb1 k.lt
    have hB1 : Below w.heap.size w w1 := hB.trans (hb1.mono hB.size)
    clear HR
    go_wp2_with fail
    rw [← hB0]
    clear hB0
    have hS1 : Blk w1.drew B0 27 MC := k1.drew
    refine held_begin (fun V => Blk V B0 27 MC) (by kernel_rfl) ?_
    refine held_take 0 8 _ (.bool false) rfl rfl (by kernel_rfl) (by kernel_rfl) (by kernel_rfl) rfl hS1 (fun _ _ => rfl) ?_
    simp only [Act.put, List.setIfInBounds_toArray, List.set_cons_succ, List.set_cons_zero]
    refine held_take 1 9 _ (.bool false) rfl rfl (by kernel_rfl) (by kernel_rfl) (by kernel_rfl) rfl hS1 (fun _ _ => rfl) ?_
    simp only [Act.put, List.setIfInBounds_toArray, List.set_cons_succ, List.set_cons_zero]
    refine held_pass 2 10 _ rfl rfl (by kernel_rfl) (by kernel_rfl) (by kernel_rfl) rfl hS1 ?_
    simp only [Act.put, List.setIfInBounds_toArray, List.set_cons_succ, List.set_cons_zero]
    refine held_pass 3 11 _ rfl rfl (by kernel_rfl) (by kernel_rfl) (by kernel_rfl) rfl hS1 ?_
    simp only [Act.put, List.setIfInBounds_toArray, List.set_cons_succ, List.set_cons_zero]
    refine held_pass 4 12 _ rfl rfl (by kernel_rfl) (by kernel_rfl) (by kernel_rfl) rfl hS1 ?_
    simp only [Act.put, List.setIfInBounds_toArray, List.set_cons_succ, List.set_cons_zero]
    refine held_pass 5 13 _ rfl rfl (by kernel_rfl) (by kernel_rfl) (by kernel_rfl) rfl hS1 ?_
    simp only [Act.put, List.setIfInBounds_toArray, List.set_cons_succ, List.set_cons_zero]
    refine held_pass 6 14 _ rfl rfl (by kernel_rfl) (by kernel_rfl) (by kernel_rfl) rfl hS1 ?_
    simp only [Act.put, List.setIfInBounds_toArray, List.set_cons_succ, List.set_cons_zero]
    refine held_take 7 15 _ (.bool false) rfl rfl (by kernel_rfl) (by kernel_rfl) (by kernel_rfl) rfl hS1 (fun _ _ => rfl) ?_
    simp only [Act.put, List.setIfInBounds_toArray, List.set_cons_succ, List.set_cons_zero]
    refine held_take 8 16 _ (.bool false) rfl rfl (by kernel_rfl) (by kernel_rfl) (by kernel_rfl) rfl hS1 (fun _ _ => rfl) ?_
    simp only [Act.put, List.setIfInBounds_toArray, List.set_cons_succ, List.set_cons_zero]
    refine held_pass 9 17 _ rfl rfl (by kernel_rfl) (by kernel_rfl) (by kernel_rfl) rfl hS1 ?_
    simp only [Act.put, List.setIfInBounds_toArray, List.set_cons_succ, List.set_cons_zero]
    refine held_pass 10 18 _ rfl rfl (by kernel_rfl) (by kernel_rfl) (by kernel_rfl) rfl hS1 ?_
    simp only [Act.put, List.setIfInBounds_toArray, List.set_cons_succ, List.set_cons_zero]
    refine held_pass 11 19 _ rfl rfl (by kernel_rfl) (by kernel_rfl) (by kernel_rfl) rfl hS1 ?_
    simp only [Act.put, List.setIfInBounds_toArray, List.set_cons_succ, List.set_cons_zero]
    refine held_pass 12 20 _ rfl rfl (by kernel_rfl) (by kernel_rfl) (by kernel_rfl) rfl hS1 ?_
    simp only [Act.put, List.setIfInBounds_toArray, List.set_cons_succ, List.set_cons_zero]
    refine held_pass 13 21 _ rfl rfl (by kernel_rfl) (by kernel_rfl) (by kernel_rfl) rfl hS1 ?_
    simp only [Act.put, List.setIfInBounds_toArray, List.set_cons_succ, List.set_cons_zero]
    refine held_take 14 22 _ (.bool false) rfl rfl (by kernel_rfl) (by kernel_rfl) (by kernel_rfl) rfl hS1 (fun _ _ => rfl) ?_
    simp only [Act.put, List.setIfInBounds_toArray, List.set_cons_succ, List.set_cons_zero]
    refine held_take 15 4 _ (.bool false) rfl rfl (by kernel_rfl) (by kernel_rfl) (by kernel_rfl) rfl hS1 (fun _ _ => rfl) ?_
    simp only [Act.put, List.setIfInBounds_toArray, List.set_cons_succ, List.set_cons_zero]
    refine wpAnyH_done (by kernel_rfl) ?_ _
    refine NoPanic.normal ?_
    go_wp2
    go_ret
    exact ⟨rfl, hB1.drew⟩
end Go.Proofs.YtenolcfmbdndgaaDoor
