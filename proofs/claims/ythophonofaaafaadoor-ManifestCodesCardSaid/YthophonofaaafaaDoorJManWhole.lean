/-
  What is proved here: manifest.Whole answers as the plain function does.
  Conditions: those that the fact names.
-/
import Derived.Test.YthophonofaaafaaDoorJManSpan
import Derived.Stop.BytesEq
import Derived.Laws.StructEq
namespace Go.Proofs.YthophonofaaafaaDoor
open Go.RowKit

theorem exec_loadsM {a : Act} {o : Oper} {w : World} (ty : TypeId) (x : Operand) (ho : o.op = .load ty x)
    (b off : Nat) (hx : a.eval x = .pointer (some ⟨b, off, none⟩)) (cs : List Value) (ca : Array Value) (hca : cs.toArray = ca) (d : TypeDesc) (hc : w.rangeAt b off cs)
    (hu : Tryd.prog.underlying ty = some d) (hd : d.isRow = true) (hi : (Tryd.prog.info? ty).map (·.size) = some cs.length) : (execOp a.eval o).run Tryd.prog w = .ok (.value (.agg ca)) w := by
  subst hca
  unfold execOp
  simp only [ho, hx, Instr.loadAt, Instr.sureAddr, Sem.run_bind, Sem.run_pure, Result.andThen_ok, run_loadVar_mid w b off ty cs d hc hu hd hi]
theorem eql_sums (xs ys : List UInt8) (hx : xs.length = 32) (hy : ys.length = 32) (w : World) : (binOp .eql 24 (.agg (xs.map v8).toArray) (.agg (ys.map v8).toArray)).run Tryd.prog w = .ok (.bool (xs == ys)) w := by
  have h : (Op.equalIn 10000 24 (.agg (xs.map v8).toArray) (.agg (ys.map v8).toArray)).run Tryd.prog w = .ok (xs == ys) w := run_equalIn_bytes (P := Tryd.prog) w 9998 24 5 32 Tryd.underlying24 Tryd.underlying5 (fun w => by kernel_rfl) xs ys hx hy
  rw [run_eql_struct, h]
  rfl
theorem man_range (m : MM) (su : Value) (B : Nat) (V : World) (h : Blk V B 27 (manC m su)) : V.rangeAt B 3 (m.h.map v8) := fun j v hv => by
  have hj : j < m.h.length := by
    rcases Nat.lt_or_ge j m.h.length with h | h
    · exact h
    · rw [List.getElem?_eq_none (by simpa using h)] at hv; cases hv
  refine h.cell ?_
  rw [manC_hash m su j hj, ← hv]
  simp [hj]

set_option maxRecDepth 100000 in
set_option maxHeartbeats 1000000 in
theorem whole_any (m : MM) (su : Value) (bv : Value) (bs : List UInt8) (w : World) (hh : m.h.length = 32) (hm : m.u.length ≤ 1000000000) (hu : Wds w su m.u) (hbl : bs.length ≤ 1000000000) (hseg : Seg w bv bs) (hgf : 0 < w.heap.size) (hf : Tab w 0 (St.start.list.map v32)) (hgk : 1 < w.heap.size) (hk : Tab w 1 (kWords.map v32)) :
    Calls Tryd.prog 22 #[manV m su, bv] w fun e w' => e = .returned (.bool (isWhole m bs)) ∧ Below w.heap.size w w' := by
  have hB := (Below.refl w.heap.size w).alloc (Nat.le_refl _) (.cells (manC m su) 27)
  have k := Blk.new w 27 (manC m su)
  have hi := manC_info m su hh
  have h1 := manC_1 m su
  have HR : Hid (Calls Tryd.prog 16 #[manV m su] (w.alloc (.cells (manC m su) 27)).drew fun e w' => e = .returned (.bool (decide (okM m))) ∧ Below (w.alloc (.cells (manC m su) 27)).drew.heap.size (w.alloc (.cells (manC m su) 27)).drew w') := mright_any m su _ hh hm (hu.alloc _)
  have HS : Hid (∀ V, Below w.heap.size w V → Calls Tryd.prog 30 #[bv] V fun e w' => e = .returned (.agg ((shaOf bs).map v8).toArray) ∧ Below V.heap.size V w') := fun V hV => sum_any bv bs V (hseg.below hV (Nat.le_refl _)) (by omega) (Nat.lt_of_lt_of_le hgf hV.size) (hf.below hV hgf) (Nat.lt_of_lt_of_le hgk hV.size) (hk.below hV hgk)
  have HE : Hid (∀ V, (binOp .eql 24 (.agg ((shaOf bs).map v8).toArray) (.agg (m.h.map v8).toArray)).run Tryd.prog V = .ok (.bool (shaOf bs == m.h)) V) := fun V => eql_sums _ _ (wbytes_len _) hh V
  have H3 : Hid (∀ V, Blk V w.heap.size 27 (manC m su) → V.rangeAt w.heap.size 3 (m.h.map v8)) := fun V h => man_range m su _ V h
  have hil : (Tryd.prog.info? 24).map (·.size) = some (m.h.map v8).length := by rw [List.length_map, hh]; kernel_rfl
  obtain ⟨ab, cb, rfl⟩ := hseg.shapeD
  clear hu hseg hf hk hm hh
  unfold manV at *
  obtain ⟨B0, hB0⟩ : ∃ B0, B0 = w.heap.size := ⟨_, rfl⟩
  rw [← hB0] at k H3
  obtain ⟨HL, hHL⟩ : ∃ HL, HL = m.h.map v8 := ⟨_, rfl⟩
  rw [← hHL] at HE H3 hil
  obtain ⟨HA, hHA⟩ : ∃ HA, HA = HL.toArray := ⟨_, rfl⟩
  rw [← hHA] at HE
  obtain ⟨SA, hSA⟩ : ∃ SA, SA = ((shaOf bs).map v8).toArray := ⟨_, rfl⟩
  rw [← hSA] at HE HS
  by_cases hn : okM m
  · rw [decide_eq_true hn] at HR
    by_cases hl : (bs.length : Int) = m.s
    · have HW : Hid (isWhole m bs = (shaOf bs == m.h)) := by
        show _ = _
        unfold isWhole
        by_cases he : shaOf bs = m.h <;> simp [he, hn, hl]
      rw [HW.out]
      have heq : ((bs.length : Int) == m.s) = true := by simpa using hl
      clear HW hn hl hHL hSA
      generalize (shaOf bs == m.h) = E at *
      generalize manC m su = MC at *
      generalize m.s = sz at *
      subst hHA
      generalize hHA : HL.toArray = HA at *
      go_enter Tryd.func22, Tryd.ntmps22
      go_wp2_with fail
      rw [← hB0]
      clear hB0
      have hS0 : Blk (w.alloc (.cells MC 27)).drew B0 27 MC := k.drew
      refine held_begin (fun V => Blk V B0 27 MC) (by kernel_rfl) ?_
      refine held_take 0 5 _ (.agg MC) rfl rfl (by kernel_rfl) (by kernel_rfl) (by kernel_rfl) rfl hS0 (fun V hV => exec_loadM _ rfl _ rfl hV hi) ?_
      simp only [Act.put, List.setIfInBounds_toArray, List.set_cons_succ, List.set_cons_zero]
      refine held_all1 1 (by kernel_rfl) (op_call 1 6 _ 16 #[.agg MC] rfl rfl rfl (exec_one 16 _ _ rfl _ rfl Tryd.call16) (HR.out.mono ?_))
      rintro e w1 ⟨rfl, hb1⟩
      have hS1 := hS0.below hb1 hS0.lt
      have hB1 : Below w.heap.size w w1 := hB.drew.trans (hb1.mono hB.size)
      refine ⟨_, rfl, hS1, ?_⟩
      simp only [Act.put, List.setIfInBounds_toArray, List.set_cons_succ, List.set_cons_zero]
      refine held_take 2 7 _ (.bool true) rfl rfl (by kernel_rfl) (by kernel_rfl) (by kernel_rfl) rfl hS1 (fun _ _ => rfl) ?_
      simp only [Act.put, List.setIfInBounds_toArray, List.set_cons_succ, List.set_cons_zero]
      refine held_take 3 8 _ (.slice ab bs.length cb) rfl rfl (by kernel_rfl) (by kernel_rfl) (by kernel_rfl) rfl hS1 (fun _ _ => rfl) ?_
      simp only [Act.put, List.setIfInBounds_toArray, List.set_cons_succ, List.set_cons_zero]
      refine held_take 4 9 _ (.int .i64 (bs.length : Int)) rfl rfl (by kernel_rfl) (by kernel_rfl) (by kernel_rfl) rfl hS1 (fun V _ => exec_len _ rfl _ _ _ rfl) ?_
      simp only [Act.put, List.setIfInBounds_toArray, List.set_cons_succ, List.set_cons_zero]
      refine held_take 5 10 _ (.pointer (some ⟨B0, 1, none⟩)) rfl rfl (by kernel_rfl) (by kernel_rfl) (by kernel_rfl) rfl hS1 (fun _ _ => rfl) ?_
      simp only [Act.put, List.setIfInBounds_toArray, List.set_cons_succ, List.set_cons_zero]
      refine held_take 6 11 _ (.int .i64 sz) rfl rfl (by kernel_rfl) (by kernel_rfl) (by kernel_rfl) rfl hS1 (fun V hV => exec_loadc 3 _ rfl _ _ rfl (load_one 3 (fun _ => by kernel_rfl) V _ _ _ (hV.cell h1))) ?_
      simp only [Act.put, List.setIfInBounds_toArray, List.set_cons_succ, List.set_cons_zero]
      refine held_take 7 12 _ (.bool true) rfl rfl (by kernel_rfl) (by kernel_rfl) (by kernel_rfl) rfl hS1 (fun V _ => exec_eql7 3 _ _ rfl _ _ _ rfl rfl (fun _ => by kernel_rfl) heq) ?_
      simp only [Act.put, List.setIfInBounds_toArray, List.set_cons_succ, List.set_cons_zero]
      refine held_take 8 13 _ (.bool true) rfl rfl (by kernel_rfl) (by kernel_rfl) (by kernel_rfl) rfl hS1 (fun _ _ => rfl) ?_
      simp only [Act.put, List.setIfInBounds_toArray, List.set_cons_succ, List.set_cons_zero]
      refine held_take 9 14 _ (.bool true) rfl rfl (by kernel_rfl) (by kernel_rfl) (by kernel_rfl) rfl hS1 (fun _ _ => rfl) ?_
      simp only [Act.put, List.setIfInBounds_toArray, List.set_cons_succ, List.set_cons_zero]
      refine held_take 10 15 _ (.slice ab bs.length cb) rfl rfl (by kernel_rfl) (by kernel_rfl) (by kernel_rfl) rfl hS1 (fun _ _ => rfl) ?_
      simp only [Act.put, List.setIfInBounds_toArray, List.set_cons_succ, List.set_cons_zero]
      refine held_take 12 17 _ (.pointer (some ⟨B0, 3, none⟩)) rfl rfl (by kernel_rfl) (by kernel_rfl) (by kernel_rfl) rfl hS1 (fun _ _ => rfl) ?_
      simp only [Act.put, List.setIfInBounds_toArray, List.set_cons_succ, List.set_cons_zero]
      refine held_take 13 18 _ (.agg HA) rfl rfl (by kernel_rfl) (by kernel_rfl) (by kernel_rfl) rfl hS1 (fun V hV => exec_loadsM 24 _ rfl B0 3 rfl HL HA hHA _ (H3.out V hV) Tryd.underlying24 rfl hil) ?_
      simp only [Act.put, List.setIfInBounds_toArray, List.set_cons_succ, List.set_cons_zero]
      refine held_all1 11 (by kernel_rfl) (op_call 11 16 _ 30 #[.slice ab bs.length cb] rfl rfl rfl (exec_one 30 _ _ rfl _ rfl Tryd.call30) ((HS.out w1 hB1).mono ?_))
      rintro e w2 ⟨rfl, hb2⟩
      have hS2 := hS1.below hb2 hS1.lt
      have hB2 : Below w.heap.size w w2 := hB1.trans (hb2.mono hB1.size)
      refine ⟨_, rfl, hS2, ?_⟩
      simp only [Act.put, List.setIfInBounds_toArray, List.set_cons_succ, List.set_cons_zero]
      refine held_take 14 19 _ (.bool E) rfl rfl (by kernel_rfl) (by kernel_rfl) (by kernel_rfl) rfl hS2 (fun V _ => exec_cmp .eql 24 24 _ _ rfl (.inr rfl) (.agg SA) (.agg HA) _ rfl rfl (run_eqGuard_agg V .eql 24 _ _ _ _ (by kernel_rfl)) (HE.out V)) ?_
      simp only [Act.put, List.setIfInBounds_toArray, List.set_cons_succ, List.set_cons_zero]
      refine held_take 15 20 _ (.bool E) rfl rfl (by kernel_rfl) (by kernel_rfl) (by kernel_rfl) rfl hS2 (fun _ _ => rfl) ?_
      simp only [Act.put, List.setIfInBounds_toArray, List.set_cons_succ, List.set_cons_zero]
      refine held_take 16 4 _ (.bool E) rfl rfl (by kernel_rfl) (by kernel_rfl) (by kernel_rfl) rfl hS2 (fun _ _ => rfl) ?_
      simp only [Act.put, List.setIfInBounds_toArray, List.set_cons_succ, List.set_cons_zero]
      refine wpAnyH_done (by kernel_rfl) ?_ _
      refine NoPanic.normal ?_
      go_wp2
      go_ret
      exact ⟨rfl, hB2⟩
    · have HW : Hid (isWhole m bs = false) := decide_eq_false fun h => hl h.2.1
      rw [HW.out]
      have heq : ((bs.length : Int) == m.s) = false := by simpa using hl
      clear HW hn hl hHL hSA HS HE H3 hHA hil
      generalize manC m su = MC at *
      generalize m.s = sz at *
      go_enter Tryd.func22, Tryd.ntmps22
      go_wp2_with fail
      rw [← hB0]
      clear hB0
      have hS0 : Blk (w.alloc (.cells MC 27)).drew B0 27 MC := k.drew
      refine held_begin (fun V => Blk V B0 27 MC) (by kernel_rfl) ?_
      refine held_take 0 5 _ (.agg MC) rfl rfl (by kernel_rfl) (by kernel_rfl) (by kernel_rfl) rfl hS0 (fun V hV => exec_loadM _ rfl _ rfl hV hi) ?_
      simp only [Act.put, List.setIfInBounds_toArray, List.set_cons_succ, List.set_cons_zero]
      refine held_all1 1 (by kernel_rfl) (op_call 1 6 _ 16 #[.agg MC] rfl rfl rfl (exec_one 16 _ _ rfl _ rfl Tryd.call16) (HR.out.mono ?_))
      rintro e w1 ⟨rfl, hb1⟩
      have hS1 := hS0.below hb1 hS0.lt
      have hB1 : Below w.heap.size w w1 := hB.drew.trans (hb1.mono hB.size)
      refine ⟨_, rfl, hS1, ?_⟩
      simp only [Act.put, List.setIfInBounds_toArray, List.set_cons_succ, List.set_cons_zero]
      refine held_take 2 7 _ (.bool true) rfl rfl (by kernel_rfl) (by kernel_rfl) (by kernel_rfl) rfl hS1 (fun _ _ => rfl) ?_
      simp only [Act.put, List.setIfInBounds_toArray, List.set_cons_succ, List.set_cons_zero]
      refine held_take 3 8 _ (.slice ab bs.length cb) rfl rfl (by kernel_rfl) (by kernel_rfl) (by kernel_rfl) rfl hS1 (fun _ _ => rfl) ?_
      simp only [Act.put, List.setIfInBounds_toArray, List.set_cons_succ, List.set_cons_zero]
      refine held_take 4 9 _ (.int .i64 (bs.length : Int)) rfl rfl (by kernel_rfl) (by kernel_rfl) (by kernel_rfl) rfl hS1 (fun V _ => exec_len _ rfl _ _ _ rfl) ?_
      simp only [Act.put, List.setIfInBounds_toArray, List.set_cons_succ, List.set_cons_zero]
      refine held_take 5 10 _ (.pointer (some ⟨B0, 1, none⟩)) rfl rfl (by kernel_rfl) (by kernel_rfl) (by kernel_rfl) rfl hS1 (fun _ _ => rfl) ?_
      simp only [Act.put, List.setIfInBounds_toArray, List.set_cons_succ, List.set_cons_zero]
      refine held_take 6 11 _ (.int .i64 sz) rfl rfl (by kernel_rfl) (by kernel_rfl) (by kernel_rfl) rfl hS1 (fun V hV => exec_loadc 3 _ rfl _ _ rfl (load_one 3 (fun _ => by kernel_rfl) V _ _ _ (hV.cell h1))) ?_
      simp only [Act.put, List.setIfInBounds_toArray, List.set_cons_succ, List.set_cons_zero]
      refine held_take 7 12 _ (.bool false) rfl rfl (by kernel_rfl) (by kernel_rfl) (by kernel_rfl) rfl hS1 (fun V _ => exec_eql7 3 _ _ rfl _ _ _ rfl rfl (fun _ => by kernel_rfl) heq) ?_
      simp only [Act.put, List.setIfInBounds_toArray, List.set_cons_succ, List.set_cons_zero]
      refine held_take 8 13 _ (.bool false) rfl rfl (by kernel_rfl) (by kernel_rfl) (by kernel_rfl) rfl hS1 (fun _ _ => rfl) ?_
      simp only [Act.put, List.setIfInBounds_toArray, List.set_cons_succ, List.set_cons_zero]
      refine held_take 9 14 _ (.bool false) rfl rfl (by kernel_rfl) (by kernel_rfl) (by kernel_rfl) rfl hS1 (fun _ _ => rfl) ?_
      simp only [Act.put, List.setIfInBounds_toArray, List.set_cons_succ, List.set_cons_zero]
      refine held_pass 10 15 _ rfl rfl (by kernel_rfl) (by kernel_rfl) (by kernel_rfl) rfl hS1 ?_
      simp only [Act.put, List.setIfInBounds_toArray, List.set_cons_succ, List.set_cons_zero]
      refine held_pass 11 16 _ rfl rfl (by kernel_rfl) (by kernel_rfl) (by kernel_rfl) rfl hS1 ?_
      simp only [Act.put, List.setIfInBounds_toArray, List.set_cons_succ, List.set_cons_zero]
      refine held_pass 12 17 _ rfl rfl (by kernel_rfl) (by kernel_rfl) (by kernel_rfl) rfl hS1 ?_
      simp only [Act.put, List.setIfInBounds_toArray, List.set_cons_succ, List.set_cons_zero]
      refine held_pass 13 18 _ rfl rfl (by kernel_rfl) (by kernel_rfl) (by kernel_rfl) rfl hS1 ?_
      simp only [Act.put, List.setIfInBounds_toArray, List.set_cons_succ, List.set_cons_zero]
      refine held_pass 14 19 _ rfl rfl (by kernel_rfl) (by kernel_rfl) (by kernel_rfl) rfl hS1 ?_
      simp only [Act.put, List.setIfInBounds_toArray, List.set_cons_succ, List.set_cons_zero]
      refine held_take 15 20 _ (.bool false) rfl rfl (by kernel_rfl) (by kernel_rfl) (by kernel_rfl) rfl hS1 (fun _ _ => rfl) ?_
      simp only [Act.put, List.setIfInBounds_toArray, List.set_cons_succ, List.set_cons_zero]
      refine held_take 16 4 _ (.bool false) rfl rfl (by kernel_rfl) (by kernel_rfl) (by kernel_rfl) rfl hS1 (fun _ _ => rfl) ?_
      simp only [Act.put, List.setIfInBounds_toArray, List.set_cons_succ, List.set_cons_zero]
      refine wpAnyH_done (by kernel_rfl) ?_ _
      refine NoPanic.normal ?_
      go_wp2
      go_ret
      exact ⟨rfl, hB1⟩
  · rw [decide_eq_false hn] at HR
    have HW : Hid (isWhole m bs = false) := decide_eq_false fun h => hn h.1
    rw [HW.out]
    clear HW hn hHL hSA HS HE H3 hHA hil
    generalize manC m su = MC at *
    generalize m.s = sz at *
    go_enter Tryd.func22, Tryd.ntmps22
    go_wp2_with fail
    rw [← hB0]
    clear hB0
    have hS0 : Blk (w.alloc (.cells MC 27)).drew B0 27 MC := k.drew
    refine held_begin (fun V => Blk V B0 27 MC) (by kernel_rfl) ?_
    refine held_take 0 5 _ (.agg MC) rfl rfl (by kernel_rfl) (by kernel_rfl) (by kernel_rfl) rfl hS0 (fun V hV => exec_loadM _ rfl _ rfl hV hi) ?_
    simp only [Act.put, List.setIfInBounds_toArray, List.set_cons_succ, List.set_cons_zero]
    refine held_all1 1 (by kernel_rfl) (op_call 1 6 _ 16 #[.agg MC] rfl rfl rfl (exec_one 16 _ _ rfl _ rfl Tryd.call16) (HR.out.mono ?_))
    rintro e w1 ⟨rfl, hb1⟩
    have hS1 := hS0.below hb1 hS0.lt
    have hB1 : Below w.heap.size w w1 := hB.drew.trans (hb1.mono hB.size)
    refine ⟨_, rfl, hS1, ?_⟩
    simp only [Act.put, List.setIfInBounds_toArray, List.set_cons_succ, List.set_cons_zero]
    refine held_take 2 7 _ (.bool false) rfl rfl (by kernel_rfl) (by kernel_rfl) (by kernel_rfl) rfl hS1 (fun _ _ => rfl) ?_
    simp only [Act.put, List.setIfInBounds_toArray, List.set_cons_succ, List.set_cons_zero]
    refine held_pass 3 8 _ rfl rfl (by kernel_rfl) (by kernel_rfl) (by kernel_rfl) rfl hS1 ?_
    simp only [Act.put, List.setIfInBounds_toArray, List.set_cons_succ, List.set_cons_zero]
    refine held_pass 4 9 _ rfl rfl (by kernel_rfl) (by kernel_rfl) (by kernel_rfl) rfl hS1 ?_
    simp only [Act.put, List.setIfInBounds_toArray, List.set_cons_succ, List.set_cons_zero]
    refine held_pass 5 10 _ rfl rfl (by kernel_rfl) (by kernel_rfl) (by kernel_rfl) rfl hS1 ?_
    simp only [Act.put, List.setIfInBounds_toArray, List.set_cons_succ, List.set_cons_zero]
    refine held_pass 6 11 _ rfl rfl (by kernel_rfl) (by kernel_rfl) (by kernel_rfl) rfl hS1 ?_
    simp only [Act.put, List.setIfInBounds_toArray, List.set_cons_succ, List.set_cons_zero]
    refine held_pass 7 12 _ rfl rfl (by kernel_rfl) (by kernel_rfl) (by kernel_rfl) rfl hS1 ?_
    simp only [Act.put, List.setIfInBounds_toArray, List.set_cons_succ, List.set_cons_zero]
    refine held_take 8 13 _ (.bool false) rfl rfl (by kernel_rfl) (by kernel_rfl) (by kernel_rfl) rfl hS1 (fun _ _ => rfl) ?_
    simp only [Act.put, List.setIfInBounds_toArray, List.set_cons_succ, List.set_cons_zero]
    refine held_take 9 14 _ (.bool false) rfl rfl (by kernel_rfl) (by kernel_rfl) (by kernel_rfl) rfl hS1 (fun _ _ => rfl) ?_
    simp only [Act.put, List.setIfInBounds_toArray, List.set_cons_succ, List.set_cons_zero]
    refine held_pass 10 15 _ rfl rfl (by kernel_rfl) (by kernel_rfl) (by kernel_rfl) rfl hS1 ?_
    simp only [Act.put, List.setIfInBounds_toArray, List.set_cons_succ, List.set_cons_zero]
    refine held_pass 11 16 _ rfl rfl (by kernel_rfl) (by kernel_rfl) (by kernel_rfl) rfl hS1 ?_
    simp only [Act.put, List.setIfInBounds_toArray, List.set_cons_succ, List.set_cons_zero]
    refine held_pass 12 17 _ rfl rfl (by kernel_rfl) (by kernel_rfl) (by kernel_rfl) rfl hS1 ?_
    simp only [Act.put, List.setIfInBounds_toArray, List.set_cons_succ, List.set_cons_zero]
    refine held_pass 13 18 _ rfl rfl (by kernel_rfl) (by kernel_rfl) (by kernel_rfl) rfl hS1 ?_
    simp only [Act.put, List.setIfInBounds_toArray, List.set_cons_succ, List.set_cons_zero]
    refine held_pass 14 19 _ rfl rfl (by kernel_rfl) (by kernel_rfl) (by kernel_rfl) rfl hS1 ?_
    simp only [Act.put, List.setIfInBounds_toArray, List.set_cons_succ, List.set_cons_zero]
    refine held_take 15 20 _ (.bool false) rfl rfl (by kernel_rfl) (by kernel_rfl) (by kernel_rfl) rfl hS1 (fun _ _ => rfl) ?_
    simp only [Act.put, List.setIfInBounds_toArray, List.set_cons_succ, List.set_cons_zero]
    refine held_take 16 4 _ (.bool false) rfl rfl (by kernel_rfl) (by kernel_rfl) (by kernel_rfl) rfl hS1 (fun _ _ => rfl) ?_
    simp only [Act.put, List.setIfInBounds_toArray, List.set_cons_succ, List.set_cons_zero]
    refine wpAnyH_done (by kernel_rfl) ?_ _
    refine NoPanic.normal ?_
    go_wp2
    go_ret
    exact ⟨rfl, hB1⟩
end Go.Proofs.YthophonofaaafaaDoor
