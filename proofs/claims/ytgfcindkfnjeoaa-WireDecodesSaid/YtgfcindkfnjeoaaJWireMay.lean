/-
  What is proved here: wire.numbersMay tells whether a message's numbers may be, and whether all others are nought; bodyMay.
  Conditions: the message comes in as a value.
-/
import Derived.Test.YtgfcindkfnjeoaaJWireNumsOf
import Derived.Test.YtgfcindkfnjeoaaJSegMid
namespace Go.Proofs.Ytgfcindkfnjeoaa
open Go.RowKit

theorem exec_lssW {a : Act} {o : Oper} {w : World} (t : TypeId) (x y : Operand) (ho : o.op = .binOp .lss t x y t) (m n : Int) (b : Bool) (hx : a.eval x = .int .i64 m) (hy : a.eval y = .int .i64 n) (h : decide (m < n) = b) : (execOp a.eval o).run Try.prog w = .ok (.value (.bool b)) w := by
  subst h
  unfold execOp
  simp [ho, hx, hy]
  rfl
theorem info_mess : (Try.prog.info? 28).map (·.size) = some 45 := by kernel_rfl
theorem index_nums (g len c I : Nat) (h : I < len) (w : World) : (Instr.indexAt 54 (.slice (some ⟨g, 0, none⟩) len c) (.int .i64 (I : Int))).run Try.prog w = .ok (.pointer (some ⟨g, I * 3, none⟩)) w := by
  have hs : ∀ w, (sizeOf 59).run Try.prog w = .ok 3 w := fun w => by kernel_rfl
  have hu : Try.prog.underlying 54 = some (.slice 59) := by kernel_rfl
  have hi : (0 : Int) ≤ (I : Int) ∧ (I : Int) < (len : Int) := by omega
  simp [Instr.indexAt, asIntOf, run_underlying hu, hs, hi, Addr.add_mid]
  intro h2
  omega
theorem exec_gtrW {a : Act} {o : Oper} {w : World} (t : TypeId) (x y : Operand) (ho : o.op = .binOp .gtr t x y t) (m n : Int) (b : Bool) (hx : a.eval x = .int .i64 m) (hy : a.eval y = .int .i64 n) (h : decide (n < m) = b) : (execOp a.eval o).run Try.prog w = .ok (.value (.bool b)) w := by
  subst h
  unfold execOp
  simp [ho, hx, hy]
  rfl
theorem NumsAt.grownB {w w' : World} {B : Nat} {v : Value} {l : List (Nat × Nat × Nat)} {y : MS} {mc : List Value} {bv : Value} (h : NumsAt w B v l) (hg : w.grownBy w' (some B)) (hk : Blk w B 28 (msA y mc bv)) : NumsAt w' B v l := by
  obtain ⟨ao, c, hv, h⟩ := h
  refine ⟨ao, c, hv, fun i n hn => ?_⟩
  obtain ⟨g, e, h2, h3, h4, h5⟩ := h i n hn
  have hne : g ≠ B := by
    intro he
    have h0 : (l[0]?).isSome = true := by
      have hi := (List.getElem?_eq_some_iff.1 hn).1
      rw [List.getElem?_eq_getElem (by omega)]
      rfl
    obtain ⟨n0, hn0⟩ := Option.isSome_iff_exists.1 h0
    obtain ⟨g', e', _, h3', _⟩ := h 0 n0 hn0
    rw [e] at e'
    cases e'
    rw [he] at h3'
    have := (hk.cell (msA_k y mc bv)).symm.trans h3'
    cases this
  have hq : some g ≠ some B := fun e => hne (by cases e; rfl)
  have hc := fun o => World.cell?_of_block (a := ⟨g, o, none⟩) (hg.block g h2 hq)
  exact ⟨g, e, Nat.lt_of_lt_of_le h2 hg.size, (hc _).trans h3, (hc _).trans h4, (hc _).trans h5⟩
set_option maxRecDepth 100000 in
set_option maxHeartbeats 8000000 in
theorem numsMay_any (x : MS) (mc : List Value) (bv : Value) (w : World) (hmc : mc.length = 36) :
    Calls Try.prog 21 #[.agg (msA x mc bv)] w fun e w' => e = .returned (.bool (numsMay x)) ∧ Below w.heap.size w w' := by
  have hB0 := (Below.refl w.heap.size w).alloc (Nat.le_refl _) (.cells (msA x mc bv) 28)
  have kB0 := Blk.new w 28 (msA x mc bv)
  obtain ⟨B, hB⟩ : ∃ B, B = w.heap.size := ⟨_, rfl⟩
  have HBW : Hid (B = w.heap.size) := hB
  rw [← hB] at kB0
  obtain ⟨M, hM⟩ : ∃ M, M = numsMay x := ⟨_, rfl⟩
  have HM : Hid (mayL (numK x.k) x = M) := hM.symm
  rw [← hM]
  clear hM
  have HNO : Hid (∀ V, V.cell? ⟨B, 0, none⟩ = some (.int .i64 x.k) → B < V.heap.size → Calls Try.prog 32 #[.pointer (some ⟨B, 0, none⟩)] V fun e w' => ∃ v, e = .returned v ∧ NumsAt w' B v (numK x.k) ∧ Below V.heap.size V w') := fun V h1 h2 => numsOf_any B x.k V h1 h2
  have HAT : Hid (∀ n ∈ numK x.k, (1 ≤ n.1 ∧ n.1 ≤ 7) ∧ n.2.1 ≤ 1 ∧ n.2.2 ≤ 1073741824) := fun n hn => numK_at hn
  have HSZ : Hid (∀ y, (msA y mc bv).size = 45) := fun y => msA_size y mc bv hmc
  have HL6 : Hid ((numK x.k).length ≤ 6) := numK_len x.k
  clear hmc
  go_enter Try.func21, Try.ntmps21
  go_wp2_with fail
  rw [← hB]
  clear hB
  generalize w.alloc (.cells (msA x mc bv) 28) = WA at *
  refine (HNO.out WA (kB0.cell (msA_k x mc bv)) kB0.lt).mono ?_
  generalize numK x.k = L at *
  rintro e w1 ⟨v, rfl, hN1, hb1⟩
  have kB1 := kB0.below hb1 kB0.lt
  have hB1 := hB0.trans (hb1.mono hB0.size)
  clear kB0 hB0 hb1 HNO
  obtain ⟨ao, c, e1, hN0⟩ := hN1
  subst e1
  have hN1 : NumsAt w1 B (.slice ao L.length c) L := ⟨ao, c, rfl, hN0⟩
  clear hN0
  go_wp2_with fail
  go_loopw [7] (fun i wr => ∃ (j : Nat) (y : MS), i = .int .i64 (j : Int) ∧ j ≤ L.length ∧ Blk wr B 28 (msA y mc bv) ∧ NumsAt wr B (.slice ao L.length c) L ∧ mayL (L.drop j) y = M ∧ Below w.heap.size w wr) (fun i _ => L.length - (intOf i).toNat)
  case atStart => exact ⟨0, x, rfl, Nat.zero_le _, kB1, hN1, HM.out, hB1⟩
  case round =>
    clear kB1 hN1 hB1
    obtain ⟨j, y, rfl, hj, kB, hN, hMJ, hBr⟩ := hrel
    by_cases hlt : j < L.length
    · have hnj : L[j]? = some L[j] := List.getElem?_eq_getElem hlt
      have hdr : L.drop j = L[j] :: L.drop (j + 1) := List.drop_eq_getElem_cons hlt
      have hat := HAT.out L[j] (List.getElem_mem hlt)
      obtain ⟨ao', c', e2, hN2⟩ := id hN
      cases e2
      obtain ⟨g, rfl, hg, c0, c1, c2⟩ := hN2 j L[j] hnj
      clear hN2
      rw [hdr] at hMJ
      generalize L[j] = nn at *
      obtain ⟨O, A, C⟩ := nn
      simp only at hat c0 c1 c2
      have ix := index_nums g L.length c j hlt
      have cB := kB.cell (msA_get y mc bv O hat.1.1 hat.1.2)
      have hMJ : ((decide ((A : Int) ≤ getM y O) && decide (getM y O ≤ (C : Int))) && mayL (L.drop (j + 1)) (zeroAt y O)) = M := hMJ
      have i1 : (j : Int) < (L.length : Int) := by omega
      have hwj : IntKind.i64.wrap ((j : Int) + 1) = (j : Int) + 1 := by have := HL6.out; rw [IntKind.wrap_i64]; omega
      have HZ : Hid ((msA y mc bv).setIfInBounds O (.int .i64 0) = msA (zeroAt y O) mc bv ∧ O < 45) := ⟨msA_zero y mc bv O hat.1.1 hat.1.2, by omega⟩
      have HJ : Hid (j < L.length) := hlt
      obtain ⟨P, hP⟩ : ∃ P, P = wr.heap.size := ⟨_, rfl⟩
      have kP := Blk.new wr 59 #[.pointer (some ⟨B, O, none⟩), .int .i64 (A : Int), .int .i64 (C : Int)]
      rw [← hP] at kP
      have kB2 := kB.alloc (.cells #[.pointer (some ⟨B, O, none⟩), .int .i64 (A : Int), .int .i64 (C : Int)] 59)
      have cB2 := kB2.cell (msA_get y mc bv O hat.1.1 hat.1.2)
      have hB2 := hBr.alloc hBr.size (.cells #[.pointer (some ⟨B, O, none⟩), .int .i64 (A : Int), .int .i64 (C : Int)] 59)
      have hN2 := hN.after ((Below.refl wr.heap.size wr).alloc (Nat.le_refl _) (.cells #[.pointer (some ⟨B, O, none⟩), .int .i64 (A : Int), .int .i64 (C : Int)] 59))
      generalize hYY : getM y O = Y at *
      clear hN hBr hdr hnj hat hlt hj kB hYY cB
      go_wp2_with fail
      rw [← hP]
      clear hP c0 c1 c2 ix
      generalize wr.alloc (.cells #[.pointer (some ⟨B, O, none⟩), .int .i64 (A : Int), .int .i64 (C : Int)] 59) = W2 at *
      have hS0 : (fun V : World => V.cell? ⟨P, 0, none⟩ = some (.pointer (some ⟨B, O, none⟩)) ∧ V.cell? ⟨P, 1, none⟩ = some (.int .i64 (A : Int)) ∧ V.cell? ⟨P, 2, none⟩ = some (.int .i64 (C : Int)) ∧ V.cell? ⟨B, O, none⟩ = some (.int .i64 Y)) W2.drew := ⟨kP.cell (j := 0) rfl, kP.cell (j := 1) rfl, kP.cell (j := 2) rfl, cB2⟩
      by_cases h1 : Y < (A : Int)
      · have dlo : decide (Y < (A : Int)) = true := decide_eq_true h1
        have hMF : M = false := by rw [← hMJ, decide_eq_false (by omega : ¬ (A : Int) ≤ Y)]; rfl
        subst hMF
        clear h1 hMJ HM kP kB2 cB2 hN2
        refine held_begin (fun V => V.cell? ⟨P, 0, none⟩ = some (.pointer (some ⟨B, O, none⟩)) ∧ V.cell? ⟨P, 1, none⟩ = some (.int .i64 (A : Int)) ∧ V.cell? ⟨P, 2, none⟩ = some (.int .i64 (C : Int)) ∧ V.cell? ⟨B, O, none⟩ = some (.int .i64 Y)) (by kernel_rfl) ?_
        refine held_take 0 11 _ (.pointer (some ⟨P, 0, none⟩)) rfl rfl (by kernel_rfl) (by kernel_rfl) (by kernel_rfl) rfl hS0 (fun _ _ => rfl) ?_
        simp only [Act.put, List.setIfInBounds_toArray, List.set_cons_succ, List.set_cons_zero]
        refine held_take 1 12 _ (.pointer (some ⟨B, O, none⟩)) rfl rfl (by kernel_rfl) (by kernel_rfl) (by kernel_rfl) rfl hS0 (fun V hV => exec_loadc 57 _ rfl _ _ rfl (load_one 57 (fun _ => by kernel_rfl) V _ _ _ (hV.1))) ?_
        simp only [Act.put, List.setIfInBounds_toArray, List.set_cons_succ, List.set_cons_zero]
        refine held_take 2 13 _ (.pointer (some ⟨B, O, none⟩)) rfl rfl (by kernel_rfl) (by kernel_rfl) (by kernel_rfl) rfl hS0 (fun _ _ => rfl) ?_
        simp only [Act.put, List.setIfInBounds_toArray, List.set_cons_succ, List.set_cons_zero]
        refine held_take 3 14 _ (.int .i64 Y) rfl rfl (by kernel_rfl) (by kernel_rfl) (by kernel_rfl) rfl hS0 (fun V hV => exec_loadc 3 _ rfl _ _ rfl (load_one 3 (fun _ => by kernel_rfl) V _ _ _ (hV.2.2.2))) ?_
        simp only [Act.put, List.setIfInBounds_toArray, List.set_cons_succ, List.set_cons_zero]
        refine held_take 4 15 _ (.pointer (some ⟨P, 1, none⟩)) rfl rfl (by kernel_rfl) (by kernel_rfl) (by kernel_rfl) rfl hS0 (fun _ _ => rfl) ?_
        simp only [Act.put, List.setIfInBounds_toArray, List.set_cons_succ, List.set_cons_zero]
        refine held_take 5 16 _ (.int .i64 (A : Int)) rfl rfl (by kernel_rfl) (by kernel_rfl) (by kernel_rfl) rfl hS0 (fun V hV => exec_loadc 3 _ rfl _ _ rfl (load_one 3 (fun _ => by kernel_rfl) V _ _ _ (hV.2.1))) ?_
        simp only [Act.put, List.setIfInBounds_toArray, List.set_cons_succ, List.set_cons_zero]
        refine held_take 6 17 _ (.bool true) rfl rfl (by kernel_rfl) (by kernel_rfl) (by kernel_rfl) rfl hS0 (fun _ _ => exec_lssW 3 _ _ rfl _ _ _ rfl rfl dlo) ?_
        simp only [Act.put, List.setIfInBounds_toArray, List.set_cons_succ, List.set_cons_zero]
        refine held_take 7 18 _ (.bool true) rfl rfl (by kernel_rfl) (by kernel_rfl) (by kernel_rfl) rfl hS0 (fun _ _ => rfl) ?_
        simp only [Act.put, List.setIfInBounds_toArray, List.set_cons_succ, List.set_cons_zero]
        refine held_pass 8 19 _ rfl rfl (by kernel_rfl) (by kernel_rfl) (by kernel_rfl) rfl hS0 ?_
        simp only [Act.put, List.setIfInBounds_toArray, List.set_cons_succ, List.set_cons_zero]
        refine held_pass 9 20 _ rfl rfl (by kernel_rfl) (by kernel_rfl) (by kernel_rfl) rfl hS0 ?_
        simp only [Act.put, List.setIfInBounds_toArray, List.set_cons_succ, List.set_cons_zero]
        refine held_pass 10 21 _ rfl rfl (by kernel_rfl) (by kernel_rfl) (by kernel_rfl) rfl hS0 ?_
        simp only [Act.put, List.setIfInBounds_toArray, List.set_cons_succ, List.set_cons_zero]
        refine held_pass 11 22 _ rfl rfl (by kernel_rfl) (by kernel_rfl) (by kernel_rfl) rfl hS0 ?_
        simp only [Act.put, List.setIfInBounds_toArray, List.set_cons_succ, List.set_cons_zero]
        refine held_pass 12 23 _ rfl rfl (by kernel_rfl) (by kernel_rfl) (by kernel_rfl) rfl hS0 ?_
        simp only [Act.put, List.setIfInBounds_toArray, List.set_cons_succ, List.set_cons_zero]
        refine held_pass 13 24 _ rfl rfl (by kernel_rfl) (by kernel_rfl) (by kernel_rfl) rfl hS0 ?_
        simp only [Act.put, List.setIfInBounds_toArray, List.set_cons_succ, List.set_cons_zero]
        refine held_pass 14 25 _ rfl rfl (by kernel_rfl) (by kernel_rfl) (by kernel_rfl) rfl hS0 ?_
        simp only [Act.put, List.setIfInBounds_toArray, List.set_cons_succ, List.set_cons_zero]
        refine held_take 15 26 _ (.bool true) rfl rfl (by kernel_rfl) (by kernel_rfl) (by kernel_rfl) rfl hS0 (fun _ _ => rfl) ?_
        simp only [Act.put, List.setIfInBounds_toArray, List.set_cons_succ, List.set_cons_zero]
        refine wpAnyH_done (by kernel_rfl) ?_ _
        refine NoPanic.normal ?_
        go_wp2
        go_ret
        exact ⟨rfl, hB2.drew⟩
      · have dlo : decide (Y < (A : Int)) = false := decide_eq_false h1
        by_cases h2 : (C : Int) < Y
        · have dhi : decide ((C : Int) < Y) = true := decide_eq_true h2
          have hMF : M = false := by rw [← hMJ, decide_eq_false (by omega : ¬ Y ≤ (C : Int)), Bool.and_false]; rfl
          subst hMF
          clear h1 h2 hMJ HM kP kB2 cB2 hN2
          refine held_begin (fun V => V.cell? ⟨P, 0, none⟩ = some (.pointer (some ⟨B, O, none⟩)) ∧ V.cell? ⟨P, 1, none⟩ = some (.int .i64 (A : Int)) ∧ V.cell? ⟨P, 2, none⟩ = some (.int .i64 (C : Int)) ∧ V.cell? ⟨B, O, none⟩ = some (.int .i64 Y)) (by kernel_rfl) ?_
          refine held_take 0 11 _ (.pointer (some ⟨P, 0, none⟩)) rfl rfl (by kernel_rfl) (by kernel_rfl) (by kernel_rfl) rfl hS0 (fun _ _ => rfl) ?_
          simp only [Act.put, List.setIfInBounds_toArray, List.set_cons_succ, List.set_cons_zero]
          refine held_take 1 12 _ (.pointer (some ⟨B, O, none⟩)) rfl rfl (by kernel_rfl) (by kernel_rfl) (by kernel_rfl) rfl hS0 (fun V hV => exec_loadc 57 _ rfl _ _ rfl (load_one 57 (fun _ => by kernel_rfl) V _ _ _ (hV.1))) ?_
          simp only [Act.put, List.setIfInBounds_toArray, List.set_cons_succ, List.set_cons_zero]
          refine held_take 2 13 _ (.pointer (some ⟨B, O, none⟩)) rfl rfl (by kernel_rfl) (by kernel_rfl) (by kernel_rfl) rfl hS0 (fun _ _ => rfl) ?_
          simp only [Act.put, List.setIfInBounds_toArray, List.set_cons_succ, List.set_cons_zero]
          refine held_take 3 14 _ (.int .i64 Y) rfl rfl (by kernel_rfl) (by kernel_rfl) (by kernel_rfl) rfl hS0 (fun V hV => exec_loadc 3 _ rfl _ _ rfl (load_one 3 (fun _ => by kernel_rfl) V _ _ _ (hV.2.2.2))) ?_
          simp only [Act.put, List.setIfInBounds_toArray, List.set_cons_succ, List.set_cons_zero]
          refine held_take 4 15 _ (.pointer (some ⟨P, 1, none⟩)) rfl rfl (by kernel_rfl) (by kernel_rfl) (by kernel_rfl) rfl hS0 (fun _ _ => rfl) ?_
          simp only [Act.put, List.setIfInBounds_toArray, List.set_cons_succ, List.set_cons_zero]
          refine held_take 5 16 _ (.int .i64 (A : Int)) rfl rfl (by kernel_rfl) (by kernel_rfl) (by kernel_rfl) rfl hS0 (fun V hV => exec_loadc 3 _ rfl _ _ rfl (load_one 3 (fun _ => by kernel_rfl) V _ _ _ (hV.2.1))) ?_
          simp only [Act.put, List.setIfInBounds_toArray, List.set_cons_succ, List.set_cons_zero]
          refine held_take 6 17 _ (.bool false) rfl rfl (by kernel_rfl) (by kernel_rfl) (by kernel_rfl) rfl hS0 (fun _ _ => exec_lssW 3 _ _ rfl _ _ _ rfl rfl dlo) ?_
          simp only [Act.put, List.setIfInBounds_toArray, List.set_cons_succ, List.set_cons_zero]
          refine held_take 7 18 _ (.bool false) rfl rfl (by kernel_rfl) (by kernel_rfl) (by kernel_rfl) rfl hS0 (fun _ _ => rfl) ?_
          simp only [Act.put, List.setIfInBounds_toArray, List.set_cons_succ, List.set_cons_zero]
          refine held_take 8 19 _ (.pointer (some ⟨P, 0, none⟩)) rfl rfl (by kernel_rfl) (by kernel_rfl) (by kernel_rfl) rfl hS0 (fun _ _ => rfl) ?_
          simp only [Act.put, List.setIfInBounds_toArray, List.set_cons_succ, List.set_cons_zero]
          refine held_take 9 20 _ (.pointer (some ⟨B, O, none⟩)) rfl rfl (by kernel_rfl) (by kernel_rfl) (by kernel_rfl) rfl hS0 (fun V hV => exec_loadc 57 _ rfl _ _ rfl (load_one 57 (fun _ => by kernel_rfl) V _ _ _ (hV.1))) ?_
          simp only [Act.put, List.setIfInBounds_toArray, List.set_cons_succ, List.set_cons_zero]
          refine held_take 10 21 _ (.pointer (some ⟨B, O, none⟩)) rfl rfl (by kernel_rfl) (by kernel_rfl) (by kernel_rfl) rfl hS0 (fun _ _ => rfl) ?_
          simp only [Act.put, List.setIfInBounds_toArray, List.set_cons_succ, List.set_cons_zero]
          refine held_take 11 22 _ (.int .i64 Y) rfl rfl (by kernel_rfl) (by kernel_rfl) (by kernel_rfl) rfl hS0 (fun V hV => exec_loadc 3 _ rfl _ _ rfl (load_one 3 (fun _ => by kernel_rfl) V _ _ _ (hV.2.2.2))) ?_
          simp only [Act.put, List.setIfInBounds_toArray, List.set_cons_succ, List.set_cons_zero]
          refine held_take 12 23 _ (.pointer (some ⟨P, 2, none⟩)) rfl rfl (by kernel_rfl) (by kernel_rfl) (by kernel_rfl) rfl hS0 (fun _ _ => rfl) ?_
          simp only [Act.put, List.setIfInBounds_toArray, List.set_cons_succ, List.set_cons_zero]
          refine held_take 13 24 _ (.int .i64 (C : Int)) rfl rfl (by kernel_rfl) (by kernel_rfl) (by kernel_rfl) rfl hS0 (fun V hV => exec_loadc 3 _ rfl _ _ rfl (load_one 3 (fun _ => by kernel_rfl) V _ _ _ (hV.2.2.1))) ?_
          simp only [Act.put, List.setIfInBounds_toArray, List.set_cons_succ, List.set_cons_zero]
          refine held_take 14 25 _ (.bool true) rfl rfl (by kernel_rfl) (by kernel_rfl) (by kernel_rfl) rfl hS0 (fun _ _ => exec_gtrW 3 _ _ rfl _ _ _ rfl rfl dhi) ?_
          simp only [Act.put, List.setIfInBounds_toArray, List.set_cons_succ, List.set_cons_zero]
          refine held_take 15 26 _ (.bool true) rfl rfl (by kernel_rfl) (by kernel_rfl) (by kernel_rfl) rfl hS0 (fun _ _ => rfl) ?_
          simp only [Act.put, List.setIfInBounds_toArray, List.set_cons_succ, List.set_cons_zero]
          refine wpAnyH_done (by kernel_rfl) ?_ _
          refine NoPanic.normal ?_
          go_wp2
          go_ret
          exact ⟨rfl, hB2.drew⟩
        · have dhi : decide ((C : Int) < Y) = false := decide_eq_false h2
          have HMJ : Hid (mayL (L.drop (j + 1)) (zeroAt y O) = M) := by
            show _ = _
            rw [← hMJ, decide_eq_true (by omega : (A : Int) ≤ Y), decide_eq_true (by omega : Y ≤ (C : Int))]
            rfl
          clear h1 h2 hMJ
          refine held_begin (fun V => V.cell? ⟨P, 0, none⟩ = some (.pointer (some ⟨B, O, none⟩)) ∧ V.cell? ⟨P, 1, none⟩ = some (.int .i64 (A : Int)) ∧ V.cell? ⟨P, 2, none⟩ = some (.int .i64 (C : Int)) ∧ V.cell? ⟨B, O, none⟩ = some (.int .i64 Y)) (by kernel_rfl) ?_
          refine held_take 0 11 _ (.pointer (some ⟨P, 0, none⟩)) rfl rfl (by kernel_rfl) (by kernel_rfl) (by kernel_rfl) rfl hS0 (fun _ _ => rfl) ?_
          simp only [Act.put, List.setIfInBounds_toArray, List.set_cons_succ, List.set_cons_zero]
          refine held_take 1 12 _ (.pointer (some ⟨B, O, none⟩)) rfl rfl (by kernel_rfl) (by kernel_rfl) (by kernel_rfl) rfl hS0 (fun V hV => exec_loadc 57 _ rfl _ _ rfl (load_one 57 (fun _ => by kernel_rfl) V _ _ _ (hV.1))) ?_
          simp only [Act.put, List.setIfInBounds_toArray, List.set_cons_succ, List.set_cons_zero]
          refine held_take 2 13 _ (.pointer (some ⟨B, O, none⟩)) rfl rfl (by kernel_rfl) (by kernel_rfl) (by kernel_rfl) rfl hS0 (fun _ _ => rfl) ?_
          simp only [Act.put, List.setIfInBounds_toArray, List.set_cons_succ, List.set_cons_zero]
          refine held_take 3 14 _ (.int .i64 Y) rfl rfl (by kernel_rfl) (by kernel_rfl) (by kernel_rfl) rfl hS0 (fun V hV => exec_loadc 3 _ rfl _ _ rfl (load_one 3 (fun _ => by kernel_rfl) V _ _ _ (hV.2.2.2))) ?_
          simp only [Act.put, List.setIfInBounds_toArray, List.set_cons_succ, List.set_cons_zero]
          refine held_take 4 15 _ (.pointer (some ⟨P, 1, none⟩)) rfl rfl (by kernel_rfl) (by kernel_rfl) (by kernel_rfl) rfl hS0 (fun _ _ => rfl) ?_
          simp only [Act.put, List.setIfInBounds_toArray, List.set_cons_succ, List.set_cons_zero]
          refine held_take 5 16 _ (.int .i64 (A : Int)) rfl rfl (by kernel_rfl) (by kernel_rfl) (by kernel_rfl) rfl hS0 (fun V hV => exec_loadc 3 _ rfl _ _ rfl (load_one 3 (fun _ => by kernel_rfl) V _ _ _ (hV.2.1))) ?_
          simp only [Act.put, List.setIfInBounds_toArray, List.set_cons_succ, List.set_cons_zero]
          refine held_take 6 17 _ (.bool false) rfl rfl (by kernel_rfl) (by kernel_rfl) (by kernel_rfl) rfl hS0 (fun _ _ => exec_lssW 3 _ _ rfl _ _ _ rfl rfl dlo) ?_
          simp only [Act.put, List.setIfInBounds_toArray, List.set_cons_succ, List.set_cons_zero]
          refine held_take 7 18 _ (.bool false) rfl rfl (by kernel_rfl) (by kernel_rfl) (by kernel_rfl) rfl hS0 (fun _ _ => rfl) ?_
          simp only [Act.put, List.setIfInBounds_toArray, List.set_cons_succ, List.set_cons_zero]
          refine held_take 8 19 _ (.pointer (some ⟨P, 0, none⟩)) rfl rfl (by kernel_rfl) (by kernel_rfl) (by kernel_rfl) rfl hS0 (fun _ _ => rfl) ?_
          simp only [Act.put, List.setIfInBounds_toArray, List.set_cons_succ, List.set_cons_zero]
          refine held_take 9 20 _ (.pointer (some ⟨B, O, none⟩)) rfl rfl (by kernel_rfl) (by kernel_rfl) (by kernel_rfl) rfl hS0 (fun V hV => exec_loadc 57 _ rfl _ _ rfl (load_one 57 (fun _ => by kernel_rfl) V _ _ _ (hV.1))) ?_
          simp only [Act.put, List.setIfInBounds_toArray, List.set_cons_succ, List.set_cons_zero]
          refine held_take 10 21 _ (.pointer (some ⟨B, O, none⟩)) rfl rfl (by kernel_rfl) (by kernel_rfl) (by kernel_rfl) rfl hS0 (fun _ _ => rfl) ?_
          simp only [Act.put, List.setIfInBounds_toArray, List.set_cons_succ, List.set_cons_zero]
          refine held_take 11 22 _ (.int .i64 Y) rfl rfl (by kernel_rfl) (by kernel_rfl) (by kernel_rfl) rfl hS0 (fun V hV => exec_loadc 3 _ rfl _ _ rfl (load_one 3 (fun _ => by kernel_rfl) V _ _ _ (hV.2.2.2))) ?_
          simp only [Act.put, List.setIfInBounds_toArray, List.set_cons_succ, List.set_cons_zero]
          refine held_take 12 23 _ (.pointer (some ⟨P, 2, none⟩)) rfl rfl (by kernel_rfl) (by kernel_rfl) (by kernel_rfl) rfl hS0 (fun _ _ => rfl) ?_
          simp only [Act.put, List.setIfInBounds_toArray, List.set_cons_succ, List.set_cons_zero]
          refine held_take 13 24 _ (.int .i64 (C : Int)) rfl rfl (by kernel_rfl) (by kernel_rfl) (by kernel_rfl) rfl hS0 (fun V hV => exec_loadc 3 _ rfl _ _ rfl (load_one 3 (fun _ => by kernel_rfl) V _ _ _ (hV.2.2.1))) ?_
          simp only [Act.put, List.setIfInBounds_toArray, List.set_cons_succ, List.set_cons_zero]
          refine held_take 14 25 _ (.bool false) rfl rfl (by kernel_rfl) (by kernel_rfl) (by kernel_rfl) rfl hS0 (fun _ _ => exec_gtrW 3 _ _ rfl _ _ _ rfl rfl dhi) ?_
          simp only [Act.put, List.setIfInBounds_toArray, List.set_cons_succ, List.set_cons_zero]
          refine held_take 15 26 _ (.bool false) rfl rfl (by kernel_rfl) (by kernel_rfl) (by kernel_rfl) rfl hS0 (fun _ _ => rfl) ?_
          simp only [Act.put, List.setIfInBounds_toArray, List.set_cons_succ, List.set_cons_zero]
          refine wpAnyH_done (by kernel_rfl) ?_ _
          refine NoPanic.normal ?_
          have p0 : W2.drew.cell? ⟨P, 0, none⟩ = some (.pointer (some ⟨B, O, none⟩)) := hS0.1
          go_wp2_with (refine store_intW rfl _ _ rfl rfl B O 0 rfl rfl 28 _ kB2.drew (by rw [HSZ.out]; exact HZ.out.2) ?_; intro W3 kB3 hg3)
          go_roundw
          case rel => exact ⟨j + 1, _, by go_num, HJ.out, kB3.of_eq HZ.out.1, (hN2.after ((Below.refl _ _).drew)).grownB hg3 kB2.drew, HMJ.out, below_grown hB2.drew hg3 hB2.drew.size (fun q hq => by cases hq; exact Nat.le_of_eq HBW.out.symm)⟩
          case measure => have := HJ.out; simp [intOf]; omega
    · have i1 : ¬ (j : Int) < (L.length : Int) := by omega
      have hdr : L.drop j = [] := List.drop_eq_nil_of_le (by omega)
      rw [hdr] at hMJ
      have c1 := kB.cell (msA_get y mc bv 1 (by decide) (by decide))
      have c2 := kB.cell (msA_get y mc bv 2 (by decide) (by decide))
      have c3 := kB.cell (msA_get y mc bv 3 (by decide) (by decide))
      have c4 := kB.cell (msA_get y mc bv 4 (by decide) (by decide))
      have c5 := kB.cell (msA_get y mc bv 5 (by decide) (by decide))
      have c6 := kB.cell (msA_get y mc bv 6 (by decide) (by decide))
      have c7 := kB.cell (msA_get y mc bv 7 (by decide) (by decide))
      have HE : Hid ((getM y 1 == 0 && (getM y 2 == 0 && (getM y 3 == 0 && (getM y 4 == 0 && (getM y 5 == 0 && (getM y 6 == 0 && getM y 7 == 0)))))) = M) := hMJ
      generalize getM y 1 = z1 at *
      generalize getM y 2 = z2 at *
      generalize getM y 3 = z3 at *
      generalize getM y 4 = z4 at *
      generalize getM y 5 = z5 at *
      generalize getM y 6 = z6 at *
      generalize getM y 7 = z7 at *
      clear kB hN hMJ hdr hj hlt HM
      go_wp2
      all_goals go_ret
      all_goals exact ⟨congrArg (fun b => Ending.returned (.bool b)) (by rw [← HE.out]; simp_all), hBr⟩
/-- Whether a body may be. -/
theorem bodyMay_any (x : MS) (mc : List Value) (ab : Option Addr) (cb : Nat) (w : World) (hmc : mc.length = 36) :
    Calls Try.prog 23 #[.agg (msA x mc (.slice ab x.b.length cb))] w fun e w' => e = .returned (.bool (bodyMay x)) ∧ Below w.heap.size w w' := by
  have hB0 := (Below.refl w.heap.size w).alloc (Nat.le_refl _) (.cells (msA x mc (.slice ab x.b.length cb)) 28)
  have kB0 := Blk.new w 28 (msA x mc (.slice ab x.b.length cb))
  have c0 := kB0.cell (msA_k x mc (.slice ab x.b.length cb))
  have c44 := kB0.cell (msA_body x mc (.slice ab x.b.length cb) hmc)
  clear kB0
  unfold bodyMay
  by_cases hk : x.k = 5
  · have d5 : (x.k == 5) = true := beq_iff_eq.2 hk
    rw [if_pos hk]
    by_cases hl : x.b.length ≤ 1024
    · have dl : decide ((x.b.length : Int) ≤ 1024) = true := decide_eq_true (by omega)
      rw [decide_eq_true hl]
      clear hk hl
      go_enter Try.func23, Try.ntmps23
      go_wp2
      go_ret
      exact ⟨rfl, hB0⟩
    · have dl : decide ((x.b.length : Int) ≤ 1024) = false := decide_eq_false (by omega)
      rw [decide_eq_false hl]
      clear hk hl
      go_enter Try.func23, Try.ntmps23
      go_wp2
      go_ret
      exact ⟨rfl, hB0⟩
  · have d5 : (x.k == 5) = false := beq_eq_false_iff_ne.2 hk
    rw [if_neg hk]
    by_cases hl : x.b.length = 0
    · have dl : ((x.b.length : Int) == 0) = true := beq_iff_eq.2 (by omega)
      rw [decide_eq_true hl]
      clear hk hl
      go_enter Try.func23, Try.ntmps23
      go_wp2
      go_ret
      exact ⟨rfl, hB0⟩
    · have dl : ((x.b.length : Int) == 0) = false := beq_eq_false_iff_ne.2 (by omega)
      rw [decide_eq_false hl]
      clear hk hl
      go_enter Try.func23, Try.ntmps23
      go_wp2
      go_ret
      exact ⟨rfl, hB0⟩
end Go.Proofs.Ytgfcindkfnjeoaa
