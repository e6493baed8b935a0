/-
  What is proved here: wire.messageOf makes the message of a kind and of values that fit it.
  Conditions: the values lie in memory.
-/
import Derived.Test.YtgfcindkfnjeoaaJWireDecP
import Derived.Test.YtgfcindkfnjeoaaJWireMay
import Derived.Test.YtgfcindkfnjeoaaJManUn
import Derived.Test.YtgfcindkfnjeoaaJBlkKit
namespace Go.Proofs.Ytgfcindkfnjeoaa
open Go.RowKit

theorem zeroMess (w : World) : (zeroValue 28).run Try.prog w = .ok (.agg (msA (kMs 0) (manL zeroM (.slice none 0 0)) (.slice none 0 0))) w := by kernel_rfl
theorem built_mess (k : Int) : Try.prog.built 28 [(0, .int .i64 k)] = some (msA (kMs k) (manL zeroM (.slice none 0 0)) (.slice none 0 0)) := by kernel_rfl
theorem built_mess0 : Try.prog.built 28 [] = some (msA (kMs 0) (manL zeroM (.slice none 0 0)) (.slice none 0 0)) := by kernel_rfl
theorem msZ_one (x : MS) : (msA x (manL zeroM (.slice none 0 0)) (.slice none 0 0)).all (·.oneCell') = true := msA_one x _ _ (manL_one zeroM none 0 0) rfl
theorem msZ_size (x : MS) : (msA x (manL zeroM (.slice none 0 0)) (.slice none 0 0)).size = 45 := msA_size x _ _ rfl
theorem vals_at {w : World} {vv : Value} {xs : List Nat} {bo : Option (List UInt8)} (h : Vals w 4 vv (recV xs bo)) (hn : 0 < xs.length) : ∃ b off c, vv = .slice (some ⟨b, off, none⟩) (recV xs bo).length c ∧ b < w.heap.size ∧ (∀ (i : Nat) a, xs[i]? = some a → w.cell? ⟨b, off + i * 3, none⟩ = some (.int .u64 (a : Int)) ∧ a < 18446744073709551616) ∧ ∃ bv, w.cell? ⟨b, off + ((recV xs bo).length - 1) * 3 + 1, none⟩ = some bv ∧ Seg w bv (bo.getD []) := by
  have hl : (recV xs bo).length = xs.length + (if bo.isSome then 1 else 0) := recV_len xs bo
  obtain ⟨ao, c, rfl, _, hf⟩ := h.form
  obtain ⟨b, off, rfl, hbl, _, hA⟩ := hf (by omega)
  have hat : ∀ (xs : List Nat) (i : Nat) a, xs[i]? = some a → (recV xs bo)[i]? = some (.mk a [] []) := by
    intro xs
    induction xs with
    | nil => intro i a h; cases h
    | cons x xs ih =>
      intro i a h
      cases i with
      | zero => cases h; rfl
      | succ i => exact ih i a h
  refine ⟨b, off, c, rfl, hbl, fun i a h => ?_, ?_⟩
  · have := hA i _ (hat xs i a h)
    exact ⟨this.1, this.2.2.2⟩
  · have hlast : ∃ n l, (recV xs bo)[(recV xs bo).length - 1]? = some (.mk n (bo.getD []) l) := by
      cases bo with
      | none =>
        have h1 : (recV xs none).length - 1 = xs.length - 1 := by rw [hl]; rfl
        rw [h1]
        exact ⟨_, _, hat xs (xs.length - 1) _ (List.getElem?_eq_getElem (by omega))⟩
      | some bb =>
        have h1 : (recV xs (some bb)).length - 1 = xs.length := by rw [hl]; simp
        rw [h1]
        have : ∀ xs : List Nat, (recV xs (some bb))[xs.length]? = some (.mk 0 bb []) := by
          intro xs
          induction xs with
          | nil => rfl
          | cons x xs ih => exact ih
        exact ⟨_, _, this xs⟩
    obtain ⟨n, l, hlast⟩ := hlast
    obtain ⟨bv, h1, h2, _⟩ := (hA _ _ hlast).2.1
    exact ⟨bv, h1, h2⟩
theorem setL_drop {L : List (Nat × Nat × Nat)} {xs : List Nat} {j a : Nat} {n : Nat × Nat × Nat} (y : MS) (hn : L[j]? = some n) (ha : xs[j]? = some a) : setL (L.drop j) (xs.drop j) y = setL (L.drop (j + 1)) (xs.drop (j + 1)) (setAt y n.1 (a : Int)) := by
  obtain ⟨h1, rfl⟩ := List.getElem?_eq_some_iff.1 hn
  obtain ⟨h2, rfl⟩ := List.getElem?_eq_some_iff.1 ha
  rw [List.drop_eq_getElem_cons h1, List.drop_eq_getElem_cons h2]
  rfl
theorem op_intW {ops : Array Oper} {Q : Exit → Act → World → Prop} {K : Act → World → Prop} {a : Act} {w : World} (i : Nat) (o : Oper) (hi : ops[i]? = some o) (hd : o.dst = none) (hw : Region.wanted o (yielded ops a.tmps) = true) (x y : Operand) (ho : o.op = .store 3 x y)
    (g j : Nat) (z : Int) (hx : a.eval x = .pointer (some ⟨g, j, none⟩)) (hy : a.eval y = .int .i64 z) (t : TypeId) (old : Array Value) (hg : Blk w g t old) (hj : j < old.size)
    (h : ∀ w', Blk w' g t (old.setIfInBounds j (.int .i64 z)) → w.grownBy w' (some g) → K a w') : wpOp Try.prog ops Q i K a w := by
  have hc : w.cell? ⟨g, j, none⟩ = some old[j] := hg.cell (by simp [hj])
  have hf := hg.frozen j
  have hrun : (execOp a.eval o).run Try.prog w = .ok .skip (w.setCell ⟨g, j, none⟩ (.int .i64 z)) := by
    unfold execOp
    simp only [ho, hx, hy]
    simp [go_sem, hc, hf]
  exact op_skip i o _ hi hd hw hrun (h _ (hg.set j _) (grown_setCellW w g j _))
theorem msA_splice (x : MS) (mc mc' : List Value) (bv : Value) (h : mc.length = 36) (h' : mc'.length = 36) : (splice (msA x mc bv).toList 8 mc').toArray = msA x mc' bv := by
  unfold msA msL splice
  simp [h, h']
theorem msA_bset (x : MS) (bv : Value) : (msA x (manL zeroM (.slice none 0 0)) (.slice none 0 0)).setIfInBounds 44 bv = msA x (manL zeroM (.slice none 0 0)) bv := rfl
theorem ms_info (x : MS) (mc : List Value) (bv : Value) (h : mc.length = 36) : (Try.prog.info? 28).map (·.size) = some (msA x mc bv).size := by rw [msA_size x mc bv h]; exact info_mess
theorem ms_no32 (x : MS) (j : Nat) (z : Int) : (msA x (manL zeroM (.slice none 0 0)) (.slice none 0 0))[j]? ≠ some (.int .u32 z) := by
  intro h
  have hm : (Value.int .u32 z) ∈ msL x (manL zeroM (.slice none 0 0)) (.slice none 0 0) := by
    unfold msA at h
    rw [List.getElem?_toArray] at h
    exact List.mem_iff_getElem?.2 ⟨j, h⟩
  unfold msL manL zeroM at hm
  simp [v8] at hm
/-- Words stay as a message's cells are written. -/
theorem wds_grown {w w' : World} {B : Nat} {su : Value} {u : List (BitVec 32)} {y : MS} (h : Wds w su u) (hk : Blk w B 28 (msA y (manL zeroM (.slice none 0 0)) (.slice none 0 0))) (hg : w.grownBy w' (some B)) : Wds w' su u := by
  obtain ⟨ao, c, h1, h2⟩ := h
  refine ⟨ao, c, h1, fun hn => ?_⟩
  obtain ⟨g, off, e, hc, hcell, hb⟩ := h2 hn
  have hne : g ≠ B := by
    intro he
    subst he
    have h0 := hcell 0 hn
    unfold Blk at hk
    simp [World.cell?, hk] at h0
    exact ms_no32 y _ _ h0
  refine ⟨g, off, e, hc, fun i hi => ?_, Nat.lt_of_lt_of_le hb hg.size⟩
  rw [World.cell?_of_block (a := ⟨g, off + i, none⟩) (hg.block g hb (fun e => hne (by cases e; rfl)))]
  exact hcell i hi
theorem decIs_grown {w w' : World} {B : Nat} {s : List UInt8} {M : MM} {su : Value} {er : Int} {y : MS} (h : decIs w s M su er) (hk : Blk w B 28 (msA y (manL zeroM (.slice none 0 0)) (.slice none 0 0))) (hg : w.grownBy w' (some B)) : decIs w' s M su er := ⟨h.1, h.2.1, wds_grown h.2.2.1 hk hg, h.2.2.2⟩
/-- The bytes of the last value. -/
def lastIs (w : World) (vv bv : Value) : Prop := ∃ b off n c, vv = .slice (some ⟨b, off, none⟩) (n + 1) c ∧ b < w.heap.size ∧ w.cell? ⟨b, off + n * 3 + 1, none⟩ = some bv
/-- What messageOf answers. -/
def mesIs (w W : World) (vv : Value) (k : Int) (xs : List Nat) (bo : Option (List UInt8)) (e : Ending) : Prop :=
  (k = 2 ∧ ∃ M su er, decIs W (bo.getD []) M su er ∧ ((er = 0 ∧ e = .returned (.tuple #[.agg (msA (setL (numK k) xs (kMs k)) (manL M su) (.slice none 0 0)), .int .i64 0])) ∨ (er = 2 ∧ e = .returned (.tuple #[.agg (msA (kMs 0) (manL zeroM (.slice none 0 0)) (.slice none 0 0)), .int .i64 2])))) ∨
  (k = 5 ∧ ∃ ab cb, Seg W (.slice ab (bo.getD []).length cb) (bo.getD []) ∧ lastIs w vv (.slice ab (bo.getD []).length cb) ∧ e = .returned (.tuple #[.agg (msA (setL (numK k) xs (kMs k)) (manL zeroM (.slice none 0 0)) (.slice ab (bo.getD []).length cb)), .int .i64 0])) ∨
  ((k ≠ 2 ∧ k ≠ 5) ∧ e = .returned (.tuple #[.agg (msA (setL (numK k) xs (kMs k)) (manL zeroM (.slice none 0 0)) (.slice none 0 0)), .int .i64 0]))
set_option maxRecDepth 100000 in
set_option maxHeartbeats 8000000 in
theorem mesOf_any (k : Int) (vv : Value) (xs : List Nat) (bo : Option (List UInt8)) (w : World) (hV : Vals w 4 vv (recV xs bo)) (hn : 0 < xs.length) (hL : (numK k).length = xs.length) (hx : ∀ a ∈ xs, a ≤ 1073741824) (hbl0 : (bo.getD []).length ≤ maxLen) :
    Calls Try.prog 28 #[.int .i64 k, vv] w fun e w' => mesIs w w' vv k xs bo e ∧ Below w.heap.size w w' := by
  obtain ⟨b, off, c, rfl, hbl, hcells, bv, hbv, hsg⟩ := vals_at hV hn
  obtain ⟨ab, cb, rfl⟩ := hsg.shapeD
  have hrl : (recV xs bo).length ≤ 7 ∧ 1 ≤ (recV xs bo).length := by
    rw [recV_len]
    have := numK_len k
    split <;> omega
  obtain ⟨N, hN⟩ : ∃ N, (recV xs bo).length = N + 1 := ⟨(recV xs bo).length - 1, by omega⟩
  have hN7 : N < 7 := by omega
  have hxN : xs.length ≤ N + 1 := by rw [← hN, recV_len]; omega
  rw [hN] at hbv ⊢
  have hbv : w.cell? ⟨b, off + N * 3 + 1, none⟩ = some (.slice ab (bo.getD []).length cb) := hbv
  clear hrl hN hV
  have hz0 := zeroMess
  have hbk := built_mess k
  have hbz := built_mess0
  obtain ⟨MZ, hMZ⟩ : ∃ Z, Z = msA (kMs 0) (manL zeroM (.slice none 0 0)) (.slice none 0 0) := ⟨_, rfl⟩
  have HMZ : Hid (MZ = msA (kMs 0) (manL zeroM (.slice none 0 0)) (.slice none 0 0)) := hMZ
  have hMK : MZ.setIfInBounds 0 (.int .i64 k) = msA (kMs k) (manL zeroM (.slice none 0 0)) (.slice none 0 0) := by rw [hMZ]; simp [msA, msL, kMs]
  have HSZ : Hid (∀ x, (msA x (manL zeroM (.slice none 0 0)) (.slice none 0 0)).size = 45) := msZ_size
  have hmn : ¬ MZ = #[] := fun e => by
    have h := msZ_size (kMs 0)
    rw [← hMZ, e] at h
    cases h
  have hks : MZ.size = (MZ.setIfInBounds 0 (.int .i64 k)).size := by simp
  have hko : (MZ.setIfInBounds 0 (.int .i64 k)).all (·.oneCell') = true := by rw [hMK]; exact msZ_one _
  have hki : (Try.prog.info? 28).map (·.size) = some (MZ.setIfInBounds 0 (.int .i64 k)).size := by rw [hMK, msZ_size]; exact info_mess
  have HMK : Hid (MZ.setIfInBounds 0 (.int .i64 k) = msA (kMs k) (manL zeroM (.slice none 0 0)) (.slice none 0 0)) := hMK
  have HIZ : Hid (MZ.all (·.oneCell') = true ∧ (Try.prog.info? 28).map (·.size) = some MZ.size) := ⟨by rw [hMZ]; exact msZ_one _, by rw [hMZ, msZ_size]; exact info_mess⟩
  rw [← hMZ] at hz0 hbz
  have HBZ : Hid (Try.prog.built 28 [] = some MZ) := hbz
  have hkB0 : Blk ((w.alloc (.cells MZ 28)).alloc (.cells MZ 28)) (w.heap.size + 1) 28 MZ := Blk.newAt _ _ _ _ (by simp)
  have HCL : Hid (∀ V, Below w.heap.size w V → (∀ (i : Nat) a, xs[i]? = some a → V.cell? ⟨b, off + i * 3, none⟩ = some (.int .u64 (a : Int))) ∧ V.cell? ⟨b, off + N * 3 + 1, none⟩ = some (.slice ab (bo.getD []).length cb) ∧ Seg V (.slice ab (bo.getD []).length cb) (bo.getD [])) := fun V hV => ⟨fun i a h => (hV.cell (p := ⟨b, off + i * 3, none⟩) hbl).trans (hcells i a h).1, (hV.cell (p := ⟨b, off + N * 3 + 1, none⟩) hbl).trans hbv, hsg.below hV (Nat.le_refl _)⟩
  have HBL : Hid (b < w.heap.size) := hbl
  have HLA : Hid (lastIs w (.slice (some ⟨b, off, none⟩) (N + 1) c) (.slice ab (bo.getD []).length cb)) := ⟨b, off, N, c, rfl, hbl, hbv⟩
  have HXB : Hid (∀ a ∈ xs, a ≤ 1073741824) := hx
  have HLM : Hid ((bo.getD []).length ≤ maxLen) := hbl0
  have HL6 : Hid ((numK k).length ≤ 6) := numK_len k
  have HAT : Hid (∀ n ∈ numK k, (1 ≤ n.1 ∧ n.1 ≤ 7) ∧ n.2.1 ≤ 1 ∧ n.2.2 ≤ 1073741824) := fun n hn => numK_at hn
  have HLX : Hid ((numK k).length = xs.length) := hL
  have HNN : Hid (N < 7 ∧ xs.length ≤ N + 1) := ⟨hN7, hxN⟩
  clear hMZ hMK hcells hbv hsg hbl hx hbl0 hbz hL hn hxN
  go_enter Try.func28, Try.ntmps28
  go_wp2_with (refine store_blk rfl 28 _ _ rfl rfl (w.heap.size + 1) (MZ.setIfInBounds 0 (.int .i64 k)) rfl rfl 28 MZ hkB0 hki hks hko ?_; intro W1 kB1 hg1 hs1)
  obtain ⟨B, hB⟩ : ∃ B, B = w.heap.size + 1 := ⟨_, rfl⟩
  obtain ⟨R, hR⟩ : ∃ R, R = w.heap.size := ⟨_, rfl⟩
  have hB0 : Below w.heap.size w ((w.alloc (.cells MZ 28)).alloc (.cells MZ 28)) := ((Below.refl _ _).alloc (Nat.le_refl _) _).alloc (by simp) _
  have hB1 : Below w.heap.size w W1 := below_grown hB0 hg1 hB0.size (fun q hq => by cases hq; omega)
  have kR1 : Blk W1 R 28 MZ := ((Blk.newAt w 28 MZ R hR).alloc _).grown hg1 (fun e => by cases e; omega)
  rw [← hB] at kB1 ⊢
  rw [← hR]
  have HBW : Hid (w.heap.size ≤ B) := by show _ ≤ _; omega
  have HRW : Hid (w.heap.size ≤ R) := by show _ ≤ _; omega
  have HRB : Hid (R ≠ B) := by show _ ≠ _; omega
  have kB1 := kB1.of_eq HMK.out
  clear hg1 hs1 hB0 hkB0 hki hks hko hbk hB hR
  refine (numsOf_any B k W1 (kB1.cell (msA_k _ _ _)) kB1.lt).mono ?_
  obtain ⟨M, hM⟩ : ∃ M, M = setL (numK k) xs (kMs k) := ⟨_, rfl⟩
  have HM : Hid (M = setL (numK k) xs (kMs k)) := hM
  have HM0 : Hid (setL (numK k) xs (kMs k) = M) := hM.symm
  clear hM
  generalize hLL : numK k = L at *
  have HLL : Hid (numK k = L) := hLL
  rintro e w2 ⟨v, rfl, hN2, hb2⟩
  have hB2 := hB1.trans (hb2.mono hB1.size)
  have kB2 := kB1.below hb2 kB1.lt
  have kR2 := kR1.below hb2 kR1.lt
  obtain ⟨ao, cn, e1, hN0⟩ := hN2
  subst e1
  have hN2 : NumsAt w2 B (.slice ao L.length cn) L := ⟨ao, cn, rfl, hN0⟩
  clear hN0 hb2 hB1 kB1 kR1 hLL
  go_wp2_with fail
  go_loopw [15] (fun i wr => ∃ (j : Nat) (y : MS), i = .int .i64 (j : Int) ∧ j ≤ L.length ∧ Blk wr B 28 (msA y (manL zeroM (.slice none 0 0)) (.slice none 0 0)) ∧ Blk wr R 28 MZ ∧ NumsAt wr B (.slice ao L.length cn) L ∧ Hid (setL (L.drop j) (xs.drop j) y = M) ∧ Below w.heap.size w wr) (fun i _ => L.length - (intOf i).toNat)
  case atStart => exact ⟨0, kMs k, rfl, Nat.zero_le _, kB2, kR2, hN2, HM0.out, hB2⟩
  case round =>
    clear kB2 kR2 hN2 hB2
    obtain ⟨j, y, rfl, hj, kB, kR, hN, HMJ0, hBr⟩ := hrel
    by_cases hlt : j < L.length
    · have hnj : L[j]? = some L[j] := List.getElem?_eq_getElem hlt
      have hxl : j < xs.length := by rw [← HLX.out]; exact hlt
      obtain ⟨a, ha⟩ : ∃ a, xs[j]? = some a := ⟨_, List.getElem?_eq_getElem hxl⟩
      have hal := HXB.out a (List.mem_iff_getElem?.2 ⟨j, ha⟩)
      have HMJ : Hid (setL (L.drop (j + 1)) (xs.drop (j + 1)) (setAt y L[j].1 (a : Int)) = M) := (setL_drop y hnj ha).symm.trans HMJ0.out
      have hat := HAT.out L[j] (List.getElem_mem hlt)
      obtain ⟨ao', c', e2, hN2⟩ := id hN
      cases e2
      obtain ⟨g, rfl, hg, c0, c1, c2⟩ := hN2 j L[j] hnj
      clear hN2
      generalize L[j] = nn at *
      obtain ⟨O, A, C⟩ := nn
      simp only at hat c0 c1 c2
      dsimp only at HMJ
      have ix := index_nums g L.length cn j hlt
      have HIX : Hid (∀ w, (Instr.indexAt 42 (.slice (some ⟨b, off, none⟩) (N + 1) c) (.int .i64 (j : Int))).run Try.prog w = .ok (.pointer (some ⟨b, off + j * 3, none⟩)) w) := fun w => index_values b off (N + 1) c j w (by have := HNN.out; omega)
      have HCV : Hid (∀ w, (convert 60 3 (.int .u64 (a : Int))).run Try.prog w = .ok (.int .i64 (a : Int)) w) := fun w => conv_i64W a (by omega) w
      have i1 : (j : Int) < (L.length : Int) := by omega
      have hj6 : j < 6 := by have := HL6.out; omega
      have HZ : Hid ((msA y (manL zeroM (.slice none 0 0)) (.slice none 0 0)).setIfInBounds O (.int .i64 (a : Int)) = msA (setAt y O (a : Int)) (manL zeroM (.slice none 0 0)) (.slice none 0 0) ∧ O < 45) := ⟨msA_set y _ _ _ O hat.1.1 hat.1.2, by omega⟩
      have HJ : Hid (j < L.length) := hlt
      obtain ⟨P, hP⟩ : ∃ P, P = wr.heap.size := ⟨_, rfl⟩
      have kP := Blk.new wr 59 #[.pointer (some ⟨B, O, none⟩), .int .i64 (A : Int), .int .i64 (C : Int)]
      rw [← hP] at kP
      have hva := (HCL.out wr hBr).1 j a ha
      have HBL2 : Hid (b < (wr.alloc (.cells #[.pointer (some ⟨B, O, none⟩), .int .i64 (A : Int), .int .i64 (C : Int)] 59)).drew.heap.size) := by have h1 := HBL.out; have h2 := hBr.size; show b < _; simp; omega
      have HBB : Hid (b ≠ B) := by have h1 := HBL.out; have h2 := HBW.out; show b ≠ B; omega
      have HPB : Hid (P ≠ B) := by have h1 := kB.lt; show P ≠ B; omega
      have HPL : Hid (P < (wr.alloc (.cells #[.pointer (some ⟨B, O, none⟩), .int .i64 (A : Int), .int .i64 (C : Int)] 59)).drew.heap.size) := kP.lt
      have kB2 := kB.alloc (.cells #[.pointer (some ⟨B, O, none⟩), .int .i64 (A : Int), .int .i64 (C : Int)] 59)
      have kR2 := kR.alloc (.cells #[.pointer (some ⟨B, O, none⟩), .int .i64 (A : Int), .int .i64 (C : Int)] 59)
      have hB2 := hBr.alloc hBr.size (.cells #[.pointer (some ⟨B, O, none⟩), .int .i64 (A : Int), .int .i64 (C : Int)] 59)
      have hN2 := hN.after ((Below.refl wr.heap.size wr).alloc (Nat.le_refl _) (.cells #[.pointer (some ⟨B, O, none⟩), .int .i64 (A : Int), .int .i64 (C : Int)] 59))
      have hv2 := (HCL.out _ hB2).1 j a ha
      clear hN hBr hnj hat hlt hj kB kR hva hal ha hxl HMJ0
      go_wp2_with fail
      rw [← hP]
      clear hP c0 c1 c2 ix
      generalize wr.alloc (.cells #[.pointer (some ⟨B, O, none⟩), .int .i64 (A : Int), .int .i64 (C : Int)] 59) = W2 at *
      have hS0 : (fun V : World => V.cell? ⟨P, 0, none⟩ = some (.pointer (some ⟨B, O, none⟩)) ∧ V.cell? ⟨b, off + j * 3, none⟩ = some (.int .u64 (a : Int))) W2.drew := ⟨kP.cell (j := 0) rfl, hv2⟩
      have HG3 : Hid (∀ W3, W2.drew.grownBy W3 (some B) → ∀ q o, q ≠ B → q < W2.drew.heap.size → W2.drew.cell? ⟨q, o, none⟩ = W3.cell? ⟨q, o, none⟩) := fun W3 hg q o hq hl => (World.cell?_of_block (a := ⟨q, o, none⟩) (hg.block q hl (fun e => hq (by cases e; rfl)))).symm
      clear kP hv2
      refine held_begin (fun V => V.cell? ⟨P, 0, none⟩ = some (.pointer (some ⟨B, O, none⟩)) ∧ V.cell? ⟨b, off + j * 3, none⟩ = some (.int .u64 (a : Int))) (by kernel_rfl) ?_
      refine held_take 0 20 _ (.pointer (some ⟨P, 0, none⟩)) rfl rfl (by kernel_rfl) (by kernel_rfl) (by kernel_rfl) rfl hS0 (fun _ _ => rfl) ?_
      simp only [Act.put, List.setIfInBounds_toArray, List.set_cons_succ, List.set_cons_zero]
      refine held_take 1 21 _ (.pointer (some ⟨B, O, none⟩)) rfl rfl (by kernel_rfl) (by kernel_rfl) (by kernel_rfl) rfl hS0 (fun V hV => exec_loadc 57 _ rfl _ _ rfl (load_one 57 (fun _ => by kernel_rfl) V _ _ _ hV.1)) ?_
      simp only [Act.put, List.setIfInBounds_toArray, List.set_cons_succ, List.set_cons_zero]
      refine held_take 2 22 _ (.slice (some ⟨b, off, none⟩) (N + 1) c) rfl rfl (by kernel_rfl) (by kernel_rfl) (by kernel_rfl) rfl hS0 (fun _ _ => rfl) ?_
      simp only [Act.put, List.setIfInBounds_toArray, List.set_cons_succ, List.set_cons_zero]
      refine held_take 3 23 _ (.int .i64 (j : Int)) rfl rfl (by kernel_rfl) (by kernel_rfl) (by kernel_rfl) rfl hS0 (fun _ _ => rfl) ?_
      simp only [Act.put, List.setIfInBounds_toArray, List.set_cons_succ, List.set_cons_zero]
      refine held_take 4 24 _ (.pointer (some ⟨b, off + j * 3, none⟩)) rfl rfl (by kernel_rfl) (by kernel_rfl) (by kernel_rfl) rfl hS0 (fun V _ => exec_indexat 42 _ _ rfl (.slice (some ⟨b, off, none⟩) (N + 1) c) (.int .i64 (j : Int)) _ rfl rfl (HIX.out V)) ?_
      simp only [Act.put, List.setIfInBounds_toArray, List.set_cons_succ, List.set_cons_zero]
      refine held_take 5 25 _ (.pointer (some ⟨b, off + j * 3, none⟩)) rfl rfl (by kernel_rfl) (by kernel_rfl) (by kernel_rfl) rfl hS0 (fun _ _ => rfl) ?_
      simp only [Act.put, List.setIfInBounds_toArray, List.set_cons_succ, List.set_cons_zero]
      refine held_take 6 26 _ (.int .u64 (a : Int)) rfl rfl (by kernel_rfl) (by kernel_rfl) (by kernel_rfl) rfl hS0 (fun V hV => exec_loadc 60 _ rfl _ _ rfl (load_one 60 (fun _ => by kernel_rfl) V _ _ _ hV.2)) ?_
      simp only [Act.put, List.setIfInBounds_toArray, List.set_cons_succ, List.set_cons_zero]
      refine held_take 7 27 _ (.int .i64 (a : Int)) rfl rfl (by kernel_rfl) (by kernel_rfl) (by kernel_rfl) rfl hS0 (fun V _ => exec_conv 60 3 _ rfl (.int .u64 (a : Int)) (.int .i64 (a : Int)) rfl (HCV.out V)) ?_
      simp only [Act.put, List.setIfInBounds_toArray, List.set_cons_succ, List.set_cons_zero]
      refine held_take 8 28 _ (.pointer (some ⟨B, O, none⟩)) rfl rfl (by kernel_rfl) (by kernel_rfl) (by kernel_rfl) rfl hS0 (fun _ _ => rfl) ?_
      simp only [Act.put, List.setIfInBounds_toArray, List.set_cons_succ, List.set_cons_zero]
      refine held_all1 9 (by kernel_rfl) (op_intW 9 _ rfl rfl rfl _ _ rfl B O (a : Int) rfl rfl 28 _ kB2.drew (by rw [HSZ.out]; exact HZ.out.2) ?_)
      intro W3 kB3 hg3
      have hS3 : (fun V : World => V.cell? ⟨P, 0, none⟩ = some (.pointer (some ⟨B, O, none⟩)) ∧ V.cell? ⟨b, off + j * 3, none⟩ = some (.int .u64 (a : Int))) W3 := ⟨HG3.out W3 hg3 P 0 HPB.out HPL.out ▸ hS0.1, HG3.out W3 hg3 b (off + j * 3) HBB.out HBL2.out ▸ hS0.2⟩
      refine ⟨hS3, ?_⟩
      refine wpAnyH_done (by kernel_rfl) ?_ _
      refine NoPanic.normal ?_
      have HB3 : Hid (Below w.heap.size w W3) := below_grown hB2.drew hg3 hB2.drew.size (fun q hq => by cases hq; exact HBW.out)
      have HK3 : Hid (Blk W3 B 28 (msA (setAt y O (a : Int)) (manL zeroM (.slice none 0 0)) (.slice none 0 0)) ∧ Blk W3 R 28 MZ) := ⟨kB3.of_eq HZ.out.1, kR2.drew.grown hg3 (fun e => HRB.out (by cases e; rfl))⟩
      have HN3 : Hid (NumsAt W3 B (.slice (some ⟨g, 0, none⟩) L.length cn) L) := (hN2.after ((Below.refl _ _).drew)).grownB hg3 kB2.drew
      clear kB2 kR2 hN2 hB2 kB3 hg3 hS0 hS3
      go_wp2
      go_roundw
      case rel => exact ⟨j + 1, setAt y O (a : Int), by go_num, HJ.out, HK3.out.1, HK3.out.2, HN3.out, HMJ.out, HB3.out⟩
      case measure => have := HJ.out; simp [intOf]; omega
    · have hni : ¬ (j : Int) < (L.length : Int) := by omega
      have hdr : L.drop j = [] := List.drop_eq_nil_of_le (by omega)
      have hyM : y = M := by
        have := HMJ0.out
        rw [hdr] at this
        exact this
      have HM9 : Hid (y = setL L xs (kMs k)) := hyM.trans HM.out
      clear hyM
      have hl1 := (HCL.out wr hBr).2.1
      have hl2 := (HCL.out wr hBr).2.2
      have ixv : ∀ w, (Instr.indexAt 42 (.slice (some ⟨b, off, none⟩) (N + 1) c) (.int .i64 (N : Int))).run Try.prog w = .ok (.pointer (some ⟨b, off + N * 3, none⟩)) w := fun w => index_values b off (N + 1) c N w (by omega)
      have HBR : Hid (Below w.heap.size w wr) := hBr
      clear hdr hN hBr HMJ0
      by_cases e2 : k = 2
      · have d2 : (k == 2) = true := beq_iff_eq.2 e2
        have HK2 : Hid (k = 2) := e2
        clear e2
        go_wp2_with fail
        refine (mdec_any _ (bo.getD []) wr hl2 HLM.out).mono ?_
        rintro e w4 ⟨M2, su, er, rfl, hdi, hb4⟩
        have HB4 : Hid (Below w.heap.size w w4) := HBR.out.trans (hb4.mono HBR.out.size)
        have kB4 := kB.below hb4 kB.lt
        have kR4 := kR.below hb4 kR.lt
        have HD4 : Hid (decIs w4 (bo.getD []) M2 su er) := hdi
        obtain ⟨hh, _, ⟨am, cm, hsu, _⟩, her⟩ := hdi
        subst hsu
        have hmi := manC_info M2 (.slice am M2.u.length cm) hh
        have hmf : 8 + (manC M2 (.slice am M2.u.length cm)).size ≤ (msA y (manL zeroM (.slice none 0 0)) (.slice none 0 0)).size := by rw [HSZ.out, manC_size _ _ hh]; omega
        have hmo := manC_one M2 (.slice am M2.u.length cm) rfl
        have HSP : Hid ((splice (msA y (manL zeroM (.slice none 0 0)) (.slice none 0 0)).toList 8 (manC M2 (.slice am M2.u.length cm)).toList).toArray = msA y (manL M2 (.slice am M2.u.length cm)) (.slice none 0 0)) := msA_splice y _ _ _ rfl (manL_len _ _ hh)
        have hmi2 := ms_info y (manL M2 (.slice am M2.u.length cm)) (.slice none 0 0) (manL_len _ _ hh)
        have hms2 : MZ.size = (msA y (manL M2 (.slice am M2.u.length cm)) (.slice none 0 0)).size := by rw [HMZ.out, HSZ.out, msA_size _ _ _ (manL_len _ _ hh)]
        have hmo2 := msA_one y (manL M2 (.slice am M2.u.length cm)) (.slice none 0 0) (manL_one M2 am _ cm) rfl
        clear hb4 kB kR hl1 hl2 ixv
        have her2 : er = 0 ∨ er = 2 := her.elim (fun h => .inl h.1) (fun h => .inr h.1)
        clear her
        rcases her2 with rfl | rfl
        · go_wp2_with (first | (refine store_mid rfl 25 _ _ rfl rfl B 8 (manC M2 (.slice am M2.u.length cm)) rfl rfl 28 _ kB4 hmi hmf hmo ?_; intro w5 kB5 hg5 hs5; have kB5 := kB5.of_eq HSP.out; have kR5 := kR4.grown hg5 (fun e => HRB.out (by cases e; rfl)); have HB5 : Hid (Below w.heap.size w w5) := below_grown HB4.out hg5 HB4.out.size (fun q hq => by cases hq; exact HBW.out); have HD5 : Hid (decIs w5 (bo.getD []) M2 (.slice am M2.u.length cm) 0) := decIs_grown HD4.out kB4 hg5) | (refine wpList_load_row rfl 28 _ rfl B rfl 28 (msA y (manL M2 (.slice am M2.u.length cm)) (.slice none 0 0)) (0, 0) _ kB5 Try.underlying28 rfl hmi2 ?_) | (refine store_blk rfl 28 _ _ rfl rfl R (msA y (manL M2 (.slice am M2.u.length cm)) (.slice none 0 0)) rfl rfl 28 MZ kR5 hmi2 hms2 hmo2 ?_; intro w9 kR9 hg9 _))
          have hB9 : Below w.heap.size w w9 := below_grown HB5.out hg9 HB5.out.size (fun q hq => by cases hq; exact HRW.out)
          have hD9 := decIs_grown HD5.out (kR5.of_eq HMZ.out) hg9
          refine bodyPost_ret (results_pairK Try.results28 _ _ R 28 (msA y (manL M2 (.slice am M2.u.length cm)) (.slice none 0 0)) (0, 0) _ _ rfl rfl kR9 Try.underlying28 rfl hmi2) rfl ?_
          exact ⟨.inl ⟨HK2.out, M2, _, 0, hD9, .inl ⟨rfl, by rw [HM9.out, HLL.out]; rfl⟩⟩, hB9⟩
        · go_wp2_with (first | (refine store_mid rfl 25 _ _ rfl rfl B 8 (manC M2 (.slice am M2.u.length cm)) rfl rfl 28 _ kB4 hmi hmf hmo ?_; intro w5 kB5 hg5 hs5; have kB5 := kB5.of_eq HSP.out; have kR5 := kR4.grown hg5 (fun e => HRB.out (by cases e; rfl)); have HB5 : Hid (Below w.heap.size w w5) := below_grown HB4.out hg5 HB4.out.size (fun q hq => by cases hq; exact HBW.out); have HD5 : Hid (decIs w5 (bo.getD []) M2 (.slice am M2.u.length cm) 2) := decIs_grown HD4.out kB4 hg5) | (refine store_blk rfl 28 _ _ rfl rfl R MZ rfl rfl 28 MZ kR5 HIZ.out.2 rfl HIZ.out.1 ?_; intro w9 kR9 hg9 _))
          have hB9 : Below w.heap.size w w9 := below_grown HB5.out hg9 HB5.out.size (fun q hq => by cases hq; exact HRW.out)
          have hD9 := decIs_grown HD5.out (kR5.of_eq HMZ.out) hg9
          refine bodyPost_ret (results_pairK Try.results28 _ _ R 28 MZ (0, 0) _ _ rfl rfl kR9 Try.underlying28 rfl HIZ.out.2) rfl ?_
          exact ⟨.inl ⟨HK2.out, M2, _, 2, hD9, .inr ⟨rfl, by rw [HMZ.out]; rfl⟩⟩, hB9⟩
      · have d2 : (k == 2) = false := beq_eq_false_iff_ne.2 e2
        by_cases e5 : k = 5
        · have d5 : (k == 5) = true := beq_iff_eq.2 e5
          have HK5 : Hid (k = 5) := e5
          have hsz5 : 44 < (msA y (manL zeroM (.slice none 0 0)) (.slice none 0 0)).size := by rw [HSZ.out]; omega
          have hmi2 := ms_info y (manL zeroM (.slice none 0 0)) (.slice ab (bo.getD []).length cb) rfl
          have hms2 : MZ.size = (msA y (manL zeroM (.slice none 0 0)) (.slice ab (bo.getD []).length cb)).size := by rw [HMZ.out, HSZ.out, msA_size _ _ _ rfl]
          have hmo2 := msA_one y (manL zeroM (.slice none 0 0)) (.slice ab (bo.getD []).length cb) (manL_one zeroM none 0 0) rfl
          clear e2 e5
          go_wp2_with (first | (refine store_bytW rfl _ _ rfl rfl B 44 ab (bo.getD []).length cb rfl rfl 28 _ kB hsz5 ?_; intro w5 kB5 hg5; have kB5 := kB5.of_eq (msA_bset y _); have kR5 := kR.grown hg5 (fun e => HRB.out (by cases e; rfl)); have HB5 : Hid (Below w.heap.size w w5) := below_grown HBR.out hg5 HBR.out.size (fun q hq => by cases hq; exact HBW.out)) | (refine wpList_load_row rfl 28 _ rfl B rfl 28 (msA y (manL zeroM (.slice none 0 0)) (.slice ab (bo.getD []).length cb)) (0, 0) _ kB5 Try.underlying28 rfl hmi2 ?_) | (refine store_blk rfl 28 _ _ rfl rfl R (msA y (manL zeroM (.slice none 0 0)) (.slice ab (bo.getD []).length cb)) rfl rfl 28 MZ kR5 hmi2 hms2 hmo2 ?_; intro w9 kR9 hg9 _))
          have hB9 : Below w.heap.size w w9 := below_grown HB5.out hg9 HB5.out.size (fun q hq => by cases hq; exact HRW.out)
          refine bodyPost_ret (results_pairK Try.results28 _ _ R 28 (msA y (manL zeroM (.slice none 0 0)) (.slice ab (bo.getD []).length cb)) (0, 0) _ _ rfl rfl kR9 Try.underlying28 rfl hmi2) rfl ?_
          exact ⟨.inr (.inl ⟨HK5.out, _, _, (HCL.out w9 hB9).2.2, HLA.out, by rw [HM9.out, HLL.out]; rfl⟩), hB9⟩
        · have d5 : (k == 5) = false := beq_eq_false_iff_ne.2 e5
          have HK0 : Hid (k ≠ 2 ∧ k ≠ 5) := ⟨e2, e5⟩
          have hmi2 := ms_info y (manL zeroM (.slice none 0 0)) (.slice none 0 0) rfl
          have hms2 : MZ.size = (msA y (manL zeroM (.slice none 0 0)) (.slice none 0 0)).size := by rw [HMZ.out, HSZ.out, HSZ.out]
          have hmo2 := msZ_one y
          clear e2 e5
          go_wp2_with (first | (refine wpList_load_row rfl 28 _ rfl B rfl 28 (msA y (manL zeroM (.slice none 0 0)) (.slice none 0 0)) (0, 0) _ kB Try.underlying28 rfl hmi2 ?_) | (refine store_blk rfl 28 _ _ rfl rfl R (msA y (manL zeroM (.slice none 0 0)) (.slice none 0 0)) rfl rfl 28 MZ kR hmi2 hms2 hmo2 ?_; intro w9 kR9 hg9 _))
          have hB9 : Below w.heap.size w w9 := below_grown HBR.out hg9 HBR.out.size (fun q hq => by cases hq; exact HRW.out)
          refine bodyPost_ret (results_pairK Try.results28 _ _ R 28 (msA y (manL zeroM (.slice none 0 0)) (.slice none 0 0)) (0, 0) _ _ rfl rfl kR9 Try.underlying28 rfl hmi2) rfl ?_
          exact ⟨.inr (.inr ⟨HK0.out, by rw [HM9.out, HLL.out]; rfl⟩), hB9⟩
end Go.Proofs.Ytgfcindkfnjeoaa
