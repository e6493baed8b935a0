/-
  What is proved here: the document's Make of layer 10 answers as the plain function does.
  Conditions: those that each fact names.
-/
import Derived.Test.YthophonofaaafaaDoorJRefManRight
import Derived.Test.YthophonofaaafaaDoorJManMore
import Derived.Test.YthophonofaaafaaDoorJRefBlock
namespace Go.Proofs.YthophonofaaafaaDoor
open Go.RowKit

theorem exec_addR {a : Act} {o : Oper} {w : World} (t : TypeId) (x y : Operand) (ho : o.op = .binOp .add t x y t) (m n : Int) (hx : a.eval x = .int .i64 m) (hy : a.eval y = .int .i64 n) (h0 : -9223372036854775808 ≤ m + n) (h1 : m + n < 9223372036854775808) : (execOp a.eval o).run Tryd.prog w = .ok (.value (.int .i64 (m + n))) w := exec_addM t x y ho m n hx hy h0 h1
theorem exec_minR {a : Act} {o : Oper} {w : World} (t : TypeId) (t' : TypeId) (x y : Operand) (ho : o.op = .call { callee := .builtin .min, args := #[x, y], argTypes := #[t, t'] }) (m n r : Int) (hx : a.eval x = .int .i64 m) (hy : a.eval y = .int .i64 n) (h : min m n = r) : (execOp a.eval o).run Tryd.prog w = .ok (.value (.int .i64 r)) w := by
  subst h
  unfold execOp
  simp [ho, resolve, invoke, hx, hy, builtin, Lib.run_min_ints]
theorem exec_word {a : Act} {o : Oper} {w : World} (x : Operand) (ho : o.op = .buildSlice 25 1 #[(0, x)]) (y : BitVec 32) (hx : a.eval x = v32 y) : (execOp a.eval o).run Tryd.prog w = .ok (.value (.slice (some ⟨w.heap.size, 0, none⟩) 1 1)) (w.alloc (.cells #[v32 y] 49)) := by
  unfold execOp
  simp only [ho]
  simp [go_sem]
  have hx' := hx
  simp [go_sem] at hx'
  simp [hx', v32]
theorem exec_storew {a : Act} {o : Oper} {w : World} (x y : Operand) (ho : o.op = .store 25 x y) (g i : Nat) (ao : Option Addr) (n c : Nat) (hx : a.eval x = .pointer (some ⟨g, i, none⟩)) (hy : a.eval y = .slice ao n c) {u : Value} (hc : w.cell? ⟨g, i, none⟩ = some u) (hf : w.frozen? ⟨g, i, none⟩ = false) : (execOp a.eval o).run Tryd.prog w = .ok .skip (w.setCell ⟨g, i, none⟩ (.slice ao n c)) := by
  unfold execOp
  simp only [ho, hx, hy]
  simp [go_sem, hc, hf]
theorem built_four (v s c : Int) (h : List UInt8) (hh : h.length = 32) : Tryd.prog.built 27 [(0, .int .i64 v), (1, .int .i64 s), (2, .int .i64 c), (3, .agg (h.map v8).toArray)] = some (manC ⟨v, s, c, h, []⟩ (.slice none 0 0)) :=
  match h, hh with
  | [a0, a1, a2, a3, a4, a5, a6, a7, a8, a9, a10, a11, a12, a13, a14, a15, a16, a17, a18, a19, a20, a21, a22, a23, a24, a25, a26, a27, a28, a29, a30, a31], _ => by kernel_rfl
/-- How many chunks, as a natural number. -/
def cntN (n c : Nat) : Nat := (n + c - 1) / c
theorem cntN_lt (n c k : Nat) (hc : 0 < c) : k < cntN n c ↔ c * k < n := by
  unfold cntN
  have h := Nat.le_div_iff_mul_le hc (x := k + 1) (y := n + c - 1)
  rw [Nat.add_mul, Nat.mul_comm k c] at h
  omega
theorem cntN_eq (v : Int) (bs : List UInt8) (c : Nat) (hc : 0 < c) : countM (numsM v bs c) = (cntN bs.length c : Int) := by
  show ((bs.length : Int) + (c : Int) - 1) / (c : Int) = _
  unfold cntN
  rw [show (bs.length : Int) + (c : Int) - 1 = ((bs.length + c - 1 : Nat) : Int) by omega]
  simp

set_option maxRecDepth 100000 in
set_option maxHeartbeats 4000000 in
theorem rmake_any (v : Int) (bv : Value) (bs : List UInt8) (c : Int) (w : World) (hbl : bs.length ≤ 50000) (hseg : Seg w bv bs) :
    Calls Tryd.prog 11 #[.int .i64 v, bv, .int .i64 c] w fun e w' => ∃ (M : MM) (su : Value) (er : Int), e = .returned (.tuple #[manV M su, .int .i64 er]) ∧ M.h.length = 32 ∧ M.u.length ≤ 128 ∧ Wds w' su M.u ∧ ((er = 0 ∧ numsOk (numsM v bs c) ∧ M = makeM v bs c) ∨ (er = 1 ∧ ¬ numsOk (numsM v bs c) ∧ M = zeroM)) ∧ Below w.heap.size w w' := by
  obtain ⟨ab, cb, rfl⟩ := hseg.shapeD
  have hbz := built_zero
  have hiZ := manC_info zeroM (.slice none 0 0) (by simp [zeroM])
  have hoZ := manC_one zeroM (.slice none 0 0) rfl
  have hz := zeroMan
  have HZW : Hid (∀ W, Wds W (.slice none 0 0) zeroM.u) := fun W => ⟨none, 0, rfl, fun h => by simp [zeroM] at h⟩
  by_cases hout : 32768 < bs.length ∨ c < 16 ∨ 1024 < c
  · have hn : ¬ numsOk (numsM v bs c) := fun h => by
      have h1 := h.2.1
      have h2 := h.2.2.1
      simp only [numsM] at h1 h2
      omega
    have HFIN : Hid (∀ W', Below w.heap.size w W' → ∃ (M : MM) (su : Value) (er : Int), Ending.returned (.tuple #[.agg (manC zeroM (.slice none 0 0)), .int .i64 1]) = .returned (.tuple #[manV M su, .int .i64 er]) ∧ M.h.length = 32 ∧ M.u.length ≤ 128 ∧ Wds W' su M.u ∧ ((er = 0 ∧ numsOk (numsM v bs c) ∧ M = makeM v bs c) ∨ (er = 1 ∧ ¬ numsOk (numsM v bs c) ∧ M = zeroM)) ∧ Below w.heap.size w W') := fun W' hB => ⟨zeroM, .slice none 0 0, 1, rfl, by simp [zeroM], by simp [zeroM], HZW.out W', .inr ⟨rfl, hn, rfl⟩, hB⟩
    clear hseg hn HZW
    generalize hZZ : manC zeroM (.slice none 0 0) = Z at *
    clear hZZ
    have k6 := Blk.new w 27 Z
    have hB1 := (Below.refl w.heap.size w).alloc (Nat.le_refl _) (.cells Z 27)
    by_cases h1 : 32768 < bs.length
    · go_enter Tryd.func11, Tryd.ntmps11
      go_wp2_with (first | (refine build_as rfl 27 _ rfl Z (by exact hbz) ?_) | (refine store_blk rfl 27 _ _ rfl rfl w.heap.size Z rfl rfl 27 Z k6 hiZ rfl hoZ ?_; intro W5 k5 hg5 hs5))
      have hB5 : Below w.heap.size w W5 := below_grown hB1 hg5 hB1.size (fun q hq => by cases hq; omega)
      exact bodyPost_ret (results_pairM rfl _ _ w.heap.size 27 Z (0, 0) _ (.int .i64 1) rfl rfl k5 Tryd.underlying27 rfl hiZ) rfl (HFIN.out _ hB5)
    · have h1' : ¬ (32768 : Int) < (bs.length : Int) := by omega
      by_cases h2 : c < 16
      · go_enter Tryd.func11, Tryd.ntmps11
        go_wp2_with (first | (refine build_as rfl 27 _ rfl Z (by exact hbz) ?_) | (refine store_blk rfl 27 _ _ rfl rfl w.heap.size Z rfl rfl 27 Z k6 hiZ rfl hoZ ?_; intro W5 k5 hg5 hs5))
        have hB5 : Below w.heap.size w W5 := below_grown hB1 hg5 hB1.size (fun q hq => by cases hq; omega)
        exact bodyPost_ret (results_pairM rfl _ _ w.heap.size 27 Z (0, 0) _ (.int .i64 1) rfl rfl k5 Tryd.underlying27 rfl hiZ) rfl (HFIN.out _ hB5)
      · have h3 : 1024 < c := by omega
        go_enter Tryd.func11, Tryd.ntmps11
        go_wp2_with (first | (refine build_as rfl 27 _ rfl Z (by exact hbz) ?_) | (refine store_blk rfl 27 _ _ rfl rfl w.heap.size Z rfl rfl 27 Z k6 hiZ rfl hoZ ?_; intro W5 k5 hg5 hs5))
        have hB5 : Below w.heap.size w W5 := below_grown hB1 hg5 hB1.size (fun q hq => by cases hq; omega)
        exact bodyPost_ret (results_pairM rfl _ _ w.heap.size 27 Z (0, 0) _ (.int .i64 1) rfl rfl k5 Tryd.underlying27 rfl hiZ) rfl (HFIN.out _ hB5)
  · have h1 : bs.length ≤ 32768 := by omega
    have h2 : 16 ≤ c ∧ c ≤ 1024 := by omega
    obtain ⟨C, rfl⟩ : ∃ C : Nat, c = C := ⟨c.toNat, (Int.toNat_of_nonneg (by omega)).symm⟩
    obtain ⟨N, hN⟩ : ∃ N, N = cntN bs.length C := ⟨_, rfl⟩
    have HLT : Hid (∀ k, k < N ↔ C * k < bs.length) := fun k => by rw [hN]; exact cntN_lt bs.length C k (by omega)
    have hcN : countM (numsM v bs C) = (N : Int) := by rw [hN]; exact cntN_eq v bs C (by omega)
    have HUM : Hid ((makeM v bs C).u = sumsM bs C N) := by
      show sumsM bs (C : Int).toNat (countM (numsM v bs C)).toNat = _
      rw [hcN, Int.toNat_natCast, Int.toNat_natCast]
    have hN2 : N ≤ 2200 := by
      rw [hN]; unfold cntN
      exact Nat.le_trans (Nat.div_le_div_left (c := 16) (by omega) (by omega)) (by omega)
    have HRS0 : Hid (Calls Tryd.prog 28 #[.slice ab bs.length cb] (w.alloc (.cells (manC zeroM (.slice none 0 0)) 27)) fun e w' => e = .returned (.agg ((shaOf bs).map v8).toArray) ∧ Below (w.alloc (.cells (manC zeroM (.slice none 0 0)) 27)).heap.size (w.alloc (.cells (manC zeroM (.slice none 0 0)) 27)) w') := refSum_any _ bs _ (hseg.alloc _) (by omega)
    have HRR : Hid (∀ su V, Wds V su (makeM v bs C).u → Calls Tryd.prog 17 #[manV (makeM v bs C) su] V fun e w' => e = .returned (.bool (decide (okM (makeM v bs C)))) ∧ Below V.heap.size V w') := fun su V hu => rmright_any _ su V (makeM_hash _ _ _) (by rw [HUM.out, sumsM_len]; omega) hu
    have HSG : Hid (∀ V, Below w.heap.size w V → Seg V (.slice ab bs.length cb) bs) := fun V hV => hseg.below hV (Nat.le_refl _)
    have hcap := seg_cap hseg
    have hb4 := built_four v bs.length C (shaOf bs) (wbytes_len _)
    have hiH : (Tryd.prog.info? 27).map (·.size) = some (manC ⟨v, bs.length, C, shaOf bs, []⟩ (.slice none 0 0)).size := manC_info _ _ (wbytes_len _)
    have hoH := manC_one ⟨v, bs.length, C, shaOf bs, []⟩ (.slice none 0 0) rfl
    have HSZ : Hid ((manC zeroM (.slice none 0 0)).size = (manC ⟨v, bs.length, C, shaOf bs, []⟩ (.slice none 0 0)).size) := size_zeroMan _ _ (wbytes_len _)
    have k6 := Blk.new w 27 (manC zeroM (.slice none 0 0))
    have hB1 := (Below.refl w.heap.size w).alloc (Nat.le_refl _) (.cells (manC zeroM (.slice none 0 0)) 27)
    clear hseg hN hout
    obtain ⟨Z, hZ⟩ : ∃ Z, Z = manC zeroM (.slice none 0 0) := ⟨_, rfl⟩
    obtain ⟨MH, hMH⟩ : ∃ MH, MH = manC ⟨v, bs.length, C, shaOf bs, []⟩ (.slice none 0 0) := ⟨_, rfl⟩
    have HZ : Hid (Z = manC zeroM (.slice none 0 0)) := hZ
    have HMH : Hid (MH = manC ⟨v, bs.length, C, shaOf bs, []⟩ (.slice none 0 0)) := hMH
    simp only [← hZ] at hbz hiZ hoZ hz HRS0 HSZ k6 hB1
    simp only [← hMH] at hb4 hiH hoH HSZ
    clear hZ hMH
    generalize ((shaOf bs).map v8).toArray = SA at *
    have h1' : ¬ (32768 : Int) < (bs.length : Int) := by omega
    go_enter Tryd.func11, Tryd.ntmps11
    go_wp2_with fail
    refine HRS0.out.mono ?_
    rintro e w1 ⟨rfl, hb1⟩
    have k61 := k6.below hb1 k6.lt
    have hB11 : Below w.heap.size w w1 := hB1.trans (hb1.mono hB1.size)
    clear k6 hb1 hB1 HRS0
    go_wp2_with (first | (refine build_as rfl 27 _ rfl MH (by exact hb4) ?_) | (refine store_blk rfl 27 _ _ rfl rfl w1.heap.size MH rfl rfl 27 Z (by exact Blk.new _ _ _) hiH HSZ.out hoH ?_; intro W2 k8 hg2 hs2; clear hs2))
    have hb2 := fresh_below hg2
    have k62 := k61.below hb2 k61.lt
    have hB2 : Below w.heap.size w W2 := hB11.trans (hb2.mono hB11.size)
    obtain ⟨B8, hB8⟩ : ∃ B8, B8 = w1.heap.size := ⟨_, rfl⟩
    rw [← hB8] at k8 ⊢
    have h86 : w.heap.size < B8 := by rw [hB8]; exact k61.lt
    have h8l : B8 < W2.heap.size := k8.lt
    rw [HMH.out] at k8
    clear hg2 hb2 k61 hB11 hB8 hb4 hoH HSZ hiH
    go_loopw [9] (fun i wr => ∃ (k : Nat) (su : Value), k ≤ N ∧ i = .int .i64 ((C * k : Nat) : Int) ∧ Blk wr B8 27 (manC ⟨v, bs.length, C, shaOf bs, []⟩ su) ∧ OwnW wr W2.heap.size su (sumsM bs C k) ∧ Below w.heap.size w wr ∧ Blk wr w.heap.size 27 Z ∧ W2.heap.size ≤ wr.heap.size) (fun i _ => bs.length - (intOf i).toNat)
    case atStart => exact ⟨0, _, Nat.zero_le _, by simp, k8, ownW_nil _ _, hB2, k62, Nat.le_refl _⟩
    case round =>
      clear k8 hB2 k62
      obtain ⟨k, su, hk, rfl, k8, hown, hBr, k6, hsz⟩ := hrel
      by_cases hlt : k < N
      · have hat : C * k < bs.length := (HLT.out k).1 hlt
        have hck := chunkB_take bs C k
        have hlen : (chunkB bs C k).length = min C (bs.length - C * k) := by simp [chunkB]
        have HRS : Hid (∀ V, Below w.heap.size w V → Calls Tryd.prog 32 #[.slice (restD ab cb (C * k)) (chunkB bs C k).length (cb - C * k)] V fun e w' => e = .returned (v32 (crcOf (chunkB bs C k))) ∧ w' = V) := fun V hV => by
          have h8 := seg_mid (HSG.out V hV) (C * k) (chunkB bs C k).length (by omega)
          rw [← chunkB_take] at h8
          exact refCsum_any _ _ V (by omega) h8
        have HSF : Hid (sumsM bs C (k + 1) = sumsM bs C k ++ [crcOf (chunkB bs C k)]) := sumsM_succ _ _ _
        have hul : (sumsM bs C k).length ≤ 1000000 := by rw [sumsM_len]; omega
        have HNX : Hid (Value.int .i64 (((C * k : Nat) : Int) + (C : Int)) = .int .i64 ((C * (k + 1) : Nat) : Int)) := by show _ = _; rw [Nat.mul_add]; simp
        clear hck HSG HRR HUM HLT
        generalize crcOf (chunkB bs C k) = CS at *
        generalize (chunkB bs C k).length = LN at *
        generalize C * k = AT at *
        have hmin : min (bs.length : Int) ((AT : Int) + (C : Int)) = (AT : Int) + (LN : Int) := by omega
        have hsl : ∀ V, (Instr.slice 22 (.slice ab bs.length cb) (some (.int .i64 (AT : Int))) (some (.int .i64 ((AT : Int) + (LN : Int)))) none).run Tryd.prog V = .ok (.slice (restD ab cb AT) LN (cb - AT)) V := fun V => by
          have := slice_midM ab bs.length cb AT (AT + LN) (by omega) (by omega) V
          rw [show AT + LN - AT = LN by omega, show ((AT + LN : Nat) : Int) = (AT : Int) + (LN : Int) by omega] at this
          exact this
        have sB := hBr.size
        obtain ⟨su2, w2, hr2, ho2, hg2, _⟩ := app_word (wr.drew.alloc (.cells #[v32 CS] 49)) W2.heap.size su (sumsM bs C k) (OwnW.alloc (show OwnW wr.drew _ _ _ from hown) _) wr.heap.size 1 CS ((Blk.new wr.drew 49 #[v32 CS]).cell (j := 0) rfl) hul (by rw [World.size_alloc]; show W2.heap.size ≤ wr.heap.size + 1; omega)
        have k8a := (show Blk wr.drew _ _ _ from k8).alloc (.cells #[v32 CS] 49)
        have hne : some B8 ≠ su.ownBlock := fun e => by have := (hown.blocks _ e.symm).1; omega
        have hne6 : some w.heap.size ≠ su.ownBlock := fun e => by have := (hown.blocks _ e.symm).1; omega
        have k82 := k8a.grown hg2 hne
        have k62 := ((show Blk wr.drew _ _ _ from k6).alloc (.cells #[v32 CS] 49)).grown hg2 hne6
        have hB2 : Below w.heap.size w w2 := below_grown (hBr.drew.alloc sB _) hg2 (by rw [World.size_alloc]; show w.heap.size ≤ wr.heap.size + 1; omega) (fun q hq => by have := (hown.blocks q hq).1; omega)
        have hs2 : wr.heap.size + 1 ≤ w2.heap.size := by have := hg2.size; rw [World.size_alloc] at this; exact this
        obtain ⟨au, cu, rfl, _⟩ := hown.wds
        obtain ⟨a2, c2, rfl, _⟩ := ho2.wds
        have c35 : wr.drew.cell? ⟨B8, 35, none⟩ = some _ := (show Blk wr.drew _ _ _ from k8).cell (manC_35 _ _ (wbytes_len _))
        have c35a := k8a.cell (manC_35 _ _ (wbytes_len _))
        have c352 := k82.cell (manC_35 _ _ (wbytes_len _))
        have f352 : w2.frozen? ⟨B8, 35, none⟩ = false := k82.frozen 35
        have HF : Hid (∀ z, Blk (w2.setCell ⟨B8, 35, none⟩ z) B8 27 (manC ⟨v, bs.length, C, shaOf bs, []⟩ z)) := fun z => (k82.set 35 z).of_eq (man_set _ _ _ (wbytes_len _))
        have HO : Hid (∀ z, OwnW (w2.setCell ⟨B8, 35, none⟩ z) W2.heap.size (.slice a2 (sumsM bs C k ++ [CS]).length c2) (sumsM bs C (k + 1))) := fun z => by
          rw [HSF.out]
          exact ho2.grown (grown_setCellM w2 B8 35 z) (by
            cases hb : (Value.slice a2 (sumsM bs C k ++ [CS]).length c2).ownBlock with
            | none => exact .inl rfl
            | some k => exact .inr (fun e => by have := (ho2.blocks k hb).1; cases e; omega))
        clear hown ho2 k8 k8a k82 hne hne6 hg2 HSF
        generalize (sumsM bs C k ++ [CS]).length = L2 at *
        generalize (sumsM bs C k).length = UL at *
        go_wp2_with fail
        refine held_begin (fun _ => True) (by kernel_rfl) ?_
        refine held_take 0 37 _ (.pointer (some ⟨B8, 35, none⟩)) rfl rfl (by kernel_rfl) (by kernel_rfl) (by kernel_rfl) rfl trivial (fun _ _ => rfl) ?_
        simp only [Act.put, List.setIfInBounds_toArray, List.set_cons_succ, List.set_cons_zero]
        refine held_take 2 39 _ (.slice ab bs.length cb) rfl rfl (by kernel_rfl) (by kernel_rfl) (by kernel_rfl) rfl trivial (fun _ _ => rfl) ?_
        simp only [Act.put, List.setIfInBounds_toArray, List.set_cons_succ, List.set_cons_zero]
        refine held_take 3 40 _ (.int .i64 (AT : Int)) rfl rfl (by kernel_rfl) (by kernel_rfl) (by kernel_rfl) rfl trivial (fun _ _ => rfl) ?_
        simp only [Act.put, List.setIfInBounds_toArray, List.set_cons_succ, List.set_cons_zero]
        refine held_take 4 41 _ (.slice ab bs.length cb) rfl rfl (by kernel_rfl) (by kernel_rfl) (by kernel_rfl) rfl trivial (fun _ _ => rfl) ?_
        simp only [Act.put, List.setIfInBounds_toArray, List.set_cons_succ, List.set_cons_zero]
        refine held_take 5 42 _ (.int .i64 (bs.length : Int)) rfl rfl (by kernel_rfl) (by kernel_rfl) (by kernel_rfl) rfl trivial (fun V _ => exec_len _ rfl _ _ _ rfl) ?_
        simp only [Act.put, List.setIfInBounds_toArray, List.set_cons_succ, List.set_cons_zero]
        refine held_take 6 43 _ (.int .i64 (AT : Int)) rfl rfl (by kernel_rfl) (by kernel_rfl) (by kernel_rfl) rfl trivial (fun _ _ => rfl) ?_
        simp only [Act.put, List.setIfInBounds_toArray, List.set_cons_succ, List.set_cons_zero]
        refine held_take 7 44 _ (.int .i64 (C : Int)) rfl rfl (by kernel_rfl) (by kernel_rfl) (by kernel_rfl) rfl trivial (fun _ _ => rfl) ?_
        simp only [Act.put, List.setIfInBounds_toArray, List.set_cons_succ, List.set_cons_zero]
        refine held_take 8 45 _ (.int .i64 ((AT : Int) + (C : Int))) rfl rfl (by kernel_rfl) (by kernel_rfl) (by kernel_rfl) rfl trivial (fun V _ => exec_addR _ _ _ rfl _ _ rfl rfl (by omega) (by omega)) ?_
        simp only [Act.put, List.setIfInBounds_toArray, List.set_cons_succ, List.set_cons_zero]
        refine held_take 9 46 _ (.int .i64 ((AT : Int) + (LN : Int))) rfl rfl (by kernel_rfl) (by kernel_rfl) (by kernel_rfl) rfl trivial (fun V _ => exec_minR _ _ _ _ rfl _ _ _ rfl rfl hmin) ?_
        simp only [Act.put, List.setIfInBounds_toArray, List.set_cons_succ, List.set_cons_zero]
        refine held_take 10 47 _ (.slice (restD ab cb AT) LN (cb - AT)) rfl rfl (by kernel_rfl) (by kernel_rfl) (by kernel_rfl) rfl trivial (fun V _ => exec_slice7 _ _ _ _ rfl (.slice ab bs.length cb) _ (some (.int .i64 (AT : Int))) (some (.int .i64 ((AT : Int) + (LN : Int)))) none rfl rfl rfl rfl (hsl V)) ?_
        simp only [Act.put, List.setIfInBounds_toArray, List.set_cons_succ, List.set_cons_zero]
        refine held_all2 1 11 (by kernel_rfl) ?_ ?_
        · refine op_value 1 38 _ (.slice au UL cu) _ rfl rfl rfl (exec_loadc 25 _ rfl _ _ rfl (load_one 25 (fun _ => by kernel_rfl) _ _ _ _ c35)) ⟨trivial, ?_⟩
          simp only [Act.put, List.setIfInBounds_toArray, List.set_cons_succ, List.set_cons_zero]
          refine held_all1 11 (by kernel_rfl) (op_call 11 48 _ 32 #[.slice (restD ab cb AT) LN (cb - AT)] rfl rfl rfl (exec_one 32 _ _ rfl _ rfl Tryd.call32) ((HRS.out _ hBr.drew).mono ?_))
          rintro e w9 ⟨rfl, hw9⟩
          subst hw9
          refine ⟨_, rfl, trivial, ?_⟩
          simp only [Act.put, List.setIfInBounds_toArray, List.set_cons_succ, List.set_cons_zero]
          refine held_all1 12 (by kernel_rfl) (op_value 12 49 _ (.slice (some ⟨wr.heap.size, 0, none⟩) 1 1) _ rfl rfl rfl (exec_word _ rfl _ rfl) ⟨trivial, ?_⟩)
          simp only [Act.put, List.setIfInBounds_toArray, List.set_cons_succ, List.set_cons_zero]
          refine held_all1 13 (by kernel_rfl) (op_value 13 50 _ (.slice a2 L2 c2) w2 rfl rfl rfl (exec_app _ _ 25 25 rfl (.slice au UL cu) (.slice (some ⟨wr.heap.size, 0, none⟩) 1 1) (.slice a2 L2 c2) rfl rfl hr2) ⟨trivial, ?_⟩)
          simp only [Act.put, List.setIfInBounds_toArray, List.set_cons_succ, List.set_cons_zero]
          refine held_take 14 51 _ (.pointer (some ⟨B8, 35, none⟩)) rfl rfl (by kernel_rfl) (by kernel_rfl) (by kernel_rfl) rfl trivial (fun _ _ => rfl) ?_
          simp only [Act.put, List.setIfInBounds_toArray, List.set_cons_succ, List.set_cons_zero]
          refine held_all1 15 (by kernel_rfl) (op_skip 15 _ _ rfl rfl rfl (exec_storew _ _ rfl _ _ _ _ _ rfl rfl c352 f352) ⟨trivial, ?_⟩)
          refine wpAnyH_done (by kernel_rfl) ?_ _
          refine NoPanic.normal ?_
          clear c35 c35a c352 f352 hr2
          go_wp2
          go_roundw
          case rel => exact ⟨k + 1, _, hlt, HNX.out, HF.out _, HO.out _, hB2.setCell (p := ⟨B8, 35, none⟩) (Nat.le_of_lt h86) _, k62.setOther _ _ (Nat.ne_of_lt h86), by simp; omega⟩
          case measure => simp [intOf]; omega
        · refine op_call 11 48 _ 32 #[.slice (restD ab cb AT) LN (cb - AT)] rfl rfl rfl (exec_one 32 _ _ rfl _ rfl Tryd.call32) ((HRS.out _ hBr.drew).mono ?_)
          rintro e w9 ⟨rfl, hw9⟩
          subst hw9
          refine ⟨_, rfl, trivial, ?_⟩
          simp only [Act.put, List.setIfInBounds_toArray, List.set_cons_succ, List.set_cons_zero]
          refine held_all2 1 12 (by kernel_rfl) ?_ ?_
          · refine op_value 1 38 _ (.slice au UL cu) _ rfl rfl rfl (exec_loadc 25 _ rfl _ _ rfl (load_one 25 (fun _ => by kernel_rfl) _ _ _ _ c35)) ⟨trivial, ?_⟩
            simp only [Act.put, List.setIfInBounds_toArray, List.set_cons_succ, List.set_cons_zero]
            refine held_all1 12 (by kernel_rfl) (op_value 12 49 _ (.slice (some ⟨wr.heap.size, 0, none⟩) 1 1) _ rfl rfl rfl (exec_word _ rfl _ rfl) ⟨trivial, ?_⟩)
            simp only [Act.put, List.setIfInBounds_toArray, List.set_cons_succ, List.set_cons_zero]
            refine held_all1 13 (by kernel_rfl) (op_value 13 50 _ (.slice a2 L2 c2) w2 rfl rfl rfl (exec_app _ _ 25 25 rfl (.slice au UL cu) (.slice (some ⟨wr.heap.size, 0, none⟩) 1 1) (.slice a2 L2 c2) rfl rfl hr2) ⟨trivial, ?_⟩)
            simp only [Act.put, List.setIfInBounds_toArray, List.set_cons_succ, List.set_cons_zero]
            refine held_take 14 51 _ (.pointer (some ⟨B8, 35, none⟩)) rfl rfl (by kernel_rfl) (by kernel_rfl) (by kernel_rfl) rfl trivial (fun _ _ => rfl) ?_
            simp only [Act.put, List.setIfInBounds_toArray, List.set_cons_succ, List.set_cons_zero]
            refine held_all1 15 (by kernel_rfl) (op_skip 15 _ _ rfl rfl rfl (exec_storew _ _ rfl _ _ _ _ _ rfl rfl c352 f352) ⟨trivial, ?_⟩)
            refine wpAnyH_done (by kernel_rfl) ?_ _
            refine NoPanic.normal ?_
            clear c35 c35a c352 f352 hr2
            go_wp2
            go_roundw
            case rel => exact ⟨k + 1, _, hlt, HNX.out, HF.out _, HO.out _, hB2.setCell (p := ⟨B8, 35, none⟩) (Nat.le_of_lt h86) _, k62.setOther _ _ (Nat.ne_of_lt h86), by simp; omega⟩
            case measure => simp [intOf]; omega
          · refine op_value 12 49 _ (.slice (some ⟨wr.heap.size, 0, none⟩) 1 1) _ rfl rfl rfl (exec_word _ rfl _ rfl) ⟨trivial, ?_⟩
            simp only [Act.put, List.setIfInBounds_toArray, List.set_cons_succ, List.set_cons_zero]
            refine held_all1 1 (by kernel_rfl) (op_value 1 38 _ (.slice au UL cu) _ rfl rfl rfl (exec_loadc 25 _ rfl _ _ rfl (load_one 25 (fun _ => by kernel_rfl) _ _ _ _ c35a)) ⟨trivial, ?_⟩)
            simp only [Act.put, List.setIfInBounds_toArray, List.set_cons_succ, List.set_cons_zero]
            refine held_all1 13 (by kernel_rfl) (op_value 13 50 _ (.slice a2 L2 c2) w2 rfl rfl rfl (exec_app _ _ 25 25 rfl (.slice au UL cu) (.slice (some ⟨wr.heap.size, 0, none⟩) 1 1) (.slice a2 L2 c2) rfl rfl hr2) ⟨trivial, ?_⟩)
            simp only [Act.put, List.setIfInBounds_toArray, List.set_cons_succ, List.set_cons_zero]
            refine held_take 14 51 _ (.pointer (some ⟨B8, 35, none⟩)) rfl rfl (by kernel_rfl) (by kernel_rfl) (by kernel_rfl) rfl trivial (fun _ _ => rfl) ?_
            simp only [Act.put, List.setIfInBounds_toArray, List.set_cons_succ, List.set_cons_zero]
            refine held_all1 15 (by kernel_rfl) (op_skip 15 _ _ rfl rfl rfl (exec_storew _ _ rfl _ _ _ _ _ rfl rfl c352 f352) ⟨trivial, ?_⟩)
            refine wpAnyH_done (by kernel_rfl) ?_ _
            refine NoPanic.normal ?_
            clear c35 c35a c352 f352 hr2
            go_wp2
            go_roundw
            case rel => exact ⟨k + 1, _, hlt, HNX.out, HF.out _, HO.out _, hB2.setCell (p := ⟨B8, 35, none⟩) (Nat.le_of_lt h86) _, k62.setOther _ _ (Nat.ne_of_lt h86), by simp; omega⟩
            case measure => simp [intOf]; omega
      · have hkN : k = N := by omega
        subst hkN
        have i1 : ¬ ((C * k : Nat) : Int) < (bs.length : Int) := by have := HLT.out k; omega
        have hw := hown.wds
        rw [← HUM.out] at hw
        have HRRs := HRR.out su
        have HR2 : Hid (∀ V, Wds V su (makeM v bs C).u → Calls Tryd.prog 17 #[.agg (manC ⟨v, bs.length, C, shaOf bs, []⟩ su)] V fun e w' => e = .returned (.bool (decide (okM (makeM v bs C)))) ∧ Below V.heap.size V w') := HRRs
        have hi8 : (Tryd.prog.info? 27).map (·.size) = some (manC ⟨v, bs.length, C, shaOf bs, []⟩ su).size := manC_info _ _ (wbytes_len _)
        have ho8 := manC_one ⟨v, bs.length, C, shaOf bs, []⟩ su hown.wds.one
        have HSZ : Hid (Z.size = (manC ⟨v, bs.length, C, shaOf bs, []⟩ su).size) := by show _ = _; rw [HZ.out]; exact size_zeroMan _ _ (wbytes_len _)
        have HMR : Hid (manC (makeM v bs C) su = manC ⟨v, bs.length, C, shaOf bs, []⟩ su) := rfl
        clear HRRs HRR HSG HLT
        generalize manC ⟨v, bs.length, C, shaOf bs, []⟩ su = MR at *
        generalize C * k = AT at *
        go_wp2_with (refine wpList_load_row rfl 27 _ rfl B8 rfl 27 MR (0, 0) _ k8 Tryd.underlying27 rfl hi8 ?_)
        refine (HR2.out _ hw).mono ?_
        rintro e w3 ⟨rfl, hb3⟩
        have k83 := k8.below hb3 k8.lt
        have k63 := k6.below hb3 k6.lt
        have hB3 : Below w.heap.size w w3 := hBr.trans (hb3.mono hBr.size)
        have s3 := hB3.size
        have hown3 : OwnW w3 W2.heap.size su (sumsM bs C k) := hown.grown (row := none) ⟨hb3.os, hb3.tape, hb3.output, hb3.size, fun i hi _ => hb3.block i hi⟩ (by cases su.ownBlock <;> simp)
        have h62 : w.heap.size < W2.heap.size := by omega
        clear HR2 k8 k6 hBr hw hb3 hown
        by_cases hn : numsOk (numsM v bs C)
        · rw [decide_eq_true (makeM_ok hn)]
          have hul := (okM_len (makeM_ok hn)).1
          go_wp2_with (first | (refine wpList_load_row rfl 27 _ rfl B8 rfl 27 MR (0, 0) _ k83 Tryd.underlying27 rfl hi8 ?_) | (refine store_blk rfl 27 _ _ rfl rfl w.heap.size MR rfl rfl 27 Z k63 hi8 HSZ.out ho8 ?_; intro W5 k5 hg5 hs5))
          have hB5 : Below w.heap.size w W5 := below_grown hB3 hg5 hB3.size (fun q hq => by cases hq; omega)
          have hw5 : Wds W5 su (makeM v bs C).u := by
            rw [HUM.out]
            exact (hown3.grown hg5 (by
              cases hb : su.ownBlock with
              | none => exact .inl rfl
              | some q => exact .inr (fun e => by have := (hown3.blocks q hb).1; cases e; omega))).wds
          exact bodyPost_ret (results_pairM rfl _ _ w.heap.size 27 MR (0, 0) _ (.int .i64 0) rfl rfl k5 Tryd.underlying27 rfl hi8) rfl ⟨makeM v bs C, su, 0, by unfold manV; rw [HMR.out], makeM_hash _ _ _, hul, hw5, .inl ⟨rfl, hn, rfl⟩, hB5⟩
        · rw [decide_eq_false (fun h => hn h.1)]
          go_wp2_with (first | (refine build_as rfl 27 _ rfl Z (by exact hbz) ?_) | (refine store_blk rfl 27 _ _ rfl rfl w.heap.size Z rfl rfl 27 Z k63 hiZ rfl hoZ ?_; intro W5 k5 hg5 hs5))
          have hB5 : Below w.heap.size w W5 := below_grown hB3 hg5 hB3.size (fun q hq => by cases hq; omega)
          exact bodyPost_ret (results_pairM rfl _ _ w.heap.size 27 Z (0, 0) _ (.int .i64 1) rfl rfl k5 Tryd.underlying27 rfl hiZ) rfl ⟨zeroM, .slice none 0 0, 1, by unfold manV; rw [HZ.out], by simp [zeroM], by simp [zeroM], HZW.out _, .inr ⟨rfl, hn, rfl⟩, hB5⟩
end Go.Proofs.YthophonofaaafaaDoor
