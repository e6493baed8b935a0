/-
  What is proved here: a datagram's values, and the datagram of values: wire's values and datagramOf.
  Conditions: the numbers are not negative; the datagram, or its values, lie in memory.
-/
import Derived.Test.YtpebjocmnojldaaDoorJWireSmall
namespace Go.Proofs.YtpebjocmnojldaaDoor
open Go.RowKit

theorem grown_setCellW (w : World) (g i : Nat) (z : Value) : w.grownBy (w.setCell ⟨g, i, none⟩ z) (some g) := ⟨rfl, rfl, rfl, by simp, fun k _ hk => Below.heap_setCell w ⟨g, i, none⟩ z k (fun e => hk (by rw [e]))⟩
theorem store_u64W {w : World} {ops : Array Oper} {rest : List Oper} {o : Oper} {a : Act} {Q : Exit → Act → World → Prop} (hgd : o.guard = none) (x y : Operand) (ho : o.op = .store 56 x y) (hd : o.dst = none) (g i : Nat) (z : Int) (hx : a.eval x = .pointer (some ⟨g, i, none⟩)) (hy : a.eval y = .int .u64 z) (t : TypeId) (old : Array Value) (hg : Blk w g t old) (hi : i < old.size)
    (hK : ∀ w', Blk w' g t (old.setIfInBounds i (.int .u64 z)) → w.grownBy w' (some g) → wpList Tryd.prog ops Q rest a w') : wpList Tryd.prog ops Q (o :: rest) a w := by
  have hc : w.cell? ⟨g, i, none⟩ = some old[i] := hg.cell (by simp [hi])
  have hf := hg.frozen i
  have hrun : (execOp a.eval o).run Tryd.prog w = .ok .skip (w.setCell ⟨g, i, none⟩ (.int .u64 z)) := by
    unfold execOp
    simp only [ho, hx, hy]
    simp [go_sem, hc, hf]
  refine wpList_plain hgd fun K hK' => ?_
  unfold Oper.wp
  rw [hrun, Oper.upon_skip, hd]
  exact hK' _ _ (hK _ (hg.set i _) (grown_setCellW w g i _))
theorem store_intW {w : World} {ops : Array Oper} {rest : List Oper} {o : Oper} {a : Act} {Q : Exit → Act → World → Prop} (hgd : o.guard = none) (x y : Operand) (ho : o.op = .store 3 x y) (hd : o.dst = none) (g i : Nat) (z : Int) (hx : a.eval x = .pointer (some ⟨g, i, none⟩)) (hy : a.eval y = .int .i64 z) (t : TypeId) (old : Array Value) (hg : Blk w g t old) (hi : i < old.size)
    (hK : ∀ w', Blk w' g t (old.setIfInBounds i (.int .i64 z)) → w.grownBy w' (some g) → wpList Tryd.prog ops Q rest a w') : wpList Tryd.prog ops Q (o :: rest) a w := by
  have hc : w.cell? ⟨g, i, none⟩ = some old[i] := hg.cell (by simp [hi])
  have hf := hg.frozen i
  have hrun : (execOp a.eval o).run Tryd.prog w = .ok .skip (w.setCell ⟨g, i, none⟩ (.int .i64 z)) := by
    unfold execOp
    simp only [ho, hx, hy]
    simp [go_sem, hc, hf]
  refine wpList_plain hgd fun K hK' => ?_
  unfold Oper.wp
  rw [hrun, Oper.upon_skip, hd]
  exact hK' _ _ (hK _ (hg.set i _) (grown_setCellW w g i _))
theorem store_bytW {w : World} {ops : Array Oper} {rest : List Oper} {o : Oper} {a : Act} {Q : Exit → Act → World → Prop} (hgd : o.guard = none) (x y : Operand) (ho : o.op = .store 23 x y) (hd : o.dst = none) (g i : Nat) (ao : Option Addr) (n c : Nat) (hx : a.eval x = .pointer (some ⟨g, i, none⟩)) (hy : a.eval y = .slice ao n c) (t : TypeId) (old : Array Value) (hg : Blk w g t old) (hi : i < old.size)
    (hK : ∀ w', Blk w' g t (old.setIfInBounds i (.slice ao n c)) → w.grownBy w' (some g) → wpList Tryd.prog ops Q rest a w') : wpList Tryd.prog ops Q (o :: rest) a w := by
  have hc : w.cell? ⟨g, i, none⟩ = some old[i] := hg.cell (by simp [hi])
  have hf := hg.frozen i
  have hrun : (execOp a.eval o).run Tryd.prog w = .ok .skip (w.setCell ⟨g, i, none⟩ (.slice ao n c)) := by
    unfold execOp
    simp only [ho, hx, hy]
    simp [go_sem, hc, hf]
  refine wpList_plain hgd fun K hK' => ?_
  unfold Oper.wp
  rw [hrun, Oper.upon_skip, hd]
  exact hK' _ _ (hK _ (hg.set i _) (grown_setCellW w g i _))
/-- A datagram's cells. -/
abbrev dgA (a0 a1 a2 a3 a4 a5 a6 : Nat) (bv : Value) : Array Value := #[.int .i64 (a0 : Int), .int .i64 (a1 : Int), .int .i64 (a2 : Int), .int .i64 (a3 : Int), .int .i64 (a4 : Int), .int .i64 (a5 : Int), .int .i64 (a6 : Int), bv]
abbrev dgZ (a0 a1 a2 a3 a4 a5 a6 : Int) (bv : Value) : Array Value := #[.int .i64 a0, .int .i64 a1, .int .i64 a2, .int .i64 a3, .int .i64 a4, .int .i64 a5, .int .i64 a6, bv]
/-- Its values' cells. -/
abbrev vW (a0 a1 a2 a3 a4 a5 a6 : Int) (s : Value) : Array Value := #[.int .u64 a0, .slice none 0 0, .slice none 0 0, .int .u64 a1, .slice none 0 0, .slice none 0 0, .int .u64 a2, .slice none 0 0, .slice none 0 0, .int .u64 a3, .slice none 0 0, .slice none 0 0, .int .u64 a4, .slice none 0 0, .slice none 0 0, .int .u64 a5, .slice none 0 0, .slice none 0 0, .int .u64 a6, .slice none 0 0, .slice none 0 0, .int .u64 0, s, .slice none 0 0]
def sel (a j k : Nat) : Int := if j < k then (a : Int) else 0
theorem mk_vals8 (w : World) : (Instr.makeSlice 52 (.int .i64 8) (.int .i64 8)).run Tryd.prog w = .ok (.slice (some ⟨w.heap.size, 0, none⟩) 8 8) (w.alloc (.cells (vW 0 0 0 0 0 0 0 (.slice none 0 0)) 59)) := by kernel_rfl
theorem info_dg : (Tryd.prog.info? 48).map (·.size) = some 8 := by kernel_rfl
set_option maxRecDepth 100000 in
set_option maxHeartbeats 4000000 in
theorem vals_any (G : Nat) (a0 a1 a2 a3 a4 a5 a6 : Nat) (bv : Value) (bs : List UInt8) (w : World) (hK : Blk w G 48 (dgA a0 a1 a2 a3 a4 a5 a6 bv)) (hS : Seg w bv bs) (hm : bs.length ≤ maxLen) (h0 : a0 < 9223372036854775808) (h1 : a1 < 9223372036854775808) (h2 : a2 < 9223372036854775808) (h3 : a3 < 9223372036854775808) (h4 : a4 < 9223372036854775808) (h5 : a5 < 9223372036854775808) (h6 : a6 < 9223372036854775808) :
    Calls Tryd.prog 17 #[.pointer (some ⟨G, 0, none⟩)] w fun e w' => ∃ v, e = .returned v ∧ Vals w' 1 v (recV [a0, a1, a2, a3, a4, a5, a6] (some bs)) ∧ Below w.heap.size w w' := by
  have cv0 := conv_u64W a0 (by omega)
  have cv1 := conv_u64W a1 (by omega)
  have cv2 := conv_u64W a2 (by omega)
  have cv3 := conv_u64W a3 (by omega)
  have cv4 := conv_u64W a4 (by omega)
  have cv5 := conv_u64W a5 (by omega)
  have cv6 := conv_u64W a6 (by omega)
  have HH : Hid (a0 < 18446744073709551616 ∧ a1 < 18446744073709551616 ∧ a2 < 18446744073709551616 ∧ a3 < 18446744073709551616 ∧ a4 < 18446744073709551616 ∧ a5 < 18446744073709551616 ∧ a6 < 18446744073709551616) := ⟨by omega, by omega, by omega, by omega, by omega, by omega, by omega⟩
  clear h0 h1 h2 h3 h4 h5 h6
  have HNU : Hid (∀ V, Calls Tryd.prog 36 #[.pointer (some ⟨G, 0, none⟩)] V fun e w' => e = .returned (.agg (ptrsW G)) ∧ Below V.heap.size V w') := fun V => nums_any G V
  have hmk := mk_vals8 w
  obtain ⟨ab, cb, rfl⟩ := hS.shapeD
  have HSB : Hid (∀ V, Below w.heap.size w V → Seg V (.slice ab bs.length cb) bs) := fun V hV => hS.below hV (Nat.le_refl _)
  have hB0 := (Below.refl w.heap.size w).alloc (Nat.le_refl _) (.cells (vW 0 0 0 0 0 0 0 (.slice none 0 0)) 59)
  have kV0 := Blk.new w 59 (vW 0 0 0 0 0 0 0 (.slice none 0 0))
  have kG0 := hK.below hB0 hK.lt
  obtain ⟨V, hV⟩ : ∃ V, V = w.heap.size := ⟨_, rfl⟩
  have HV : Hid (V = w.heap.size) := hV
  have hGV : G ≠ V := by have := hK.lt; omega
  go_enter Tryd.func17, Tryd.ntmps17
  go_wp2_with fail
  rw [← hV] at kV0 ⊢
  generalize w.alloc (.cells (vW 0 0 0 0 0 0 0 (.slice none 0 0)) 59) = WA at *
  clear hmk hS hK hV
  refine (HNU.out WA).mono ?_
  rintro e W1 ⟨rfl, hb1⟩
  have kV1 := kV0.below hb1 kV0.lt
  have kG1 := kG0.below hb1 kG0.lt
  have hB1 := hB0.trans (hb1.mono hB0.size)
  clear kV0 kG0 hB0 hb1 HNU
  go_wp2_with fail
  go_loopw [9] (fun i wr => ∃ k : Nat, k ≤ 7 ∧ i = .int .i64 (k : Int) ∧ Blk wr V 59 (vW (sel a0 0 k) (sel a1 1 k) (sel a2 2 k) (sel a3 3 k) (sel a4 4 k) (sel a5 5 k) (sel a6 6 k) (.slice none 0 0)) ∧ Blk wr G 48 (dgA a0 a1 a2 a3 a4 a5 a6 (.slice ab bs.length cb)) ∧ Below w.heap.size w wr) (fun i _ => 7 - (intOf i).toNat)
  case atStart => exact ⟨0, Nat.zero_le _, rfl, kV1, kG1, hB1⟩
  case round =>
    clear kV1 kG1 hB1
    obtain ⟨k, hk, rfl, kV, kG, hB⟩ := hrel
    by_cases hlt : k < 7
    · have hcases : k = 0 ∨ k = 1 ∨ k = 2 ∨ k = 3 ∨ k = 4 ∨ k = 5 ∨ k = 6 := by omega
      rcases hcases with rfl | rfl | rfl | rfl | rfl | rfl | rfl
      · have kV' : Blk wr V 59 (vW 0 0 0 0 0 0 0 (.slice none 0 0)) := kV
        have ck : wr.cell? ⟨G, 0, none⟩ = some (.int .i64 (a0 : Int)) := kG.cell (j := 0) rfl
        have hix : ∀ w, (Instr.index 77 (.agg (ptrsW G)) (.int .i64 0)).run Tryd.prog w = .ok (.pointer (some ⟨G, 0, none⟩)) w := fun w => by kernel_rfl
        clear kV hlt hk
        go_wp2_with (refine store_u64W rfl _ _ rfl rfl V 0 (a0 : Int) rfl rfl 59 _ kV' (by simp) ?_; intro W2 kV2 hg2)
        go_roundw
        case rel => exact ⟨1, by decide, rfl, kV2.of_eq rfl, kG.grown hg2 (by simpa using hGV), below_grown hB hg2 hB.size (fun q hq => by cases hq; exact Nat.le_of_eq HV.out.symm)⟩
        case measure => simp [intOf]
      · have kV' : Blk wr V 59 (vW (a0 : Int) 0 0 0 0 0 0 (.slice none 0 0)) := kV
        have ck : wr.cell? ⟨G, 1, none⟩ = some (.int .i64 (a1 : Int)) := kG.cell (j := 1) rfl
        have hix : ∀ w, (Instr.index 77 (.agg (ptrsW G)) (.int .i64 1)).run Tryd.prog w = .ok (.pointer (some ⟨G, 1, none⟩)) w := fun w => by kernel_rfl
        clear kV hlt hk
        go_wp2_with (refine store_u64W rfl _ _ rfl rfl V 3 (a1 : Int) rfl rfl 59 _ kV' (by simp) ?_; intro W2 kV2 hg2)
        go_roundw
        case rel => exact ⟨2, by decide, rfl, kV2.of_eq rfl, kG.grown hg2 (by simpa using hGV), below_grown hB hg2 hB.size (fun q hq => by cases hq; exact Nat.le_of_eq HV.out.symm)⟩
        case measure => simp [intOf]
      · have kV' : Blk wr V 59 (vW (a0 : Int) (a1 : Int) 0 0 0 0 0 (.slice none 0 0)) := kV
        have ck : wr.cell? ⟨G, 2, none⟩ = some (.int .i64 (a2 : Int)) := kG.cell (j := 2) rfl
        have hix : ∀ w, (Instr.index 77 (.agg (ptrsW G)) (.int .i64 2)).run Tryd.prog w = .ok (.pointer (some ⟨G, 2, none⟩)) w := fun w => by kernel_rfl
        clear kV hlt hk
        go_wp2_with (refine store_u64W rfl _ _ rfl rfl V 6 (a2 : Int) rfl rfl 59 _ kV' (by simp) ?_; intro W2 kV2 hg2)
        go_roundw
        case rel => exact ⟨3, by decide, rfl, kV2.of_eq rfl, kG.grown hg2 (by simpa using hGV), below_grown hB hg2 hB.size (fun q hq => by cases hq; exact Nat.le_of_eq HV.out.symm)⟩
        case measure => simp [intOf]
      · have kV' : Blk wr V 59 (vW (a0 : Int) (a1 : Int) (a2 : Int) 0 0 0 0 (.slice none 0 0)) := kV
        have ck : wr.cell? ⟨G, 3, none⟩ = some (.int .i64 (a3 : Int)) := kG.cell (j := 3) rfl
        have hix : ∀ w, (Instr.index 77 (.agg (ptrsW G)) (.int .i64 3)).run Tryd.prog w = .ok (.pointer (some ⟨G, 3, none⟩)) w := fun w => by kernel_rfl
        clear kV hlt hk
        go_wp2_with (refine store_u64W rfl _ _ rfl rfl V 9 (a3 : Int) rfl rfl 59 _ kV' (by simp) ?_; intro W2 kV2 hg2)
        go_roundw
        case rel => exact ⟨4, by decide, rfl, kV2.of_eq rfl, kG.grown hg2 (by simpa using hGV), below_grown hB hg2 hB.size (fun q hq => by cases hq; exact Nat.le_of_eq HV.out.symm)⟩
        case measure => simp [intOf]
      · have kV' : Blk wr V 59 (vW (a0 : Int) (a1 : Int) (a2 : Int) (a3 : Int) 0 0 0 (.slice none 0 0)) := kV
        have ck : wr.cell? ⟨G, 4, none⟩ = some (.int .i64 (a4 : Int)) := kG.cell (j := 4) rfl
        have hix : ∀ w, (Instr.index 77 (.agg (ptrsW G)) (.int .i64 4)).run Tryd.prog w = .ok (.pointer (some ⟨G, 4, none⟩)) w := fun w => by kernel_rfl
        clear kV hlt hk
        go_wp2_with (refine store_u64W rfl _ _ rfl rfl V 12 (a4 : Int) rfl rfl 59 _ kV' (by simp) ?_; intro W2 kV2 hg2)
        go_roundw
        case rel => exact ⟨5, by decide, rfl, kV2.of_eq rfl, kG.grown hg2 (by simpa using hGV), below_grown hB hg2 hB.size (fun q hq => by cases hq; exact Nat.le_of_eq HV.out.symm)⟩
        case measure => simp [intOf]
      · have kV' : Blk wr V 59 (vW (a0 : Int) (a1 : Int) (a2 : Int) (a3 : Int) (a4 : Int) 0 0 (.slice none 0 0)) := kV
        have ck : wr.cell? ⟨G, 5, none⟩ = some (.int .i64 (a5 : Int)) := kG.cell (j := 5) rfl
        have hix : ∀ w, (Instr.index 77 (.agg (ptrsW G)) (.int .i64 5)).run Tryd.prog w = .ok (.pointer (some ⟨G, 5, none⟩)) w := fun w => by kernel_rfl
        clear kV hlt hk
        go_wp2_with (refine store_u64W rfl _ _ rfl rfl V 15 (a5 : Int) rfl rfl 59 _ kV' (by simp) ?_; intro W2 kV2 hg2)
        go_roundw
        case rel => exact ⟨6, by decide, rfl, kV2.of_eq rfl, kG.grown hg2 (by simpa using hGV), below_grown hB hg2 hB.size (fun q hq => by cases hq; exact Nat.le_of_eq HV.out.symm)⟩
        case measure => simp [intOf]
      · have kV' : Blk wr V 59 (vW (a0 : Int) (a1 : Int) (a2 : Int) (a3 : Int) (a4 : Int) (a5 : Int) 0 (.slice none 0 0)) := kV
        have ck : wr.cell? ⟨G, 6, none⟩ = some (.int .i64 (a6 : Int)) := kG.cell (j := 6) rfl
        have hix : ∀ w, (Instr.index 77 (.agg (ptrsW G)) (.int .i64 6)).run Tryd.prog w = .ok (.pointer (some ⟨G, 6, none⟩)) w := fun w => by kernel_rfl
        clear kV hlt hk
        go_wp2_with (refine store_u64W rfl _ _ rfl rfl V 18 (a6 : Int) rfl rfl 59 _ kV' (by simp) ?_; intro W2 kV2 hg2)
        go_roundw
        case rel => exact ⟨7, by decide, rfl, kV2.of_eq rfl, kG.grown hg2 (by simpa using hGV), below_grown hB hg2 hB.size (fun q hq => by cases hq; exact Nat.le_of_eq HV.out.symm)⟩
        case measure => simp [intOf]
    · obtain rfl : k = 7 := by omega
      have kV' : Blk wr V 59 (vW (a0 : Int) (a1 : Int) (a2 : Int) (a3 : Int) (a4 : Int) (a5 : Int) (a6 : Int) (.slice none 0 0)) := kV
      have ck : wr.cell? ⟨G, 7, none⟩ = some (.slice ab bs.length cb) := kG.cell (j := 7) rfl
      clear kV hlt hk
      go_wp2_with (refine store_bytW rfl _ _ rfl rfl V 22 ab bs.length cb rfl rfl 59 _ kV' (by simp) ?_; intro W2 kV2 hg2)
      have hB2 : Below w.heap.size w W2 := below_grown hB hg2 hB.size (fun q hq => by cases hq; exact Nat.le_of_eq HV.out.symm)
      have kV3 : Blk W2 V 59 (vW (a0 : Int) (a1 : Int) (a2 : Int) (a3 : Int) (a4 : Int) (a5 : Int) (a6 : Int) (.slice ab bs.length cb)) := kV2.of_eq rfl
      have hs2 := HSB.out W2 hB2
      go_ret
      refine ⟨_, rfl, ?_, hB2⟩
      obtain ⟨b0, b1, b2, b3, b4, b5, b6⟩ := HH.out
      refine ⟨some ⟨V, 0, none⟩, 8, rfl, show (8 : Nat) ≤ maxLen by decide, fun _ => ⟨V, 0, rfl, kV3.lt, Nat.le_refl 8, fun i x hx => ?_⟩⟩
      match i, hx with
      | 0, hx => cases hx; exact ⟨kV3.cell (j := 0) rfl, ⟨_, kV3.cell (j := 1) rfl, .inl ⟨rfl, none, 0, rfl, fun _ => rfl⟩, Nat.zero_le _⟩, ⟨none, 0, kV3.cell (j := 2) rfl, Nat.zero_le _, fun h => by simp [Val.l] at h⟩, b0⟩
      | 1, hx => cases hx; exact ⟨kV3.cell (j := 3) rfl, ⟨_, kV3.cell (j := 4) rfl, .inl ⟨rfl, none, 0, rfl, fun _ => rfl⟩, Nat.zero_le _⟩, ⟨none, 0, kV3.cell (j := 5) rfl, Nat.zero_le _, fun h => by simp [Val.l] at h⟩, b1⟩
      | 2, hx => cases hx; exact ⟨kV3.cell (j := 6) rfl, ⟨_, kV3.cell (j := 7) rfl, .inl ⟨rfl, none, 0, rfl, fun _ => rfl⟩, Nat.zero_le _⟩, ⟨none, 0, kV3.cell (j := 8) rfl, Nat.zero_le _, fun h => by simp [Val.l] at h⟩, b2⟩
      | 3, hx => cases hx; exact ⟨kV3.cell (j := 9) rfl, ⟨_, kV3.cell (j := 10) rfl, .inl ⟨rfl, none, 0, rfl, fun _ => rfl⟩, Nat.zero_le _⟩, ⟨none, 0, kV3.cell (j := 11) rfl, Nat.zero_le _, fun h => by simp [Val.l] at h⟩, b3⟩
      | 4, hx => cases hx; exact ⟨kV3.cell (j := 12) rfl, ⟨_, kV3.cell (j := 13) rfl, .inl ⟨rfl, none, 0, rfl, fun _ => rfl⟩, Nat.zero_le _⟩, ⟨none, 0, kV3.cell (j := 14) rfl, Nat.zero_le _, fun h => by simp [Val.l] at h⟩, b4⟩
      | 5, hx => cases hx; exact ⟨kV3.cell (j := 15) rfl, ⟨_, kV3.cell (j := 16) rfl, .inl ⟨rfl, none, 0, rfl, fun _ => rfl⟩, Nat.zero_le _⟩, ⟨none, 0, kV3.cell (j := 17) rfl, Nat.zero_le _, fun h => by simp [Val.l] at h⟩, b5⟩
      | 6, hx => cases hx; exact ⟨kV3.cell (j := 18) rfl, ⟨_, kV3.cell (j := 19) rfl, .inl ⟨rfl, none, 0, rfl, fun _ => rfl⟩, Nat.zero_le _⟩, ⟨none, 0, kV3.cell (j := 20) rfl, Nat.zero_le _, fun h => by simp [Val.l] at h⟩, b6⟩
      | 7, hx => cases hx; exact ⟨kV3.cell (j := 21) rfl, ⟨_, kV3.cell (j := 22) rfl, hs2, hm⟩, ⟨none, 0, kV3.cell (j := 23) rfl, Nat.zero_le _, fun h => by simp [Val.l] at h⟩, by show 0 < _; omega⟩
      | (i + 8), hx => cases hx
set_option maxRecDepth 100000 in
set_option maxHeartbeats 4000000 in
theorem dgOf_any (v : Value) (a0 a1 a2 a3 a4 a5 a6 : Nat) (bs : List UInt8) (w : World) (hV : Vals w 4 v (recV [a0, a1, a2, a3, a4, a5, a6] (some bs))) (h0 : a0 < 9223372036854775808) (h1 : a1 < 9223372036854775808) (h2 : a2 < 9223372036854775808) (h3 : a3 < 9223372036854775808) (h4 : a4 < 9223372036854775808) (h5 : a5 < 9223372036854775808) (h6 : a6 < 9223372036854775808) :
    Calls Tryd.prog 25 #[v] w fun e w' => ∃ bv, e = .returned (.agg (dgA a0 a1 a2 a3 a4 a5 a6 bv)) ∧ Seg w' bv bs ∧ (∃ b off c, v = .slice (some ⟨b, off, none⟩) 8 c ∧ b < w.heap.size ∧ w.cell? ⟨b, off + 22, none⟩ = some bv) ∧ Below w.heap.size w w' := by
  have cv0 := conv_i64W a0 h0
  have cv1 := conv_i64W a1 h1
  have cv2 := conv_i64W a2 h2
  have cv3 := conv_i64W a3 h3
  have cv4 := conv_i64W a4 h4
  have cv5 := conv_i64W a5 h5
  have cv6 := conv_i64W a6 h6
  clear h0 h1 h2 h3 h4 h5 h6
  obtain ⟨ao, c, hv, _, hat⟩ := hV
  have hv : v = .slice ao 8 c := hv
  subst hv
  obtain ⟨b, off, rfl, hbl, hc, hat⟩ := hat (by show 0 < 8; decide)
  have ix : ∀ (k : Nat), k < 8 → ∀ w, (Instr.indexAt 52 (.slice (some ⟨b, off, none⟩) 8 c) (.int .i64 (k : Int))).run Tryd.prog w = .ok (.pointer (some ⟨b, off + k * 3, none⟩)) w := fun k hk w => index_values b off 8 c k w hk
  have x0 : w.cell? ⟨b, off + 0, none⟩ = some (.int .u64 (a0 : Int)) := (hat 0 (.mk a0 [] []) rfl).1
  have x1 : w.cell? ⟨b, off + 3, none⟩ = some (.int .u64 (a1 : Int)) := (hat 1 (.mk a1 [] []) rfl).1
  have x2 : w.cell? ⟨b, off + 6, none⟩ = some (.int .u64 (a2 : Int)) := (hat 2 (.mk a2 [] []) rfl).1
  have x3 : w.cell? ⟨b, off + 9, none⟩ = some (.int .u64 (a3 : Int)) := (hat 3 (.mk a3 [] []) rfl).1
  have x4 : w.cell? ⟨b, off + 12, none⟩ = some (.int .u64 (a4 : Int)) := (hat 4 (.mk a4 [] []) rfl).1
  have x5 : w.cell? ⟨b, off + 15, none⟩ = some (.int .u64 (a5 : Int)) := (hat 5 (.mk a5 [] []) rfl).1
  have x6 : w.cell? ⟨b, off + 18, none⟩ = some (.int .u64 (a6 : Int)) := (hat 6 (.mk a6 [] []) rfl).1
  obtain ⟨bv, x7, hs, _⟩ := (hat 7 (.mk 0 bs []) rfl).2.1
  have x7 : w.cell? ⟨b, off + 22, none⟩ = some bv := x7
  obtain ⟨ab, cb, rfl⟩ := hs.shapeD
  have HIX : Hid (∀ (k : Nat), k < 8 → ∀ w, (Instr.indexAt 52 (.slice (some ⟨b, off, none⟩) 8 c) (.int .i64 (k : Int))).run Tryd.prog w = .ok (.pointer (some ⟨b, off + k * 3, none⟩)) w) := ix
  have HX : Hid (∀ W, Below w.heap.size w W → ∀ (o : Nat) (u : Value), w.cell? ⟨b, off + o, none⟩ = some u → W.cell? ⟨b, off + o, none⟩ = some u) := fun W hW o u hu => (hW.cell (p := ⟨b, off + o, none⟩) hbl).trans hu
  have HS : Hid (∀ W, Below w.heap.size w W → Seg W (.slice ab bs.length cb) bs) := fun W hW => hs.below hW (Nat.le_refl _)
  have X0 : Hid (w.cell? ⟨b, off + 0, none⟩ = some (.int .u64 (a0 : Int))) := x0
  have X1 : Hid (w.cell? ⟨b, off + 3, none⟩ = some (.int .u64 (a1 : Int))) := x1
  have X2 : Hid (w.cell? ⟨b, off + 6, none⟩ = some (.int .u64 (a2 : Int))) := x2
  have X3 : Hid (w.cell? ⟨b, off + 9, none⟩ = some (.int .u64 (a3 : Int))) := x3
  have X4 : Hid (w.cell? ⟨b, off + 12, none⟩ = some (.int .u64 (a4 : Int))) := x4
  have X5 : Hid (w.cell? ⟨b, off + 15, none⟩ = some (.int .u64 (a5 : Int))) := x5
  have X6 : Hid (w.cell? ⟨b, off + 18, none⟩ = some (.int .u64 (a6 : Int))) := x6
  have X7 : Hid (w.cell? ⟨b, off + 22, none⟩ = some (.slice ab bs.length cb)) := x7
  clear ix hs hat hc x0 x1 x2 x3 x4 x5 x6 x7
  have HNU : Hid (∀ (G : Nat) V, Calls Tryd.prog 36 #[.pointer (some ⟨G, 0, none⟩)] V fun e w' => e = .returned (.agg (ptrsW G)) ∧ Below V.heap.size V w') := fun G V => nums_any G V
  obtain ⟨R, hR⟩ : ∃ R, R = w.heap.size := ⟨_, rfl⟩
  have hB0 := ((Below.refl w.heap.size w).alloc (Nat.le_refl _) (.cells (dgZ 0 0 0 0 0 0 0 (.slice none 0 0)) 48)).alloc (by simp) (.cells (dgZ 0 0 0 0 0 0 0 (.slice none 0 0)) 48)
  have kR0 := (Blk.new w 48 (dgZ 0 0 0 0 0 0 0 (.slice none 0 0))).alloc (.cells (dgZ 0 0 0 0 0 0 0 (.slice none 0 0)) 48)
  have kD0 : Blk ((w.alloc (.cells (dgZ 0 0 0 0 0 0 0 (.slice none 0 0)) 48)).alloc (.cells (dgZ 0 0 0 0 0 0 0 (.slice none 0 0)) 48)) (w.heap.size + 1) 48 (dgZ 0 0 0 0 0 0 0 (.slice none 0 0)) := Blk.newAt _ _ _ _ (by simp)
  have HR : Hid (R = w.heap.size) := hR
  have hRD : R + 1 ≠ R := by omega
  go_enter Tryd.func25, Tryd.ntmps25
  go_wp2_with fail
  rw [← hR] at kR0 kD0 ⊢
  generalize (w.alloc (.cells (dgZ 0 0 0 0 0 0 0 (.slice none 0 0)) 48)).alloc (.cells (dgZ 0 0 0 0 0 0 0 (.slice none 0 0)) 48) = WA at *
  clear hR
  refine (HNU.out (R + 1) WA).mono ?_
  rintro e W1 ⟨rfl, hb1⟩
  have kD1 := kD0.below hb1 kD0.lt
  have kR1 := kR0.below hb1 kR0.lt
  have hB1 := hB0.trans (hb1.mono hB0.size)
  clear kD0 kR0 hB0 hb1 HNU
  go_wp2_with fail
  go_loopw [7] (fun i wr => ∃ k : Nat, k ≤ 7 ∧ i = .int .i64 (k : Int) ∧ Blk wr (R + 1) 48 (dgZ (sel a0 0 k) (sel a1 1 k) (sel a2 2 k) (sel a3 3 k) (sel a4 4 k) (sel a5 5 k) (sel a6 6 k) (.slice none 0 0)) ∧ Blk wr R 48 (dgZ 0 0 0 0 0 0 0 (.slice none 0 0)) ∧ Below w.heap.size w wr) (fun i _ => 7 - (intOf i).toNat)
  case atStart => exact ⟨0, Nat.zero_le _, rfl, kD1, kR1, hB1⟩
  case round =>
    clear kD1 kR1 hB1
    obtain ⟨k, hk, rfl, kD, kR, hB⟩ := hrel
    by_cases hlt : k < 7
    · have hcases : k = 0 ∨ k = 1 ∨ k = 2 ∨ k = 3 ∨ k = 4 ∨ k = 5 ∨ k = 6 := by omega
      rcases hcases with rfl | rfl | rfl | rfl | rfl | rfl | rfl
      · have kD' : Blk wr (R + 1) 48 (dgZ 0 0 0 0 0 0 0 (.slice none 0 0)) := kD
        have ck : wr.cell? ⟨b, off, none⟩ = some (.int .u64 (a0 : Int)) := HX.out wr hB 0 _ X0.out
        have hix : ∀ w, (Instr.index 77 (.agg (ptrsW (R + 1))) (.int .i64 0)).run Tryd.prog w = .ok (.pointer (some ⟨R + 1, 0, none⟩)) w := fun w => by kernel_rfl
        have hia : ∀ w, (Instr.indexAt 52 (.slice (some ⟨b, off, none⟩) 8 c) (.int .i64 0)).run Tryd.prog w = .ok (.pointer (some ⟨b, off, none⟩)) w := HIX.out 0 (by decide)
        clear kD hlt hk
        go_wp2_with (refine store_intW rfl _ _ rfl rfl (R + 1) 0 (a0 : Int) rfl rfl 48 _ kD' (by simp) ?_; intro W2 kD2 hg2)
        go_roundw
        case rel => exact ⟨1, by decide, rfl, kD2.of_eq rfl, kR.grown hg2 (by simp), below_grown hB hg2 hB.size (fun q hq => by cases hq; have := HR.out; omega)⟩
        case measure => simp [intOf]
      · have kD' : Blk wr (R + 1) 48 (dgZ (a0 : Int) 0 0 0 0 0 0 (.slice none 0 0)) := kD
        have ck : wr.cell? ⟨b, off + 3, none⟩ = some (.int .u64 (a1 : Int)) := HX.out wr hB 3 _ X1.out
        have hix : ∀ w, (Instr.index 77 (.agg (ptrsW (R + 1))) (.int .i64 1)).run Tryd.prog w = .ok (.pointer (some ⟨R + 1, 1, none⟩)) w := fun w => by kernel_rfl
        have hia : ∀ w, (Instr.indexAt 52 (.slice (some ⟨b, off, none⟩) 8 c) (.int .i64 1)).run Tryd.prog w = .ok (.pointer (some ⟨b, off + 3, none⟩)) w := HIX.out 1 (by decide)
        clear kD hlt hk
        go_wp2_with (refine store_intW rfl _ _ rfl rfl (R + 1) 1 (a1 : Int) rfl rfl 48 _ kD' (by simp) ?_; intro W2 kD2 hg2)
        go_roundw
        case rel => exact ⟨2, by decide, rfl, kD2.of_eq rfl, kR.grown hg2 (by simp), below_grown hB hg2 hB.size (fun q hq => by cases hq; have := HR.out; omega)⟩
        case measure => simp [intOf]
      · have kD' : Blk wr (R + 1) 48 (dgZ (a0 : Int) (a1 : Int) 0 0 0 0 0 (.slice none 0 0)) := kD
        have ck : wr.cell? ⟨b, off + 6, none⟩ = some (.int .u64 (a2 : Int)) := HX.out wr hB 6 _ X2.out
        have hix : ∀ w, (Instr.index 77 (.agg (ptrsW (R + 1))) (.int .i64 2)).run Tryd.prog w = .ok (.pointer (some ⟨R + 1, 2, none⟩)) w := fun w => by kernel_rfl
        have hia : ∀ w, (Instr.indexAt 52 (.slice (some ⟨b, off, none⟩) 8 c) (.int .i64 2)).run Tryd.prog w = .ok (.pointer (some ⟨b, off + 6, none⟩)) w := HIX.out 2 (by decide)
        clear kD hlt hk
        go_wp2_with (refine store_intW rfl _ _ rfl rfl (R + 1) 2 (a2 : Int) rfl rfl 48 _ kD' (by simp) ?_; intro W2 kD2 hg2)
        go_roundw
        case rel => exact ⟨3, by decide, rfl, kD2.of_eq rfl, kR.grown hg2 (by simp), below_grown hB hg2 hB.size (fun q hq => by cases hq; have := HR.out; omega)⟩
        case measure => simp [intOf]
      · have kD' : Blk wr (R + 1) 48 (dgZ (a0 : Int) (a1 : Int) (a2 : Int) 0 0 0 0 (.slice none 0 0)) := kD
        have ck : wr.cell? ⟨b, off + 9, none⟩ = some (.int .u64 (a3 : Int)) := HX.out wr hB 9 _ X3.out
        have hix : ∀ w, (Instr.index 77 (.agg (ptrsW (R + 1))) (.int .i64 3)).run Tryd.prog w = .ok (.pointer (some ⟨R + 1, 3, none⟩)) w := fun w => by kernel_rfl
        have hia : ∀ w, (Instr.indexAt 52 (.slice (some ⟨b, off, none⟩) 8 c) (.int .i64 3)).run Tryd.prog w = .ok (.pointer (some ⟨b, off + 9, none⟩)) w := HIX.out 3 (by decide)
        clear kD hlt hk
        go_wp2_with (refine store_intW rfl _ _ rfl rfl (R + 1) 3 (a3 : Int) rfl rfl 48 _ kD' (by simp) ?_; intro W2 kD2 hg2)
        go_roundw
        case rel => exact ⟨4, by decide, rfl, kD2.of_eq rfl, kR.grown hg2 (by simp), below_grown hB hg2 hB.size (fun q hq => by cases hq; have := HR.out; omega)⟩
        case measure => simp [intOf]
      · have kD' : Blk wr (R + 1) 48 (dgZ (a0 : Int) (a1 : Int) (a2 : Int) (a3 : Int) 0 0 0 (.slice none 0 0)) := kD
        have ck : wr.cell? ⟨b, off + 12, none⟩ = some (.int .u64 (a4 : Int)) := HX.out wr hB 12 _ X4.out
        have hix : ∀ w, (Instr.index 77 (.agg (ptrsW (R + 1))) (.int .i64 4)).run Tryd.prog w = .ok (.pointer (some ⟨R + 1, 4, none⟩)) w := fun w => by kernel_rfl
        have hia : ∀ w, (Instr.indexAt 52 (.slice (some ⟨b, off, none⟩) 8 c) (.int .i64 4)).run Tryd.prog w = .ok (.pointer (some ⟨b, off + 12, none⟩)) w := HIX.out 4 (by decide)
        clear kD hlt hk
        go_wp2_with (refine store_intW rfl _ _ rfl rfl (R + 1) 4 (a4 : Int) rfl rfl 48 _ kD' (by simp) ?_; intro W2 kD2 hg2)
        go_roundw
        case rel => exact ⟨5, by decide, rfl, kD2.of_eq rfl, kR.grown hg2 (by simp), below_grown hB hg2 hB.size (fun q hq => by cases hq; have := HR.out; omega)⟩
        case measure => simp [intOf]
      · have kD' : Blk wr (R + 1) 48 (dgZ (a0 : Int) (a1 : Int) (a2 : Int) (a3 : Int) (a4 : Int) 0 0 (.slice none 0 0)) := kD
        have ck : wr.cell? ⟨b, off + 15, none⟩ = some (.int .u64 (a5 : Int)) := HX.out wr hB 15 _ X5.out
        have hix : ∀ w, (Instr.index 77 (.agg (ptrsW (R + 1))) (.int .i64 5)).run Tryd.prog w = .ok (.pointer (some ⟨R + 1, 5, none⟩)) w := fun w => by kernel_rfl
        have hia : ∀ w, (Instr.indexAt 52 (.slice (some ⟨b, off, none⟩) 8 c) (.int .i64 5)).run Tryd.prog w = .ok (.pointer (some ⟨b, off + 15, none⟩)) w := HIX.out 5 (by decide)
        clear kD hlt hk
        go_wp2_with (refine store_intW rfl _ _ rfl rfl (R + 1) 5 (a5 : Int) rfl rfl 48 _ kD' (by simp) ?_; intro W2 kD2 hg2)
        go_roundw
        case rel => exact ⟨6, by decide, rfl, kD2.of_eq rfl, kR.grown hg2 (by simp), below_grown hB hg2 hB.size (fun q hq => by cases hq; have := HR.out; omega)⟩
        case measure => simp [intOf]
      · have kD' : Blk wr (R + 1) 48 (dgZ (a0 : Int) (a1 : Int) (a2 : Int) (a3 : Int) (a4 : Int) (a5 : Int) 0 (.slice none 0 0)) := kD
        have ck : wr.cell? ⟨b, off + 18, none⟩ = some (.int .u64 (a6 : Int)) := HX.out wr hB 18 _ X6.out
        have hix : ∀ w, (Instr.index 77 (.agg (ptrsW (R + 1))) (.int .i64 6)).run Tryd.prog w = .ok (.pointer (some ⟨R + 1, 6, none⟩)) w := fun w => by kernel_rfl
        have hia : ∀ w, (Instr.indexAt 52 (.slice (some ⟨b, off, none⟩) 8 c) (.int .i64 6)).run Tryd.prog w = .ok (.pointer (some ⟨b, off + 18, none⟩)) w := HIX.out 6 (by decide)
        clear kD hlt hk
        go_wp2_with (refine store_intW rfl _ _ rfl rfl (R + 1) 6 (a6 : Int) rfl rfl 48 _ kD' (by simp) ?_; intro W2 kD2 hg2)
        go_roundw
        case rel => exact ⟨7, by decide, rfl, kD2.of_eq rfl, kR.grown hg2 (by simp), below_grown hB hg2 hB.size (fun q hq => by cases hq; have := HR.out; omega)⟩
        case measure => simp [intOf]
    · obtain rfl : k = 7 := by omega
      have kD' : Blk wr (R + 1) 48 (dgZ (a0 : Int) (a1 : Int) (a2 : Int) (a3 : Int) (a4 : Int) (a5 : Int) (a6 : Int) (.slice none 0 0)) := kD
      have ck : wr.cell? ⟨b, off + 22, none⟩ = some (.slice ab bs.length cb) := HX.out wr hB 22 _ X7.out
      have hia : ∀ w, (Instr.indexAt 52 (.slice (some ⟨b, off, none⟩) 8 c) (.int .i64 7)).run Tryd.prog w = .ok (.pointer (some ⟨b, off + 21, none⟩)) w := HIX.out 7 (by decide)
      clear kD hlt hk
      go_wp2_with (first | (refine store_bytW rfl _ _ rfl rfl (R + 1) 7 ab bs.length cb rfl rfl 48 _ kD' (by simp) ?_; intro W2 kD2 hg2; have hB2 : Below w.heap.size w W2 := below_grown hB hg2 hB.size (fun q hq => by cases hq; have := HR.out; omega); have kR2 := kR.grown hg2 (by simp); have kD3 : Blk W2 (R + 1) 48 (dgA a0 a1 a2 a3 a4 a5 a6 (.slice ab bs.length cb)) := kD2.of_eq rfl; clear kD2) | (refine wpList_load_row rfl 48 _ rfl (R + 1) rfl 48 _ (0, 0) _ kD3 Tryd.underlying48 rfl info_dg ?_) | (refine store_blk rfl 48 _ _ rfl rfl R (dgA a0 a1 a2 a3 a4 a5 a6 (.slice ab bs.length cb)) rfl rfl 48 _ kR2 info_dg rfl (by simp [Value.oneCell']) ?_; intro W3 kR3 hg3 _))
      have hB3 : Below w.heap.size w W3 := below_grown hB2 hg3 hB2.size (fun q hq => by cases hq; have := HR.out; omega)
      refine bodyPost_ret (v := .agg (dgA a0 a1 a2 a3 a4 a5 a6 (.slice ab bs.length cb))) (results_cell_row Tryd.results25 _ _ R 48 _ (0, 0) _ rfl kR3 Tryd.underlying48 rfl info_dg) rfl ⟨_, rfl, HS.out W3 hB3, ⟨b, off, c, rfl, hbl, X7.out⟩, hB3⟩
end Go.Proofs.YtpebjocmnojldaaDoor
