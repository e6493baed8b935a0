/-
  What is proved here: the document's flash: a new one.
  Conditions: none.
-/
import Derived.Test.YtoemdmfpcobadaaDoorJRefFlashDo
import Derived.Test.YtoemdmfpcobadaaDoorJSegKit
import Derived.Deep.OwnRows
namespace Go.Proofs.YtoemdmfpcobadaaDoor
open Go.RowKit

theorem Tryd.info5q : (Tryd.prog.info? 5).map (fun i => (i.zero, i.size, i.bytes)) = some (some (.int .u8 0), 1, 1) := by kernel_rfl
theorem Tryd.info3q : (Tryd.prog.info? 3).map (fun i => (i.zero, i.size, i.bytes)) = some (some (.int .i64 0), 1, 8) := by kernel_rfl
def zbytes (n : Nat) : Array Value := ((List.replicate n (0 : UInt8)).map v8).toArray
def zints (n : Nat) : Array Value := wornV (List.replicate n 0)
theorem made_zbytes (n : Nat) : madeCells #[Value.int .u8 0] n = zbytes n := by
  unfold zbytes
  apply Array.ext
  · simp [madeCells]
  · intro i h1 h2
    have : v8 0 = Value.int .u8 0 := rfl
    simp [madeCells, this, Nat.mod_one]
theorem made_zints (n : Nat) : madeCells #[Value.int .i64 0] n = zints n := by
  unfold zints wornV
  apply Array.ext
  · simp [madeCells]
  · intro i h1 h2
    simp [madeCells, Nat.mod_one]
theorem exec_mkB {a : Act} {o : Oper} {w : World} (x : Operand) (ho : o.op = .makeSlice 41 x x) (n b : Nat) (w' : World) (hx : a.eval x = .int .i64 (n : Int)) (hn : n ≤ 1000000) (hb : b = w.heap.size) (hw : w' = w.alloc (.cells (zbytes n) 5)) : (execOp a.eval o).run Tryd.prog w = .ok (.value (.slice (some ⟨b, 0, none⟩) n n)) w' := by
  subst hb hw
  have := run_make_row' (P := Tryd.prog) 41 5 (.int .u8 0) 1 Tryd.underlying41 Tryd.info5q rfl .i64 .i64 n (by omega) (by omega) w
  rw [made_zbytes] at this
  unfold execOp
  simp only [ho, hx]
  rw [Sem.run_bind, this]
  rfl
theorem exec_mkI {a : Act} {o : Oper} {w : World} (x : Operand) (ho : o.op = .makeSlice 59 x x) (n b : Nat) (w' : World) (hx : a.eval x = .int .i64 (n : Int)) (hn : n ≤ 1000000) (hb : b = w.heap.size) (hw : w' = w.alloc (.cells (zints n) 3)) : (execOp a.eval o).run Tryd.prog w = .ok (.value (.slice (some ⟨b, 0, none⟩) n n)) w' := by
  subst hb hw
  have := run_make_row' (P := Tryd.prog) 59 3 (.int .i64 0) 8 Tryd.underlying59 Tryd.info3q rfl .i64 .i64 n (by omega) (by omega) w
  rw [made_zints] at this
  unfold execOp
  simp only [ho, hx]
  rw [Sem.run_bind, this]
  rfl
theorem exec_muli {a : Act} {o : Oper} {w : World} (t : TypeId) (x y : Operand) (ho : o.op = .binOp .mul t x y t) (m n r : Int) (hx : a.eval x = .int .i64 m) (hy : a.eval y = .int .i64 n) (h : IntKind.i64.wrap (m * n) = r) : (execOp a.eval o).run Tryd.prog w = .ok (.value (.int .i64 r)) w := by
  unfold execOp
  simp [ho, hx, hy]
  rw [← h]
  rfl
/-- Two new blocks: bytes, numbers. -/
structure Two (w W : World) (b1 b2 M n : Nat) : Prop where
  b : Blk W b1 5 (zbytes M)
  i : Blk W b2 3 (zints n)
  ne : b1 ≠ b2
  l1 : w.heap.size ≤ b1
  l2 : w.heap.size ≤ b2
  below : Below w.heap.size w W
theorem Two.flash {w W0 W : World} {b1 b2 M n g k : Nat} (h : Two w W0 b1 b2 M n) (h1 : 1 ≤ n) (h2 : n ≤ 256) (h4 : k ≤ 10000) (hM : M = 1024 * n) (hg : g = W0.heap.size) (hW : W = W0.alloc (.cells #[.slice (some ⟨b1, 0, none⟩) M M, .slice (some ⟨b2, 0, none⟩) n n, .int .i64 (k : Int), .int .i64 (-1), .int .i64 0, .bool false] 63)) : RFlash W ⟨g, b1, b2, n, M⟩ { newF n k with b := List.replicate M 0 } := by
  have k0 := newF_ok n k h1 h2 h4
  have l1 := h.b.lt
  have l2 := h.i.lt
  subst hW
  exact ⟨⟨by show (List.replicate M (0 : UInt8)).length = _; rw [List.length_replicate, hM], k0.worn, k0.one, k0.cap, k0.most, k0.worns, k0.armed, k0.done⟩, by show g ≠ b1; omega, by show g ≠ b2; omega, h.ne, hM, Blk.newAt _ _ _ _ hg, h.b.alloc _, h.i.alloc _⟩
theorem Two.bel {w W0 W : World} {b1 b2 M n : Nat} (h : Two w W0 b1 b2 M n) {o : Obj} (hW : W = W0.alloc o) : Below w.heap.size w W := by
  subst hW
  exact h.below.alloc h.below.size _
theorem ones_all (M : Nat) : onesL (List.replicate M 0) 0 M = List.replicate M 255 := by
  refine bytes_ext (by rw [onesL_len, List.length_replicate, List.length_replicate]) fun i hi => ?_
  rw [onesL_len, List.length_replicate] at hi
  rw [onesL_at _ _ _ _ (by rw [List.length_replicate]; exact hi), if_pos (by omega)]
  simp [hi]

set_option maxRecDepth 100000 in
theorem ref6New_bad (n k : Int) (w : World) (h : n < 1 ∨ 256 < n ∨ k < 1 ∨ 10000 < k) :
    Calls Tryd.prog 8 #[.int .i64 n, .int .i64 k] w fun e w' => e = .returned (.tuple #[.pointer none, .int .i64 1]) ∧ w = w' := by
  by_cases h1 : n < 1
  · clear h
    go_enter Tryd.func8, Tryd.ntmps8
    go_wp2
    go_ret2
    exact ⟨rfl, rfl⟩
  by_cases h2 : 256 < n
  · clear h
    go_enter Tryd.func8, Tryd.ntmps8
    go_wp2
    go_ret2
    exact ⟨rfl, rfl⟩
  by_cases h3 : k < 1
  · clear h
    go_enter Tryd.func8, Tryd.ntmps8
    go_wp2
    go_ret2
    exact ⟨rfl, rfl⟩
  · have h4 : 10000 < k := by omega
    clear h
    go_enter Tryd.func8, Tryd.ntmps8
    go_wp2
    go_ret2
    exact ⟨rfl, rfl⟩

set_option maxRecDepth 100000 in
set_option maxHeartbeats 1000000 in
theorem ref6New_any (n k : Nat) (w : World) (h1 : 1 ≤ n) (h2 : n ≤ 256) (h3 : 1 ≤ k) (h4 : k ≤ 10000) :
    Calls Tryd.prog 8 #[.int .i64 (n : Int), .int .i64 (k : Int)] w fun e w' => ∃ L : FLay, e = .returned (.tuple #[.pointer (some ⟨L.g, 0, none⟩), .int .i64 0]) ∧ L.n = n ∧ RFlash w' L (newF n k) ∧ Below w.heap.size w w' ∧ (∀ q, L.T q → w.heap.size ≤ q) := by
  have a1 : ¬ (n : Int) < 1 := by omega
  have a2 : ¬ (256 : Int) < (n : Int) := by omega
  have a3 : ¬ (k : Int) < 1 := by omega
  have a4 : ¬ (10000 : Int) < (k : Int) := by omega
  obtain ⟨M, hM⟩ : ∃ M, M = 1024 * n := ⟨_, rfl⟩
  have hwm : IntKind.i64.wrap (1024 * (n : Int)) = (M : Int) := by rw [IntKind.wrap_i64]; omega
  have HM : Hid (M = 1024 * n) := hM
  clear hM
  go_enter Tryd.func8, Tryd.ntmps8
  go_wp2
  obtain ⟨bA, hA⟩ : ∃ b, b = w.heap.size := ⟨_, rfl⟩
  obtain ⟨bB, hB⟩ : ∃ b, b = w.heap.size + 1 := ⟨_, rfl⟩
  obtain ⟨V1, hV1⟩ : ∃ V, V = w.drew.alloc (.cells (zbytes M) 5) := ⟨_, rfl⟩
  obtain ⟨V2, hV2⟩ : ∃ V, V = V1.alloc (.cells (zints n) 3) := ⟨_, rfl⟩
  obtain ⟨U1, hU1⟩ : ∃ V, V = w.drew.alloc (.cells (zints n) 3) := ⟨_, rfl⟩
  obtain ⟨U2, hU2⟩ : ∃ V, V = U1.alloc (.cells (zbytes M) 5) := ⟨_, rfl⟩
  have hMx : M ≤ 1000000 := by have := HM.out; omega
  refine held_begin (fun _ => True) (by kernel_rfl) ?_
  refine held_take 0 22 _ (.int .i64 (n : Int)) rfl rfl (by kernel_rfl) (by kernel_rfl) (by kernel_rfl) rfl trivial (fun _ _ => rfl) ?_
  simp only [Act.put, List.setIfInBounds_toArray, List.set_cons_succ, List.set_cons_zero]
  refine held_take 1 23 _ (.int .i64 (M : Int)) rfl rfl (by kernel_rfl) (by kernel_rfl) (by kernel_rfl) rfl trivial (fun _ _ => exec_muli 3 _ _ rfl _ _ _ rfl rfl hwm) ?_
  simp only [Act.put, List.setIfInBounds_toArray, List.set_cons_succ, List.set_cons_zero]
  refine held_take 3 25 _ (.int .i64 (n : Int)) rfl rfl (by kernel_rfl) (by kernel_rfl) (by kernel_rfl) rfl trivial (fun _ _ => rfl) ?_
  simp only [Act.put, List.setIfInBounds_toArray, List.set_cons_succ, List.set_cons_zero]
  refine held_take 5 27 _ (.int .i64 (k : Int)) rfl rfl (by kernel_rfl) (by kernel_rfl) (by kernel_rfl) rfl trivial (fun _ _ => rfl) ?_
  simp only [Act.put, List.setIfInBounds_toArray, List.set_cons_succ, List.set_cons_zero]
  refine held_all2 2 4 (by kernel_rfl) (op_value 2 24 _ _ V1 rfl rfl rfl (exec_mkB _ rfl M bA V1 rfl hMx hA hV1) ⟨trivial, ?_⟩) (op_value 4 26 _ _ U1 rfl rfl rfl (exec_mkI _ rfl n bA U1 rfl (by omega) hA hU1) ⟨trivial, ?_⟩)
  · simp only [Act.put, List.setIfInBounds_toArray, List.set_cons_succ, List.set_cons_zero]
    refine held_all1 4 (by kernel_rfl) (op_value 4 26 _ _ V2 rfl rfl rfl (exec_mkI _ rfl n bB V2 rfl (by omega) (by rw [hB, hV1]; simp) hV2) ⟨trivial, ?_⟩)
    simp only [Act.put, List.setIfInBounds_toArray, List.set_cons_succ, List.set_cons_zero]
    have hF : Two w V2 bA bB M n := by
      subst hA hB hV2 hV1
      exact ⟨(Blk.new _ _ _).alloc _, Blk.newAt _ _ _ _ (by simp), by omega, Nat.le_refl _, by omega, ((Below.refl _ w).drew.alloc (Nat.le_refl _) _).alloc (by simp) _⟩
    clear hA hB hV2 hV1 hU1 hU2
    refine held_all1 6 (by kernel_rfl) (op_value 6 28 _ (.agg #[.slice (some ⟨bA, 0, none⟩) M M, .slice (some ⟨bB, 0, none⟩) n n, .int .i64 (k : Int), .int .i64 (-1), .int .i64 0, .bool false]) V2 rfl rfl rfl (by kernel_rfl) ⟨trivial, ?_⟩)
    simp only [Act.put, List.setIfInBounds_toArray, List.set_cons_succ, List.set_cons_zero]
    obtain ⟨g, hg⟩ : ∃ g, g = V2.heap.size := ⟨_, rfl⟩
    obtain ⟨W, hW⟩ : ∃ W, W = V2.alloc (.cells #[.slice (some ⟨bA, 0, none⟩) M M, .slice (some ⟨bB, 0, none⟩) n n, .int .i64 (k : Int), .int .i64 (-1), .int .i64 0, .bool false] 63) := ⟨_, rfl⟩
    refine held_all1 7 (by kernel_rfl) (op_value 7 29 _ (.pointer (some ⟨g, 0, none⟩)) W rfl rfl rfl (by rw [hg, hW]; kernel_rfl) ⟨trivial, ?_⟩)
    simp only [Act.put, List.setIfInBounds_toArray, List.set_cons_succ, List.set_cons_zero]
    refine held_all1 8 (by kernel_rfl) (op_value 8 6 _ (.pointer (some ⟨g, 0, none⟩)) W rfl rfl rfl (by kernel_rfl) ⟨trivial, ?_⟩)
    simp only [Act.put, List.setIfInBounds_toArray, List.set_cons_succ, List.set_cons_zero]
    have hD0 : RFlash W ⟨g, bA, bB, n, M⟩ { newF n k with b := List.replicate M 0 } := hF.flash h1 h2 h4 HM.out hg hW
    have hT0 := hF.bel hW
    have hl1 := hF.l1
    have hl2 := hF.l2
    have hl3 : w.heap.size ≤ g := by rw [hg]; exact hF.below.size
    clear hW hF hg
    refine wpAnyH_done (by kernel_rfl) ?_ _
    refine NoPanic.normal ?_
    go_wp2
    go_loopw [7] (fun i wr => ∃ I : Nat, I ≤ M ∧ i = .int .i64 (I : Int) ∧ RFlash wr ⟨g, bA, bB, n, M⟩ { newF n k with b := onesL (List.replicate M 0) 0 I } ∧ Below w.heap.size w wr) (fun i _ => M - (intOf i).toNat)
    case atStart => exact ⟨0, Nat.zero_le _, rfl, by rw [onesL_zero]; exact hD0, hT0⟩
    case round =>
      obtain ⟨I, hI, rfl, hDi, hCi⟩ := hrel
      have hhi := hDi.head
      unfold FLay.head at hhi
      have c0 := hhi.cell (j := 0) rfl
      by_cases hlt : I < M
      · have i1 : (I : Int) < (M : Int) := by omega
        have hbl2 : (onesL (List.replicate M (0 : UInt8)) 0 I).length = M := by rw [onesL_len, List.length_replicate]
        have d0 : wr.cell? ⟨bA, I, none⟩ = some (.int .u8 (n8 ((onesL (List.replicate M 0) 0 I).getD I 0))) := hDi.b.cell (bytes_at (by show I < (onesL (List.replicate M 0) 0 I).length; rw [hbl2]; exact hlt))
        have z0 := hDi.b.frozen I
        have hN : (onesL (List.replicate M 0) 0 I).set I 255 = onesL (List.replicate M 0) 0 (I + 1) := by have := onesL_step (List.replicate M 0) 0 I (by simp; exact hlt); rwa [Nat.zero_add] at this
        have hD4 : RFlash (wr.setCell ⟨bA, I, none⟩ (v8 255)) ⟨g, bA, bB, n, M⟩ { newF n k with b := onesL (List.replicate M 0) 0 (I + 1) } := by have := hDi.setByte I 255; rw [← hN]; exact this
        have hC4 : Below w.heap.size w (wr.setCell ⟨bA, I, none⟩ (v8 255)) := hCi.setCell (show w.heap.size ≤ (Addr.block ⟨bA, I, none⟩) from hl1) _
        clear hN
        generalize (onesL (List.replicate M 0) 0 I).getD I 0 = Y at *
        go_wp2
        go_roundw
        case rel => exact ⟨I + 1, hlt, by go_num, hD4, hC4⟩
        case measure => simp [intOf]; omega
      · have i1 : ¬ (I : Int) < (M : Int) := by omega
        obtain rfl : I = M := by omega
        go_wp2
        go_ret2
        refine ⟨⟨g, bA, bB, n, I⟩, rfl, rfl, ?_, hCi, ?_⟩
        · rw [ones_all] at hDi
          have e : newF n k = { newF n k with b := List.replicate I 255 } := by unfold newF; rw [HM.out]
          rw [e]
          exact hDi
        · rintro q (rfl | rfl | rfl)
          · exact hl3
          · exact hl1
          · exact hl2
  · simp only [Act.put, List.setIfInBounds_toArray, List.set_cons_succ, List.set_cons_zero]
    refine held_all1 2 (by kernel_rfl) (op_value 2 24 _ _ U2 rfl rfl rfl (exec_mkB _ rfl M bB U2 rfl hMx (by rw [hB, hU1]; simp) hU2) ⟨trivial, ?_⟩)
    simp only [Act.put, List.setIfInBounds_toArray, List.set_cons_succ, List.set_cons_zero]
    have hF : Two w U2 bB bA M n := by
      subst hA hB hU2 hU1
      exact ⟨Blk.newAt _ _ _ _ (by simp), (Blk.new _ _ _).alloc _, by omega, by omega, Nat.le_refl _, ((Below.refl _ w).drew.alloc (Nat.le_refl _) _).alloc (by simp) _⟩
    clear hA hB hV2 hV1 hU1 hU2
    refine held_all1 6 (by kernel_rfl) (op_value 6 28 _ (.agg #[.slice (some ⟨bB, 0, none⟩) M M, .slice (some ⟨bA, 0, none⟩) n n, .int .i64 (k : Int), .int .i64 (-1), .int .i64 0, .bool false]) U2 rfl rfl rfl (by kernel_rfl) ⟨trivial, ?_⟩)
    simp only [Act.put, List.setIfInBounds_toArray, List.set_cons_succ, List.set_cons_zero]
    obtain ⟨g, hg⟩ : ∃ g, g = U2.heap.size := ⟨_, rfl⟩
    obtain ⟨W, hW⟩ : ∃ W, W = U2.alloc (.cells #[.slice (some ⟨bB, 0, none⟩) M M, .slice (some ⟨bA, 0, none⟩) n n, .int .i64 (k : Int), .int .i64 (-1), .int .i64 0, .bool false] 63) := ⟨_, rfl⟩
    refine held_all1 7 (by kernel_rfl) (op_value 7 29 _ (.pointer (some ⟨g, 0, none⟩)) W rfl rfl rfl (by rw [hg, hW]; kernel_rfl) ⟨trivial, ?_⟩)
    simp only [Act.put, List.setIfInBounds_toArray, List.set_cons_succ, List.set_cons_zero]
    refine held_all1 8 (by kernel_rfl) (op_value 8 6 _ (.pointer (some ⟨g, 0, none⟩)) W rfl rfl rfl (by kernel_rfl) ⟨trivial, ?_⟩)
    simp only [Act.put, List.setIfInBounds_toArray, List.set_cons_succ, List.set_cons_zero]
    have hD0 : RFlash W ⟨g, bB, bA, n, M⟩ { newF n k with b := List.replicate M 0 } := hF.flash h1 h2 h4 HM.out hg hW
    have hT0 := hF.bel hW
    have hl1 := hF.l1
    have hl2 := hF.l2
    have hl3 : w.heap.size ≤ g := by rw [hg]; exact hF.below.size
    clear hW hF hg
    refine wpAnyH_done (by kernel_rfl) ?_ _
    refine NoPanic.normal ?_
    go_wp2
    go_loopw [7] (fun i wr => ∃ I : Nat, I ≤ M ∧ i = .int .i64 (I : Int) ∧ RFlash wr ⟨g, bB, bA, n, M⟩ { newF n k with b := onesL (List.replicate M 0) 0 I } ∧ Below w.heap.size w wr) (fun i _ => M - (intOf i).toNat)
    case atStart => exact ⟨0, Nat.zero_le _, rfl, by rw [onesL_zero]; exact hD0, hT0⟩
    case round =>
      obtain ⟨I, hI, rfl, hDi, hCi⟩ := hrel
      have hhi := hDi.head
      unfold FLay.head at hhi
      have c0 := hhi.cell (j := 0) rfl
      by_cases hlt : I < M
      · have i1 : (I : Int) < (M : Int) := by omega
        have hbl2 : (onesL (List.replicate M (0 : UInt8)) 0 I).length = M := by rw [onesL_len, List.length_replicate]
        have d0 : wr.cell? ⟨bB, I, none⟩ = some (.int .u8 (n8 ((onesL (List.replicate M 0) 0 I).getD I 0))) := hDi.b.cell (bytes_at (by show I < (onesL (List.replicate M 0) 0 I).length; rw [hbl2]; exact hlt))
        have z0 := hDi.b.frozen I
        have hN : (onesL (List.replicate M 0) 0 I).set I 255 = onesL (List.replicate M 0) 0 (I + 1) := by have := onesL_step (List.replicate M 0) 0 I (by simp; exact hlt); rwa [Nat.zero_add] at this
        have hD4 : RFlash (wr.setCell ⟨bB, I, none⟩ (v8 255)) ⟨g, bB, bA, n, M⟩ { newF n k with b := onesL (List.replicate M 0) 0 (I + 1) } := by have := hDi.setByte I 255; rw [← hN]; exact this
        have hC4 : Below w.heap.size w (wr.setCell ⟨bB, I, none⟩ (v8 255)) := hCi.setCell (show w.heap.size ≤ (Addr.block ⟨bB, I, none⟩) from hl1) _
        clear hN
        generalize (onesL (List.replicate M 0) 0 I).getD I 0 = Y at *
        go_wp2
        go_roundw
        case rel => exact ⟨I + 1, hlt, by go_num, hD4, hC4⟩
        case measure => simp [intOf]; omega
      · have i1 : ¬ (I : Int) < (M : Int) := by omega
        obtain rfl : I = M := by omega
        go_wp2
        go_ret2
        refine ⟨⟨g, bB, bA, n, I⟩, rfl, rfl, ?_, hCi, ?_⟩
        · rw [ones_all] at hDi
          have e : newF n k = { newF n k with b := List.replicate I 255 } := by unfold newF; rw [HM.out]
          rw [e]
          exact hDi
        · rintro q (rfl | rfl | rfl)
          · exact hl3
          · exact hl1
          · exact hl2
end Go.Proofs.YtoemdmfpcobadaaDoor
