/-
  What is proved here: more of a link's small calls: acknowledgement, data, pass, acknowledged, meet, New, Waiting, Peer.
  Conditions: the link lies in memory, and its numbers are as the document bounds them.
-/
import Derived.Test.YtichmnbhephkkaaLinkSmall
namespace Go.Proofs.Ytichmnbhephkkaa
open Go.RowKit

set_option maxRecDepth 100000 in
set_option maxHeartbeats 1000000 in
theorem acknK_any (G : Nat) (s : KS) (v : Value) (w : World) (hK : Blk w G 69 (linkC s v)) (hn : s.ne ≤ 1073741825) : Calls Try.prog 38 #[.pointer (some ⟨G, 0, none⟩)] w fun r w' => r = .returned (kpV (ackK s) (.slice none 0 0)) ∧ Below w.heap.size w w' := by
  have hb := below_new w (.cells #[.int .i64 0, .int .i64 0, .int .i64 0, .int .i64 0, .int .i64 0, .slice none 0 0] 34)
  have kR := Blk.new w 34 #[.int .i64 0, .int .i64 0, .int .i64 0, .int .i64 0, .int .i64 0, .slice none 0 0]
  have hKA := hK.below hb hK.lt
  have HP : Hid (∀ V, Blk V G 69 (linkC s v) → Calls Try.prog 37 #[.pointer (some ⟨G, 0, none⟩), .int .i64 3] V fun r w' => r = .returned (kpV (bareK s 3) (.slice none 0 0)) ∧ Below V.heap.size V w') := fun V hV => packetK_any G s v 3 V hV
  have hw : IntKind.i64.wrap ((s.ne : Int) - 1) = (s.ne : Int) - 1 := by rw [IntKind.wrap_i64]; omega
  have hGl := hK.lt
  obtain ⟨B, hB⟩ : ∃ B, B = w.heap.size := ⟨_, rfl⟩
  have HAC : Hid (ackK s = ⟨3, s.ep, s.pe, 0, (s.ne : Int) - 1, []⟩) := rfl
  rw [HAC.out]
  have HLC : Hid (linkC s v = #[.int .i64 s.ep, .int .i64 s.pe, .int .i64 (s.fi : Int), .int .i64 (s.se : Int), .int .i64 (s.ne : Int), .int .i64 (s.ti : Int), v]) := rfl
  clear hK hn
  unfold kpV kpL bareK at *
  go_enter Try.func38, Try.ntmps38
  go_wp2_with fail
  refine (HP.out _ hKA).mono ?_
  rintro e w1 ⟨rfl, hb1⟩
  have kR1 := kR.below hb1 kR.lt
  have hB1 : Below w.heap.size w w1 := hb.trans (hb1.mono hb.size)
  have hK1 := hKA.below hb1 hKA.lt
  have hs1 : w.heap.size < w1.heap.size := kR1.lt
  have kM := Blk.new w1 34 #[.int .i64 3, .int .i64 s.ep, .int .i64 s.pe, .int .i64 0, .int .i64 0, .slice none 0 0]
  have c4 : (w1.alloc (.cells #[.int .i64 3, .int .i64 s.ep, .int .i64 s.pe, .int .i64 0, .int .i64 0, .slice none 0 0] 34)).cell? ⟨G, 4, none⟩ = some (.int .i64 (s.ne : Int)) := by
    rw [HLC.out] at hK1
    exact (hK1.alloc _).cell (j := 4) rfl
  have hGn : G ≠ w1.heap.size := by have := hK1.lt; omega
  clear hb hb1 kR HP hK1 hKA hGl
  go_wp2_with (refine store_blk rfl 34 _ _ rfl rfl w.heap.size #[.int .i64 3, .int .i64 s.ep, .int .i64 s.pe, .int .i64 0, .int .i64 ((s.ne : Int) - 1), .slice none 0 0] rfl rfl 34 _ (kR1.alloc _) info_packet rfl (by simp [Value.oneCell']) ?_; intro w2 kR2 hg2 _)
  have hB2 : Below w.heap.size w w2 := below_grown (hB1.trans ((below_new w1 _).mono hB1.size)) hg2 (by simp; omega) (fun q hq => by cases hq; exact Nat.le_refl _)
  refine bodyPost_ret (v := .agg #[.int .i64 3, .int .i64 s.ep, .int .i64 s.pe, .int .i64 0, .int .i64 ((s.ne : Int) - 1), .slice none 0 0]) (results_cell_row Try.results38 _ _ w.heap.size 34 _ (0, 0) _ rfl kR2 Try.underlying34 rfl info_packet) rfl ⟨rfl, hB2⟩
theorem exec_storeK {a : Act} {o : Oper} {w : World} (x y : Operand) (ho : o.op = .store 3 x y) (g i : Nat) (z : Int) (u : Value) (hx : a.eval x = .pointer (some ⟨g, i, none⟩)) (hy : a.eval y = .int .i64 z) (hc : w.cell? ⟨g, i, none⟩ = some u) (hf : w.frozen? ⟨g, i, none⟩ = false) : (execOp a.eval o).run Try.prog w = .ok .skip (w.setCell ⟨g, i, none⟩ (.int .i64 z)) := by
  unfold execOp
  simp only [ho, hx, hy]
  simp [go_sem, hc, hf]
theorem exec_addK {a : Act} {o : Oper} {w : World} (t : TypeId) (x y : Operand) (ho : o.op = .binOp .add t x y t) (m n : Int) (hx : a.eval x = .int .i64 m) (hy : a.eval y = .int .i64 n) (h1 : -9223372036854775808 ≤ m + n) (h2 : m + n < 9223372036854775808) : (execOp a.eval o).run Try.prog w = .ok (.value (.int .i64 (m + n))) w := by
  have hw : IntKind.i64.wrap (m + n) = m + n := by rw [IntKind.wrap_i64]; omega
  unfold execOp
  simp [ho, hx, hy]
  rw [← hw]
  rfl
set_option maxRecDepth 100000 in
set_option maxHeartbeats 2000000 in
theorem dataK_any (G : Nat) (s : KS) (v : Value) (i : Nat) (x : Value) (bs : List UInt8) (w : World) (hK : Blk w G 69 (linkC s v)) (hn : s.ne ≤ 1073741825) (hf : s.fi ≤ 1073741825) (hi : i ≤ 16) (hS : Seg w x bs) (hb : bs.length ≤ 1500) :
    Calls Try.prog 28 #[.pointer (some ⟨G, 0, none⟩), .int .i64 (i : Int), x] w fun r w' => ∃ bv, r = .returned (kpV ⟨3, s.ep, s.pe, (s.fi : Int) + (i : Int), (s.ne : Int) - 1, bs⟩ bv) ∧ Own w' w.heap.size bv bs ∧ Below w.heap.size w w' := by
  have hbA := below_new w (.cells #[.int .i64 0, .int .i64 0, .int .i64 0, .int .i64 0, .int .i64 0, .slice none 0 0] 34)
  have kR := Blk.new w 34 #[.int .i64 0, .int .i64 0, .int .i64 0, .int .i64 0, .int .i64 0, .slice none 0 0]
  have hKA := hK.below hbA hK.lt
  have HP : Hid (∀ V, Blk V G 69 (linkC s v) → Calls Try.prog 38 #[.pointer (some ⟨G, 0, none⟩)] V fun r w' => r = .returned (kpV (ackK s) (.slice none 0 0)) ∧ Below V.heap.size V w') := fun V hV => acknK_any G s v V hV hn
  have HLC : Hid (linkC s v = #[.int .i64 s.ep, .int .i64 s.pe, .int .i64 (s.fi : Int), .int .i64 (s.se : Int), .int .i64 (s.ne : Int), .int .i64 (s.ti : Int), v]) := rfl
  have hSA := hS.alloc (.cells #[.int .i64 0, .int .i64 0, .int .i64 0, .int .i64 0, .int .i64 0, .slice none 0 0] 34)
  have HXL : Hid (0 < bs.length → ∀ q, x.ownBlock = some q → q < w.heap.size) := fun h0 q hq => by
    rcases hS with ⟨e, _⟩ | ⟨b, off, c, e, _, _, hl⟩
    · rw [e] at h0; cases h0
    · rw [e] at hq; cases hq; exact hl
  have HCL0 := fun V hV => clone_anyD x bs V (by omega) hV
  obtain ⟨ax, cx, rfl⟩ := hS.shapeD
  obtain ⟨nx, hnx⟩ : ∃ nx, nx = bs.length := ⟨_, rfl⟩
  have HB3 : Hid (s.fi ≤ 1073741825 ∧ i ≤ 16) := ⟨hf, hi⟩
  rw [← hnx] at HCL0 hSA HXL ⊢
  have HCL : Hid (∀ V, Seg V (.slice ax nx cx) bs → Calls Try.prog 30 #[.slice ax nx cx] V fun e w' => ∃ v, e = .returned v ∧ Own w' V.heap.size v bs ∧ Below V.heap.size V w') := HCL0
  have HNX : Hid (nx = bs.length) := hnx
  clear hK hn hS hf hi hb HCL0 hnx
  unfold kpV kpL ackK at *
  go_enter Try.func28, Try.ntmps28
  go_wp2_with fail
  refine (HP.out _ hKA).mono ?_
  rintro e w1 ⟨rfl, hb1⟩
  have kR1 := kR.below hb1 kR.lt
  have hB1 : Below w.heap.size w w1 := hbA.trans (hb1.mono hbA.size)
  have hK1 := hKA.below hb1 hKA.lt
  have hS1 := hSA.below hb1 (Nat.le_refl _)
  have hs1 : w.heap.size < w1.heap.size := kR1.lt
  obtain ⟨M, hM⟩ : ∃ M, M = w1.heap.size := ⟨_, rfl⟩
  have hGM : G ≠ M := by have := hK1.lt; omega
  have hK2 := hK1.alloc (.cells #[.int .i64 3, .int .i64 s.ep, .int .i64 s.pe, .int .i64 0, .int .i64 ((s.ne : Int) - 1), .slice none 0 0] 34)
  have hS2 := hS1.alloc (.cells #[.int .i64 3, .int .i64 s.ep, .int .i64 s.pe, .int .i64 0, .int .i64 ((s.ne : Int) - 1), .slice none 0 0] 34)
  have kR2 := kR1.alloc (.cells #[.int .i64 3, .int .i64 s.ep, .int .i64 s.pe, .int .i64 0, .int .i64 ((s.ne : Int) - 1), .slice none 0 0] 34)
  have kM2 := Blk.new w1 34 #[.int .i64 3, .int .i64 s.ep, .int .i64 s.pe, .int .i64 0, .int .i64 ((s.ne : Int) - 1), .slice none 0 0]
  have hB2 : Below w.heap.size w (w1.alloc (.cells #[.int .i64 3, .int .i64 s.ep, .int .i64 s.pe, .int .i64 0, .int .i64 ((s.ne : Int) - 1), .slice none 0 0] 34)) := hB1.trans ((below_new w1 _).mono hB1.size)
  clear HP hKA hSA kR hbA hb1 hB1 hK1 hS1 kR1
  go_wp2_with fail
  rw [← hM] at kM2 ⊢
  have hM2 : w.heap.size < M := by omega
  generalize w1.alloc (.cells #[.int .i64 3, .int .i64 s.ep, .int .i64 s.pe, .int .i64 0, .int .i64 ((s.ne : Int) - 1), .slice none 0 0] 34) = W2 at *
  clear hM hs1
  obtain ⟨BR, hBR⟩ : ∃ BR, BR = w.heap.size := ⟨_, rfl⟩
  rw [← hBR] at kR2 hM2 HXL ⊢
  have HC : Hid (∀ V, Chg (fun q => q = M) W2 V → V.cell? ⟨G, 2, none⟩ = some (.int .i64 (s.fi : Int)) ∧ Seg V (.slice ax nx cx) bs) := fun V hV => ⟨by
    have := hK2.chg hV hGM
    rw [HLC.out] at this
    exact this.cell (j := 2) rfl, hS2.chg hV (fun h0 q hq e => by have := HXL.out (by rw [HNX.out]; exact h0) q hq; omega)⟩
  have hS0 := HC.out W2.drew ((Chg.refl _ W2).drew)
  refine held_begin (fun V => V.cell? ⟨G, 2, none⟩ = some (.int .i64 (s.fi : Int)) ∧ Seg V (.slice ax nx cx) bs) (by kernel_rfl) ?_
  refine held_take 0 10 _ (.pointer (some ⟨G, 0, none⟩)) rfl rfl (by kernel_rfl) (by kernel_rfl) (by kernel_rfl) rfl hS0 (fun _ _ => rfl) ?_
  simp only [Act.put, List.setIfInBounds_toArray, List.set_cons_succ, List.set_cons_zero]
  refine held_take 1 11 _ (.pointer (some ⟨G, 0, none⟩)) rfl rfl (by kernel_rfl) (by kernel_rfl) (by kernel_rfl) rfl hS0 (fun _ _ => rfl) ?_
  simp only [Act.put, List.setIfInBounds_toArray, List.set_cons_succ, List.set_cons_zero]
  refine held_take 2 12 _ (.pointer (some ⟨G, 2, none⟩)) rfl rfl (by kernel_rfl) (by kernel_rfl) (by kernel_rfl) rfl hS0 (fun _ _ => rfl) ?_
  simp only [Act.put, List.setIfInBounds_toArray, List.set_cons_succ, List.set_cons_zero]
  refine held_take 3 13 _ (.int .i64 (s.fi : Int)) rfl rfl (by kernel_rfl) (by kernel_rfl) (by kernel_rfl) rfl hS0 (fun V hV => exec_loadc 3 _ rfl _ _ rfl (load_one 3 (fun _ => by kernel_rfl) V _ _ _ hV.1)) ?_
  simp only [Act.put, List.setIfInBounds_toArray, List.set_cons_succ, List.set_cons_zero]
  refine held_take 4 14 _ (.int .i64 (i : Int)) rfl rfl (by kernel_rfl) (by kernel_rfl) (by kernel_rfl) rfl hS0 (fun _ _ => rfl) ?_
  simp only [Act.put, List.setIfInBounds_toArray, List.set_cons_succ, List.set_cons_zero]
  refine held_take 5 15 _ (.int .i64 ((s.fi : Int) + (i : Int))) rfl rfl (by kernel_rfl) (by kernel_rfl) (by kernel_rfl) rfl hS0 (fun V _ => exec_addK 3 _ _ rfl (s.fi : Int) (i : Int) rfl rfl (by have := HB3.out; omega) (by have := HB3.out; omega)) ?_
  simp only [Act.put, List.setIfInBounds_toArray, List.set_cons_succ, List.set_cons_zero]
  refine held_take 6 16 _ (.slice ax nx cx) rfl rfl (by kernel_rfl) (by kernel_rfl) (by kernel_rfl) rfl hS0 (fun _ _ => rfl) ?_
  simp only [Act.put, List.setIfInBounds_toArray, List.set_cons_succ, List.set_cons_zero]
  refine held_take 8 18 _ (.pointer (some ⟨M, 3, none⟩)) rfl rfl (by kernel_rfl) (by kernel_rfl) (by kernel_rfl) rfl hS0 (fun _ _ => rfl) ?_
  simp only [Act.put, List.setIfInBounds_toArray, List.set_cons_succ, List.set_cons_zero]
  refine held_all1 7 (by kernel_rfl) (op_call 7 17 _ 30 #[.slice ax nx cx] rfl rfl rfl (exec_one 30 _ _ rfl _ rfl Try.call30) ((HCL.out _ hS0.2).mono ?_))
  rintro e W3 ⟨bv, rfl, ho3, hb3⟩
  have hB3 : Below W2.heap.size W2 W3 := ((Below.refl _ _).drew).trans hb3
  have hC3 : Chg (fun q => q = M) W2 W3 := Chg.of_below hB3 (Nat.le_refl _)
  have kM3 := kM2.below hB3 kM2.lt
  have hS3 := HC.out W3 hC3
  obtain ⟨ab, cb, rfl⟩ := ho3.seg.shapeD
  refine ⟨_, rfl, hS3, ?_⟩
  simp only [Act.put, List.setIfInBounds_toArray, List.set_cons_succ, List.set_cons_zero]
  have hC4 : Chg (fun q => q = M) W2 (W3.setCell ⟨M, 3, none⟩ (.int .i64 ((s.fi : Int) + (i : Int)))) := hC3.setCell M 3 _ (fun _ => rfl)
  have hS4 := HC.out _ hC4
  have kM4 := kM3.set 3 (.int .i64 ((s.fi : Int) + (i : Int)))
  refine held_all1 9 (by kernel_rfl) (op_skip 9 _ (W3.setCell ⟨M, 3, none⟩ (.int .i64 ((s.fi : Int) + (i : Int)))) rfl rfl rfl (exec_storeK _ _ rfl M 3 ((s.fi : Int) + (i : Int)) _ rfl rfl (kM3.cell (j := 3) rfl) (kM3.frozen 3)) ⟨hS4, ?_⟩)
  refine held_take 10 19 _ (.pointer (some ⟨M, 5, none⟩)) rfl rfl (by kernel_rfl) (by kernel_rfl) (by kernel_rfl) rfl hS4 (fun _ _ => rfl) ?_
  simp only [Act.put, List.setIfInBounds_toArray, List.set_cons_succ, List.set_cons_zero]
  have hC5 : Chg (fun q => q = M) W2 ((W3.setCell ⟨M, 3, none⟩ (.int .i64 ((s.fi : Int) + (i : Int)))).setCell ⟨M, 5, none⟩ (.slice ab bs.length cb)) := hC4.setCell M 5 _ (fun _ => rfl)
  have hS5 := HC.out _ hC5
  have kM5 := (kM4.set 5 (.slice ab bs.length cb)).of_eq (arr' := #[.int .i64 3, .int .i64 s.ep, .int .i64 s.pe, .int .i64 ((s.fi : Int) + (i : Int)), .int .i64 ((s.ne : Int) - 1), .slice ab bs.length cb]) rfl
  refine held_all1 11 (by kernel_rfl) (op_skip 11 _ ((W3.setCell ⟨M, 3, none⟩ (.int .i64 ((s.fi : Int) + (i : Int)))).setCell ⟨M, 5, none⟩ (.slice ab bs.length cb)) rfl rfl rfl (exec_stores _ _ rfl M 5 ab bs.length cb _ rfl rfl (kM4.cell (j := 5) rfl) (kM4.frozen 5)) ⟨hS5, ?_⟩)
  refine wpAnyH_done (by kernel_rfl) ?_ _
  refine NoPanic.normal ?_
  have hC6 : Chg (fun q => q = M) W2 ((W3.setCell ⟨M, 3, none⟩ (.int .i64 ((s.fi : Int) + (i : Int)))).setCell ⟨M, 5, none⟩ (.slice ab bs.length cb)) := hC5
  have kR5 := kR2.chg hC5 (by omega)
  have ho5 := ho3.chg (S := fun q => q = M) (((Chg.refl (fun q => q = M) W3).setCell M 3 (.int .i64 ((s.fi : Int) + (i : Int))) (fun _ => rfl)).setCell M 5 (.slice ab bs.length cb) (fun _ => rfl)) (fun q hq e => by have := (ho3.blocks q hq).1; have := kM2.lt; have := W2.size_drew; omega)
  have hbr : ∀ k, k = M → BR ≤ k := fun k e => by omega
  have hB5 : Below BR w ((W3.setCell ⟨M, 3, none⟩ (.int .i64 ((s.fi : Int) + (i : Int)))).setCell ⟨M, 5, none⟩ (.slice ab bs.length cb)) := by
    rw [hBR]
    exact hB2.trans (hC5.below (fun k e => by omega) hB2.size)
  have hsz : W3.heap.size ≤ ((W3.setCell ⟨M, 3, none⟩ (.int .i64 ((s.fi : Int) + (i : Int)))).setCell ⟨M, 5, none⟩ (.slice ab bs.length cb)).heap.size := by simp
  generalize (W3.setCell ⟨M, 3, none⟩ (.int .i64 ((s.fi : Int) + (i : Int)))).setCell ⟨M, 5, none⟩ (.slice ab bs.length cb) = W5 at *
  have kM2' : M < W2.heap.size := kM2.lt
  clear kM2 hS2 hK2 kM3 kM4 hC3 hC4 hC5 hC6 hS3 hS4 hS5 hS0 ho3 hb3 hB3 HC HCL HLC
  go_wp2_with (first | (refine wpList_load_row rfl 34 _ rfl M rfl 34 _ (0, 0) _ kM5 Try.underlying34 rfl info_packet ?_) | (refine store_blk rfl 34 _ _ rfl rfl BR #[.int .i64 3, .int .i64 s.ep, .int .i64 s.pe, .int .i64 ((s.fi : Int) + (i : Int)), .int .i64 ((s.ne : Int) - 1), .slice ab bs.length cb] rfl rfl 34 _ kR5 info_packet rfl (by simp [Value.oneCell']) ?_; intro w6 kR6 hg6 _))
  have hB6 : Below w.heap.size w w6 := by
    rw [hBR] at hB5
    exact below_grown hB5 hg6 hB5.size (fun q hq => by cases hq; omega)
  have ho6 : Own w6 w.heap.size (.slice ab bs.length cb) bs := by
    have h1 : Own w6 W2.drew.heap.size (.slice ab bs.length cb) bs := ho5.grown hg6 (by
      right
      intro e
      have := (ho5.blocks BR e).1
      have h2 := kM2'
      have h3 := W2.size_drew
      omega)
    exact h1.mono (by have h3 := W2.size_drew; have h2 := kM2'; omega)
  refine bodyPost_ret (v := .agg #[.int .i64 3, .int .i64 s.ep, .int .i64 s.pe, .int .i64 ((s.fi : Int) + (i : Int)), .int .i64 ((s.ne : Int) - 1), .slice ab bs.length cb]) (results_cell_row Try.results28 _ _ BR 34 _ (0, 0) _ rfl kR6 Try.underlying34 rfl info_packet) rfl ⟨_, rfl, ho6, hB6⟩
end Go.Proofs.Ytichmnbhephkkaa
