/-
  What is proved here: Box.Ack lets an entry wait no more.
  Conditions: the box and its flash lie in memory; the places of what waits are those of the two blocks.
-/
import Derived.Test.YtgoehohadnkpdaaDoorJOutPut
namespace Go.Proofs.YtgoehohadnkpdaaDoor
open Go.RowKit

theorem exec_byteX {a : Act} {o : Oper} {w : World} (ho : o.op = .buildSlice 35 1 #[(0, .const (.int .u8 0))]) : (execOp a.eval o).run Tryd.prog w = .ok (.value (.slice (some ⟨w.heap.size, 0, none⟩) 1 1)) (w.alloc (.cells #[.int .u8 0] 5)) := by
  have hy : a.eval (.const (.int .u8 0)) = .int .u8 0 := rfl
  generalize a.eval = ρ at *
  unfold execOp
  simp only [ho]
  simp [go_sem, hy]
theorem seg_nought (w : World) : Seg (w.alloc (.cells #[.int .u8 0] 5)) (.slice (some ⟨w.heap.size, 0, none⟩) 1 1) [0] :=
  .inr ⟨w.heap.size, 0, 1, rfl, Nat.le_refl _, fun j hj => by
    have h0 : j = 0 := by simp at hj; omega
    subst h0
    exact (Blk.new w 5 #[.int .u8 0]).cell rfl, by simp⟩
theorem idxX_lt {l : List XE} {n : Int} {i : Nat} (h : idxX l n = some i) : i < l.length := by
  unfold idxX at h
  exact (List.findIdx?_eq_some_iff_getElem.1 h).1
set_option maxRecDepth 100000 in
set_option maxHeartbeats 8000000 in
theorem ackP (L : PLay6) (s : FS) (g j base : Nat) (wv : Value) (x : XS) (n : Int) (w : World) (h : BX w L g j base wv x s) (hj : j + 1 < L.n) (hin : ∀ e ∈ x.wt, e.wh ≤ 1 ∧ -1 ≤ e.la ∧ e.la ≤ 31) :
    Calls Tryd.prog 15 #[.pointer (some ⟨g, 0, none⟩), .int .i64 n] w fun e w' => ∃ wv', e = .returned (.int .i64 (ackX x j s n).1) ∧ BX w' L g j base wv' (ackX x j s n).2.1 (ackX x j s n).2.2 ∧ wv'.ownBlock = wv.ownBlock ∧ Chg (bT L g wv) w w' := by
  have hgl := h.blk.lt
  have hgn : g ≠ w.heap.size := by omega
  have hlw := h.fl.lt
  have hcap := h.fl.ok.cap
  obtain ⟨Bq, hBq⟩ : ∃ B, B = w.heap.size := ⟨_, rfl⟩
  have hbA := (Below.refl w.heap.size w).alloc (Nat.le_refl _) (.cells #[.int .i64 n] 3)
  have kQ := Blk.new w 3 #[.int .i64 n]
  rw [← hBq] at kQ
  have hXA := h.after hbA
  have HAX : Hid (ackX x j s n = if x.br then (10, x, s) else match idxX x.wt n with
    | none => (4, x, s)
    | some i => if (programF s (startX j (x.wt.getD i XE.first) + 31) [0]).1 = 0 then (0, ⟨x.wt.eraseIdx i, x.last, false⟩, (programF s (startX j (x.wt.getD i XE.first) + 31) [0]).2) else ((programF s (startX j (x.wt.getD i XE.first) + 31) [0]).1, { x with br := true }, (programF s (startX j (x.wt.getD i XE.first) + 31) [0]).2)) := by show _ = _; unfold ackX; rfl
  generalize ackX x j s n = AX at *
  have c10 : w.cell? ⟨g, 10, none⟩ = some (.bool x.br) := h.blk.cell (j := 10) rfl
  have c2 : w.cell? ⟨g, 2, none⟩ = some wv := h.blk.cell (j := 2) rfl
  by_cases hbr : x.br = true
  · rw [if_pos hbr] at HAX
    rw [hbr] at c10
    go_enter Tryd.func15, Tryd.ntmps15
    go_wp2
    go_ret
    rw [HAX.out]
    exact ⟨wv, rfl, hXA, rfl, (Chg.refl _ _).alloc _⟩
  have hbf : x.br = false := by simpa using hbr
  rw [if_neg hbr] at HAX
  rw [hbf] at c10
  have HIX : Hid (Calls Tryd.prog 32 #[wv, .func (.func 33) #[] #[.pointer (some ⟨Bq, 0, none⟩)]] (w.alloc (.cells #[.int .i64 n] 3)) fun e w' => e = .returned (.int .i64 (idxZ x.wt (fun e => ((e.seq : Nat) : Int) == n))) ∧ Below (w.alloc (.cells #[.int .i64 n] 3)).heap.size (w.alloc (.cells #[.int .i64 n] 3)) w') := indexA base wv x.wt Bq n _ (Nat.le_trans hXA.len (by decide)) hXA.row (kQ.cell (j := 0) rfl)
  have hiz : idxZ x.wt (fun e => ((e.seq : Nat) : Int) == n) = match idxX x.wt n with
    | some i => (i : Int)
    | none => -1 := rfl
  rw [hiz] at HIX
  clear hiz
  obtain ⟨wa, wc, hwv⟩ := h.row.shape
  have HWV : Hid (wv = .slice wa x.wt.length wc) := hwv
  rw [hwv] at c2 HIX
  clear hwv
  cases hix : idxX x.wt n with
  | none =>
    rw [hix] at HIX HAX
    dsimp only at HIX HAX
    go_enter Tryd.func15, Tryd.ntmps15
    go_wp2_with fail
    rw [← hBq]
    refine HIX.out.mono ?_
    rintro e w1 ⟨rfl, hb1⟩
    have hB1 : Below w.heap.size w w1 := hbA.trans (hb1.mono hbA.size)
    have hX1 := h.after hB1
    clear hBq kQ HIX
    go_wp2
    go_ret
    rw [HAX.out]
    exact ⟨wv, rfl, hX1, rfl, Chg.of_below hB1 (Nat.le_refl _)⟩
  | some i =>
    rw [hix] at HIX HAX
    dsimp only at HIX HAX
    have hil := idxX_lt hix
    obtain ⟨e, he⟩ : ∃ e, x.wt[i]? = some e := ⟨x.wt[i], List.getElem?_eq_getElem hil⟩
    have hgd : x.wt.getD i XE.first = e := by rw [List.getD_eq_getElem?_getD, he]; rfl
    rw [hgd] at HAX
    obtain ⟨he1, he2, he3⟩ := hin e (List.mem_of_getElem? he)
    obtain ⟨b, c', hbv, _, hbb, _⟩ := h.row.at he
    have hwa : wa = some ⟨b, 0, none⟩ ∧ c' = wc := by rw [HWV.out] at hbv; cases hbv; exact ⟨rfl, rfl⟩
    obtain ⟨rfl, rfl⟩ := hwa
    have HE : Hid (x.wt[i]? = some e) := he
    have hbo : wv.ownBlock = some b := by rw [HWV.out]; rfl
    have hblw := (h.row.lt b hbo).2
    have hbT := h.rT b hbo
    have hRC : ∀ V, WtR V base wv x.wt → V.rangeAt b (i * 7 + 5) [.int .i64 (e.wh : Int), .int .i64 e.la] := fun V hV => by
      obtain ⟨b2, c2, hb2, _, _, hcs⟩ := hV.at HE.out
      rw [HWV.out] at hb2
      cases hb2
      intro k u hu
      rw [Nat.add_assoc]
      refine hcs (5 + k) u ?_
      have hk : k < 2 := (List.getElem?_eq_some_iff.1 hu).1
      rcases (by omega : k = 0 ∨ k = 1) with rfl | rfl
      · exact hu
      · exact hu
    have HRC : Hid (∀ V, WtR V base wv x.wt → V.rangeAt b (i * 7 + 5) [.int .i64 (e.wh : Int), .int .i64 e.la]) := hRC
    clear hRC hgd he hix hbv hin
    have ix := fun w => index_ents b x.wt.length c' i w hil
    have HIXX : Hid (∀ w, (Instr.indexAt 65 (.slice (some ⟨b, 0, none⟩) x.wt.length c') (.int .i64 (i : Int))).run Tryd.prog w = .ok (.pointer (some ⟨b, i * 7, none⟩)) w) := ix
    clear ix
    have hi0 : ¬ (i : Int) < 0 := by omega
    go_enter Tryd.func15, Tryd.ntmps15
    go_wp2_with fail
    rw [← hBq]
    refine HIX.out.mono ?_
    rintro e0 w1 ⟨rfl, hb1⟩
    have hB1 : Below w.heap.size w w1 := hbA.trans (hb1.mono hbA.size)
    have hX1 := h.after hB1
    have hBqw : w.heap.size ≤ Bq := by omega
    clear hBq kQ HIX hb1 hbA hXA c10 c2 hgn
    have hcW1 : Chg (bT L g wv) w w1 := Chg.of_below hB1 (Nat.le_refl _)
    go_wp2_with fail
    have HST : Hid (∀ V z, Blk V g 67 (boxC L j wv z) → Calls Tryd.prog 30 #[.pointer (some ⟨g, 0, none⟩), .agg #[.int .i64 (e.wh : Int), .int .i64 e.la]] V fun e' w' => e' = .returned (.int .i64 (startX j e)) ∧ Below V.heap.size V w') := fun V z hV => startP L g j wv z e.wh e.la V hV (by omega) he1 he2 he3
    have hst : -100000 ≤ startX j e ∧ startX j e ≤ 1000000 := by unfold startX; omega
    have hadd : -9223372036854775808 ≤ startX j e + 31 ∧ startX j e + 31 < 9223372036854775808 := by omega
    generalize startX j e = ST at *
    have HCL : Hid (∀ V z, Blk V g 67 (boxC L j wv z) → WtR V base wv x.wt → V.cell? ⟨g, 0, none⟩ = some (.pointer (some ⟨L.g, 0, none⟩)) ∧ V.cell? ⟨g, 2, none⟩ = some (.slice (some ⟨b, 0, none⟩) x.wt.length c') ∧ V.rangeAt b (i * 7 + 5) [.int .i64 (e.wh : Int), .int .i64 e.la]) := fun V z h1 h2 => ⟨h1.cell (j := 0) rfl, (h1.cell (j := 2) rfl).trans (congrArg some HWV.out), HRC.out V h2⟩
    have hs1 := hB1.size
    have hTn : ∀ q, w.heap.size ≤ q → ¬ L.T q := fun q hq e => by have := hlw q e; omega
    have hS0 := HCL.out w1.drew x hX1.blk.drew (World.ownsRow.drew hX1.row)
    refine held_begin (fun V => V.cell? ⟨g, 0, none⟩ = some (.pointer (some ⟨L.g, 0, none⟩)) ∧ V.cell? ⟨g, 2, none⟩ = some (.slice (some ⟨b, 0, none⟩) x.wt.length c') ∧ V.rangeAt b (i * 7 + 5) [.int .i64 (e.wh : Int), .int .i64 e.la]) (by kernel_rfl) ?_
    refine held_take 0 19 _ (.pointer (some ⟨g, 0, none⟩)) rfl rfl (by kernel_rfl) (by kernel_rfl) (by kernel_rfl) rfl hS0 (fun _ _ => rfl) ?_
    simp only [Act.put, List.setIfInBounds_toArray, List.set_cons_succ, List.set_cons_zero]
    refine held_take 1 20 _ (.pointer (some ⟨g, 0, none⟩)) rfl rfl (by kernel_rfl) (by kernel_rfl) (by kernel_rfl) rfl hS0 (fun _ _ => rfl) ?_
    simp only [Act.put, List.setIfInBounds_toArray, List.set_cons_succ, List.set_cons_zero]
    refine held_take 2 21 _ (.pointer (some ⟨g, 0, none⟩)) rfl rfl (by kernel_rfl) (by kernel_rfl) (by kernel_rfl) rfl hS0 (fun _ _ => rfl) ?_
    simp only [Act.put, List.setIfInBounds_toArray, List.set_cons_succ, List.set_cons_zero]
    refine held_take 3 22 _ (.pointer (some ⟨g, 0, none⟩)) rfl rfl (by kernel_rfl) (by kernel_rfl) (by kernel_rfl) rfl hS0 (fun _ _ => rfl) ?_
    simp only [Act.put, List.setIfInBounds_toArray, List.set_cons_succ, List.set_cons_zero]
    refine held_take 4 23 _ (.pointer (some ⟨L.g, 0, none⟩)) rfl rfl (by kernel_rfl) (by kernel_rfl) (by kernel_rfl) rfl hS0 (fun V hV => exec_loadc 27 _ rfl _ _ rfl (load_one 27 (fun _ => by kernel_rfl) V _ _ _ hV.1)) ?_
    simp only [Act.put, List.setIfInBounds_toArray, List.set_cons_succ, List.set_cons_zero]
    refine held_take 5 24 _ (.pointer (some ⟨g, 0, none⟩)) rfl rfl (by kernel_rfl) (by kernel_rfl) (by kernel_rfl) rfl hS0 (fun _ _ => rfl) ?_
    simp only [Act.put, List.setIfInBounds_toArray, List.set_cons_succ, List.set_cons_zero]
    refine held_take 6 25 _ (.pointer (some ⟨g, 0, none⟩)) rfl rfl (by kernel_rfl) (by kernel_rfl) (by kernel_rfl) rfl hS0 (fun _ _ => rfl) ?_
    simp only [Act.put, List.setIfInBounds_toArray, List.set_cons_succ, List.set_cons_zero]
    refine held_take 7 26 _ (.pointer (some ⟨g, 0, none⟩)) rfl rfl (by kernel_rfl) (by kernel_rfl) (by kernel_rfl) rfl hS0 (fun _ _ => rfl) ?_
    simp only [Act.put, List.setIfInBounds_toArray, List.set_cons_succ, List.set_cons_zero]
    refine held_take 8 27 _ (.pointer (some ⟨g, 2, none⟩)) rfl rfl (by kernel_rfl) (by kernel_rfl) (by kernel_rfl) rfl hS0 (fun _ _ => rfl) ?_
    simp only [Act.put, List.setIfInBounds_toArray, List.set_cons_succ, List.set_cons_zero]
    refine held_take 9 28 _ (.slice (some ⟨b, 0, none⟩) x.wt.length c') rfl rfl (by kernel_rfl) (by kernel_rfl) (by kernel_rfl) rfl hS0 (fun V hV => exec_loadc 65 _ rfl _ _ rfl (load_one 65 (fun _ => by kernel_rfl) V _ _ _ hV.2.1)) ?_
    simp only [Act.put, List.setIfInBounds_toArray, List.set_cons_succ, List.set_cons_zero]
    refine held_take 10 29 _ (.int .i64 (i : Int)) rfl rfl (by kernel_rfl) (by kernel_rfl) (by kernel_rfl) rfl hS0 (fun _ _ => rfl) ?_
    simp only [Act.put, List.setIfInBounds_toArray, List.set_cons_succ, List.set_cons_zero]
    refine held_take 11 30 _ (.pointer (some ⟨b, i * 7, none⟩)) rfl rfl (by kernel_rfl) (by kernel_rfl) (by kernel_rfl) rfl hS0 (fun V _ => exec_indexat 65 _ _ rfl (.slice (some ⟨b, 0, none⟩) x.wt.length c') (.int .i64 (i : Int)) _ rfl rfl (HIXX.out V)) ?_
    simp only [Act.put, List.setIfInBounds_toArray, List.set_cons_succ, List.set_cons_zero]
    refine held_take 12 31 _ (.pointer (some ⟨b, i * 7 + 5, none⟩)) rfl rfl (by kernel_rfl) (by kernel_rfl) (by kernel_rfl) rfl hS0 (fun _ _ => rfl) ?_
    simp only [Act.put, List.setIfInBounds_toArray, List.set_cons_succ, List.set_cons_zero]
    refine held_take 13 32 _ (.agg #[.int .i64 (e.wh : Int), .int .i64 e.la]) rfl rfl (by kernel_rfl) (by kernel_rfl) (by kernel_rfl) rfl hS0 (fun V hV => exec_loads 61 _ rfl b (i * 7 + 5) rfl [.int .i64 (e.wh : Int), .int .i64 e.la] _ hV.2.2 Tryd.underlying61 rfl info_place12) ?_
    simp only [Act.put, List.setIfInBounds_toArray, List.set_cons_succ, List.set_cons_zero]
    refine held_all2 14 16 (by kernel_rfl) ?_ ?_
    · skip
      refine op_call 14 33 _ 30 #[.pointer (some ⟨g, 0, none⟩), .agg #[.int .i64 (e.wh : Int), .int .i64 e.la]] rfl rfl rfl (exec_two8 30 _ _ _ rfl _ _ rfl rfl Tryd.call30) ((HST.out _ x hX1.blk.drew).mono ?_)
      rintro e1 w3 ⟨rfl, hb3⟩
      have hB3 : Below w1.heap.size w1 w3 := ((Below.refl w1.heap.size w1).drew).trans hb3
      have hS3 := HCL.out w3 x (hX1.blk.below hB3 hX1.blk.lt) (hX1.row.after hB3)
      refine ⟨_, rfl, hS3, ?_⟩
      simp only [Act.put, List.setIfInBounds_toArray, List.set_cons_succ, List.set_cons_zero]
      refine held_take 15 34 _ (.int .i64 (ST + 31)) rfl rfl (by kernel_rfl) (by kernel_rfl) (by kernel_rfl) rfl hS3 (fun V _ => exec_add9 3 _ _ rfl ST 31 rfl rfl hadd.1 hadd.2) ?_
      simp only [Act.put, List.setIfInBounds_toArray, List.set_cons_succ, List.set_cons_zero]
      have hBb : Below w1.heap.size w1 (w3.alloc (.cells #[.int .u8 0] 5)) := hB3.alloc hB3.size _
      have hSb := HCL.out _ x (hX1.blk.below hBb hX1.blk.lt) (hX1.row.after hBb)
      have segb := seg_nought w3
      refine held_all1 16 (by kernel_rfl) (op_value 16 35 _ (.slice (some ⟨w3.heap.size, 0, none⟩) 1 1) _ rfl rfl rfl (exec_byteX rfl) ⟨hSb, ?_⟩)
      simp only [Act.put, List.setIfInBounds_toArray, List.set_cons_succ, List.set_cons_zero]
      have hvb : ∀ q, (Value.slice (some ⟨w3.heap.size, 0, none⟩) 1 1).ownBlock = some q → w1.heap.size ≤ q := fun q hq => by have := Option.some.inj hq; have h3 := hB3.size; show _ ≤ q; rw [← this]; exact h3
      generalize (Value.slice (some ⟨w3.heap.size, 0, none⟩) 1 1) = vb at *
      generalize w3.alloc (.cells #[.int .u8 0] 5) = wb at *
      refine held_all1 17 (by kernel_rfl) (op_call 17 36 _ 29 #[.pointer (some ⟨L.g, 0, none⟩), .int .i64 (ST + 31), vb] rfl rfl rfl (exec_three8 29 _ _ _ _ rfl _ _ _ rfl rfl rfl Tryd.call29) ((program6_any L s (ST + 31) vb [0] _ (thePF.after hX1.fl hBb) segb (fun _ q hq e => by have h1 := hvb q hq; exact hTn q (by omega) e)).mono ?_))
      generalize programF s (ST + 31) [0] = PG at *
      rintro e1 w5 ⟨rfl, hD5, hc5⟩
      have hK5 := (hX1.blk.below hBb hX1.blk.lt).chg hc5 hX1.gT
      have hR5 := (hX1.row.after hBb).chg hc5 (fun q hq => (hX1.rT q hq).1)
      have hS5 := HCL.out w5 x hK5 hR5
      refine ⟨_, rfl, hS5, ?_⟩
      simp only [Act.put, List.setIfInBounds_toArray, List.set_cons_succ, List.set_cons_zero]
      refine held_all1 18 (by kernel_rfl) (op_call 18 37 _ 28 #[.pointer (some ⟨g, 0, none⟩), .int .i64 PG.1] rfl rfl rfl (exec_two8 28 _ _ _ rfl _ _ rfl rfl Tryd.call28) ((doneX L g j wv x PG.1 w5 hK5).mono ?_))
      rintro e1 w6 ⟨rfl, hK6, hc6⟩
      have hR6 := hR5.chg hc6 (fun q hq e => (hX1.rT q hq).2 e)
      have hD6 := hD5.chg hc6 (fun q hq e => hX1.gT (by rw [← e]; exact hq))
      have hS6 := HCL.out w6 _ hK6 hR6
      have hcW6 : Chg (bT L g wv) w w6 := ((hcW1.trans (Chg.of_below (S := bT L g wv) hBb (Nat.le_refl _)) (fun _ _ h => h)).trans hc5 (fun _ _ h => .inl h)).trans hc6 (fun _ _ h => .inr (.inl h))
      refine ⟨_, rfl, hS6, ?_⟩
      simp only [Act.put, List.setIfInBounds_toArray, List.set_cons_succ, List.set_cons_zero]
      refine held_all1 19 (by kernel_rfl) (op_value 19 6 _ (.int .i64 PG.1) w6 rfl rfl rfl rfl ⟨hS6, ?_⟩)
      simp only [Act.put, List.setIfInBounds_toArray, List.set_cons_succ, List.set_cons_zero]
      refine wpAnyH_done (by kernel_rfl) ?_ _
      refine NoPanic.normal ?_
      have hgT := hX1.gT
      have hrT := hX1.rT
      have hlenx := hX1.len
      clear HCL HST hS0 hS5 hS6 hX1 hc5 hc6 hK5 hR5 hD5 HRC HIXX
      by_cases hpg : PG.1 ≠ 0
      · have hne : (PG.1 != 0) = true := by simpa using hpg
        rw [if_neg hpg] at HAX
        have HX8 : Hid (BX w6 L g j base wv { x with br := true } PG.2) := ⟨by rw [← hne]; exact hK6, hR6, hD6, hgT, hrT, hlenx⟩
        clear hK6 hR6 hD6
        go_wp2
        go_ret
        rw [HAX.out]
        exact ⟨wv, rfl, HX8.out, rfl, hcW6⟩
      have hpg0 : PG.1 = 0 := by omega
      rw [if_pos hpg0] at HAX
      have hbz : (PG.1 != 0) = false := by rw [hpg0]; rfl
      rw [hbz] at hK6
      rw [hpg0]
      clear hpg hpg0 hbz
      have d2 : w6.cell? ⟨g, 2, none⟩ = some (.slice (some ⟨b, 0, none⟩) x.wt.length c') := (hK6.cell (j := 2) rfl).trans (congrArg some HWV.out)
      have hwi : IntKind.i64.wrap ((i : Int) + 1) = (i : Int) + 1 := by rw [IntKind.wrap_i64]; omega
      have HDL : Hid (Calls Tryd.prog 34 #[.slice (some ⟨b, 0, none⟩) x.wt.length c', .int .i64 (i : Int), .int .i64 ((i : Int) + 1)] w6 fun e w' => ∃ v', e = .returned v' ∧ WtR w' base v' (x.wt.eraseIdx i) ∧ v'.ownBlock = wv.ownBlock ∧ Chg (fun q => wv.ownBlock = some q) w6 w') := by
        have := deleteX base wv x.wt i w6 (by omega) hil hR6
        have h2 := deleteX base wv x.wt i w6 (by omega) hil hR6
        clear this
        rw [← HWV.out]
        exact h2
      go_wp2_with fail
      refine HDL.out.mono ?_
      rintro e1 w7 ⟨v7, rfl, hR7, hv7, hc7⟩
      clear HDL d2 hwi
      have hK7 := hK6.chg hc7 (fun e => (hrT _ e).2 rfl)
      have hD7 := hD6.chg hc7 (fun q hq e => (hrT q e).1 hq)
      obtain ⟨va, vc, hv7e⟩ := hR7.shape
      have f2 := hK7.frozen 2
      have g2 := hK7.cell (j := 2) rfl
      have hcN : Chg (fun q => q = g) w7 (w7.setCell ⟨g, 2, none⟩ v7) := (Chg.refl _ _).setCell g 2 _ (fun _ => rfl)
      have hKN : Blk (w7.setCell ⟨g, 2, none⟩ v7) g 67 (boxC L j v7 ⟨x.wt.eraseIdx i, x.last, false⟩) := (hK7.set 2 v7).of_eq rfl
      have hgR : ∀ q, v7.ownBlock = some q → ¬ L.T q ∧ q ≠ g := fun q hq => hrT q (by rw [← hv7]; exact hq)
      have HXN : Hid (BX (w7.setCell ⟨g, 2, none⟩ v7) L g j base v7 ⟨x.wt.eraseIdx i, x.last, false⟩ PG.2) := ⟨hKN, hR7.chg hcN (fun q hq e => (hgR q hq).2 e), hD7.chg hcN (fun q hq e => hgT (by rw [← e]; exact hq)), hgT, hgR, Nat.le_trans (List.length_eraseIdx_le ..) hlenx⟩
      have HCN : Hid (Chg (bT L g wv) w (w7.setCell ⟨g, 2, none⟩ v7)) := (hcW6.trans hc7 (fun _ _ h => .inr (.inr h))).trans hcN (fun _ _ h => .inr (.inl h))
      have HV7 : Hid (v7.ownBlock = wv.ownBlock) := hv7
      clear hKN hK6 hR6 hD6 hK7 hD7 hR7 hc7 hcN hgR hv7 hcW6 HWV hbo hrT
      subst hv7e
      go_wp2
      go_ret
      rw [HAX.out]
      exact ⟨_, rfl, HXN.out, HV7.out, HCN.out⟩
    · skip
      have hBa : Below w1.heap.size w1 (w1.drew.alloc (.cells #[.int .u8 0] 5)) := ((Below.refl w1.heap.size w1).drew).alloc (Nat.le_refl _) _
      have hSa := HCL.out _ x (hX1.blk.below hBa hX1.blk.lt) (hX1.row.after hBa)
      have sega := seg_nought w1.drew
      refine op_value 16 35 _ (.slice (some ⟨w1.drew.heap.size, 0, none⟩) 1 1) _ rfl rfl rfl (exec_byteX rfl) ⟨hSa, ?_⟩
      simp only [Act.put, List.setIfInBounds_toArray, List.set_cons_succ, List.set_cons_zero]
      have hvb : ∀ q, (Value.slice (some ⟨w1.drew.heap.size, 0, none⟩) 1 1).ownBlock = some q → w1.heap.size ≤ q := fun q hq => by have := Option.some.inj hq; show _ ≤ q; rw [← this]; exact Nat.le_refl _
      generalize (Value.slice (some ⟨w1.drew.heap.size, 0, none⟩) 1 1) = vb at *
      generalize w1.drew.alloc (.cells #[.int .u8 0] 5) = wa at *
      refine held_all1 14 (by kernel_rfl) (op_call 14 33 _ 30 #[.pointer (some ⟨g, 0, none⟩), .agg #[.int .i64 (e.wh : Int), .int .i64 e.la]] rfl rfl rfl (exec_two8 30 _ _ _ rfl _ _ rfl rfl Tryd.call30) ((HST.out _ x (hX1.blk.below hBa hX1.blk.lt)).mono ?_))
      rintro e1 wb ⟨rfl, hb3⟩
      have hBb : Below w1.heap.size w1 wb := hBa.trans (hb3.mono hBa.size)
      have segb : Seg wb vb [0] := sega.below hb3 (Nat.le_refl _)
      have hS3 := HCL.out wb x (hX1.blk.below hBb hX1.blk.lt) (hX1.row.after hBb)
      refine ⟨_, rfl, hS3, ?_⟩
      simp only [Act.put, List.setIfInBounds_toArray, List.set_cons_succ, List.set_cons_zero]
      refine held_take 15 34 _ (.int .i64 (ST + 31)) rfl rfl (by kernel_rfl) (by kernel_rfl) (by kernel_rfl) rfl hS3 (fun V _ => exec_add9 3 _ _ rfl ST 31 rfl rfl hadd.1 hadd.2) ?_
      simp only [Act.put, List.setIfInBounds_toArray, List.set_cons_succ, List.set_cons_zero]
      refine held_all1 17 (by kernel_rfl) (op_call 17 36 _ 29 #[.pointer (some ⟨L.g, 0, none⟩), .int .i64 (ST + 31), vb] rfl rfl rfl (exec_three8 29 _ _ _ _ rfl _ _ _ rfl rfl rfl Tryd.call29) ((program6_any L s (ST + 31) vb [0] _ (thePF.after hX1.fl hBb) segb (fun _ q hq e => by have h1 := hvb q hq; exact hTn q (by omega) e)).mono ?_))
      generalize programF s (ST + 31) [0] = PG at *
      rintro e1 w5 ⟨rfl, hD5, hc5⟩
      have hK5 := (hX1.blk.below hBb hX1.blk.lt).chg hc5 hX1.gT
      have hR5 := (hX1.row.after hBb).chg hc5 (fun q hq => (hX1.rT q hq).1)
      have hS5 := HCL.out w5 x hK5 hR5
      refine ⟨_, rfl, hS5, ?_⟩
      simp only [Act.put, List.setIfInBounds_toArray, List.set_cons_succ, List.set_cons_zero]
      refine held_all1 18 (by kernel_rfl) (op_call 18 37 _ 28 #[.pointer (some ⟨g, 0, none⟩), .int .i64 PG.1] rfl rfl rfl (exec_two8 28 _ _ _ rfl _ _ rfl rfl Tryd.call28) ((doneX L g j wv x PG.1 w5 hK5).mono ?_))
      rintro e1 w6 ⟨rfl, hK6, hc6⟩
      have hR6 := hR5.chg hc6 (fun q hq e => (hX1.rT q hq).2 e)
      have hD6 := hD5.chg hc6 (fun q hq e => hX1.gT (by rw [← e]; exact hq))
      have hS6 := HCL.out w6 _ hK6 hR6
      have hcW6 : Chg (bT L g wv) w w6 := ((hcW1.trans (Chg.of_below (S := bT L g wv) hBb (Nat.le_refl _)) (fun _ _ h => h)).trans hc5 (fun _ _ h => .inl h)).trans hc6 (fun _ _ h => .inr (.inl h))
      refine ⟨_, rfl, hS6, ?_⟩
      simp only [Act.put, List.setIfInBounds_toArray, List.set_cons_succ, List.set_cons_zero]
      refine held_all1 19 (by kernel_rfl) (op_value 19 6 _ (.int .i64 PG.1) w6 rfl rfl rfl rfl ⟨hS6, ?_⟩)
      simp only [Act.put, List.setIfInBounds_toArray, List.set_cons_succ, List.set_cons_zero]
      refine wpAnyH_done (by kernel_rfl) ?_ _
      refine NoPanic.normal ?_
      have hgT := hX1.gT
      have hrT := hX1.rT
      have hlenx := hX1.len
      clear HCL HST hS0 hS5 hS6 hX1 hc5 hc6 hK5 hR5 hD5 HRC HIXX
      by_cases hpg : PG.1 ≠ 0
      · have hne : (PG.1 != 0) = true := by simpa using hpg
        rw [if_neg hpg] at HAX
        have HX8 : Hid (BX w6 L g j base wv { x with br := true } PG.2) := ⟨by rw [← hne]; exact hK6, hR6, hD6, hgT, hrT, hlenx⟩
        clear hK6 hR6 hD6
        go_wp2
        go_ret
        rw [HAX.out]
        exact ⟨wv, rfl, HX8.out, rfl, hcW6⟩
      have hpg0 : PG.1 = 0 := by omega
      rw [if_pos hpg0] at HAX
      have hbz : (PG.1 != 0) = false := by rw [hpg0]; rfl
      rw [hbz] at hK6
      rw [hpg0]
      clear hpg hpg0 hbz
      have d2 : w6.cell? ⟨g, 2, none⟩ = some (.slice (some ⟨b, 0, none⟩) x.wt.length c') := (hK6.cell (j := 2) rfl).trans (congrArg some HWV.out)
      have hwi : IntKind.i64.wrap ((i : Int) + 1) = (i : Int) + 1 := by rw [IntKind.wrap_i64]; omega
      have HDL : Hid (Calls Tryd.prog 34 #[.slice (some ⟨b, 0, none⟩) x.wt.length c', .int .i64 (i : Int), .int .i64 ((i : Int) + 1)] w6 fun e w' => ∃ v', e = .returned v' ∧ WtR w' base v' (x.wt.eraseIdx i) ∧ v'.ownBlock = wv.ownBlock ∧ Chg (fun q => wv.ownBlock = some q) w6 w') := by
        have := deleteX base wv x.wt i w6 (by omega) hil hR6
        have h2 := deleteX base wv x.wt i w6 (by omega) hil hR6
        clear this
        rw [← HWV.out]
        exact h2
      go_wp2_with fail
      refine HDL.out.mono ?_
      rintro e1 w7 ⟨v7, rfl, hR7, hv7, hc7⟩
      clear HDL d2 hwi
      have hK7 := hK6.chg hc7 (fun e => (hrT _ e).2 rfl)
      have hD7 := hD6.chg hc7 (fun q hq e => (hrT q e).1 hq)
      obtain ⟨va, vc, hv7e⟩ := hR7.shape
      have f2 := hK7.frozen 2
      have g2 := hK7.cell (j := 2) rfl
      have hcN : Chg (fun q => q = g) w7 (w7.setCell ⟨g, 2, none⟩ v7) := (Chg.refl _ _).setCell g 2 _ (fun _ => rfl)
      have hKN : Blk (w7.setCell ⟨g, 2, none⟩ v7) g 67 (boxC L j v7 ⟨x.wt.eraseIdx i, x.last, false⟩) := (hK7.set 2 v7).of_eq rfl
      have hgR : ∀ q, v7.ownBlock = some q → ¬ L.T q ∧ q ≠ g := fun q hq => hrT q (by rw [← hv7]; exact hq)
      have HXN : Hid (BX (w7.setCell ⟨g, 2, none⟩ v7) L g j base v7 ⟨x.wt.eraseIdx i, x.last, false⟩ PG.2) := ⟨hKN, hR7.chg hcN (fun q hq e => (hgR q hq).2 e), hD7.chg hcN (fun q hq e => hgT (by rw [← e]; exact hq)), hgT, hgR, Nat.le_trans (List.length_eraseIdx_le ..) hlenx⟩
      have HCN : Hid (Chg (bT L g wv) w (w7.setCell ⟨g, 2, none⟩ v7)) := (hcW6.trans hc7 (fun _ _ h => .inr (.inr h))).trans hcN (fun _ _ h => .inr (.inl h))
      have HV7 : Hid (v7.ownBlock = wv.ownBlock) := hv7
      clear hKN hK6 hR6 hD6 hK7 hD7 hR7 hc7 hcN hgR hv7 hcW6 HWV hbo hrT
      subst hv7e
      go_wp2
      go_ret
      rw [HAX.out]
      exact ⟨_, rfl, HXN.out, HV7.out, HCN.out⟩
end Go.Proofs.YtgoehohadnkpdaaDoor
