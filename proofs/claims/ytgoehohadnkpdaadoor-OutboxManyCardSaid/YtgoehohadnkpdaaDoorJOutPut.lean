/-
  What is proved here: Box.Put lets a report wait.
  Conditions: the box and its flash lie in memory, the power is on, the two blocks are there; the variable fourBits holds the sixteen words.
-/
import Derived.Test.YtgoehohadnkpdaaDoorJOutRoom
import Derived.Test.YtgoehohadnkpdaaDoorJOutEnc
namespace Go.Proofs.YtgoehohadnkpdaaDoor
open Go.RowKit

/-- Blocks that a change of a box writes. -/
def bT (L : PLay6) (g : Nat) (wv : Value) (q : Nat) : Prop := L.T q ∨ q = g ∨ wv.ownBlock = some q
theorem info_rep12 : (Tryd.prog.info? 23).map (·.size) = some 4 := by kernel_rfl
theorem exec_allocX {a : Act} {o : Oper} {w : World} (ho : o.op = .alloc 63) : (execOp a.eval o).run Tryd.prog w = .ok (.value (.pointer (some ⟨w.heap.size, 0, none⟩))) (w.alloc (.cells #[.int .i64 0, .int .i64 0, .int .i64 0, .int .i64 0, .int .i64 0, .int .i64 0, .int .i64 0] 63)) := by
  unfold execOp
  simp only [ho]
  simp [go_sem]
theorem exec_storeX {a : Act} {o : Oper} {w : World} (x y : Operand) (ho : o.op = .store 65 x y) (g i : Nat) (ao : Option Addr) (n c : Nat) (u : Value) (hx : a.eval x = .pointer (some ⟨g, i, none⟩)) (hy : a.eval y = .slice ao n c) (hc : w.cell? ⟨g, i, none⟩ = some u) (hf : w.frozen? ⟨g, i, none⟩ = false) : (execOp a.eval o).run Tryd.prog w = .ok .skip (w.setCell ⟨g, i, none⟩ (.slice ao n c)) := by
  unfold execOp
  simp only [ho, hx, hy]
  simp [go_sem, hc, hf]
theorem exec_mkX {a : Act} {o : Oper} {w : World} (x : Operand) (ho : o.op = .buildSlice 65 1 #[(0, x)]) (e : XE) (hx : a.eval x = .agg (xeL e).toArray) : (execOp a.eval o).run Tryd.prog w = .ok (.value (.slice (some ⟨w.heap.size, 0, none⟩) 1 1)) (w.alloc (.cells (xeL e).toArray 63)) := by
  unfold xeL at hx ⊢
  generalize hy : a.eval x = y at hx
  subst hx
  unfold execOp
  simp only [ho]
  simp only [List.map_toArray, List.map_cons, List.map_nil, hy]
  simp [go_sem]
theorem roomX_le {x : XS} (hw : x.last.wh ≤ 1) (j : Nat) (s : FS) : (roomX x j s).1.1 ≤ 1 ∧ (roomX x j s).1.2 ≤ 31 ∧ (roomX x j s).2.2.1.wt = x.wt ∧ (roomX x j s).2.2.1.last = x.last := by
  unfold roomX
  split
  · rename_i i hi
    refine ⟨hw, ?_, rfl, rfl⟩
    unfold roomI at hi
    have := List.mem_range.1 (List.mem_of_find?_eq_some hi)
    show i ≤ 31
    omega
  · split
    · exact ⟨Nat.zero_le _, Nat.zero_le _, rfl, rfl⟩
    · exact ⟨by show 1 - x.last.wh ≤ 1; omega, Nat.zero_le _, rfl, rfl⟩

set_option maxRecDepth 100000 in
set_option maxHeartbeats 8000000 in
theorem putP (L : PLay6) (s : FS) (g j base : Nat) (wv : Value) (x : XS) (r : RP) (w : World) (h : BX w L g j base wv x s) (hdn : s.down = false) (hj : j + 1 < L.n) (hw : x.last.wh ≤ 1) (hl0 : -1 ≤ x.last.la) (hl1 : x.last.la ≤ 31) (hseq : x.last.seq ≤ 1073741824) (hlen : x.wt.length < 1000) (hbs : base ≤ w.heap.size) (hgf : 1 < w.heap.size) (hf : Tab w 1 (fours.map v32)) (hgL : ¬ L.T 1) (hgg : 1 ≠ g) :
    Calls Tryd.prog 13 #[.pointer (some ⟨g, 0, none⟩), rpV r] w fun e w' => ∃ wv', e = .returned (.tuple #[.int .i64 ((putX x j s r).1 : Int), .int .i64 (putX x j s r).2.1]) ∧ BX w' L g j base wv' (putX x j s r).2.2.1 (putX x j s r).2.2.2 ∧ (∀ q, wv'.ownBlock = some q → wv.ownBlock = some q ∨ w.heap.size ≤ q) ∧ Chg (bT L g wv) w w' := by
  have hgl := h.blk.lt
  have hgn : g ≠ w.heap.size := by omega
  have hlw := h.fl.lt
  obtain ⟨Br, hBr⟩ : ∃ B, B = w.heap.size := ⟨_, rfl⟩
  have hbA := (Below.refl w.heap.size w).alloc (Nat.le_refl _) (.cells (rpL r).toArray 23)
  have kR := Blk.new w 23 (rpL r).toArray
  rw [← hBr] at kR
  have hXA := h.after hbA
  have hfA := hf.below hbA hgf
  have HPX : Hid (putX x j s r = if x.br then (0, 10, x, s) else if rightO r = false then (0, 1, x, s) else if x.last.seq = 1073741824 then (0, 3, x, s) else if (roomX x j s).2.1 = 0 then progX (roomX x j s).2.2.1 j (roomX x j s).2.2.2 r (roomX x j s).1.1 (roomX x j s).1.2 else (0, (roomX x j s).2.1, (roomX x j s).2.2.1, (roomX x j s).2.2.2)) := rfl
  generalize putX x j s r = PX at *
  have HRI : Hid (∀ W, Calls Tryd.prog 9 #[rpV r] W fun e w' => e = .returned (.bool (rightO r)) ∧ Below W.heap.size W w') := rightX r
  have c10 : w.cell? ⟨g, 10, none⟩ = some (.bool x.br) := h.blk.cell (j := 10) rfl
  by_cases hbr : x.br = true
  · rw [if_pos hbr] at HPX
    rw [hbr] at c10
    unfold rpV rpL at *
    go_enter Tryd.func13, Tryd.ntmps13
    go_wp2
    go_ret2
    rw [HPX.out]
    exact ⟨wv, rfl, hXA, fun q hq => .inl hq, (Chg.refl _ _).alloc _⟩
  have hbf : x.br = false := by simpa using hbr
  rw [if_neg hbr] at HPX
  rw [hbf] at c10
  cases hri : rightO r with
  | false =>
    rw [hri] at HPX HRI
    rw [if_pos rfl] at HPX
    unfold rpV at *
    unfold rpL at *
    go_enter Tryd.func13, Tryd.ntmps13
    go_wp2_with fail
    refine (HRI.out _).mono ?_
    rintro e w1 ⟨rfl, hb1⟩
    have hb2 := hbA.trans (hb1.mono hbA.size)
    have hX1 := h.after hb2
    go_wp2
    go_ret2
    rw [HPX.out]
    exact ⟨wv, rfl, hX1, fun q hq => .inl hq, Chg.of_below hb2 (Nat.le_refl _)⟩
  | true =>
    have hok : r.ok := by unfold rightO at hri; exact of_decide_eq_true hri
    rw [hri] at HPX HRI
    rw [if_neg (by decide)] at HPX
    have HEN : Hid (∀ (wh : Nat) (la : Int) (W : World), x.last.seq + 1 ≤ 1073741824 → 1 < W.heap.size → Tab W 1 (fours.map v32) → Calls Tryd.prog 31 #[xeV ⟨x.last.seq + 1, r, wh, la⟩] W fun e w' => ∃ v, e = .returned v ∧ Own w' W.heap.size v (entO (x.last.seq + 1) r) ∧ Below W.heap.size W w') := fun wh la W h0 h1 h2 => encodeX (x.last.seq + 1) r wh la W h0 hok h1 h2
    clear hok hri
    have HRP : Hid (rpL r = [.int .i64 r.c, .int .i64 r.l, .int .i64 r.v, .int .i64 r.o]) := rfl
    have HKR : Hid (∀ V, Blk V Br 23 (rpL r).toArray → V.rangeAt Br 0 [.int .i64 r.c, .int .i64 r.l, .int .i64 r.v, .int .i64 r.o]) := fun V hV => hV.range'
    unfold rpV at *
    rw [HRP.out]
    rw [HRP.out] at hbA hXA hfA kR HRI
    go_enter Tryd.func13, Tryd.ntmps13
    go_wp2_with fail
    refine (HRI.out _).mono ?_
    rintro e w1 ⟨rfl, hb1⟩
    rw [← hBr]
    have hB1 : Below w.heap.size w w1 := hbA.trans (hb1.mono hbA.size)
    have kR1 := kR.below hb1 kR.lt
    have hX1 := h.after hB1
    have hf1 := hf.below hB1 hgf
    have hBw : w.heap.size ≤ Br := by omega
    clear hBr kR hXA hfA hbA hb1 HRI c10 hgn
    have d3 : w1.cell? ⟨g, 3, none⟩ = some (.int .i64 (x.last.seq : Int)) := hX1.blk.cell (j := 3) rfl
    by_cases hsq : x.last.seq = 1073741824
    · rw [if_pos hsq] at HPX
      rw [hsq] at d3
      go_wp2
      go_ret2
      rw [HPX.out]
      exact ⟨wv, rfl, hX1, fun q hq => .inl hq, Chg.of_below hB1 (Nat.le_refl _)⟩
    rw [if_neg hsq] at HPX
    have hsb : ((x.last.seq : Int) == 1073741824) = false := beq_eq_false_iff_ne.2 (by omega)
    have HRM : Hid (Calls Tryd.prog 27 #[.pointer (some ⟨g, 0, none⟩)] w1 fun e w' => e = .returned (.tuple #[.agg #[.int .i64 ((roomX x j s).1.1 : Int), .int .i64 ((roomX x j s).1.2 : Int)], .int .i64 (roomX x j s).2.1]) ∧ BX w' L g j base wv (roomX x j s).2.2.1 (roomX x j s).2.2.2 ∧ Chg (fun q => L.T q ∨ q = g) w1 w') := roomP L s g j base wv x w1 hX1 hdn hj hw hl0 hl1
    obtain ⟨hr1, hr2, hr3, hr4⟩ := roomX_le hw j s
    generalize roomX x j s = RX at *
    obtain ⟨⟨wn, ix⟩, cd, xr, s1⟩ := RX
    dsimp only at HPX HRM hr1 hr2 hr3 hr4
    have HSQ : Hid (x.last.seq + 1 ≤ 1073741824) := by show _ ≤ _; omega
    have HSN : Hid (¬ x.last.seq = 1073741824) := hsq
    clear hsq hseq
    generalize hsqe : (x.last.seq : Int) = SQ at *
    have HSE : Hid (((x.last.seq : Nat) : Int) = SQ) := hsqe
    clear hsqe
    go_wp2_with fail
    refine HRM.out.mono ?_
    rintro e w2 ⟨rfl, hX2, hc2⟩
    clear HRM d3 hsb
    have hTn : ∀ q, w.heap.size ≤ q → ¬ (L.T q ∨ q = g) := fun q hq e => by rcases e with e | e; (have := hlw q e; omega); omega
    have kR2 := kR1.chg hc2 (hTn _ hBw)
    have hs1 := hB1.size
    have hs2 := hc2.size
    have hf2 := hf1.chg hc2 (by omega) (by rintro (e | e); exact hgL e; exact hgg e)
    have hcW2 : Chg (bT L g wv) w w2 := (Chg.of_below (S := bT L g wv) hB1 (Nat.le_refl _)).trans hc2 (fun q _ e => by rcases e with e | e; exact .inl e; exact .inr (.inl e))
    have hrow : ∀ q, wv.ownBlock = some q → q < w.heap.size := fun q hq => (h.row.lt q hq).2
    clear kR1 hf1 hX1 hc2 hB1
    obtain ⟨P5, hP5⟩ : ∃ B, B = w2.heap.size := ⟨_, rfl⟩
    have hbP := (Below.refl w2.heap.size w2).alloc (Nat.le_refl _) (.cells #[.int .i64 (wn : Int), .int .i64 (ix : Int)] 61)
    have kP : Blk (w2.alloc (.cells #[.int .i64 (wn : Int), .int .i64 (ix : Int)] 61)) P5 61 #[.int .i64 (wn : Int), .int .i64 (ix : Int)] := by rw [hP5]; exact Blk.new _ _ _
    have kR3 := kR2.below hbP kR2.lt
    have hX3 := hX2.after hbP
    have hf3 := hf2.below hbP (by omega)
    have hcW3 : Chg (bT L g wv) w (w2.alloc (.cells #[.int .i64 (wn : Int), .int .i64 (ix : Int)] 61)) := hcW2.alloc _
    by_cases hcd : cd ≠ 0
    · have hne : (cd != 0) = true := by simpa using hcd
      rw [if_neg hcd] at HPX
      clear hX2
      go_wp2
      go_ret2
      rw [HPX.out]
      exact ⟨wv, rfl, hX3, fun q hq => .inl hq, hcW3⟩
    have hcd0 : cd = 0 := by omega
    rw [if_pos hcd0] at HPX
    subst hcd0
    clear hcd hX2 hcW2 hf2 kR2
    go_wp2_with fail
    rw [← hP5]
    generalize w2.alloc (.cells #[.int .i64 (wn : Int), .int .i64 (ix : Int)] 61) = w3 at *
    have hPw : w.heap.size ≤ P5 := by omega
    clear hP5 hbP
    have hXS : Hid (xr.last.seq = x.last.seq ∧ xr.wt = x.wt) := by rw [hr4]; exact ⟨rfl, hr3⟩
    clear hr3 hr4
    have HPG : Hid (progX xr j s1 r wn ix = if (programF s1 ((1024 * (j + wn) + 32 * ix : Nat) : Int) (entO (x.last.seq + 1) r)).1 = 0 then (x.last.seq + 1, 0, ⟨x.wt ++ [⟨x.last.seq + 1, r, wn, (ix : Int)⟩], ⟨x.last.seq + 1, r, wn, (ix : Int)⟩, false⟩, (programF s1 ((1024 * (j + wn) + 32 * ix : Nat) : Int) (entO (x.last.seq + 1) r)).2) else (0, (programF s1 ((1024 * (j + wn) + 32 * ix : Nat) : Int) (entO (x.last.seq + 1) r)).1, { xr with br := true }, (programF s1 ((1024 * (j + wn) + 32 * ix : Nat) : Int) (entO (x.last.seq + 1) r)).2)) := by show _ = _; unfold progX; rw [hXS.out.1, hXS.out.2]
    rw [HPG.out] at HPX
    clear HPG
    obtain ⟨SN, hSN⟩ : ∃ SN, SN = x.last.seq + 1 := ⟨_, rfl⟩
    rw [← hSN] at HPX HEN HSQ
    have hadd : SQ + 1 = (SN : Int) := by have := HSE.out; omega
    have hAT : ((1024 * (j + wn) + 32 * ix : Nat) : Int) = ((j : Int) + (wn : Int)) * 1024 + (ix : Int) * 32 := by omega
    rw [hAT] at HPX
    clear hAT
    have hSQ0 : 0 ≤ SQ ∧ SQ ≤ 1073741824 := by have := HSE.out; have := HSQ.out; omega
    have hwt := hXS.out.2
    have hg3 : ∀ V, Blk V g 67 (boxC L j wv xr) → V.cell? ⟨g, 3, none⟩ = some (.int .i64 SQ) := fun V hV => by rw [← HSE.out, ← hXS.out.1]; exact hV.cell (j := 3) rfl
    have HG3 : Hid (∀ V, Blk V g 67 (boxC L j wv xr) → V.cell? ⟨g, 3, none⟩ = some (.int .i64 SQ)) := hg3
    have hcap := hX3.fl.ok.cap
    clear hg3 hSN HSE HSN
    have HC10 : Hid (∀ V, Below w3.heap.size w3 V → V.cell? ⟨g, 3, none⟩ = some (.int .i64 SQ) ∧ V.rangeAt Br 0 [.int .i64 r.c, .int .i64 r.l, .int .i64 r.v, .int .i64 r.o] ∧ V.rangeAt P5 0 [.int .i64 (wn : Int), .int .i64 (ix : Int)]) := fun V hV => ⟨HG3.out V (hX3.blk.below hV hX3.blk.lt), HKR.out V (kR3.below hV kR3.lt), (kP.below hV kP.lt).range'⟩
    have hS0 := HC10.out w3.drew (Below.refl _ _).drew
    refine held_begin (fun V => V.cell? ⟨g, 3, none⟩ = some (.int .i64 SQ) ∧ V.rangeAt Br 0 [.int .i64 r.c, .int .i64 r.l, .int .i64 r.v, .int .i64 r.o] ∧ V.rangeAt P5 0 [.int .i64 (wn : Int), .int .i64 (ix : Int)]) (by kernel_rfl) ?_
    refine held_take 0 34 _ (.pointer (some ⟨g, 0, none⟩)) rfl rfl (by kernel_rfl) (by kernel_rfl) (by kernel_rfl) rfl hS0 (fun _ _ => rfl) ?_
    simp only [Act.put, List.setIfInBounds_toArray, List.set_cons_succ, List.set_cons_zero]
    refine held_take 1 35 _ (.pointer (some ⟨g, 0, none⟩)) rfl rfl (by kernel_rfl) (by kernel_rfl) (by kernel_rfl) rfl hS0 (fun _ _ => rfl) ?_
    simp only [Act.put, List.setIfInBounds_toArray, List.set_cons_succ, List.set_cons_zero]
    refine held_take 2 36 _ (.pointer (some ⟨g, 3, none⟩)) rfl rfl (by kernel_rfl) (by kernel_rfl) (by kernel_rfl) rfl hS0 (fun _ _ => rfl) ?_
    simp only [Act.put, List.setIfInBounds_toArray, List.set_cons_succ, List.set_cons_zero]
    refine held_take 3 37 _ (.pointer (some ⟨g, 3, none⟩)) rfl rfl (by kernel_rfl) (by kernel_rfl) (by kernel_rfl) rfl hS0 (fun _ _ => rfl) ?_
    simp only [Act.put, List.setIfInBounds_toArray, List.set_cons_succ, List.set_cons_zero]
    refine held_take 4 38 _ (.int .i64 SQ) rfl rfl (by kernel_rfl) (by kernel_rfl) (by kernel_rfl) rfl hS0 (fun V hV => exec_loadc 3 _ rfl _ _ rfl (load_one 3 (fun _ => by kernel_rfl) V _ _ _ hV.1)) ?_
    simp only [Act.put, List.setIfInBounds_toArray, List.set_cons_succ, List.set_cons_zero]
    refine held_take 5 39 _ (.int .i64 (SN : Int)) rfl rfl (by kernel_rfl) (by kernel_rfl) (by kernel_rfl) rfl hS0 (fun V _ => by rw [← hadd]; exact exec_add9 3 _ _ rfl SQ 1 rfl rfl (by omega) (by omega)) ?_
    simp only [Act.put, List.setIfInBounds_toArray, List.set_cons_succ, List.set_cons_zero]
    refine held_take 6 40 _ (.agg #[.int .i64 r.c, .int .i64 r.l, .int .i64 r.v, .int .i64 r.o]) rfl rfl (by kernel_rfl) (by kernel_rfl) (by kernel_rfl) rfl hS0 (fun V hV => exec_loads 23 _ rfl Br 0 rfl [.int .i64 r.c, .int .i64 r.l, .int .i64 r.v, .int .i64 r.o] _ hV.2.1 Tryd.underlying23 rfl info_rep12) ?_
    simp only [Act.put, List.setIfInBounds_toArray, List.set_cons_succ, List.set_cons_zero]
    refine held_take 7 41 _ (.agg #[.int .i64 (wn : Int), .int .i64 (ix : Int)]) rfl rfl (by kernel_rfl) (by kernel_rfl) (by kernel_rfl) rfl hS0 (fun V hV => exec_loads 61 _ rfl P5 0 rfl [.int .i64 (wn : Int), .int .i64 (ix : Int)] _ hV.2.2 Tryd.underlying61 rfl info_place12) ?_
    simp only [Act.put, List.setIfInBounds_toArray, List.set_cons_succ, List.set_cons_zero]
    refine held_take 8 42 _ (.agg #[.int .i64 (SN : Int), .int .i64 r.c, .int .i64 r.l, .int .i64 r.v, .int .i64 r.o, .int .i64 (wn : Int), .int .i64 (ix : Int)]) rfl rfl (by kernel_rfl) (by kernel_rfl) (by kernel_rfl) rfl hS0 (fun _ _ => by kernel_rfl) ?_
    simp only [Act.put, List.setIfInBounds_toArray, List.set_cons_succ, List.set_cons_zero]
    have hbE := ((Below.refl w3.heap.size w3).drew).alloc (Nat.le_refl _) (.cells #[.int .i64 0, .int .i64 0, .int .i64 0, .int .i64 0, .int .i64 0, .int .i64 0, .int .i64 0] 63)
    have kE := Blk.new w3.drew 63 #[.int .i64 0, .int .i64 0, .int .i64 0, .int .i64 0, .int .i64 0, .int .i64 0, .int .i64 0]
    have hSa := HC10.out _ hbE
    refine held_all1 9 (by kernel_rfl) (op_value 9 8 _ (.pointer (some ⟨w3.drew.heap.size, 0, none⟩)) _ rfl rfl rfl (exec_allocX rfl) ⟨hSa, ?_⟩)
    simp only [Act.put, List.setIfInBounds_toArray, List.set_cons_succ, List.set_cons_zero]
    refine held_all1 10 (by kernel_rfl) (op_row 10 _ rfl rfl rfl 63 _ _ rfl w3.drew.heap.size #[.int .i64 (SN : Int), .int .i64 r.c, .int .i64 r.l, .int .i64 r.v, .int .i64 r.o, .int .i64 (wn : Int), .int .i64 (ix : Int)] rfl rfl 63 _ kE info_ent12 rfl (by simp [Value.oneCell']) ?_)
    intro w4 kE4 hg4 hs4
    have hb4 : Below w3.heap.size w3 w4 := below_grown hbE hg4 hbE.size (fun q hq => by have h2 : w3.drew.heap.size = q := Option.some.inj hq; rw [← h2]; exact Nat.le_refl _)
    refine ⟨HC10.out w4 hb4, ?_⟩
    refine wpAnyH_done (by kernel_rfl) ?_ _
    refine NoPanic.normal ?_
    obtain ⟨Be, hBe⟩ : ∃ B, B = w3.drew.heap.size := ⟨_, rfl⟩
    rw [← hBe] at kE4 ⊢
    have hBe2 : w3.heap.size ≤ Be := by rw [hBe]; exact Nat.le_refl _
    have hX4 := hX3.after hb4
    have kP4 := kP.below hb4 kP.lt
    have hf4 := hf3.below hb4 (by have := hcW3.size; omega)
    have hcW4 : Chg (bT L g wv) w w4 := hcW3.trans (Chg.of_below (S := bT L g wv) hb4 (Nat.le_refl _)) (fun _ _ h => h)
    have hs3 := hcW3.size
    clear hBe hSa hS0 HC10 HKR HG3 hg4 hs4 hbE kE hX3 kP hf3 hcW3 kR3 hb4
    obtain ⟨AT, hAT⟩ : ∃ AT : Int, AT = ((j : Int) + (wn : Int)) * 1024 + (ix : Int) * 32 := ⟨_, rfl⟩
    rw [← hAT] at HPX
    have HST : Hid (∀ V, Blk V g 67 (boxC L j wv xr) → Calls Tryd.prog 30 #[.pointer (some ⟨g, 0, none⟩), .agg #[.int .i64 (wn : Int), .int .i64 (ix : Int)]] V fun e w' => e = .returned (.int .i64 AT) ∧ Below V.heap.size V w') := fun V hV => by rw [hAT]; exact startP L g j wv xr wn (ix : Int) V hV (by omega) hr1 (by omega) (by omega)
    clear hAT
    have HEC : Hid (∀ (W : World), 1 < W.heap.size → Tab W 1 (fours.map v32) → Calls Tryd.prog 31 #[.agg #[.int .i64 (SN : Int), .int .i64 r.c, .int .i64 r.l, .int .i64 r.v, .int .i64 r.o, .int .i64 (wn : Int), .int .i64 (ix : Int)]] W fun e w' => ∃ v, e = .returned v ∧ Own w' W.heap.size v (entO SN r) ∧ Below W.heap.size W w') := fun W h1 h2 => HEN.out wn (ix : Int) W HSQ.out h1 h2
    have HEL : Hid ((entO SN r).length = 31) := entO_len _ _
    generalize entO SN r = EB at *
    have HCL : Hid (∀ V z, Blk V g 67 (boxC L j wv z) → Blk V P5 61 #[.int .i64 (wn : Int), .int .i64 (ix : Int)] → Blk V Be 63 #[.int .i64 (SN : Int), .int .i64 r.c, .int .i64 r.l, .int .i64 r.v, .int .i64 r.o, .int .i64 (wn : Int), .int .i64 (ix : Int)] → V.cell? ⟨g, 0, none⟩ = some (.pointer (some ⟨L.g, 0, none⟩)) ∧ V.rangeAt P5 0 [.int .i64 (wn : Int), .int .i64 (ix : Int)] ∧ V.rangeAt Be 0 [.int .i64 (SN : Int), .int .i64 r.c, .int .i64 r.l, .int .i64 r.v, .int .i64 r.o, .int .i64 (wn : Int), .int .i64 (ix : Int)]) := fun V z h1 h2 h3 => ⟨h1.cell (j := 0) rfl, h2.range', h3.range'⟩
    go_wp2_with fail
    have hS0 := HCL.out w4.drew xr hX4.blk.drew kP4.drew kE4.drew
    refine held_begin (fun V => V.cell? ⟨g, 0, none⟩ = some (.pointer (some ⟨L.g, 0, none⟩)) ∧ V.rangeAt P5 0 [.int .i64 (wn : Int), .int .i64 (ix : Int)] ∧ V.rangeAt Be 0 [.int .i64 (SN : Int), .int .i64 r.c, .int .i64 r.l, .int .i64 r.v, .int .i64 r.o, .int .i64 (wn : Int), .int .i64 (ix : Int)]) (by kernel_rfl) ?_
    refine held_take 0 43 _ (.pointer (some ⟨g, 0, none⟩)) rfl rfl (by kernel_rfl) (by kernel_rfl) (by kernel_rfl) rfl hS0 (fun _ _ => rfl) ?_
    simp only [Act.put, List.setIfInBounds_toArray, List.set_cons_succ, List.set_cons_zero]
    refine held_take 1 44 _ (.pointer (some ⟨g, 0, none⟩)) rfl rfl (by kernel_rfl) (by kernel_rfl) (by kernel_rfl) rfl hS0 (fun _ _ => rfl) ?_
    simp only [Act.put, List.setIfInBounds_toArray, List.set_cons_succ, List.set_cons_zero]
    refine held_take 2 45 _ (.pointer (some ⟨g, 0, none⟩)) rfl rfl (by kernel_rfl) (by kernel_rfl) (by kernel_rfl) rfl hS0 (fun _ _ => rfl) ?_
    simp only [Act.put, List.setIfInBounds_toArray, List.set_cons_succ, List.set_cons_zero]
    refine held_take 3 46 _ (.pointer (some ⟨g, 0, none⟩)) rfl rfl (by kernel_rfl) (by kernel_rfl) (by kernel_rfl) rfl hS0 (fun _ _ => rfl) ?_
    simp only [Act.put, List.setIfInBounds_toArray, List.set_cons_succ, List.set_cons_zero]
    refine held_take 4 47 _ (.pointer (some ⟨L.g, 0, none⟩)) rfl rfl (by kernel_rfl) (by kernel_rfl) (by kernel_rfl) rfl hS0 (fun V hV => exec_loadc 27 _ rfl _ _ rfl (load_one 27 (fun _ => by kernel_rfl) V _ _ _ hV.1)) ?_
    simp only [Act.put, List.setIfInBounds_toArray, List.set_cons_succ, List.set_cons_zero]
    refine held_take 5 48 _ (.pointer (some ⟨g, 0, none⟩)) rfl rfl (by kernel_rfl) (by kernel_rfl) (by kernel_rfl) rfl hS0 (fun _ _ => rfl) ?_
    simp only [Act.put, List.setIfInBounds_toArray, List.set_cons_succ, List.set_cons_zero]
    refine held_take 6 49 _ (.agg #[.int .i64 (wn : Int), .int .i64 (ix : Int)]) rfl rfl (by kernel_rfl) (by kernel_rfl) (by kernel_rfl) rfl hS0 (fun V hV => exec_loads 61 _ rfl P5 0 rfl [.int .i64 (wn : Int), .int .i64 (ix : Int)] _ hV.2.1 Tryd.underlying61 rfl info_place12) ?_
    simp only [Act.put, List.setIfInBounds_toArray, List.set_cons_succ, List.set_cons_zero]
    refine held_take 8 51 _ (.agg #[.int .i64 (SN : Int), .int .i64 r.c, .int .i64 r.l, .int .i64 r.v, .int .i64 r.o, .int .i64 (wn : Int), .int .i64 (ix : Int)]) rfl rfl (by kernel_rfl) (by kernel_rfl) (by kernel_rfl) rfl hS0 (fun V hV => exec_loads 63 _ rfl Be 0 rfl [.int .i64 (SN : Int), .int .i64 r.c, .int .i64 r.l, .int .i64 r.v, .int .i64 r.o, .int .i64 (wn : Int), .int .i64 (ix : Int)] _ hV.2.2 Tryd.underlying63 rfl info_ent12) ?_
    simp only [Act.put, List.setIfInBounds_toArray, List.set_cons_succ, List.set_cons_zero]
    refine held_all1 7 (by kernel_rfl) (op_call 7 50 _ 30 #[.pointer (some ⟨g, 0, none⟩), .agg #[.int .i64 (wn : Int), .int .i64 (ix : Int)]] rfl rfl rfl (exec_two8 30 _ _ _ rfl _ _ rfl rfl Tryd.call30) ((HST.out _ hX4.blk.drew).mono ?_))
    rintro e w5 ⟨rfl, hb5⟩
    have hB5 : Below w4.heap.size w4 w5 := ((Below.refl w4.heap.size w4).drew).trans hb5
    have hS5 := HCL.out w5 xr (hX4.blk.below hB5 hX4.blk.lt) (kP4.below hB5 kP4.lt) (kE4.below hB5 kE4.lt)
    have hs4 := hcW4.size
    refine ⟨_, rfl, hS5, ?_⟩
    simp only [Act.put, List.setIfInBounds_toArray, List.set_cons_succ, List.set_cons_zero]
    refine held_all1 9 (by kernel_rfl) (op_call 9 52 _ 31 #[.agg #[.int .i64 (SN : Int), .int .i64 r.c, .int .i64 r.l, .int .i64 r.v, .int .i64 r.o, .int .i64 (wn : Int), .int .i64 (ix : Int)]] rfl rfl rfl (exec_one 31 _ _ rfl _ rfl Tryd.call31) ((HEC.out w5 (by have := hB5.size; omega) (hf4.below hB5 (by omega))).mono ?_))
    rintro e w6 ⟨v6, rfl, ho6, hb6⟩
    have hB6 : Below w4.heap.size w4 w6 := hB5.trans (hb6.mono hB5.size)
    have hS6 := HCL.out w6 xr (hX4.blk.below hB6 hX4.blk.lt) (kP4.below hB6 kP4.lt) (kE4.below hB6 kE4.lt)
    refine ⟨_, rfl, hS6, ?_⟩
    simp only [Act.put, List.setIfInBounds_toArray, List.set_cons_succ, List.set_cons_zero]
    refine held_all1 10 (by kernel_rfl) (op_call 10 53 _ 29 #[.pointer (some ⟨L.g, 0, none⟩), .int .i64 AT, v6] rfl rfl rfl (exec_three8 29 _ _ _ _ rfl _ _ _ rfl rfl rfl Tryd.call29) ((program6_any L s1 AT v6 EB w6 (thePF.after hX4.fl hB6) ho6.seg (fun _ q hq h => by have h1 := (ho6.blocks q hq).1; have h2 := hlw q h; have h3 := hB5.size; omega)).mono ?_))
    rintro e w7 ⟨rfl, hD7, hc7⟩
    have hTn2 : ∀ q, w.heap.size ≤ q → ¬ L.T q := fun q hq e => by have := hlw q e; omega
    have hK7 := (hX4.blk.below hB6 hX4.blk.lt).chg hc7 hX4.gT
    have kP7 := (kP4.below hB6 kP4.lt).chg hc7 (hTn2 _ hPw)
    have kE7 := (kE4.below hB6 kE4.lt).chg hc7 (hTn2 _ (by omega))
    have hR7 := (hX4.row.after hB6).chg hc7 (fun q hq => (hX4.rT q hq).1)
    have hS7 := HCL.out w7 xr hK7 kP7 kE7
    generalize programF s1 AT EB = PG at *
    refine ⟨_, rfl, hS7, ?_⟩
    simp only [Act.put, List.setIfInBounds_toArray, List.set_cons_succ, List.set_cons_zero]
    refine held_all1 11 (by kernel_rfl) (op_call 11 54 _ 28 #[.pointer (some ⟨g, 0, none⟩), .int .i64 PG.1] rfl rfl rfl (exec_two8 28 _ _ _ rfl _ _ rfl rfl Tryd.call28) ((doneX L g j wv xr PG.1 w7 hK7).mono ?_))
    rintro e w8 ⟨rfl, hK8, hc8⟩
    have kE8 := kE7.chg hc8 (by omega)
    have kP8 := kP7.chg hc8 (by omega)
    have hR8 := hR7.chg hc8 (fun q hq e => (hX4.rT q hq).2 e)
    have hD8 := hD7.chg hc8 (fun q hq e => hX4.gT (by rw [← e]; exact hq))
    have hS8 := HCL.out w8 _ hK8 kP8 kE8
    have hcW8 : Chg (bT L g wv) w w8 := ((hcW4.trans (Chg.of_below (S := bT L g wv) hB6 (Nat.le_refl _)) (fun _ _ h => h)).trans hc7 (fun _ _ h => .inl h)).trans hc8 (fun _ _ h => .inr (.inl h))
    refine ⟨_, rfl, hS8, ?_⟩
    simp only [Act.put, List.setIfInBounds_toArray, List.set_cons_succ, List.set_cons_zero]
    refine held_all1 12 (by kernel_rfl) (op_value 12 9 _ (.int .i64 PG.1) w8 rfl rfl rfl rfl ⟨hS8, ?_⟩)
    simp only [Act.put, List.setIfInBounds_toArray, List.set_cons_succ, List.set_cons_zero]
    refine wpAnyH_done (by kernel_rfl) ?_ _
    refine NoPanic.normal ?_
    have hgT := hX4.gT
    have hrT := hX4.rT
    have hlenx := hX4.len
    clear HCL HST HEC HEN hS0 hS5 hS6 hS7 hS8 hX4 kP4 kE4 hf4 hcW4 hB5 hB6 hK7 kP7 kE7 hR7 hD7 hc7 hc8 ho6 hb5 hb6 kP8 HEL
    by_cases hpg : PG.1 ≠ 0
    · have hne : (PG.1 != 0) = true := by simpa using hpg
      rw [if_neg hpg] at HPX
      have HX8 : Hid (BX w8 L g j base wv { xr with br := true } PG.2) := ⟨by rw [← hne]; exact hK8, hR8, hD8, hgT, hrT, hlenx⟩
      clear hK8 hR8 hD8
      go_wp2
      go_ret2
      rw [HPX.out]
      exact ⟨wv, rfl, HX8.out, fun q hq => .inl hq, hcW8⟩
    have hpg0 : PG.1 = 0 := by omega
    rw [if_pos hpg0] at HPX
    have hbz : (PG.1 != 0) = false := by rw [hpg0]; rfl
    rw [hbz] at hK8
    rw [hpg0]
    clear hpg hpg0 hbz
    go_wp2_with fail
    have hS0 : w8.drew.rangeAt Be 0 [.int .i64 (SN : Int), .int .i64 r.c, .int .i64 r.l, .int .i64 r.v, .int .i64 r.o, .int .i64 (wn : Int), .int .i64 (ix : Int)] := kE8.drew.range'
    refine held_begin (fun V => V.rangeAt Be 0 [.int .i64 (SN : Int), .int .i64 r.c, .int .i64 r.l, .int .i64 r.v, .int .i64 r.o, .int .i64 (wn : Int), .int .i64 (ix : Int)]) (by kernel_rfl) ?_
    have hc2 : w8.drew.cell? ⟨g, 2, none⟩ = some wv := hK8.drew.cell (j := 2) rfl
    obtain ⟨wa, wn2, wc, hwv⟩ : ∃ a n c, wv = .slice a n c := by obtain ⟨a, c, h⟩ := h.row.shape; exact ⟨a, _, c, h⟩
    have hR8x : WtR w8.drew base wv x.wt := by rw [← hwt]; exact World.ownsRow.drew hR8
    obtain ⟨v9, w9, hap, hR9, hv9, hc9⟩ := hR8x.more ⟨SN, r, wn, (ix : Int)⟩ (by omega) (by have := hcW8.size; show base ≤ w8.heap.size; omega)
    have hc9b : Chg (fun q => wv.ownBlock = some q) w8 w9 := ((Chg.refl _ w8).drew).trans hc9 (fun _ _ h => h)
    have hrl : ∀ q, wv.ownBlock = some q → q < w8.heap.size := fun q hq => (hR8.lt q hq).2
    obtain ⟨va, vn, vc, hv9e⟩ : ∃ a n c, v9 = .slice a n c := by obtain ⟨a, c, h⟩ := hR9.shape; exact ⟨a, _, c, h⟩
    have kE9 := kE8.chg hc9b (fun e => by have := hrow _ e; omega)
    have hK9 := hK8.chg hc9b (fun e => (hrT _ e).2 rfl)
    have hS9 : w9.rangeAt Be 0 [.int .i64 (SN : Int), .int .i64 r.c, .int .i64 r.l, .int .i64 r.v, .int .i64 r.o, .int .i64 (wn : Int), .int .i64 (ix : Int)] := kE9.range'
    have hD9 := hD8.chg hc9b (fun q hq e => (hrT q e).1 hq)
    have hSM : (w8.drew.alloc (.cells (xeL ⟨SN, r, wn, (ix : Int)⟩).toArray 63)).rangeAt Be 0 [.int .i64 (SN : Int), .int .i64 r.c, .int .i64 r.l, .int .i64 r.v, .int .i64 r.o, .int .i64 (wn : Int), .int .i64 (ix : Int)] := (kE8.drew.alloc _).range'
    refine held_take 0 58 _ (.pointer (some ⟨g, 0, none⟩)) rfl rfl (by kernel_rfl) (by kernel_rfl) (by kernel_rfl) rfl hS0 (fun _ _ => rfl) ?_
    simp only [Act.put, List.setIfInBounds_toArray, List.set_cons_succ, List.set_cons_zero]
    refine held_take 1 59 _ (.pointer (some ⟨g, 0, none⟩)) rfl rfl (by kernel_rfl) (by kernel_rfl) (by kernel_rfl) rfl hS0 (fun _ _ => rfl) ?_
    simp only [Act.put, List.setIfInBounds_toArray, List.set_cons_succ, List.set_cons_zero]
    refine held_take 2 60 _ (.agg #[.int .i64 (SN : Int), .int .i64 r.c, .int .i64 r.l, .int .i64 r.v, .int .i64 r.o, .int .i64 (wn : Int), .int .i64 (ix : Int)]) rfl rfl (by kernel_rfl) (by kernel_rfl) (by kernel_rfl) rfl hS0 (fun V hV => exec_loads 63 _ rfl Be 0 rfl [.int .i64 (SN : Int), .int .i64 r.c, .int .i64 r.l, .int .i64 r.v, .int .i64 r.o, .int .i64 (wn : Int), .int .i64 (ix : Int)] _ hV Tryd.underlying63 rfl info_ent12) ?_
    simp only [Act.put, List.setIfInBounds_toArray, List.set_cons_succ, List.set_cons_zero]
    refine held_take 3 61 _ (.pointer (some ⟨g, 0, none⟩)) rfl rfl (by kernel_rfl) (by kernel_rfl) (by kernel_rfl) rfl hS0 (fun _ _ => rfl) ?_
    simp only [Act.put, List.setIfInBounds_toArray, List.set_cons_succ, List.set_cons_zero]
    refine held_take 4 62 _ (.pointer (some ⟨g, 0, none⟩)) rfl rfl (by kernel_rfl) (by kernel_rfl) (by kernel_rfl) rfl hS0 (fun _ _ => rfl) ?_
    simp only [Act.put, List.setIfInBounds_toArray, List.set_cons_succ, List.set_cons_zero]
    refine held_take 5 63 _ (.pointer (some ⟨g, 2, none⟩)) rfl rfl (by kernel_rfl) (by kernel_rfl) (by kernel_rfl) rfl hS0 (fun _ _ => rfl) ?_
    simp only [Act.put, List.setIfInBounds_toArray, List.set_cons_succ, List.set_cons_zero]
    refine held_take 7 65 _ (.agg #[.int .i64 (SN : Int), .int .i64 r.c, .int .i64 r.l, .int .i64 r.v, .int .i64 r.o, .int .i64 (wn : Int), .int .i64 (ix : Int)]) rfl rfl (by kernel_rfl) (by kernel_rfl) (by kernel_rfl) rfl hS0 (fun V hV => exec_loads 63 _ rfl Be 0 rfl [.int .i64 (SN : Int), .int .i64 r.c, .int .i64 r.l, .int .i64 r.v, .int .i64 r.o, .int .i64 (wn : Int), .int .i64 (ix : Int)] _ hV Tryd.underlying63 rfl info_ent12) ?_
    simp only [Act.put, List.setIfInBounds_toArray, List.set_cons_succ, List.set_cons_zero]
    refine held_all2 6 8 (by kernel_rfl) ?_ ?_
    · skip
      refine op_value 6 64 _ wv w8.drew rfl rfl rfl (exec_loadc 65 _ rfl _ _ rfl (load_one 65 (fun _ => by kernel_rfl) _ _ _ _ hc2)) ⟨hS0, ?_⟩
      simp only [Act.put, List.setIfInBounds_toArray, List.set_cons_succ, List.set_cons_zero]
      refine held_all1 8 (by kernel_rfl) (op_value 8 66 _ (.slice (some ⟨w8.drew.heap.size, 0, none⟩) 1 1) _ rfl rfl rfl (exec_mkX (.tmp 65) rfl ⟨SN, r, wn, (ix : Int)⟩ rfl) ⟨hSM, ?_⟩)
      simp only [Act.put, List.setIfInBounds_toArray, List.set_cons_succ, List.set_cons_zero]
      refine held_all1 9 (by kernel_rfl) (op_value 9 67 _ v9 w9 rfl rfl rfl (exec_app (.tmp 64) (.tmp 66) 65 65 rfl wv (.slice (some ⟨w8.drew.heap.size, 0, none⟩) 1 1) v9 rfl rfl hap) ⟨hS9, ?_⟩)
      simp only [Act.put, List.setIfInBounds_toArray, List.set_cons_succ, List.set_cons_zero]
      refine held_take 10 68 _ (.pointer (some ⟨g, 0, none⟩)) rfl rfl (by kernel_rfl) (by kernel_rfl) (by kernel_rfl) rfl hS9 (fun _ _ => rfl) ?_
      simp only [Act.put, List.setIfInBounds_toArray, List.set_cons_succ, List.set_cons_zero]
      refine held_take 11 69 _ (.pointer (some ⟨g, 3, none⟩)) rfl rfl (by kernel_rfl) (by kernel_rfl) (by kernel_rfl) rfl hS9 (fun _ _ => rfl) ?_
      simp only [Act.put, List.setIfInBounds_toArray, List.set_cons_succ, List.set_cons_zero]
      refine held_all1 12 (by kernel_rfl) (op_mid9 12 _ rfl rfl rfl 63 _ _ rfl g 3 #[.int .i64 (SN : Int), .int .i64 r.c, .int .i64 r.l, .int .i64 r.v, .int .i64 r.o, .int .i64 (wn : Int), .int .i64 (ix : Int)] rfl rfl 67 _ #[.pointer (some ⟨L.g, 0, none⟩), .int .i64 (j : Int), wv, .int .i64 (SN : Int), .int .i64 r.c, .int .i64 r.l, .int .i64 r.v, .int .i64 r.o, .int .i64 (wn : Int), .int .i64 (ix : Int), .bool false] hK9 info_ent12 (by show 10 ≤ 11; decide) (by simp [Value.oneCell']) (by simp [boxC, splice]) ?_)
      intro w10 hK10 hg10
      have hc10 : Chg (fun q => q = g) w9 w10 := Chg.of_grown hg10 (fun k e => by cases e; rfl)
      have kE10 := kE9.chg hc10 (by omega)
      have hS10 : w10.rangeAt Be 0 [.int .i64 (SN : Int), .int .i64 r.c, .int .i64 r.l, .int .i64 r.v, .int .i64 r.o, .int .i64 (wn : Int), .int .i64 (ix : Int)] := kE10.range'
      refine ⟨hS10, ?_⟩
      refine held_take 13 70 _ (.pointer (some ⟨g, 0, none⟩)) rfl rfl (by kernel_rfl) (by kernel_rfl) (by kernel_rfl) rfl hS10 (fun _ _ => rfl) ?_
      simp only [Act.put, List.setIfInBounds_toArray, List.set_cons_succ, List.set_cons_zero]
      refine held_take 14 71 _ (.pointer (some ⟨g, 2, none⟩)) rfl rfl (by kernel_rfl) (by kernel_rfl) (by kernel_rfl) rfl hS10 (fun _ _ => rfl) ?_
      simp only [Act.put, List.setIfInBounds_toArray, List.set_cons_succ, List.set_cons_zero]
      have hcN : Chg (fun q => q = g) w10 (w10.setCell ⟨g, 2, none⟩ v9) := (Chg.refl _ _).setCell g 2 _ (fun _ => rfl)
      have hKN : Blk (w10.setCell ⟨g, 2, none⟩ v9) g 67 (boxC L j v9 ⟨x.wt ++ [⟨SN, r, wn, (ix : Int)⟩], ⟨SN, r, wn, (ix : Int)⟩, false⟩) := (hK10.set 2 v9).of_eq rfl
      have kEN := kE10.chg hcN (by omega)
      refine held_all1 15 (by kernel_rfl) (op_skip 15 _ (w10.setCell ⟨g, 2, none⟩ v9) rfl rfl rfl (by rw [hv9e]; exact exec_storeX _ _ rfl g 2 va vn vc _ rfl (by rw [← hv9e]; rfl) (hK10.cell (j := 2) rfl) (hK10.frozen 2)) ⟨kEN.range', ?_⟩)
      refine wpAnyH_done (by kernel_rfl) ?_ _
      refine NoPanic.normal ?_
      have hgR : ∀ q, v9.ownBlock = some q → ¬ L.T q ∧ q ≠ g := fun q hq => by
        rcases hv9 q hq with e | e
        · exact hrT q e
        · have e2 : w8.heap.size ≤ q := e
          have := hcW8.size
          exact ⟨fun e3 => by have := hlw q e3; omega, by omega⟩
      have HXN : Hid (BX (w10.setCell ⟨g, 2, none⟩ v9) L g j base v9 ⟨x.wt ++ [⟨SN, r, wn, (ix : Int)⟩], ⟨SN, r, wn, (ix : Int)⟩, false⟩ PG.2) := ⟨hKN, (hR9.chg hc10 (fun q hq e => (hgR q hq).2 e)).chg hcN (fun q hq e => (hgR q hq).2 e), (hD9.chg hc10 (fun q hq e => hgT (by rw [← e]; exact hq))).chg hcN (fun q hq e => hgT (by rw [← e]; exact hq)), hgT, hgR, by rw [List.length_append]; show _ + 1 ≤ 1000; omega⟩
      have HCN : Hid (Chg (bT L g wv) w (w10.setCell ⟨g, 2, none⟩ v9)) := (((hcW8.trans hc9b (fun _ _ h => .inr (.inr h))).trans hc10 (fun _ _ h => .inr (.inl h))).trans hcN (fun _ _ h => .inr (.inl h)))
      have HV9 : Hid (∀ q, v9.ownBlock = some q → wv.ownBlock = some q ∨ w.heap.size ≤ q) := fun q hq => by
        rcases hv9 q hq with e | e
        · exact .inl e
        · have e2 : w8.heap.size ≤ q := e
          have := hcW8.size
          exact .inr (by omega)
      have e0 := kEN.cell (j := 0) rfl
      generalize w10.setCell ⟨g, 2, none⟩ v9 = w11 at *
      clear hap hv9 hR9 hc9 hc10 hcN hKN hK10
      go_wp2
      go_ret2
      rw [HPX.out]
      exact ⟨v9, rfl, HXN.out, HV9.out, HCN.out⟩
    · skip
      refine op_value 8 66 _ (.slice (some ⟨w8.drew.heap.size, 0, none⟩) 1 1) _ rfl rfl rfl (exec_mkX (.tmp 65) rfl ⟨SN, r, wn, (ix : Int)⟩ rfl) ⟨hSM, ?_⟩
      simp only [Act.put, List.setIfInBounds_toArray, List.set_cons_succ, List.set_cons_zero]
      have hc2b : (w8.drew.alloc (.cells (xeL ⟨SN, r, wn, (ix : Int)⟩).toArray 63)).cell? ⟨g, 2, none⟩ = some wv := (hK8.drew.alloc _).cell (j := 2) rfl
      refine held_all1 6 (by kernel_rfl) (op_value 6 64 _ wv _ rfl rfl rfl (exec_loadc 65 _ rfl _ _ rfl (load_one 65 (fun _ => by kernel_rfl) _ _ _ _ hc2b)) ⟨hSM, ?_⟩)
      simp only [Act.put, List.setIfInBounds_toArray, List.set_cons_succ, List.set_cons_zero]
      refine held_all1 9 (by kernel_rfl) (op_value 9 67 _ v9 w9 rfl rfl rfl (exec_app (.tmp 64) (.tmp 66) 65 65 rfl wv (.slice (some ⟨w8.drew.heap.size, 0, none⟩) 1 1) v9 rfl rfl hap) ⟨hS9, ?_⟩)
      simp only [Act.put, List.setIfInBounds_toArray, List.set_cons_succ, List.set_cons_zero]
      refine held_take 10 68 _ (.pointer (some ⟨g, 0, none⟩)) rfl rfl (by kernel_rfl) (by kernel_rfl) (by kernel_rfl) rfl hS9 (fun _ _ => rfl) ?_
      simp only [Act.put, List.setIfInBounds_toArray, List.set_cons_succ, List.set_cons_zero]
      refine held_take 11 69 _ (.pointer (some ⟨g, 3, none⟩)) rfl rfl (by kernel_rfl) (by kernel_rfl) (by kernel_rfl) rfl hS9 (fun _ _ => rfl) ?_
      simp only [Act.put, List.setIfInBounds_toArray, List.set_cons_succ, List.set_cons_zero]
      refine held_all1 12 (by kernel_rfl) (op_mid9 12 _ rfl rfl rfl 63 _ _ rfl g 3 #[.int .i64 (SN : Int), .int .i64 r.c, .int .i64 r.l, .int .i64 r.v, .int .i64 r.o, .int .i64 (wn : Int), .int .i64 (ix : Int)] rfl rfl 67 _ #[.pointer (some ⟨L.g, 0, none⟩), .int .i64 (j : Int), wv, .int .i64 (SN : Int), .int .i64 r.c, .int .i64 r.l, .int .i64 r.v, .int .i64 r.o, .int .i64 (wn : Int), .int .i64 (ix : Int), .bool false] hK9 info_ent12 (by show 10 ≤ 11; decide) (by simp [Value.oneCell']) (by simp [boxC, splice]) ?_)
      intro w10 hK10 hg10
      have hc10 : Chg (fun q => q = g) w9 w10 := Chg.of_grown hg10 (fun k e => by cases e; rfl)
      have kE10 := kE9.chg hc10 (by omega)
      have hS10 : w10.rangeAt Be 0 [.int .i64 (SN : Int), .int .i64 r.c, .int .i64 r.l, .int .i64 r.v, .int .i64 r.o, .int .i64 (wn : Int), .int .i64 (ix : Int)] := kE10.range'
      refine ⟨hS10, ?_⟩
      refine held_take 13 70 _ (.pointer (some ⟨g, 0, none⟩)) rfl rfl (by kernel_rfl) (by kernel_rfl) (by kernel_rfl) rfl hS10 (fun _ _ => rfl) ?_
      simp only [Act.put, List.setIfInBounds_toArray, List.set_cons_succ, List.set_cons_zero]
      refine held_take 14 71 _ (.pointer (some ⟨g, 2, none⟩)) rfl rfl (by kernel_rfl) (by kernel_rfl) (by kernel_rfl) rfl hS10 (fun _ _ => rfl) ?_
      simp only [Act.put, List.setIfInBounds_toArray, List.set_cons_succ, List.set_cons_zero]
      have hcN : Chg (fun q => q = g) w10 (w10.setCell ⟨g, 2, none⟩ v9) := (Chg.refl _ _).setCell g 2 _ (fun _ => rfl)
      have hKN : Blk (w10.setCell ⟨g, 2, none⟩ v9) g 67 (boxC L j v9 ⟨x.wt ++ [⟨SN, r, wn, (ix : Int)⟩], ⟨SN, r, wn, (ix : Int)⟩, false⟩) := (hK10.set 2 v9).of_eq rfl
      have kEN := kE10.chg hcN (by omega)
      refine held_all1 15 (by kernel_rfl) (op_skip 15 _ (w10.setCell ⟨g, 2, none⟩ v9) rfl rfl rfl (by rw [hv9e]; exact exec_storeX _ _ rfl g 2 va vn vc _ rfl (by rw [← hv9e]; rfl) (hK10.cell (j := 2) rfl) (hK10.frozen 2)) ⟨kEN.range', ?_⟩)
      refine wpAnyH_done (by kernel_rfl) ?_ _
      refine NoPanic.normal ?_
      have hgR : ∀ q, v9.ownBlock = some q → ¬ L.T q ∧ q ≠ g := fun q hq => by
        rcases hv9 q hq with e | e
        · exact hrT q e
        · have e2 : w8.heap.size ≤ q := e
          have := hcW8.size
          exact ⟨fun e3 => by have := hlw q e3; omega, by omega⟩
      have HXN : Hid (BX (w10.setCell ⟨g, 2, none⟩ v9) L g j base v9 ⟨x.wt ++ [⟨SN, r, wn, (ix : Int)⟩], ⟨SN, r, wn, (ix : Int)⟩, false⟩ PG.2) := ⟨hKN, (hR9.chg hc10 (fun q hq e => (hgR q hq).2 e)).chg hcN (fun q hq e => (hgR q hq).2 e), (hD9.chg hc10 (fun q hq e => hgT (by rw [← e]; exact hq))).chg hcN (fun q hq e => hgT (by rw [← e]; exact hq)), hgT, hgR, by rw [List.length_append]; show _ + 1 ≤ 1000; omega⟩
      have HCN : Hid (Chg (bT L g wv) w (w10.setCell ⟨g, 2, none⟩ v9)) := (((hcW8.trans hc9b (fun _ _ h => .inr (.inr h))).trans hc10 (fun _ _ h => .inr (.inl h))).trans hcN (fun _ _ h => .inr (.inl h)))
      have HV9 : Hid (∀ q, v9.ownBlock = some q → wv.ownBlock = some q ∨ w.heap.size ≤ q) := fun q hq => by
        rcases hv9 q hq with e | e
        · exact .inl e
        · have e2 : w8.heap.size ≤ q := e
          have := hcW8.size
          exact .inr (by omega)
      have e0 := kEN.cell (j := 0) rfl
      generalize w10.setCell ⟨g, 2, none⟩ v9 = w11 at *
      clear hap hv9 hR9 hc9 hc10 hcN hKN hK10
      go_wp2
      go_ret2
      rw [HPX.out]
      exact ⟨v9, rfl, HXN.out, HV9.out, HCN.out⟩
end Go.Proofs.YtgoehohadnkpdaaDoor
