/-
  What is proved here: Link.Send lets a body wait.
  Conditions: the link lies in memory as laws hold it.
-/
import Derived.Test.YtichmnbhephkkaaLinkHeld
namespace Go.Proofs.Ytichmnbhephkkaa
open Go.RowKit

theorem exec_rowK {a : Act} {o : Oper} {w : World} (x : Operand) (ho : o.op = .buildSlice 41 1 #[(0, x)]) (ao : Option Addr) (n c : Nat) (hx : a.eval x = .slice ao n c) : (execOp a.eval o).run Try.prog w = .ok (.value (.slice (some ⟨w.heap.size, 0, none⟩) 1 1)) (w.alloc (.cells #[.slice ao n c] 32)) := by
  generalize hy : a.eval x = y at hx
  subst hx
  unfold execOp
  simp only [ho]
  simp only [List.map_toArray, List.map_cons, List.map_nil, hy]
  simp [go_sem]
theorem exec_storesK {a : Act} {o : Oper} {w : World} (x y : Operand) (ho : o.op = .store 41 x y) (g i : Nat) (ao : Option Addr) (n c : Nat) (u : Value) (hx : a.eval x = .pointer (some ⟨g, i, none⟩)) (hy : a.eval y = .slice ao n c) (hc : w.cell? ⟨g, i, none⟩ = some u) (hf : w.frozen? ⟨g, i, none⟩ = false) : (execOp a.eval o).run Try.prog w = .ok .skip (w.setCell ⟨g, i, none⟩ (.slice ao n c)) := by
  unfold execOp
  simp only [ho, hx, hy]
  simp [go_sem, hc, hf]
set_option maxRecDepth 100000 in
set_option maxHeartbeats 4000000 in
theorem sendK_any (w : World) (T : Nat → Prop) (lo G : Nat) (v : Value) (s : KS) (x : Value) (bs : List UInt8) (h : LP w T lo G v s) (hlo : lo ≤ w.heap.size) (hS : Seg w x bs) (hb : bs.length ≤ 1000000) :
    Calls Try.prog 13 #[.pointer (some ⟨G, 0, none⟩), x] w fun e w' => ∃ v', e = .returned (.int .i64 (sendK s bs).1) ∧ LP w' (fun q => T q ∨ v'.ownBlock = some q) lo G v' (sendK s bs).2 ∧ (v'.ownBlock = v.ownBlock ∨ ∀ q, v'.ownBlock = some q → w.heap.size ≤ q) ∧ Chg (LM G v) w w' := by
  obtain ⟨ax, cx, rfl⟩ := hS.shapeD
  obtain ⟨av, cv, rfl⟩ := h.row.shape
  obtain ⟨c0, c1, c2, c3, c4, c5, c6⟩ := linkC_cells h.head
  clear c0 c1 c2 c3 c4 c5
  have hT0 : ∀ q, (T q ∨ (Value.slice av s.wt.length cv).ownBlock = some q) → T q := fun q hq => by
    rcases hq with e | e
    · exact e
    · exact h.tv q e
  have hsame : LP w (fun q => T q ∨ (Value.slice av s.wt.length cv).ownBlock = some q) lo G (.slice av s.wt.length cv) s := h.grow (fun q e => .inl e) (fun q hq => h.lt q (hT0 q hq)) (fun q hq => h.ge q (hT0 q hq)) (fun i u r vs _ _ _ hs => hs.grow (fun q hq => .inl (hT0 q hq)))
  unfold sendK
  by_cases h1 : 1500 < bs.length
  · rw [if_pos h1]
    have d1 : decide ((1500 : Int) < (bs.length : Int)) = true := decide_eq_true (by omega)
    clear h1 hb hS h
    go_enter Try.func13, Try.ntmps13
    go_wp2
    go_ret
    exact ⟨_, rfl, hsame, .inl rfl, Chg.refl _ _⟩
  rw [if_neg h1]
  have d1 : decide ((1500 : Int) < (bs.length : Int)) = false := decide_eq_false (by omega)
  by_cases h2 : s.wt.length = 16
  · rw [if_pos h2]
    have d2 : ((s.wt.length : Int) == 16) = true := by rw [h2]; rfl
    clear h1 h2 hb hS h
    go_enter Try.func13, Try.ntmps13
    go_wp2
    go_ret
    exact ⟨_, rfl, hsame, .inl rfl, Chg.refl _ _⟩
  rw [if_neg h2]
  have d2 : ((s.wt.length : Int) == 16) = false := beq_eq_false_iff_ne.2 (by omega)
  have hlen : s.wt.length < 16 := by have := h.ok.wt; omega
  have hok := sendK_ok h.ok bs
  have hsk : (sendK s bs).2 = { s with wt := s.wt ++ [bs] } := by unfold sendK; rw [if_neg h1, if_neg h2]
  rw [hsk] at hok
  have HF : Hid (∀ V, Below w.heap.size w V → V.cell? ⟨G, 6, none⟩ = some (.slice av s.wt.length cv)) := fun V hV => (hV.cell (p := ⟨G, 6, none⟩) h.head.lt).trans c6
  have HCL : Hid (∀ V, Seg V (.slice ax bs.length cx) bs → Calls Try.prog 30 #[.slice ax bs.length cx] V fun e w' => ∃ v, e = .returned v ∧ Own w' V.heap.size v bs ∧ Below V.heap.size V w') := fun V hV => clone_anyD _ bs V (by omega) hV
  have HLC : Hid (∀ v, linkC s v = #[.int .i64 s.ep, .int .i64 s.pe, .int .i64 (s.fi : Int), .int .i64 (s.se : Int), .int .i64 (s.ne : Int), .int .i64 (s.ti : Int), v]) := fun _ => rfl
  have HAP : Hid (∀ W1 ac cc, Below w.heap.size w W1 → Own W1 w.drew.heap.size (.slice ac bs.length cc) bs → ∃ a3 n3 c3 W3, (∀ ty, (Builtin.append_ #[41, 41] ty #[.slice av s.wt.length cv, .slice (some ⟨W1.heap.size, 0, none⟩) 1 1]).run Try.prog (W1.alloc (.cells #[.slice ac bs.length cc] 32)) = .ok (.slice a3 n3 c3) W3) ∧
      Blk W3 G 69 #[.int .i64 s.ep, .int .i64 s.pe, .int .i64 (s.fi : Int), .int .i64 (s.se : Int), .int .i64 (s.ne : Int), .int .i64 (s.ti : Int), .slice av s.wt.length cv] ∧
      LP (W3.setCell ⟨G, 6, none⟩ (.slice a3 n3 c3)) (fun q => T q ∨ (Value.slice a3 n3 c3).ownBlock = some q) lo G (.slice a3 n3 c3) { s with wt := s.wt ++ [bs] } ∧ ((Value.slice a3 n3 c3).ownBlock = (Value.slice av s.wt.length cv).ownBlock ∨ ∀ q, (Value.slice a3 n3 c3).ownBlock = some q → w.heap.size ≤ q) ∧ Chg (LM G (.slice av s.wt.length cv)) w (W3.setCell ⟨G, 6, none⟩ (.slice a3 n3 c3))) := by
    intro W1 ac cc hB1 ho1
    have hbN := below_new W1 (.cells #[.slice ac bs.length cc] 32)
    have hB2 : Below w.heap.size w (W1.alloc (.cells #[.slice ac bs.length cc] 32)) := hB1.trans (hbN.mono hB1.size)
    have h2 := h.after hB2
    have ho2 := ho1.below hbN (Nat.le_refl _)
    have hkN := Blk.new W1 32 #[.slice ac bs.length cc]
    have hsz1 := hB1.size
    have hsz2 := hB2.size
    have hszN : W1.heap.size < (W1.alloc (.cells #[.slice ac bs.length cc] 32)).heap.size := hkN.lt
    generalize W1.alloc (.cells #[.slice ac bs.length cc] 32) = W2 at *
    have hseg : SegA W2 T (.slice ac bs.length cc) bs := ho2.segK (fun q hq => h.lt q hq)
    obtain ⟨v', W3, r1, r2, r3, r4⟩ := h2.row.app h2.tv ⟨W1.heap.size, 0, none⟩ 1 [.slice ac bs.length cc] [bs] rfl (fun j u hu => by
      match j, hu with
      | 0, hu => cases hu; exact hkN.cell (j := 0) rfl
      | (j + 1), hu => simp at hu) (fun i u r hu hr => by
      match i, hu, hr with
      | 0, hu, hr => cases hu; cases hr; exact hseg
      | (i + 1), hu, hr => simp at hu) (by show s.wt.length + 1 ≤ _; omega) (Nat.le_trans hlo hsz2)
    obtain ⟨a3, c3, rfl⟩ := r2.shape
    have hcg : Chg (fun q => (Value.slice av s.wt.length cv).ownBlock = some q) W2 W3 := Chg.of_grown r3 (fun k e => e)
    have hk3 := h2.head.chg hcg h.ne
    have hc3 : Chg (fun q => q = G) W3 (W3.setCell ⟨G, 6, none⟩ (.slice a3 (s.wt ++ [bs]).length c3)) := (Chg.refl (fun q => q = G) W3).setCell G 6 _ (fun _ => rfl)
    have hfr : ∀ q, (Value.slice a3 (s.wt ++ [bs]).length c3).ownBlock = some q → (Value.slice av s.wt.length cv).ownBlock = some q ∨ w.heap.size ≤ q := fun q hq => by
      rcases r4 with k | k
      · exact .inl (by rw [← k]; exact hq)
      · rw [k] at hq; cases hq; exact .inr hsz2
    have hGl := h.head.lt
    have hnG : ∀ q, (Value.slice a3 (s.wt ++ [bs]).length c3).ownBlock = some q → q ≠ G := fun q hq e => by
      rcases hfr q hq with k | k
      · exact h.ne (by rw [← e]; exact k)
      · omega
    have hl3 := r2.lt
    have hs23 := hcg.size
    refine ⟨a3, _, c3, W3, r1, ?_, ⟨?_, ?_, hok, .inl h.tG, fun q hq => .inr hq, fun q hq => ?_, fun q hq => ?_, fun e => hnG G e rfl⟩, ?_, ?_⟩
    · have := hk3
      rw [HLC.out] at this
      exact this
    · exact (hk3.set 6 _).of_eq rfl
    · exact r2.chg hc3 (fun q e => .inl (by rw [e]; exact h.tG)) (fun q hq e => hnG q hq e)
    · rcases hq with e | e
      · have := h.lt q e; have := hc3.size; omega
      · have := (hl3 q e).2; have := hc3.size; omega
    · rcases hq with e | e
      · exact h.ge q e
      · exact (hl3 q e).1
    · rcases r4 with k | k
      · exact .inl k
      · exact .inr (fun q hq => by rw [k] at hq; cases hq; exact hsz2)
    · exact ((Chg.of_below (S := LM G (.slice av s.wt.length cv)) hB2 (Nat.le_refl _)).trans (S' := LM G (.slice av s.wt.length cv)) (hcg.weaken (fun q e => .inr e)) (fun _ _ e => e)).trans (S' := LM G (.slice av s.wt.length cv)) (hc3.weaken (fun q e => .inl e)) (fun _ _ e => e)
  clear hsame hT0 hok hsk h1 h2 hlen hlo h hb
  go_enter Try.func13, Try.ntmps13
  go_wp2_with fail
  refine held_begin (fun _ => True) (by kernel_rfl) ?_
  refine held_take 0 16 _ (.pointer (some ⟨G, 0, none⟩)) rfl rfl (by kernel_rfl) (by kernel_rfl) (by kernel_rfl) rfl trivial (fun _ _ => rfl) ?_
  simp only [Act.put, List.setIfInBounds_toArray, List.set_cons_succ, List.set_cons_zero]
  refine held_take 1 17 _ (.pointer (some ⟨G, 0, none⟩)) rfl rfl (by kernel_rfl) (by kernel_rfl) (by kernel_rfl) rfl trivial (fun _ _ => rfl) ?_
  simp only [Act.put, List.setIfInBounds_toArray, List.set_cons_succ, List.set_cons_zero]
  refine held_take 2 18 _ (.pointer (some ⟨G, 0, none⟩)) rfl rfl (by kernel_rfl) (by kernel_rfl) (by kernel_rfl) rfl trivial (fun _ _ => rfl) ?_
  simp only [Act.put, List.setIfInBounds_toArray, List.set_cons_succ, List.set_cons_zero]
  refine held_take 3 19 _ (.pointer (some ⟨G, 6, none⟩)) rfl rfl (by kernel_rfl) (by kernel_rfl) (by kernel_rfl) rfl trivial (fun _ _ => rfl) ?_
  simp only [Act.put, List.setIfInBounds_toArray, List.set_cons_succ, List.set_cons_zero]
  refine held_take 5 21 _ (.slice ax bs.length cx) rfl rfl (by kernel_rfl) (by kernel_rfl) (by kernel_rfl) rfl trivial (fun _ _ => rfl) ?_
  simp only [Act.put, List.setIfInBounds_toArray, List.set_cons_succ, List.set_cons_zero]
  refine held_all2 4 6 (by kernel_rfl) ?_ ?_
  · refine op_value 4 20 _ (.slice av s.wt.length cv) (w.drew) rfl rfl rfl (exec_loadc 41 _ rfl _ _ rfl (load_one 41 (fun _ => by kernel_rfl) (w.drew) _ _ _ (HF.out _ ((Below.refl _ _).drew)))) ⟨trivial, ?_⟩
    simp only [Act.put, List.setIfInBounds_toArray, List.set_cons_succ, List.set_cons_zero]
    refine held_all1 6 (by kernel_rfl) (op_call 6 22 _ 30 #[.slice ax bs.length cx] rfl rfl rfl (exec_one 30 _ _ rfl _ rfl Try.call30) ((HCL.out _ hS.drew).mono ?_))
    rintro e W1 ⟨uc, rfl, ho1, hb1⟩
    obtain ⟨ac, cc, rfl⟩ := ho1.seg.shapeD
    have hB1 : Below w.heap.size w W1 := ((Below.refl w.heap.size w).drew).trans hb1
    refine ⟨_, rfl, trivial, ?_⟩
    simp only [Act.put, List.setIfInBounds_toArray, List.set_cons_succ, List.set_cons_zero]
    refine held_all1 7 (by kernel_rfl) (op_value 7 23 _ (.slice (some ⟨W1.heap.size, 0, none⟩) 1 1) (W1.alloc (.cells #[.slice ac bs.length cc] 32)) rfl rfl rfl (exec_rowK _ rfl ac bs.length cc rfl) ⟨trivial, ?_⟩)
    simp only [Act.put, List.setIfInBounds_toArray, List.set_cons_succ, List.set_cons_zero]
    obtain ⟨a3, n3, c3, W3, happ, hk3, hfin, hvf, hcf⟩ := HAP.out W1 ac cc hB1 ho1
    refine held_all1 8 (by kernel_rfl) (op_value 8 24 _ (.slice a3 n3 c3) W3 rfl rfl rfl (exec_app (.tmp 20) (.tmp 23) 41 41 rfl (.slice av s.wt.length cv) (.slice (some ⟨W1.heap.size, 0, none⟩) 1 1) (.slice a3 n3 c3) rfl rfl happ) ⟨trivial, ?_⟩)
    simp only [Act.put, List.setIfInBounds_toArray, List.set_cons_succ, List.set_cons_zero]
    refine held_take 9 25 _ (.pointer (some ⟨G, 0, none⟩)) rfl rfl (by kernel_rfl) (by kernel_rfl) (by kernel_rfl) rfl trivial (fun _ _ => rfl) ?_
    simp only [Act.put, List.setIfInBounds_toArray, List.set_cons_succ, List.set_cons_zero]
    refine held_take 10 26 _ (.pointer (some ⟨G, 6, none⟩)) rfl rfl (by kernel_rfl) (by kernel_rfl) (by kernel_rfl) rfl trivial (fun _ _ => rfl) ?_
    simp only [Act.put, List.setIfInBounds_toArray, List.set_cons_succ, List.set_cons_zero]
    refine held_all1 11 (by kernel_rfl) (op_skip 11 _ (W3.setCell ⟨G, 6, none⟩ (.slice a3 n3 c3)) rfl rfl rfl (exec_storesK _ _ rfl G 6 a3 n3 c3 _ rfl rfl (hk3.cell (j := 6) rfl) (hk3.frozen 6)) ⟨trivial, ?_⟩)
    refine wpAnyH_done (by kernel_rfl) ?_ _
    refine NoPanic.normal ?_
    go_wp2
    go_ret
    exact ⟨_, rfl, hfin, hvf, hcf⟩
  · refine op_call 6 22 _ 30 #[.slice ax bs.length cx] rfl rfl rfl (exec_one 30 _ _ rfl _ rfl Try.call30) ((HCL.out _ hS.drew).mono ?_)
    rintro e W1 ⟨uc, rfl, ho1, hb1⟩
    obtain ⟨ac, cc, rfl⟩ := ho1.seg.shapeD
    have hB1 : Below w.heap.size w W1 := ((Below.refl w.heap.size w).drew).trans hb1
    refine ⟨_, rfl, trivial, ?_⟩
    simp only [Act.put, List.setIfInBounds_toArray, List.set_cons_succ, List.set_cons_zero]
    refine held_all2 4 7 (by kernel_rfl) ?_ ?_
    · refine op_value 4 20 _ (.slice av s.wt.length cv) (W1) rfl rfl rfl (exec_loadc 41 _ rfl _ _ rfl (load_one 41 (fun _ => by kernel_rfl) (W1) _ _ _ (HF.out _ (hB1)))) ⟨trivial, ?_⟩
      simp only [Act.put, List.setIfInBounds_toArray, List.set_cons_succ, List.set_cons_zero]
      refine held_all1 7 (by kernel_rfl) (op_value 7 23 _ (.slice (some ⟨W1.heap.size, 0, none⟩) 1 1) (W1.alloc (.cells #[.slice ac bs.length cc] 32)) rfl rfl rfl (exec_rowK _ rfl ac bs.length cc rfl) ⟨trivial, ?_⟩)
      simp only [Act.put, List.setIfInBounds_toArray, List.set_cons_succ, List.set_cons_zero]
      obtain ⟨a3, n3, c3, W3, happ, hk3, hfin, hvf, hcf⟩ := HAP.out W1 ac cc hB1 ho1
      refine held_all1 8 (by kernel_rfl) (op_value 8 24 _ (.slice a3 n3 c3) W3 rfl rfl rfl (exec_app (.tmp 20) (.tmp 23) 41 41 rfl (.slice av s.wt.length cv) (.slice (some ⟨W1.heap.size, 0, none⟩) 1 1) (.slice a3 n3 c3) rfl rfl happ) ⟨trivial, ?_⟩)
      simp only [Act.put, List.setIfInBounds_toArray, List.set_cons_succ, List.set_cons_zero]
      refine held_take 9 25 _ (.pointer (some ⟨G, 0, none⟩)) rfl rfl (by kernel_rfl) (by kernel_rfl) (by kernel_rfl) rfl trivial (fun _ _ => rfl) ?_
      simp only [Act.put, List.setIfInBounds_toArray, List.set_cons_succ, List.set_cons_zero]
      refine held_take 10 26 _ (.pointer (some ⟨G, 6, none⟩)) rfl rfl (by kernel_rfl) (by kernel_rfl) (by kernel_rfl) rfl trivial (fun _ _ => rfl) ?_
      simp only [Act.put, List.setIfInBounds_toArray, List.set_cons_succ, List.set_cons_zero]
      refine held_all1 11 (by kernel_rfl) (op_skip 11 _ (W3.setCell ⟨G, 6, none⟩ (.slice a3 n3 c3)) rfl rfl rfl (exec_storesK _ _ rfl G 6 a3 n3 c3 _ rfl rfl (hk3.cell (j := 6) rfl) (hk3.frozen 6)) ⟨trivial, ?_⟩)
      refine wpAnyH_done (by kernel_rfl) ?_ _
      refine NoPanic.normal ?_
      go_wp2
      go_ret
      exact ⟨_, rfl, hfin, hvf, hcf⟩
    · refine op_value 7 23 _ (.slice (some ⟨W1.heap.size, 0, none⟩) 1 1) (W1.alloc (.cells #[.slice ac bs.length cc] 32)) rfl rfl rfl (exec_rowK _ rfl ac bs.length cc rfl) ⟨trivial, ?_⟩
      simp only [Act.put, List.setIfInBounds_toArray, List.set_cons_succ, List.set_cons_zero]
      refine held_all1 4 (by kernel_rfl) (op_value 4 20 _ (.slice av s.wt.length cv) (W1.alloc (.cells #[.slice ac bs.length cc] 32)) rfl rfl rfl (exec_loadc 41 _ rfl _ _ rfl (load_one 41 (fun _ => by kernel_rfl) (W1.alloc (.cells #[.slice ac bs.length cc] 32)) _ _ _ (HF.out _ (hB1.trans ((below_new W1 _).mono hB1.size))))) ⟨trivial, ?_⟩)
      simp only [Act.put, List.setIfInBounds_toArray, List.set_cons_succ, List.set_cons_zero]
      obtain ⟨a3, n3, c3, W3, happ, hk3, hfin, hvf, hcf⟩ := HAP.out W1 ac cc hB1 ho1
      refine held_all1 8 (by kernel_rfl) (op_value 8 24 _ (.slice a3 n3 c3) W3 rfl rfl rfl (exec_app (.tmp 20) (.tmp 23) 41 41 rfl (.slice av s.wt.length cv) (.slice (some ⟨W1.heap.size, 0, none⟩) 1 1) (.slice a3 n3 c3) rfl rfl happ) ⟨trivial, ?_⟩)
      simp only [Act.put, List.setIfInBounds_toArray, List.set_cons_succ, List.set_cons_zero]
      refine held_take 9 25 _ (.pointer (some ⟨G, 0, none⟩)) rfl rfl (by kernel_rfl) (by kernel_rfl) (by kernel_rfl) rfl trivial (fun _ _ => rfl) ?_
      simp only [Act.put, List.setIfInBounds_toArray, List.set_cons_succ, List.set_cons_zero]
      refine held_take 10 26 _ (.pointer (some ⟨G, 6, none⟩)) rfl rfl (by kernel_rfl) (by kernel_rfl) (by kernel_rfl) rfl trivial (fun _ _ => rfl) ?_
      simp only [Act.put, List.setIfInBounds_toArray, List.set_cons_succ, List.set_cons_zero]
      refine held_all1 11 (by kernel_rfl) (op_skip 11 _ (W3.setCell ⟨G, 6, none⟩ (.slice a3 n3 c3)) rfl rfl rfl (exec_storesK _ _ rfl G 6 a3 n3 c3 _ rfl rfl (hk3.cell (j := 6) rfl) (hk3.frozen 6)) ⟨trivial, ?_⟩)
      refine wpAnyH_done (by kernel_rfl) ?_ _
      refine NoPanic.normal ?_
      go_wp2
      go_ret
      exact ⟨_, rfl, hfin, hvf, hcf⟩
end Go.Proofs.Ytichmnbhephkkaa
