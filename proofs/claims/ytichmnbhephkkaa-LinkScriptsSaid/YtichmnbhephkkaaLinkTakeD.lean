/-
  What is proved here: how a link takes a packet Data.
  Conditions: the link lies in memory as laws hold it; the packet's bytes lie apart from what is written.
-/
import Derived.Test.YtichmnbhephkkaaLinkTick
namespace Go.Proofs.Ytichmnbhephkkaa
open Go.RowKit

theorem ackS_ok {s : KS} (h : s.ok) {a : Int} (ha : a ≤ 1073741824) : (ackS s a).ok := by
  have h1 := goneK_le (s := s) a
  have h2 := @goneK_fi s a
  have hs := h.se
  have hf := h.fi
  have hw := h.wt
  unfold ackS
  generalize goneK s a = g at *
  refine ⟨h.ep, h.pe, ⟨by show 1 ≤ s.fi + g; omega, ?_⟩, h.ne, ⟨by show s.se - g ≤ 4; omega, by show s.se - g ≤ s.wt.length; omega⟩, ?_, hw, h.each⟩
  · show s.fi + g ≤ _
    by_cases h0 : g = 0
    · omega
    · have := h2 h0; omega
  · show (if g = 0 then s.ti else 0) ≤ 2
    have := h.ti
    split <;> omega
theorem app_ranK (w w' : World) {ops : Array Oper} {rest : List Oper} {o : Oper} {a : Act} {Q : Exit → Act → World → Prop} (hgd : o.guard = none) (s x : Operand) (t : TypeId) (ho : o.op = .call { callee := .builtin .append, args := #[s, x], argTypes := #[t, t] }) (vs vx v' : Value) (hs : a.eval s = vs) (hx : a.eval x = vx)
    (hr : ∀ ty, (Builtin.append_ #[t, t] ty #[vs, vx]).run Try.prog w = .ok v' w') (h : wpList Try.prog ops Q rest (a.put o.dst v') w') : wpList Try.prog ops Q (o :: rest) a w := by
  refine wpList_plain hgd fun K hK => ?_
  unfold Oper.wp execOp
  simp only [ho, resolve, invoke, builtin, Sem.run_bind, Sem.run_pure, Result.andThen_ok, List.map_toArray, List.map_cons, List.map_nil, hs, hx, hr]
  exact hK _ _ h
theorem delRows (w : World) (T : Nat → Prop) (lo : Nat) (v : Value) (rs : List (List UInt8)) (n : Nat) (h : RowsO w T lo v rs) (hT : ∀ q, v.ownBlock = some q → T q) (hn : n ≤ rs.length) (hl : rs.length ≤ 1000000) :
    Calls Try.prog 40 #[v, .int .i64 0, .int .i64 (n : Int)] w fun e w' => ∃ a c, e = .returned (.slice a (rs.length - n) c) ∧ RowsO w' T lo (.slice a (rs.length - n) c) (rs.drop n) ∧ (Value.slice a (rs.length - n) c).ownBlock = v.ownBlock ∧ Chg (fun q => v.ownBlock = some q) w w' := by
  obtain ⟨vs, h1, h2⟩ := h
  refine (deleteK lo v rs.length n vs w hl hn h1 (RowsO.one h1 h2)).mono ?_
  rintro e w' ⟨v', rfl, ho, hv, hc⟩
  obtain ⟨a, c, rfl⟩ := ho.shape
  refine ⟨a, c, rfl, ⟨vs.drop n, by rw [List.length_drop]; exact ho, fun i u r hu hr => ?_⟩, hv, hc⟩
  rw [List.getElem?_drop] at hu hr
  exact (h2 _ u r hu hr).chgs hc hT
/-- One row in a new slice. -/
theorem rows_one {w : World} {T : Nat → Prop} {lo : Nat} (u : Value) (r : List UInt8) (h : SegA w T u r) (hl : lo ≤ w.heap.size) : RowsO (w.alloc (.cells #[u] 32)) T lo (.slice (some ⟨w.heap.size, 0, none⟩) 1 1) [r] := by
  have hk := Blk.new w 32 #[u]
  have hb := below_new w (.cells #[u] 32)
  refine ⟨[u], ⟨rfl, .inr ⟨w.heap.size, 0, 1, _, rfl, hl, hk, Nat.le_refl _, by unfold maxLen; omega, by simp, fun j x hx => ?_⟩⟩, fun i x q hx hq => ?_⟩
  · rw [Nat.zero_add]
    simpa using hx
  · match i, hx, hq with
    | 0, hx, hq =>
      cases hx; cases hq
      exact h.after hb
    | (i + 1), hx, hq => simp at hx
/-- A link whose waiting bodies were taken away. -/
theorem LK.dropped {w0 W W1 W2 : World} {T : Nat → Prop} {lo G : Nat} {v v2 : Value} {s : KS} {a : Int} (h : LP W T lo G v s) (ha : a ≤ 1073741824) (hk1 : Blk W1 G 69 (linkC (ackS s a) v)) (hc1 : Chg (fun q => q = G) W W1) (hr2 : RowsO W2 T lo v2 (s.wt.drop (goneK s a))) (hv2 : v2.ownBlock = v.ownBlock) (hc2 : Chg (fun q => v.ownBlock = some q) W1 W2) (hc0 : Chg (LM G v) w0 W) :
    LP (W2.setCell ⟨G, 6, none⟩ v2) T lo G v2 (ackedK s a) ∧ Chg (LM G v) w0 (W2.setCell ⟨G, 6, none⟩ v2) ∧ W2.cell? ⟨G, 6, none⟩ = some v ∧ W2.frozen? ⟨G, 6, none⟩ = false := by
  have hk2 := hk1.chg hc2 h.ne
  have hc3 : Chg (fun q => q = G) W2 (W2.setCell ⟨G, 6, none⟩ v2) := (Chg.refl (fun q => q = G) W2).setCell G 6 _ (fun _ => rfl)
  have hok := ackedK_ok h.ok ha
  have hsz : W.heap.size ≤ (W2.setCell ⟨G, 6, none⟩ v2).heap.size := Nat.le_trans hc1.size (Nat.le_trans hc2.size hc3.size)
  refine ⟨⟨?_, ?_, hok, h.tG, fun q hq => h.tv q (by rw [← hv2]; exact hq), fun q hq => Nat.lt_of_lt_of_le (h.lt q hq) hsz, h.ge, by rw [hv2]; exact h.ne⟩, ?_, hk2.cell (j := 6) rfl, hk2.frozen 6⟩
  · rw [acked_of]
    exact (hk2.set 6 v2).of_eq rfl
  · rw [acked_of]
    exact hr2.chg hc3 (fun q e => by rw [e]; exact h.tG) (fun q hq e => h.ne (by rw [← e, ← hv2]; exact hq))
  · exact ((hc0.trans (S' := LM G v) (hc1.weaken (fun q e => .inl e)) (fun _ _ e => e)).trans (S' := LM G v) (hc2.weaken (fun q e => .inr e)) (fun _ _ e => e)).trans (S' := LM G v) (hc3.weaken (fun q e => .inl e)) (fun _ _ e => e)
set_option maxRecDepth 100000 in
set_option maxHeartbeats 4000000 in
theorem takeDataK_any (w : World) (T : Nat → Prop) (lo G : Nat) (v : Value) (s : KS) (p : KP) (ax : Option Addr) (cx : Nat) (h : LP w T lo G v s) (_hlo : lo ≤ w.heap.size) (hS : SegA w T (.slice ax p.b.length cx) p.b) (hb : p.b.length ≤ 1500) (hs : p.s ≤ 1073741824) (ha : p.a ≤ 1073741824) :
    Calls Try.prog 34 #[.pointer (some ⟨G, 0, none⟩), kpV p (.slice ax p.b.length cx)] w fun e w' => ∃ v' rv pv, e = .returned (.tuple #[rv, pv]) ∧ LP w' T lo G v' (dataTakeK s p).2.2 ∧ v'.ownBlock = v.ownBlock ∧ RowsO w' T w.heap.size rv (dataTakeK s p).1 ∧ PksO w' T w.heap.size pv (dataTakeK s p).2.1 ∧ Chg (LM G v) w w' := by
  obtain ⟨av, cv, rfl⟩ := h.row.shape
  have hbA := below_new w (.cells #[.int .i64 p.k, .int .i64 p.f, .int .i64 p.t, .int .i64 p.s, .int .i64 p.a, .slice ax p.b.length cx] 34)
  have kB := Blk.new w 34 #[.int .i64 p.k, .int .i64 p.f, .int .i64 p.t, .int .i64 p.s, .int .i64 p.a, .slice ax p.b.length cx]
  have hA := h.after hbA
  have hSA := hS.after hbA
  have hGw := h.head.lt
  obtain ⟨c0, c1, c2, c3, c4, c5, c6⟩ := linkC_cells h.head
  clear c2 c3 c4 c5
  obtain ⟨B, hB⟩ : ∃ B, B = w.heap.size := ⟨_, rfl⟩
  have hGB : G ≠ B := by omega
  have hGn : G ≠ w.heap.size := by omega
  unfold dataTakeK
  unfold kpV kpL
  by_cases hn : p.t ≠ s.ep ∨ p.f ≠ s.pe
  · rw [if_pos hn]
    have HHL : Hid (∀ V, Blk V G 69 (linkC s (.slice av s.wt.length cv)) → Calls Try.prog 26 #[.pointer (some ⟨G, 0, none⟩)] V fun r w' => r = .returned (.agg #[.int .i64 1, .int .i64 s.ep, .int .i64 s.pe, .int .i64 0, .int .i64 0, .slice none 0 0]) ∧ Below V.heap.size V w') := fun V hV => hello_any G s _ V hV
    have hT := h.lt
    cases d1 : (p.t != s.ep) with
    | true =>
      clear hn
      go_enter Try.func34, Try.ntmps34
      go_wp2_with fail
      go_quiet (fail)
      have hbW := Below.drewN hbA nq
      have hLW := hA.after (Below.drewN (Below.refl _ _) nq)
      generalize (w.alloc (.cells #[.int .i64 p.k, .int .i64 p.f, .int .i64 p.t, .int .i64 p.s, .int .i64 p.a, .slice ax p.b.length cx] 34)).drewN nq = W at *
      clear hbA kB hA hSA c0 c1 c6 hGn
      go_wp2_with fail
      refine (HHL.out W hLW.head).mono ?_
      rintro e W1 ⟨rfl, hb1⟩
      have hB1 : Below w.heap.size w W1 := hbW.trans (hb1.mono hbW.size)
      have hL1 := hLW.after hb1
      have hP1 := pks_one (lo := w.heap.size) (bareK s 1) (.slice none 0 0) (segA_nil W1 T) hL1.lt hB1.size
      have hL2 := hL1.after (below_new W1 (.cells (kpL (bareK s 1) (.slice none 0 0)).toArray 34))
      have hB2 : Below w.heap.size w (W1.alloc (.cells (kpL (bareK s 1) (.slice none 0 0)).toArray 34)) := hB1.trans ((below_new W1 _).mono hB1.size)
      clear HHL hLW hL1 hB1
      go_wp2
      go_ret2
      exact ⟨_, _, _, rfl, hL2, rfl, RowsO.nil _ _ _, hP1, Chg.of_below hB2 (Nat.le_refl _)⟩
    | false =>
      have d2 : (p.f != s.pe) = true := by
        rw [bne_iff_ne]
        rcases hn with e | e
        · exact absurd (by simpa using d1) e
        · exact e
      clear hn
      go_enter Try.func34, Try.ntmps34
      go_wp2_with fail
      go_quiet (fail)
      have hbW := Below.drewN hbA nq
      have hLW := hA.after (Below.drewN (Below.refl _ _) nq)
      generalize (w.alloc (.cells #[.int .i64 p.k, .int .i64 p.f, .int .i64 p.t, .int .i64 p.s, .int .i64 p.a, .slice ax p.b.length cx] 34)).drewN nq = W at *
      clear hbA kB hA hSA c0 c1 c6 hGn
      go_wp2_with fail
      refine (HHL.out W hLW.head).mono ?_
      rintro e W1 ⟨rfl, hb1⟩
      have hB1 : Below w.heap.size w W1 := hbW.trans (hb1.mono hbW.size)
      have hL1 := hLW.after hb1
      have hP1 := pks_one (lo := w.heap.size) (bareK s 1) (.slice none 0 0) (segA_nil W1 T) hL1.lt hB1.size
      have hL2 := hL1.after (below_new W1 (.cells (kpL (bareK s 1) (.slice none 0 0)).toArray 34))
      have hB2 : Below w.heap.size w (W1.alloc (.cells (kpL (bareK s 1) (.slice none 0 0)).toArray 34)) := hB1.trans ((below_new W1 _).mono hB1.size)
      clear HHL hLW hL1 hB1
      go_wp2
      go_ret2
      exact ⟨_, _, _, rfl, hL2, rfl, RowsO.nil _ _ _, hP1, Chg.of_below hB2 (Nat.le_refl _)⟩
  rw [if_neg hn]
  have hn1 : p.t = s.ep := Classical.byContradiction fun e => hn (.inl e)
  have hn2 : p.f = s.pe := Classical.byContradiction fun e => hn (.inr e)
  have d1 : (p.t != s.ep) = false := by rw [hn1]; exact bne_self_eq_false _
  have d2 : (p.f != s.pe) = false := by rw [hn2]; exact bne_self_eq_false _
  have HPA : Hid (p.a ≤ 1073741824) := ha
  have HPS : Hid (p.s ≤ 1073741824) := hs
  obtain ⟨t, ht⟩ : ∃ t, t = ackedK s p.a := ⟨_, rfl⟩
  rw [← ht]
  have HTT : Hid (t = ackedK s p.a) := ht
  clear hn hn1 hn2 ha hs ht
  have hT := h.lt
  go_enter Try.func34, Try.ntmps34
  go_wp2_with fail
  go_quiet (fail)
  rw [← hB]
  have hbW := Below.drewN hbA nq
  have hLW := hA.after (Below.drewN (Below.refl _ _) nq)
  have hSW := hSA.after (Below.drewN (Below.refl _ _) nq)
  have kBW := kB.drewN nq
  rw [← hB] at kBW
  have hCW : Chg (LM G (.slice av s.wt.length cv)) w _ := Chg.of_below hbW (Nat.le_refl _)
  generalize (w.alloc (.cells #[.int .i64 p.k, .int .i64 p.f, .int .i64 p.t, .int .i64 p.s, .int .i64 p.a, .slice ax p.b.length cx] 34)).drewN nq = W at *
  have HAC : Hid (∀ V, Blk V G 69 (linkC s (.slice av s.wt.length cv)) → Calls Try.prog 41 #[.pointer (some ⟨G, 0, none⟩), .int .i64 p.a] V fun r w' => r = .returned (.int .i64 (goneK s p.a : Int)) ∧ Blk w' G 69 (linkC (ackS s p.a) (.slice av s.wt.length cv)) ∧ Chg (fun q => q = G) V w') := fun V hV => ackedK_any G s _ p.a V hV h.ok.fi.2 h.ok.se.1
  have HDL : Hid (∀ W1, Chg (fun q => q = G) W.drew W1 → Calls Try.prog 40 #[.slice av s.wt.length cv, .int .i64 0, .int .i64 (goneK s p.a : Int)] W1 fun e w' => ∃ a c, e = .returned (.slice a (s.wt.length - goneK s p.a) c) ∧ RowsO w' T lo (.slice a (s.wt.length - goneK s p.a) c) (s.wt.drop (goneK s p.a)) ∧ (Value.slice a (s.wt.length - goneK s p.a) c).ownBlock = (Value.slice av s.wt.length cv).ownBlock ∧ Chg (fun q => (Value.slice av s.wt.length cv).ownBlock = some q) W1 w') := fun W1 hc => delRows W1 T lo _ s.wt _ ((hLW.row.after ((Below.refl _ _).drew)).chg hc (fun q e => by rw [e]; exact hLW.tG) (fun q hq e => hLW.ne (by rw [← e]; exact hq))) hLW.tv (by have := goneK_le (s := s) p.a; have := h.ok.se; omega) (by have := h.ok.wt; omega)
  have hTB : ¬ T B := fun e => by have := hT B e; omega
  have hBwl : w.heap.size ≤ B := by omega
  clear hB hbA kB hA hSA c0 c1 c6 hGn d1 d2
  go_wp2_with fail
  refine held_begin (fun _ => True) (by kernel_rfl) ?_
  refine held_take 0 30 _ (.pointer (some ⟨G, 0, none⟩)) rfl rfl (by kernel_rfl) (by kernel_rfl) (by kernel_rfl) rfl trivial (fun _ _ => rfl) ?_
  simp only [Act.put, List.setIfInBounds_toArray, List.set_cons_succ, List.set_cons_zero]
  refine held_take 1 31 _ (.pointer (some ⟨G, 0, none⟩)) rfl rfl (by kernel_rfl) (by kernel_rfl) (by kernel_rfl) rfl trivial (fun _ _ => rfl) ?_
  simp only [Act.put, List.setIfInBounds_toArray, List.set_cons_succ, List.set_cons_zero]
  refine held_take 2 32 _ (.pointer (some ⟨G, 0, none⟩)) rfl rfl (by kernel_rfl) (by kernel_rfl) (by kernel_rfl) rfl trivial (fun _ _ => rfl) ?_
  simp only [Act.put, List.setIfInBounds_toArray, List.set_cons_succ, List.set_cons_zero]
  refine held_take 3 33 _ (.pointer (some ⟨G, 6, none⟩)) rfl rfl (by kernel_rfl) (by kernel_rfl) (by kernel_rfl) rfl trivial (fun _ _ => rfl) ?_
  simp only [Act.put, List.setIfInBounds_toArray, List.set_cons_succ, List.set_cons_zero]
  refine held_take 5 35 _ (.pointer (some ⟨G, 0, none⟩)) rfl rfl (by kernel_rfl) (by kernel_rfl) (by kernel_rfl) rfl trivial (fun _ _ => rfl) ?_
  simp only [Act.put, List.setIfInBounds_toArray, List.set_cons_succ, List.set_cons_zero]
  refine held_take 6 36 _ (.pointer (some ⟨G, 0, none⟩)) rfl rfl (by kernel_rfl) (by kernel_rfl) (by kernel_rfl) rfl trivial (fun _ _ => rfl) ?_
  simp only [Act.put, List.setIfInBounds_toArray, List.set_cons_succ, List.set_cons_zero]
  refine held_take 7 37 _ (.pointer (some ⟨G, 0, none⟩)) rfl rfl (by kernel_rfl) (by kernel_rfl) (by kernel_rfl) rfl trivial (fun _ _ => rfl) ?_
  simp only [Act.put, List.setIfInBounds_toArray, List.set_cons_succ, List.set_cons_zero]
  refine held_take 8 38 _ (.pointer (some ⟨B, 4, none⟩)) rfl rfl (by kernel_rfl) (by kernel_rfl) (by kernel_rfl) rfl trivial (fun _ _ => rfl) ?_
  simp only [Act.put, List.setIfInBounds_toArray, List.set_cons_succ, List.set_cons_zero]
  refine held_all2 4 9 (by kernel_rfl) ?_ ?_
  · refine op_value 4 34 _ (.slice av s.wt.length cv) (W.drew) rfl rfl rfl (exec_loadc 41 _ rfl _ _ rfl (load_one 41 (fun _ => by kernel_rfl) (W.drew) _ _ _ (hLW.head.cell (j := 6) rfl))) ⟨trivial, ?_⟩
    simp only [Act.put, List.setIfInBounds_toArray, List.set_cons_succ, List.set_cons_zero]
    refine held_all1 9 (by kernel_rfl) (op_value 9 39 _ (.int .i64 p.a) (W.drew) rfl rfl rfl (exec_loadc 3 _ rfl _ _ rfl (load_one 3 (fun _ => by kernel_rfl) (W.drew) _ _ _ (kBW.cell (j := 4) rfl))) ⟨trivial, ?_⟩)
    simp only [Act.put, List.setIfInBounds_toArray, List.set_cons_succ, List.set_cons_zero]
    refine held_all1 10 (by kernel_rfl) (op_call 10 40 _ 41 #[.pointer (some ⟨G, 0, none⟩), .int .i64 p.a] rfl rfl rfl (exec_two8 41 _ _ _ rfl _ _ rfl rfl Try.call41) ((HAC.out W.drew hLW.head.drew).mono ?_))
    rintro e W1 ⟨rfl, hk1, hc1⟩
    refine ⟨_, rfl, trivial, ?_⟩
    simp only [Act.put, List.setIfInBounds_toArray, List.set_cons_succ, List.set_cons_zero]
    refine held_all1 11 (by kernel_rfl) (op_call 11 41 _ 40 #[.slice av s.wt.length cv, .int .i64 0, .int .i64 (goneK s p.a : Int)] rfl rfl rfl (exec_three8 40 _ _ _ _ rfl _ _ _ rfl rfl rfl Try.call40) ((HDL.out W1 hc1).mono ?_))
    rintro e W2 ⟨a2, c2, rfl, hr2, hv2, hc2⟩
    obtain ⟨hL4, hC4, x6, z6⟩ := hLW.dropped (HPA.out) hk1 ((Chg.refl (fun q => q = G) W).drew.trans (S' := fun q => q = G) hc1 (fun _ _ e => e)) hr2 hv2 hc2 hCW
    refine ⟨_, rfl, trivial, ?_⟩
    simp only [Act.put, List.setIfInBounds_toArray, List.set_cons_succ, List.set_cons_zero]
    refine held_take 12 42 _ (.pointer (some ⟨G, 0, none⟩)) rfl rfl (by kernel_rfl) (by kernel_rfl) (by kernel_rfl) rfl trivial (fun _ _ => rfl) ?_
    simp only [Act.put, List.setIfInBounds_toArray, List.set_cons_succ, List.set_cons_zero]
    refine held_take 13 43 _ (.pointer (some ⟨G, 6, none⟩)) rfl rfl (by kernel_rfl) (by kernel_rfl) (by kernel_rfl) rfl trivial (fun _ _ => rfl) ?_
    simp only [Act.put, List.setIfInBounds_toArray, List.set_cons_succ, List.set_cons_zero]
    refine held_all1 14 (by kernel_rfl) (op_skip 14 _ (W2.setCell ⟨G, 6, none⟩ (.slice a2 (s.wt.length - goneK s p.a) c2)) rfl rfl rfl (exec_storesK _ _ rfl G 6 a2 (s.wt.length - goneK s p.a) c2 _ rfl rfl x6 z6) ⟨trivial, ?_⟩)
    refine wpAnyH_done (by kernel_rfl) ?_ _
    refine NoPanic.normal ?_
    have hszW : w.heap.size ≤ (W2.setCell ⟨G, 6, none⟩ (.slice a2 (s.wt.length - goneK s p.a) c2)).heap.size := hC4.size
    have hcW4 : Chg (LM G (.slice av s.wt.length cv)) W (W2.setCell ⟨G, 6, none⟩ (.slice a2 (s.wt.length - goneK s p.a) c2)) := (((Chg.refl (LM G (.slice av s.wt.length cv)) W).drew.trans (S' := LM G (.slice av s.wt.length cv)) (hc1.weaken (fun q e => .inl e)) (fun _ _ e => e)).trans (S' := LM G (.slice av s.wt.length cv)) (hc2.weaken (fun q e => .inr e)) (fun _ _ e => e)).setCell G 6 _ (fun _ => .inl rfl)
    have hS4 := hSW.chgs hcW4 (fun q e => hLW.sub q e)
    have kB4 := kBW.chg hcW4 (fun e => hTB (hLW.sub B e))
    rw [← HTT.out] at hL4
    clear hLW hSW kBW hCW HAC HDL hk1 hc1 hr2 hc2 x6 z6 hcW4 HTT
    generalize W2.setCell ⟨G, 6, none⟩ (.slice a2 (s.wt.length - goneK s p.a) c2) = W4 at *
    obtain ⟨m2, hm2⟩ : ∃ m2, m2 = s.wt.length - goneK s p.a := ⟨_, rfl⟩
    rw [← hm2] at hv2 hL4 ⊢
    clear hm2
    have b3 : W4.cell? ⟨B, 3, none⟩ = some (.int .i64 p.s) := kB4.cell (j := 3) rfl
    have b5 : W4.cell? ⟨B, 5, none⟩ = some (.slice ax p.b.length cx) := kB4.cell (j := 5) rfl
    have x4 : W4.cell? ⟨G, 4, none⟩ = some (.int .i64 (t.ne : Int)) := hL4.head.cell (j := 4) rfl
    have z4 := hL4.head.frozen 4
    by_cases hs0 : p.s = 0
    · have HBR : Hid (bringK t p = ([], [], t)) := by
        show _ = _
        unfold bringK
        rw [if_pos hs0]
      rw [hs0] at b3
      clear hs0 b5 x4 z4 kB4 hS4 HPS
      go_wp2
      go_ret2
      rw [HBR.out]
      exact ⟨_, _, _, rfl, hL4, hv2, RowsO.nil _ _ _, PksO.nil _ _ _, hC4⟩
    have d5 : (p.s == 0) = false := beq_eq_false_iff_ne.2 hs0
    by_cases hsn : p.s = (t.ne : Int)
    · have HBR : Hid (bringK t p = ([p.b], [ackK { t with ne := t.ne + 1 }], { t with ne := t.ne + 1 })) := by
        show _ = _
        unfold bringK
        rw [if_neg hs0, if_pos hsn]
      have hok5 : ({ t with ne := t.ne + 1 } : KS).ok := by
        have := bringK_ok hL4.ok (p := p) HPS.out
        rw [HBR.out] at this
        exact this
      have d6 : (p.s == (t.ne : Int)) = true := beq_iff_eq.2 hsn
      have hwn : IntKind.i64.wrap ((t.ne : Int) + 1) = (t.ne : Int) + 1 := by have := hL4.ok.ne; rw [IntKind.wrap_i64]; omega
      clear hs0 hsn HPS
      go_wp2_with fail
      go_quiet (fail)
      have hL5 := hL4.after (Below.drewN (Below.refl _ _) nq)
      have hS5 := hS4.after (Below.drewN (Below.refl _ _) nq)
      have hC5 := hC4.trans (S' := fun _ => False) (Chg.of_below (Below.drewN (Below.refl W4.heap.size W4) nq) (Nat.le_refl _)) (fun _ _ e => e.elim)
      have e5 : (W4.drewN nq).cell? ⟨B, 5, none⟩ = some (.slice ax p.b.length cx) := b5
      generalize W4.drewN nq = W5 at *
      clear hC4 hL4 kB4 hS4 b3 b5 x4 z4 d5 d6
      have hsz5 : w.heap.size ≤ W5.heap.size := hC5.size
      go_wp2_with fail
      refine (clone_anyD _ p.b W5 (by omega) hS5.1).mono ?_
      rintro e W6 ⟨uc, rfl, ho6, hb6⟩
      obtain ⟨ac, cc, rfl⟩ := ho6.seg.shapeD
      have hL6 := hL5.after hb6
      have hsz6 := hb6.size
      have hb7 := below_new W6 (.cells #[.slice ac p.b.length cc] 32)
      have hL7 := hL6.after hb7
      have hseg7 : SegA W6 T (.slice ac p.b.length cc) p.b := ho6.segK (fun q hq => hL5.lt q hq)
      have hk7 := Blk.new W6 32 #[.slice ac p.b.length cc]
      obtain ⟨rv, W8, happ, hr8, hg8, hv8⟩ := (RowsO.nil (W6.alloc (.cells #[.slice ac p.b.length cc] 32)) T w.heap.size).app (fun q e => by cases e) ⟨W6.heap.size, 0, none⟩ 1 [.slice ac p.b.length cc] [p.b] rfl (fun j u hu => by
        match j, hu with
        | 0, hu => cases hu; exact hk7.cell (j := 0) rfl
        | (j + 1), hu => simp at hu) (fun i u r hu hr => by
        match i, hu, hr with
        | 0, hu, hr => cases hu; cases hr; exact hseg7.after hb7
        | (i + 1), hu, hr => simp at hu) (by simp) (by simp; omega)
      have hb8 : Below (W6.alloc (.cells #[.slice ac p.b.length cc] 32)).heap.size (W6.alloc (.cells #[.slice ac p.b.length cc] 32)) W8 := below_grown (Below.refl _ _) hg8 (Nat.le_refl _) (fun k e => by cases e)
      have hL8 := hL7.after hb8
      have hr8' : RowsO W8 T w.heap.size rv [p.b] := hr8.grow (fun q e => .inl (.inl e))
      have hC8 : Chg (LM G (.slice av s.wt.length cv)) w W8 := ((hC5.trans (S' := fun _ => False) (Chg.of_below hb6 (Nat.le_refl _)) (fun _ _ e => e.elim)).trans (S' := fun _ => False) (Chg.of_below hb7 (Nat.le_refl _)) (fun _ _ e => e.elim)).trans (S' := fun _ => False) (Chg.of_below hb8 (Nat.le_refl _)) (fun _ _ e => e.elim)
      have hrv := hr8'.lt
      obtain ⟨ar, cr, rfl⟩ := hr8'.shape
      have x4 : W8.cell? ⟨G, 4, none⟩ = some (.int .i64 (t.ne : Int)) := hL8.head.cell (j := 4) rfl
      have z4 := hL8.head.frozen 4
      have hcG : Chg (fun q => q = G) W8 (W8.setCell ⟨G, 4, none⟩ (.int .i64 ((t.ne : Int) + 1))) := (Chg.refl (fun q => q = G) W8).setCell G 4 _ (fun _ => rfl)
      have hL9 : LP (W8.setCell ⟨G, 4, none⟩ (.int .i64 ((t.ne : Int) + 1))) T lo G (.slice a2 m2 c2) { t with ne := t.ne + 1 } := ⟨(hL8.head.set 4 _).of_eq (by unfold linkC; simp), hL8.row.chg hcG (fun q e => by rw [e]; exact hL8.tG) (fun q hq e => hL8.ne (by rw [← e]; exact hq)), hok5, hL8.tG, hL8.tv, fun q hq => Nat.lt_of_lt_of_le (hL8.lt q hq) hcG.size, hL8.ge, hL8.ne⟩
      have hr9 := hr8'.chg hcG (fun q e => by rw [e]; exact hL8.tG) (fun q hq e => by have := (hrv q hq).1; omega)
      have hC9 : Chg (LM G (.slice av s.wt.length cv)) w (W8.setCell ⟨G, 4, none⟩ (.int .i64 ((t.ne : Int) + 1))) := hC8.trans (S' := LM G (.slice av s.wt.length cv)) (hcG.weaken (fun q e => .inl e)) (fun _ _ e => e)
      have hAC := acknK_any G { t with ne := t.ne + 1 } (.slice a2 m2 c2) (W8.setCell ⟨G, 4, none⟩ (.int .i64 ((t.ne : Int) + 1))) hL9.head hok5.ne.2
      have hAE : ackK { t with ne := t.ne + 1 } = ⟨3, t.ep, t.pe, 0, (t.ne : Int), []⟩ := by
        unfold ackK
        congr 1
        show ((t.ne + 1 : Nat) : Int) - 1 = _
        omega
      rw [hAE] at hAC
      have HAK : Hid (Calls Try.prog 38 #[.pointer (some ⟨G, 0, none⟩)] (W8.setCell ⟨G, 4, none⟩ (.int .i64 ((t.ne : Int) + 1))) fun r w' => r = .returned (.agg #[.int .i64 3, .int .i64 t.ep, .int .i64 t.pe, .int .i64 0, .int .i64 (t.ne : Int), .slice none 0 0]) ∧ Below (W8.setCell ⟨G, 4, none⟩ (.int .i64 ((t.ne : Int) + 1))).heap.size (W8.setCell ⟨G, 4, none⟩ (.int .i64 ((t.ne : Int) + 1))) w') := hAC
      have HAE : Hid (ackK { t with ne := t.ne + 1 } = ⟨3, t.ep, t.pe, 0, (t.ne : Int), []⟩) := hAE
      clear hL5 hL6 hL7 hL8 hr8 hr8' hC5 hC8 hcG hb6 hb7 hb8 hg8 hv8 hS5 ho6 hk7 hseg7 hAC hAE hok5
      go_wp2_with (at_builtin; refine app_ranK _ W8 rfl _ _ 41 rfl (.slice none 0 0) (.slice (some ⟨W6.heap.size, 0, none⟩) 1 1) (.slice ar [p.b].length cr) rfl rfl happ ?_)
      refine HAK.out.mono ?_
      rintro e W10 ⟨rfl, hb10⟩
      generalize W8.setCell ⟨G, 4, none⟩ (.int .i64 ((t.ne : Int) + 1)) = W9 at *
      have hL10 := hL9.after hb10
      have hr10 := hr9.after hb10
      have hP11 := pks_one (lo := w.heap.size) ⟨3, t.ep, t.pe, 0, (t.ne : Int), []⟩ (.slice none 0 0) (segA_nil W10 T) hL10.lt (Nat.le_trans hC9.size hb10.size)
      have hb11 := below_new W10 (.cells (kpL ⟨3, t.ep, t.pe, 0, (t.ne : Int), []⟩ (.slice none 0 0)).toArray 34)
      have hL11 := hL10.after hb11
      have hr11 := hr10.after hb11
      have hC11 : Chg (LM G (.slice av s.wt.length cv)) w (W10.alloc (.cells (kpL ⟨3, t.ep, t.pe, 0, (t.ne : Int), []⟩ (.slice none 0 0)).toArray 34)) := (hC9.trans (S' := fun _ => False) (Chg.of_below hb10 (Nat.le_refl _)) (fun _ _ e => e.elim)).trans (S' := fun _ => False) (Chg.of_below hb11 (Nat.le_refl _)) (fun _ _ e => e.elim)
      clear HAK happ x4 z4 hL9 hr9 hC9 hL10 hr10
      go_wp2
      go_ret2
      rw [HBR.out, HAE.out]
      exact ⟨_, _, _, rfl, hL11, hv2, hr11, hP11, hC11⟩
    · have HBR : Hid (bringK t p = ([], [ackK t], t)) := by
        show _ = _
        unfold bringK
        rw [if_neg hs0, if_neg hsn]
      have d6 : (p.s == (t.ne : Int)) = false := beq_eq_false_iff_ne.2 hsn
      have HAK : Hid (∀ V, Blk V G 69 (linkC t (.slice a2 m2 c2)) → Calls Try.prog 38 #[.pointer (some ⟨G, 0, none⟩)] V fun r w' => r = .returned (.agg #[.int .i64 3, .int .i64 t.ep, .int .i64 t.pe, .int .i64 0, .int .i64 ((t.ne : Int) - 1), .slice none 0 0]) ∧ Below V.heap.size V w') := fun V hV => acknK_any G t _ V hV hL4.ok.ne.2
      clear hs0 hsn HPS b5 z4
      go_wp2_with fail
      go_quiet (fail)
      have hL5 := hL4.after (Below.drewN (Below.refl _ _) nq)
      have hC5 := hC4.trans (S' := fun _ => False) (Chg.of_below (Below.drewN (Below.refl W4.heap.size W4) nq) (Nat.le_refl _)) (fun _ _ e => e.elim)
      generalize W4.drewN nq = W5 at *
      clear hC4 hL4 kB4 hS4 b3 x4 d5 d6
      go_wp2_with fail
      refine (HAK.out W5 hL5.head).mono ?_
      rintro e W10 ⟨rfl, hb10⟩
      have hL10 := hL5.after hb10
      have hP11 := pks_one (lo := w.heap.size) (ackK t) (.slice none 0 0) (segA_nil W10 T) hL10.lt (Nat.le_trans hC5.size hb10.size)
      have hb11 := below_new W10 (.cells (kpL (ackK t) (.slice none 0 0)).toArray 34)
      have hL11 := hL10.after hb11
      have hC11 : Chg (LM G (.slice av s.wt.length cv)) w (W10.alloc (.cells (kpL (ackK t) (.slice none 0 0)).toArray 34)) := (hC5.trans (S' := fun _ => False) (Chg.of_below hb10 (Nat.le_refl _)) (fun _ _ e => e.elim)).trans (S' := fun _ => False) (Chg.of_below hb11 (Nat.le_refl _)) (fun _ _ e => e.elim)
      clear HAK hL5 hL10 hC5
      go_wp2
      go_ret2
      rw [HBR.out]
      exact ⟨_, _, _, rfl, hL11, hv2, RowsO.nil _ _ _, hP11, hC11⟩
  · refine op_value 9 39 _ (.int .i64 p.a) (W.drew) rfl rfl rfl (exec_loadc 3 _ rfl _ _ rfl (load_one 3 (fun _ => by kernel_rfl) (W.drew) _ _ _ (kBW.cell (j := 4) rfl))) ⟨trivial, ?_⟩
    simp only [Act.put, List.setIfInBounds_toArray, List.set_cons_succ, List.set_cons_zero]
    refine held_all2 4 10 (by kernel_rfl) ?_ ?_
    · refine op_value 4 34 _ (.slice av s.wt.length cv) (W.drew) rfl rfl rfl (exec_loadc 41 _ rfl _ _ rfl (load_one 41 (fun _ => by kernel_rfl) (W.drew) _ _ _ (hLW.head.cell (j := 6) rfl))) ⟨trivial, ?_⟩
      simp only [Act.put, List.setIfInBounds_toArray, List.set_cons_succ, List.set_cons_zero]
      refine held_all1 10 (by kernel_rfl) (op_call 10 40 _ 41 #[.pointer (some ⟨G, 0, none⟩), .int .i64 p.a] rfl rfl rfl (exec_two8 41 _ _ _ rfl _ _ rfl rfl Try.call41) ((HAC.out W.drew hLW.head.drew).mono ?_))
      rintro e W1 ⟨rfl, hk1, hc1⟩
      refine ⟨_, rfl, trivial, ?_⟩
      simp only [Act.put, List.setIfInBounds_toArray, List.set_cons_succ, List.set_cons_zero]
      refine held_all1 11 (by kernel_rfl) (op_call 11 41 _ 40 #[.slice av s.wt.length cv, .int .i64 0, .int .i64 (goneK s p.a : Int)] rfl rfl rfl (exec_three8 40 _ _ _ _ rfl _ _ _ rfl rfl rfl Try.call40) ((HDL.out W1 hc1).mono ?_))
      rintro e W2 ⟨a2, c2, rfl, hr2, hv2, hc2⟩
      obtain ⟨hL4, hC4, x6, z6⟩ := hLW.dropped (HPA.out) hk1 ((Chg.refl (fun q => q = G) W).drew.trans (S' := fun q => q = G) hc1 (fun _ _ e => e)) hr2 hv2 hc2 hCW
      refine ⟨_, rfl, trivial, ?_⟩
      simp only [Act.put, List.setIfInBounds_toArray, List.set_cons_succ, List.set_cons_zero]
      refine held_take 12 42 _ (.pointer (some ⟨G, 0, none⟩)) rfl rfl (by kernel_rfl) (by kernel_rfl) (by kernel_rfl) rfl trivial (fun _ _ => rfl) ?_
      simp only [Act.put, List.setIfInBounds_toArray, List.set_cons_succ, List.set_cons_zero]
      refine held_take 13 43 _ (.pointer (some ⟨G, 6, none⟩)) rfl rfl (by kernel_rfl) (by kernel_rfl) (by kernel_rfl) rfl trivial (fun _ _ => rfl) ?_
      simp only [Act.put, List.setIfInBounds_toArray, List.set_cons_succ, List.set_cons_zero]
      refine held_all1 14 (by kernel_rfl) (op_skip 14 _ (W2.setCell ⟨G, 6, none⟩ (.slice a2 (s.wt.length - goneK s p.a) c2)) rfl rfl rfl (exec_storesK _ _ rfl G 6 a2 (s.wt.length - goneK s p.a) c2 _ rfl rfl x6 z6) ⟨trivial, ?_⟩)
      refine wpAnyH_done (by kernel_rfl) ?_ _
      refine NoPanic.normal ?_
      have hszW : w.heap.size ≤ (W2.setCell ⟨G, 6, none⟩ (.slice a2 (s.wt.length - goneK s p.a) c2)).heap.size := hC4.size
      have hcW4 : Chg (LM G (.slice av s.wt.length cv)) W (W2.setCell ⟨G, 6, none⟩ (.slice a2 (s.wt.length - goneK s p.a) c2)) := (((Chg.refl (LM G (.slice av s.wt.length cv)) W).drew.trans (S' := LM G (.slice av s.wt.length cv)) (hc1.weaken (fun q e => .inl e)) (fun _ _ e => e)).trans (S' := LM G (.slice av s.wt.length cv)) (hc2.weaken (fun q e => .inr e)) (fun _ _ e => e)).setCell G 6 _ (fun _ => .inl rfl)
      have hS4 := hSW.chgs hcW4 (fun q e => hLW.sub q e)
      have kB4 := kBW.chg hcW4 (fun e => hTB (hLW.sub B e))
      rw [← HTT.out] at hL4
      clear hLW hSW kBW hCW HAC HDL hk1 hc1 hr2 hc2 x6 z6 hcW4 HTT
      generalize W2.setCell ⟨G, 6, none⟩ (.slice a2 (s.wt.length - goneK s p.a) c2) = W4 at *
      obtain ⟨m2, hm2⟩ : ∃ m2, m2 = s.wt.length - goneK s p.a := ⟨_, rfl⟩
      rw [← hm2] at hv2 hL4 ⊢
      clear hm2
      have b3 : W4.cell? ⟨B, 3, none⟩ = some (.int .i64 p.s) := kB4.cell (j := 3) rfl
      have b5 : W4.cell? ⟨B, 5, none⟩ = some (.slice ax p.b.length cx) := kB4.cell (j := 5) rfl
      have x4 : W4.cell? ⟨G, 4, none⟩ = some (.int .i64 (t.ne : Int)) := hL4.head.cell (j := 4) rfl
      have z4 := hL4.head.frozen 4
      by_cases hs0 : p.s = 0
      · have HBR : Hid (bringK t p = ([], [], t)) := by
          show _ = _
          unfold bringK
          rw [if_pos hs0]
        rw [hs0] at b3
        clear hs0 b5 x4 z4 kB4 hS4 HPS
        go_wp2
        go_ret2
        rw [HBR.out]
        exact ⟨_, _, _, rfl, hL4, hv2, RowsO.nil _ _ _, PksO.nil _ _ _, hC4⟩
      have d5 : (p.s == 0) = false := beq_eq_false_iff_ne.2 hs0
      by_cases hsn : p.s = (t.ne : Int)
      · have HBR : Hid (bringK t p = ([p.b], [ackK { t with ne := t.ne + 1 }], { t with ne := t.ne + 1 })) := by
          show _ = _
          unfold bringK
          rw [if_neg hs0, if_pos hsn]
        have hok5 : ({ t with ne := t.ne + 1 } : KS).ok := by
          have := bringK_ok hL4.ok (p := p) HPS.out
          rw [HBR.out] at this
          exact this
        have d6 : (p.s == (t.ne : Int)) = true := beq_iff_eq.2 hsn
        have hwn : IntKind.i64.wrap ((t.ne : Int) + 1) = (t.ne : Int) + 1 := by have := hL4.ok.ne; rw [IntKind.wrap_i64]; omega
        clear hs0 hsn HPS
        go_wp2_with fail
        go_quiet (fail)
        have hL5 := hL4.after (Below.drewN (Below.refl _ _) nq)
        have hS5 := hS4.after (Below.drewN (Below.refl _ _) nq)
        have hC5 := hC4.trans (S' := fun _ => False) (Chg.of_below (Below.drewN (Below.refl W4.heap.size W4) nq) (Nat.le_refl _)) (fun _ _ e => e.elim)
        have e5 : (W4.drewN nq).cell? ⟨B, 5, none⟩ = some (.slice ax p.b.length cx) := b5
        generalize W4.drewN nq = W5 at *
        clear hC4 hL4 kB4 hS4 b3 b5 x4 z4 d5 d6
        have hsz5 : w.heap.size ≤ W5.heap.size := hC5.size
        go_wp2_with fail
        refine (clone_anyD _ p.b W5 (by omega) hS5.1).mono ?_
        rintro e W6 ⟨uc, rfl, ho6, hb6⟩
        obtain ⟨ac, cc, rfl⟩ := ho6.seg.shapeD
        have hL6 := hL5.after hb6
        have hsz6 := hb6.size
        have hb7 := below_new W6 (.cells #[.slice ac p.b.length cc] 32)
        have hL7 := hL6.after hb7
        have hseg7 : SegA W6 T (.slice ac p.b.length cc) p.b := ho6.segK (fun q hq => hL5.lt q hq)
        have hk7 := Blk.new W6 32 #[.slice ac p.b.length cc]
        obtain ⟨rv, W8, happ, hr8, hg8, hv8⟩ := (RowsO.nil (W6.alloc (.cells #[.slice ac p.b.length cc] 32)) T w.heap.size).app (fun q e => by cases e) ⟨W6.heap.size, 0, none⟩ 1 [.slice ac p.b.length cc] [p.b] rfl (fun j u hu => by
          match j, hu with
          | 0, hu => cases hu; exact hk7.cell (j := 0) rfl
          | (j + 1), hu => simp at hu) (fun i u r hu hr => by
          match i, hu, hr with
          | 0, hu, hr => cases hu; cases hr; exact hseg7.after hb7
          | (i + 1), hu, hr => simp at hu) (by simp) (by simp; omega)
        have hb8 : Below (W6.alloc (.cells #[.slice ac p.b.length cc] 32)).heap.size (W6.alloc (.cells #[.slice ac p.b.length cc] 32)) W8 := below_grown (Below.refl _ _) hg8 (Nat.le_refl _) (fun k e => by cases e)
        have hL8 := hL7.after hb8
        have hr8' : RowsO W8 T w.heap.size rv [p.b] := hr8.grow (fun q e => .inl (.inl e))
        have hC8 : Chg (LM G (.slice av s.wt.length cv)) w W8 := ((hC5.trans (S' := fun _ => False) (Chg.of_below hb6 (Nat.le_refl _)) (fun _ _ e => e.elim)).trans (S' := fun _ => False) (Chg.of_below hb7 (Nat.le_refl _)) (fun _ _ e => e.elim)).trans (S' := fun _ => False) (Chg.of_below hb8 (Nat.le_refl _)) (fun _ _ e => e.elim)
        have hrv := hr8'.lt
        obtain ⟨ar, cr, rfl⟩ := hr8'.shape
        have x4 : W8.cell? ⟨G, 4, none⟩ = some (.int .i64 (t.ne : Int)) := hL8.head.cell (j := 4) rfl
        have z4 := hL8.head.frozen 4
        have hcG : Chg (fun q => q = G) W8 (W8.setCell ⟨G, 4, none⟩ (.int .i64 ((t.ne : Int) + 1))) := (Chg.refl (fun q => q = G) W8).setCell G 4 _ (fun _ => rfl)
        have hL9 : LP (W8.setCell ⟨G, 4, none⟩ (.int .i64 ((t.ne : Int) + 1))) T lo G (.slice a2 m2 c2) { t with ne := t.ne + 1 } := ⟨(hL8.head.set 4 _).of_eq (by unfold linkC; simp), hL8.row.chg hcG (fun q e => by rw [e]; exact hL8.tG) (fun q hq e => hL8.ne (by rw [← e]; exact hq)), hok5, hL8.tG, hL8.tv, fun q hq => Nat.lt_of_lt_of_le (hL8.lt q hq) hcG.size, hL8.ge, hL8.ne⟩
        have hr9 := hr8'.chg hcG (fun q e => by rw [e]; exact hL8.tG) (fun q hq e => by have := (hrv q hq).1; omega)
        have hC9 : Chg (LM G (.slice av s.wt.length cv)) w (W8.setCell ⟨G, 4, none⟩ (.int .i64 ((t.ne : Int) + 1))) := hC8.trans (S' := LM G (.slice av s.wt.length cv)) (hcG.weaken (fun q e => .inl e)) (fun _ _ e => e)
        have hAC := acknK_any G { t with ne := t.ne + 1 } (.slice a2 m2 c2) (W8.setCell ⟨G, 4, none⟩ (.int .i64 ((t.ne : Int) + 1))) hL9.head hok5.ne.2
        have hAE : ackK { t with ne := t.ne + 1 } = ⟨3, t.ep, t.pe, 0, (t.ne : Int), []⟩ := by
          unfold ackK
          congr 1
          show ((t.ne + 1 : Nat) : Int) - 1 = _
          omega
        rw [hAE] at hAC
        have HAK : Hid (Calls Try.prog 38 #[.pointer (some ⟨G, 0, none⟩)] (W8.setCell ⟨G, 4, none⟩ (.int .i64 ((t.ne : Int) + 1))) fun r w' => r = .returned (.agg #[.int .i64 3, .int .i64 t.ep, .int .i64 t.pe, .int .i64 0, .int .i64 (t.ne : Int), .slice none 0 0]) ∧ Below (W8.setCell ⟨G, 4, none⟩ (.int .i64 ((t.ne : Int) + 1))).heap.size (W8.setCell ⟨G, 4, none⟩ (.int .i64 ((t.ne : Int) + 1))) w') := hAC
        have HAE : Hid (ackK { t with ne := t.ne + 1 } = ⟨3, t.ep, t.pe, 0, (t.ne : Int), []⟩) := hAE
        clear hL5 hL6 hL7 hL8 hr8 hr8' hC5 hC8 hcG hb6 hb7 hb8 hg8 hv8 hS5 ho6 hk7 hseg7 hAC hAE hok5
        go_wp2_with (at_builtin; refine app_ranK _ W8 rfl _ _ 41 rfl (.slice none 0 0) (.slice (some ⟨W6.heap.size, 0, none⟩) 1 1) (.slice ar [p.b].length cr) rfl rfl happ ?_)
        refine HAK.out.mono ?_
        rintro e W10 ⟨rfl, hb10⟩
        generalize W8.setCell ⟨G, 4, none⟩ (.int .i64 ((t.ne : Int) + 1)) = W9 at *
        have hL10 := hL9.after hb10
        have hr10 := hr9.after hb10
        have hP11 := pks_one (lo := w.heap.size) ⟨3, t.ep, t.pe, 0, (t.ne : Int), []⟩ (.slice none 0 0) (segA_nil W10 T) hL10.lt (Nat.le_trans hC9.size hb10.size)
        have hb11 := below_new W10 (.cells (kpL ⟨3, t.ep, t.pe, 0, (t.ne : Int), []⟩ (.slice none 0 0)).toArray 34)
        have hL11 := hL10.after hb11
        have hr11 := hr10.after hb11
        have hC11 : Chg (LM G (.slice av s.wt.length cv)) w (W10.alloc (.cells (kpL ⟨3, t.ep, t.pe, 0, (t.ne : Int), []⟩ (.slice none 0 0)).toArray 34)) := (hC9.trans (S' := fun _ => False) (Chg.of_below hb10 (Nat.le_refl _)) (fun _ _ e => e.elim)).trans (S' := fun _ => False) (Chg.of_below hb11 (Nat.le_refl _)) (fun _ _ e => e.elim)
        clear HAK happ x4 z4 hL9 hr9 hC9 hL10 hr10
        go_wp2
        go_ret2
        rw [HBR.out, HAE.out]
        exact ⟨_, _, _, rfl, hL11, hv2, hr11, hP11, hC11⟩
      · have HBR : Hid (bringK t p = ([], [ackK t], t)) := by
          show _ = _
          unfold bringK
          rw [if_neg hs0, if_neg hsn]
        have d6 : (p.s == (t.ne : Int)) = false := beq_eq_false_iff_ne.2 hsn
        have HAK : Hid (∀ V, Blk V G 69 (linkC t (.slice a2 m2 c2)) → Calls Try.prog 38 #[.pointer (some ⟨G, 0, none⟩)] V fun r w' => r = .returned (.agg #[.int .i64 3, .int .i64 t.ep, .int .i64 t.pe, .int .i64 0, .int .i64 ((t.ne : Int) - 1), .slice none 0 0]) ∧ Below V.heap.size V w') := fun V hV => acknK_any G t _ V hV hL4.ok.ne.2
        clear hs0 hsn HPS b5 z4
        go_wp2_with fail
        go_quiet (fail)
        have hL5 := hL4.after (Below.drewN (Below.refl _ _) nq)
        have hC5 := hC4.trans (S' := fun _ => False) (Chg.of_below (Below.drewN (Below.refl W4.heap.size W4) nq) (Nat.le_refl _)) (fun _ _ e => e.elim)
        generalize W4.drewN nq = W5 at *
        clear hC4 hL4 kB4 hS4 b3 x4 d5 d6
        go_wp2_with fail
        refine (HAK.out W5 hL5.head).mono ?_
        rintro e W10 ⟨rfl, hb10⟩
        have hL10 := hL5.after hb10
        have hP11 := pks_one (lo := w.heap.size) (ackK t) (.slice none 0 0) (segA_nil W10 T) hL10.lt (Nat.le_trans hC5.size hb10.size)
        have hb11 := below_new W10 (.cells (kpL (ackK t) (.slice none 0 0)).toArray 34)
        have hL11 := hL10.after hb11
        have hC11 : Chg (LM G (.slice av s.wt.length cv)) w (W10.alloc (.cells (kpL (ackK t) (.slice none 0 0)).toArray 34)) := (hC5.trans (S' := fun _ => False) (Chg.of_below hb10 (Nat.le_refl _)) (fun _ _ e => e.elim)).trans (S' := fun _ => False) (Chg.of_below hb11 (Nat.le_refl _)) (fun _ _ e => e.elim)
        clear HAK hL5 hL10 hC5
        go_wp2
        go_ret2
        rw [HBR.out]
        exact ⟨_, _, _, rfl, hL11, hv2, RowsO.nil _ _ _, hP11, hC11⟩
    · refine op_call 10 40 _ 41 #[.pointer (some ⟨G, 0, none⟩), .int .i64 p.a] rfl rfl rfl (exec_two8 41 _ _ _ rfl _ _ rfl rfl Try.call41) ((HAC.out W.drew hLW.head.drew).mono ?_)
      rintro e W1 ⟨rfl, hk1, hc1⟩
      refine ⟨_, rfl, trivial, ?_⟩
      simp only [Act.put, List.setIfInBounds_toArray, List.set_cons_succ, List.set_cons_zero]
      refine held_all1 4 (by kernel_rfl) (op_value 4 34 _ (.slice av s.wt.length cv) (W1) rfl rfl rfl (exec_loadc 41 _ rfl _ _ rfl (load_one 41 (fun _ => by kernel_rfl) (W1) _ _ _ (hk1.cell (j := 6) rfl))) ⟨trivial, ?_⟩)
      simp only [Act.put, List.setIfInBounds_toArray, List.set_cons_succ, List.set_cons_zero]
      refine held_all1 11 (by kernel_rfl) (op_call 11 41 _ 40 #[.slice av s.wt.length cv, .int .i64 0, .int .i64 (goneK s p.a : Int)] rfl rfl rfl (exec_three8 40 _ _ _ _ rfl _ _ _ rfl rfl rfl Try.call40) ((HDL.out W1 hc1).mono ?_))
      rintro e W2 ⟨a2, c2, rfl, hr2, hv2, hc2⟩
      obtain ⟨hL4, hC4, x6, z6⟩ := hLW.dropped (HPA.out) hk1 ((Chg.refl (fun q => q = G) W).drew.trans (S' := fun q => q = G) hc1 (fun _ _ e => e)) hr2 hv2 hc2 hCW
      refine ⟨_, rfl, trivial, ?_⟩
      simp only [Act.put, List.setIfInBounds_toArray, List.set_cons_succ, List.set_cons_zero]
      refine held_take 12 42 _ (.pointer (some ⟨G, 0, none⟩)) rfl rfl (by kernel_rfl) (by kernel_rfl) (by kernel_rfl) rfl trivial (fun _ _ => rfl) ?_
      simp only [Act.put, List.setIfInBounds_toArray, List.set_cons_succ, List.set_cons_zero]
      refine held_take 13 43 _ (.pointer (some ⟨G, 6, none⟩)) rfl rfl (by kernel_rfl) (by kernel_rfl) (by kernel_rfl) rfl trivial (fun _ _ => rfl) ?_
      simp only [Act.put, List.setIfInBounds_toArray, List.set_cons_succ, List.set_cons_zero]
      refine held_all1 14 (by kernel_rfl) (op_skip 14 _ (W2.setCell ⟨G, 6, none⟩ (.slice a2 (s.wt.length - goneK s p.a) c2)) rfl rfl rfl (exec_storesK _ _ rfl G 6 a2 (s.wt.length - goneK s p.a) c2 _ rfl rfl x6 z6) ⟨trivial, ?_⟩)
      refine wpAnyH_done (by kernel_rfl) ?_ _
      refine NoPanic.normal ?_
      have hszW : w.heap.size ≤ (W2.setCell ⟨G, 6, none⟩ (.slice a2 (s.wt.length - goneK s p.a) c2)).heap.size := hC4.size
      have hcW4 : Chg (LM G (.slice av s.wt.length cv)) W (W2.setCell ⟨G, 6, none⟩ (.slice a2 (s.wt.length - goneK s p.a) c2)) := (((Chg.refl (LM G (.slice av s.wt.length cv)) W).drew.trans (S' := LM G (.slice av s.wt.length cv)) (hc1.weaken (fun q e => .inl e)) (fun _ _ e => e)).trans (S' := LM G (.slice av s.wt.length cv)) (hc2.weaken (fun q e => .inr e)) (fun _ _ e => e)).setCell G 6 _ (fun _ => .inl rfl)
      have hS4 := hSW.chgs hcW4 (fun q e => hLW.sub q e)
      have kB4 := kBW.chg hcW4 (fun e => hTB (hLW.sub B e))
      rw [← HTT.out] at hL4
      clear hLW hSW kBW hCW HAC HDL hk1 hc1 hr2 hc2 x6 z6 hcW4 HTT
      generalize W2.setCell ⟨G, 6, none⟩ (.slice a2 (s.wt.length - goneK s p.a) c2) = W4 at *
      obtain ⟨m2, hm2⟩ : ∃ m2, m2 = s.wt.length - goneK s p.a := ⟨_, rfl⟩
      rw [← hm2] at hv2 hL4 ⊢
      clear hm2
      have b3 : W4.cell? ⟨B, 3, none⟩ = some (.int .i64 p.s) := kB4.cell (j := 3) rfl
      have b5 : W4.cell? ⟨B, 5, none⟩ = some (.slice ax p.b.length cx) := kB4.cell (j := 5) rfl
      have x4 : W4.cell? ⟨G, 4, none⟩ = some (.int .i64 (t.ne : Int)) := hL4.head.cell (j := 4) rfl
      have z4 := hL4.head.frozen 4
      by_cases hs0 : p.s = 0
      · have HBR : Hid (bringK t p = ([], [], t)) := by
          show _ = _
          unfold bringK
          rw [if_pos hs0]
        rw [hs0] at b3
        clear hs0 b5 x4 z4 kB4 hS4 HPS
        go_wp2
        go_ret2
        rw [HBR.out]
        exact ⟨_, _, _, rfl, hL4, hv2, RowsO.nil _ _ _, PksO.nil _ _ _, hC4⟩
      have d5 : (p.s == 0) = false := beq_eq_false_iff_ne.2 hs0
      by_cases hsn : p.s = (t.ne : Int)
      · have HBR : Hid (bringK t p = ([p.b], [ackK { t with ne := t.ne + 1 }], { t with ne := t.ne + 1 })) := by
          show _ = _
          unfold bringK
          rw [if_neg hs0, if_pos hsn]
        have hok5 : ({ t with ne := t.ne + 1 } : KS).ok := by
          have := bringK_ok hL4.ok (p := p) HPS.out
          rw [HBR.out] at this
          exact this
        have d6 : (p.s == (t.ne : Int)) = true := beq_iff_eq.2 hsn
        have hwn : IntKind.i64.wrap ((t.ne : Int) + 1) = (t.ne : Int) + 1 := by have := hL4.ok.ne; rw [IntKind.wrap_i64]; omega
        clear hs0 hsn HPS
        go_wp2_with fail
        go_quiet (fail)
        have hL5 := hL4.after (Below.drewN (Below.refl _ _) nq)
        have hS5 := hS4.after (Below.drewN (Below.refl _ _) nq)
        have hC5 := hC4.trans (S' := fun _ => False) (Chg.of_below (Below.drewN (Below.refl W4.heap.size W4) nq) (Nat.le_refl _)) (fun _ _ e => e.elim)
        have e5 : (W4.drewN nq).cell? ⟨B, 5, none⟩ = some (.slice ax p.b.length cx) := b5
        generalize W4.drewN nq = W5 at *
        clear hC4 hL4 kB4 hS4 b3 b5 x4 z4 d5 d6
        have hsz5 : w.heap.size ≤ W5.heap.size := hC5.size
        go_wp2_with fail
        refine (clone_anyD _ p.b W5 (by omega) hS5.1).mono ?_
        rintro e W6 ⟨uc, rfl, ho6, hb6⟩
        obtain ⟨ac, cc, rfl⟩ := ho6.seg.shapeD
        have hL6 := hL5.after hb6
        have hsz6 := hb6.size
        have hb7 := below_new W6 (.cells #[.slice ac p.b.length cc] 32)
        have hL7 := hL6.after hb7
        have hseg7 : SegA W6 T (.slice ac p.b.length cc) p.b := ho6.segK (fun q hq => hL5.lt q hq)
        have hk7 := Blk.new W6 32 #[.slice ac p.b.length cc]
        obtain ⟨rv, W8, happ, hr8, hg8, hv8⟩ := (RowsO.nil (W6.alloc (.cells #[.slice ac p.b.length cc] 32)) T w.heap.size).app (fun q e => by cases e) ⟨W6.heap.size, 0, none⟩ 1 [.slice ac p.b.length cc] [p.b] rfl (fun j u hu => by
          match j, hu with
          | 0, hu => cases hu; exact hk7.cell (j := 0) rfl
          | (j + 1), hu => simp at hu) (fun i u r hu hr => by
          match i, hu, hr with
          | 0, hu, hr => cases hu; cases hr; exact hseg7.after hb7
          | (i + 1), hu, hr => simp at hu) (by simp) (by simp; omega)
        have hb8 : Below (W6.alloc (.cells #[.slice ac p.b.length cc] 32)).heap.size (W6.alloc (.cells #[.slice ac p.b.length cc] 32)) W8 := below_grown (Below.refl _ _) hg8 (Nat.le_refl _) (fun k e => by cases e)
        have hL8 := hL7.after hb8
        have hr8' : RowsO W8 T w.heap.size rv [p.b] := hr8.grow (fun q e => .inl (.inl e))
        have hC8 : Chg (LM G (.slice av s.wt.length cv)) w W8 := ((hC5.trans (S' := fun _ => False) (Chg.of_below hb6 (Nat.le_refl _)) (fun _ _ e => e.elim)).trans (S' := fun _ => False) (Chg.of_below hb7 (Nat.le_refl _)) (fun _ _ e => e.elim)).trans (S' := fun _ => False) (Chg.of_below hb8 (Nat.le_refl _)) (fun _ _ e => e.elim)
        have hrv := hr8'.lt
        obtain ⟨ar, cr, rfl⟩ := hr8'.shape
        have x4 : W8.cell? ⟨G, 4, none⟩ = some (.int .i64 (t.ne : Int)) := hL8.head.cell (j := 4) rfl
        have z4 := hL8.head.frozen 4
        have hcG : Chg (fun q => q = G) W8 (W8.setCell ⟨G, 4, none⟩ (.int .i64 ((t.ne : Int) + 1))) := (Chg.refl (fun q => q = G) W8).setCell G 4 _ (fun _ => rfl)
        have hL9 : LP (W8.setCell ⟨G, 4, none⟩ (.int .i64 ((t.ne : Int) + 1))) T lo G (.slice a2 m2 c2) { t with ne := t.ne + 1 } := ⟨(hL8.head.set 4 _).of_eq (by unfold linkC; simp), hL8.row.chg hcG (fun q e => by rw [e]; exact hL8.tG) (fun q hq e => hL8.ne (by rw [← e]; exact hq)), hok5, hL8.tG, hL8.tv, fun q hq => Nat.lt_of_lt_of_le (hL8.lt q hq) hcG.size, hL8.ge, hL8.ne⟩
        have hr9 := hr8'.chg hcG (fun q e => by rw [e]; exact hL8.tG) (fun q hq e => by have := (hrv q hq).1; omega)
        have hC9 : Chg (LM G (.slice av s.wt.length cv)) w (W8.setCell ⟨G, 4, none⟩ (.int .i64 ((t.ne : Int) + 1))) := hC8.trans (S' := LM G (.slice av s.wt.length cv)) (hcG.weaken (fun q e => .inl e)) (fun _ _ e => e)
        have hAC := acknK_any G { t with ne := t.ne + 1 } (.slice a2 m2 c2) (W8.setCell ⟨G, 4, none⟩ (.int .i64 ((t.ne : Int) + 1))) hL9.head hok5.ne.2
        have hAE : ackK { t with ne := t.ne + 1 } = ⟨3, t.ep, t.pe, 0, (t.ne : Int), []⟩ := by
          unfold ackK
          congr 1
          show ((t.ne + 1 : Nat) : Int) - 1 = _
          omega
        rw [hAE] at hAC
        have HAK : Hid (Calls Try.prog 38 #[.pointer (some ⟨G, 0, none⟩)] (W8.setCell ⟨G, 4, none⟩ (.int .i64 ((t.ne : Int) + 1))) fun r w' => r = .returned (.agg #[.int .i64 3, .int .i64 t.ep, .int .i64 t.pe, .int .i64 0, .int .i64 (t.ne : Int), .slice none 0 0]) ∧ Below (W8.setCell ⟨G, 4, none⟩ (.int .i64 ((t.ne : Int) + 1))).heap.size (W8.setCell ⟨G, 4, none⟩ (.int .i64 ((t.ne : Int) + 1))) w') := hAC
        have HAE : Hid (ackK { t with ne := t.ne + 1 } = ⟨3, t.ep, t.pe, 0, (t.ne : Int), []⟩) := hAE
        clear hL5 hL6 hL7 hL8 hr8 hr8' hC5 hC8 hcG hb6 hb7 hb8 hg8 hv8 hS5 ho6 hk7 hseg7 hAC hAE hok5
        go_wp2_with (at_builtin; refine app_ranK _ W8 rfl _ _ 41 rfl (.slice none 0 0) (.slice (some ⟨W6.heap.size, 0, none⟩) 1 1) (.slice ar [p.b].length cr) rfl rfl happ ?_)
        refine HAK.out.mono ?_
        rintro e W10 ⟨rfl, hb10⟩
        generalize W8.setCell ⟨G, 4, none⟩ (.int .i64 ((t.ne : Int) + 1)) = W9 at *
        have hL10 := hL9.after hb10
        have hr10 := hr9.after hb10
        have hP11 := pks_one (lo := w.heap.size) ⟨3, t.ep, t.pe, 0, (t.ne : Int), []⟩ (.slice none 0 0) (segA_nil W10 T) hL10.lt (Nat.le_trans hC9.size hb10.size)
        have hb11 := below_new W10 (.cells (kpL ⟨3, t.ep, t.pe, 0, (t.ne : Int), []⟩ (.slice none 0 0)).toArray 34)
        have hL11 := hL10.after hb11
        have hr11 := hr10.after hb11
        have hC11 : Chg (LM G (.slice av s.wt.length cv)) w (W10.alloc (.cells (kpL ⟨3, t.ep, t.pe, 0, (t.ne : Int), []⟩ (.slice none 0 0)).toArray 34)) := (hC9.trans (S' := fun _ => False) (Chg.of_below hb10 (Nat.le_refl _)) (fun _ _ e => e.elim)).trans (S' := fun _ => False) (Chg.of_below hb11 (Nat.le_refl _)) (fun _ _ e => e.elim)
        clear HAK happ x4 z4 hL9 hr9 hC9 hL10 hr10
        go_wp2
        go_ret2
        rw [HBR.out, HAE.out]
        exact ⟨_, _, _, rfl, hL11, hv2, hr11, hP11, hC11⟩
      · have HBR : Hid (bringK t p = ([], [ackK t], t)) := by
          show _ = _
          unfold bringK
          rw [if_neg hs0, if_neg hsn]
        have d6 : (p.s == (t.ne : Int)) = false := beq_eq_false_iff_ne.2 hsn
        have HAK : Hid (∀ V, Blk V G 69 (linkC t (.slice a2 m2 c2)) → Calls Try.prog 38 #[.pointer (some ⟨G, 0, none⟩)] V fun r w' => r = .returned (.agg #[.int .i64 3, .int .i64 t.ep, .int .i64 t.pe, .int .i64 0, .int .i64 ((t.ne : Int) - 1), .slice none 0 0]) ∧ Below V.heap.size V w') := fun V hV => acknK_any G t _ V hV hL4.ok.ne.2
        clear hs0 hsn HPS b5 z4
        go_wp2_with fail
        go_quiet (fail)
        have hL5 := hL4.after (Below.drewN (Below.refl _ _) nq)
        have hC5 := hC4.trans (S' := fun _ => False) (Chg.of_below (Below.drewN (Below.refl W4.heap.size W4) nq) (Nat.le_refl _)) (fun _ _ e => e.elim)
        generalize W4.drewN nq = W5 at *
        clear hC4 hL4 kB4 hS4 b3 x4 d5 d6
        go_wp2_with fail
        refine (HAK.out W5 hL5.head).mono ?_
        rintro e W10 ⟨rfl, hb10⟩
        have hL10 := hL5.after hb10
        have hP11 := pks_one (lo := w.heap.size) (ackK t) (.slice none 0 0) (segA_nil W10 T) hL10.lt (Nat.le_trans hC5.size hb10.size)
        have hb11 := below_new W10 (.cells (kpL (ackK t) (.slice none 0 0)).toArray 34)
        have hL11 := hL10.after hb11
        have hC11 : Chg (LM G (.slice av s.wt.length cv)) w (W10.alloc (.cells (kpL (ackK t) (.slice none 0 0)).toArray 34)) := (hC5.trans (S' := fun _ => False) (Chg.of_below hb10 (Nat.le_refl _)) (fun _ _ e => e.elim)).trans (S' := fun _ => False) (Chg.of_below hb11 (Nat.le_refl _)) (fun _ _ e => e.elim)
        clear HAK hL5 hL10 hC5
        go_wp2
        go_ret2
        rw [HBR.out]
        exact ⟨_, _, _, rfl, hL11, hv2, RowsO.nil _ _ _, hP11, hC11⟩
end Go.Proofs.Ytichmnbhephkkaa
