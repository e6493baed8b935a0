/-
  What is proved here: the document's Renew lets a lease last, its End ends one.
  Conditions: the table lies in memory.
-/
import Derived.Test.YthlohlomefiebaaRefLe
namespace Go.Proofs.Ythlohlomefiebaa
open Go.RowKit Go.Maps

theorem exec_addE {a : Act} {o : Oper} {w : World} (t : TypeId) (x y : Operand) (ho : o.op = .binOp .add t x y t) (m n : Int) (hx : a.eval x = .int .i64 m) (hy : a.eval y = .int .i64 n) (hw : IntKind.i64.wrap (m + n) = m + n) : (execOp a.eval o).run Try.prog w = .ok (.value (.int .i64 (m + n))) w := by
  unfold execOp
  simp [ho, hx, hy]
  rw [← hw]
  rfl
theorem exec_maxE {a : Act} {o : Oper} {w : World} (x y : Operand) (ho : o.op = .call { callee := .builtin .max, args := #[x, y], argTypes := #[3, 3] }) (m n : Int) (hx : a.eval x = .int .i64 m) (hy : a.eval y = .int .i64 n) : (execOp a.eval o).run Try.prog w = .ok (.value (.int .i64 (max m n))) w := by
  unfold execOp
  simp [ho, hx, hy, resolve, invoke, builtin, Go.Lib.run_max_ints, Result.andThen]
set_option maxRecDepth 100000 in
set_option maxHeartbeats 4000000 in
theorem rrenew16_any {w : World} {lo G : Nat} {v : Value} {l : List LE} (h : RfT w lo G v l) (n now life : Int) : Calls Try.prog 23 #[.pointer (some ⟨G, 0, none⟩), .int .i64 n, .int .i64 now, .int .i64 life] w fun e w' => e = .returned (.tuple #[leV (renewT l n now life).1.1, .int .i64 (renewT l n now life).1.2]) ∧ RfT w' lo G v (renewT l n now life).2 ∧ Chg (RfM G v) w w' := by
  have hB := below_newE w (.cells #[.int .i64 0, .int .i64 0, .int .i64 0] 43)
  have kR := Blk.new w 43 #[.int .i64 0, .int .i64 0, .int .i64 0]
  have hh := h.after hB (Nat.le_refl _)
  have HM := fun W => rmom16_any now W
  have HL := fun W => rlife16_any life W
  have HO := ropen16_any hh n
  have hnR : ¬ RfM G v w.heap.size := h.fresh (Nat.le_refl _)
  have HB : Hid (∀ w9, (w.alloc (.cells #[.int .i64 0, .int .i64 0, .int .i64 0] 43)).grownBy w9 (some w.heap.size) → RfT w9 lo G v l ∧ Chg (RfM G v) w w9) := fun w9 hg9 => ⟨hh.store hg9 hnR, Chg.of_below (low_store hB hg9) (Nat.le_refl _)⟩
  unfold renewT
  by_cases h1 : moT now = false ∨ liT life = false
  · rw [if_pos h1]
    generalize (opnT l n).isSome = ON at *
    clear hh h hnR
    unfold leV leL noLE
    cases e2 : moT now with
    | false =>
      rw [e2] at HM
      clear e2 h1
      go_enter Try.func23, Try.ntmps23
      go_wp2_with (first | (go_at_call 41; refine (HM _).mono ?_; rintro e w' ⟨rfl, rfl⟩) | (go_at_call 42; refine (HL _).mono ?_; rintro e w' ⟨rfl, rfl⟩) | (go_at_call 43; refine HO.mono ?_; rintro e w' ⟨rfl, rfl⟩) | (refine store_blk rfl 43 _ _ rfl rfl w.heap.size #[.int .i64 0, .int .i64 0, .int .i64 0] rfl rfl 43 _ (kR) info_le rfl (by simp [Value.oneCell']) ?_; intro w9 kR9 hg9 _))
      refine bodyPost_ret (results_pairE Try.results23 _ _ w.heap.size 43 _ (0, 0) _ _ rfl kR9 Try.underlying43 rfl info_le rfl) rfl ?_
      exact ⟨rfl, HB.out w9 hg9⟩
    | true =>
      rw [e2] at HM
      have e3 : liT life = false := by simpa [e2] using h1
      rw [e3] at HL
      clear e2 e3 h1
      go_enter Try.func23, Try.ntmps23
      go_wp2_with (first | (go_at_call 41; refine (HM _).mono ?_; rintro e w' ⟨rfl, rfl⟩) | (go_at_call 42; refine (HL _).mono ?_; rintro e w' ⟨rfl, rfl⟩) | (go_at_call 43; refine HO.mono ?_; rintro e w' ⟨rfl, rfl⟩) | (refine store_blk rfl 43 _ _ rfl rfl w.heap.size #[.int .i64 0, .int .i64 0, .int .i64 0] rfl rfl 43 _ (kR) info_le rfl (by simp [Value.oneCell']) ?_; intro w9 kR9 hg9 _))
      refine bodyPost_ret (results_pairE Try.results23 _ _ w.heap.size 43 _ (0, 0) _ _ rfl kR9 Try.underlying43 rfl info_le rfl) rfl ?_
      exact ⟨rfl, HB.out w9 hg9⟩
  rw [if_neg h1]
  simp only [not_or, Bool.not_eq_false] at h1
  obtain ⟨e2, e3⟩ := h1
  have g2 : 0 ≤ now ∧ now ≤ 1099511627776 := of_decide_eq_true e2
  have g3 : 1 ≤ life ∧ life ≤ 1048576 := of_decide_eq_true e3
  rw [e2] at HM
  rw [e3] at HL
  clear e2 e3
  cases hop : opnT l n with
  | none =>
    rw [hop, show (none : Option LE).isSome = false from rfl] at HO
    dsimp only
    clear hop hh h hnR g2 g3
    unfold leV leL noLE
    go_enter Try.func23, Try.ntmps23
    go_wp2_with (first | (go_at_call 41; refine (HM _).mono ?_; rintro e w' ⟨rfl, rfl⟩) | (go_at_call 42; refine (HL _).mono ?_; rintro e w' ⟨rfl, rfl⟩) | (go_at_call 43; refine HO.mono ?_; rintro e w' ⟨rfl, rfl⟩) | (refine store_blk rfl 43 _ _ rfl rfl w.heap.size #[.int .i64 0, .int .i64 0, .int .i64 0] rfl rfl 43 _ (kR) info_le rfl (by simp [Value.oneCell']) ?_; intro w9 kR9 hg9 _))
    refine bodyPost_ret (results_pairE Try.results23 _ _ w.heap.size 43 _ (0, 0) _ _ rfl kR9 Try.underlying43 rfl info_le rfl) rfl ?_
    exact ⟨rfl, HB.out w9 hg9⟩
  | some e =>
    rw [hop, show (some e).isSome = true from rfl] at HO
    dsimp only
    obtain ⟨i, rfl, hi, hu⟩ := opnT_some hop
    have hil : i < l.length := (List.getElem?_eq_some_iff.1 hi).1
    have hlen := h.ok.len
    have htil := h.ok.til e (List.mem_iff_getElem?.2 ⟨i, hi⟩)
    obtain ⟨B, c, e1, hBl, hBlo, hcell⟩ := hh.row.at hi
    subst e1
    obtain ⟨k0, k1, k2⟩ := cells_le0 hcell
    have c0 : (w.alloc (.cells #[.int .i64 0, .int .i64 0, .int .i64 0] 43)).cell? ⟨G, 0, none⟩ = some (.slice (some ⟨B, 0, none⟩) l.length c) := hh.head.cell (j := 0) rfl
    have ix := fun w => index_le0 B l.length c i w hil
    have hw : wrap64 (i : Int) = (i : Int) := by unfold wrap64; omega
    by_cases hov : e.u ≤ now
    · rw [if_pos hov]
      have dov : decide (e.u ≤ now) = true := decide_eq_true hov
      clear hop hh h hnR g2 g3 hi hu hil hlen htil hov hcell
      obtain ⟨en, ed, eu⟩ := e
      unfold leV leL noLE
      dsimp only at *
      go_enter Try.func23, Try.ntmps23
      go_wp2_with (first | (go_at_call 41; refine (HM _).mono ?_; rintro e w' ⟨rfl, rfl⟩) | (go_at_call 42; refine (HL _).mono ?_; rintro e w' ⟨rfl, rfl⟩) | (go_at_call 43; refine HO.mono ?_; rintro e w' ⟨rfl, rfl⟩) | (refine store_blk rfl 43 _ _ rfl rfl w.heap.size #[.int .i64 0, .int .i64 0, .int .i64 0] rfl rfl 43 _ (kR) info_le rfl (by simp [Value.oneCell']) ?_; intro w9 kR9 hg9 _))
      refine bodyPost_ret (results_pairE Try.results23 _ _ w.heap.size 43 _ (0, 0) _ _ rfl kR9 Try.underlying43 rfl info_le rfl) rfl ?_
      exact ⟨rfl, HB.out w9 hg9⟩
    · rw [if_neg hov]
      have dov : decide (e.u ≤ now) = false := decide_eq_false hov
      have hit : ((i : Int) + 1 - 1).toNat = i := by omega
      have hokS : OkT (l.set i ⟨e.n, e.d, max e.u (now + life)⟩) := h.ok.set hi _ (by omega) (by omega) (fun _ => hu)
      have HIX : Hid (∀ V, (Instr.indexAt 27 (.slice (some ⟨B, 0, none⟩) l.length c) (.int .i64 (i : Int))).run Try.prog V = .ok (.pointer (some ⟨B, i * 3, none⟩)) V) := fun V => index_le0 B l.length c i V hil
      have HSUB : Hid ((i : Int) + 1 - 1 = (i : Int)) := by show _ = _; omega
      have HWR : Hid (IntKind.i64.wrap (now + life) = now + life) := by show _ = _; rw [IntKind.wrap_i64]; omega
      have hGB : G ≠ B := fun e2 => h.nG (by rw [e2]; rfl)
      have hBl0 := (h.row.lt B rfl).2
      have HC2 : Hid ((w.alloc (.cells #[.int .i64 0, .int .i64 0, .int .i64 0] 43)).drew.cell? ⟨B, i * 3 + 2, none⟩ = some (.int .i64 e.u) ∧ (w.alloc (.cells #[.int .i64 0, .int .i64 0, .int .i64 0] 43)).drew.frozen? ⟨B, i * 3 + 2, none⟩ = false) := ⟨k2, by
        obtain ⟨b', c', cur, f1, _, f3, _⟩ := hh.row.blk (by omega)
        cases f1
        exact f3.frozen _⟩
      have HST : Hid (∃ W5, W5 = ((w.alloc (.cells #[.int .i64 0, .int .i64 0, .int .i64 0] 43)).drew.setCell ⟨B, i * 3 + 2, none⟩ (.int .i64 (max e.u (now + life)))) ∧ (W5.cell? ⟨G, 0, none⟩ = some (.slice (some ⟨B, 0, none⟩) l.length c) ∧ W5.cell? ⟨B, i * 3 + 2, none⟩ = some (.int .i64 (max e.u (now + life)))) ∧ RfT W5 lo G (.slice (some ⟨B, 0, none⟩) l.length c) (l.set i ⟨e.n, e.d, max e.u (now + life)⟩) ∧ Blk W5 w.heap.size 43 #[.int .i64 0, .int .i64 0, .int .i64 0] ∧ (W5.cell? ⟨B, i * 3, none⟩ = some (.int .i64 e.n) ∧ W5.cell? ⟨B, i * 3 + 1, none⟩ = some (.int .i64 e.d)) ∧ Chg (RfM G (.slice (some ⟨B, 0, none⟩) l.length c)) w W5) := by
        have hr5 := LeR.until (w := (w.alloc (.cells #[.int .i64 0, .int .i64 0, .int .i64 0] 43)).drew) hh.row hi (max e.u (now + life))
        have hc5 : Chg (fun q => q = B) (w.alloc (.cells #[.int .i64 0, .int .i64 0, .int .i64 0] 43)).drew ((w.alloc (.cells #[.int .i64 0, .int .i64 0, .int .i64 0] 43)).drew.setCell ⟨B, i * 3 + 2, none⟩ (.int .i64 (max e.u (now + life)))) := (Chg.refl (fun q => q = B) _).setCell B _ _ (fun _ => rfl)
        have hh5 := hh.head.drew.chg hc5 hGB
        have kR5 := kR.drew.chg hc5 (fun e2 => by omega)
        have hl2 : (l.set i ⟨e.n, e.d, max e.u (now + life)⟩)[i]? = some ⟨e.n, e.d, max e.u (now + life)⟩ := by rw [List.getElem?_set, if_pos rfl, if_pos hil]
        obtain ⟨B', c', f1, _, _, f4⟩ := hr5.at hl2
        rw [List.length_set] at f1
        cases f1
        obtain ⟨z0, z1, z2⟩ := cells_le0 f4
        refine ⟨_, rfl, ⟨hh5.cell (j := 0) rfl, z2⟩, ⟨hh5, ?_, hokS, h.gG, h.nG⟩, kR5, ⟨z0, z1⟩, ?_⟩
        · exact hr5
        · exact (Chg.of_below (S := RfM G (.slice (some ⟨B, 0, none⟩) l.length c)) hB.drew (Nat.le_refl _)).trans (S' := fun q => q = B) hc5 (fun q _ e2 => .inr (by rw [e2]; rfl))
      have HNR : Hid (¬ RfM G (.slice (some ⟨B, 0, none⟩) l.length c) w.heap.size) := hnR
      have hS0 : (fun V : World => V.cell? ⟨G, 0, none⟩ = some (.slice (some ⟨B, 0, none⟩) l.length c)) (w.alloc (.cells #[.int .i64 0, .int .i64 0, .int .i64 0] 43)).drew := c0
      rw [hit]
      clear hit hop hh hnR hokS hGB hBl0 hBl hBlo hcell hi h hov HB
      obtain ⟨en, ed, eu⟩ := e
      unfold leV leL
      dsimp only at *
      go_enter Try.func23, Try.ntmps23
      go_wp2_with (first | (go_at_call 41; refine (HM _).mono ?_; rintro e w' ⟨rfl, rfl⟩) | (go_at_call 42; refine (HL _).mono ?_; rintro e w' ⟨rfl, rfl⟩) | (go_at_call 43; refine HO.mono ?_; rintro e w' ⟨rfl, rfl⟩))
      refine held_begin (fun V => V.cell? ⟨G, 0, none⟩ = some (.slice (some ⟨B, 0, none⟩) l.length c)) (by kernel_rfl) ?_
      refine held_take 0 45 _ (.pointer (some ⟨G, 0, none⟩)) rfl rfl (by kernel_rfl) (by kernel_rfl) (by kernel_rfl) rfl hS0 (fun _ _ => rfl) ?_
      simp only [Act.put, List.setIfInBounds_toArray, List.set_cons_succ, List.set_cons_zero]
      refine held_take 1 46 _ (.pointer (some ⟨G, 0, none⟩)) rfl rfl (by kernel_rfl) (by kernel_rfl) (by kernel_rfl) rfl hS0 (fun _ _ => rfl) ?_
      simp only [Act.put, List.setIfInBounds_toArray, List.set_cons_succ, List.set_cons_zero]
      refine held_take 2 47 _ (.pointer (some ⟨G, 0, none⟩)) rfl rfl (by kernel_rfl) (by kernel_rfl) (by kernel_rfl) rfl hS0 (fun _ _ => rfl) ?_
      simp only [Act.put, List.setIfInBounds_toArray, List.set_cons_succ, List.set_cons_zero]
      refine held_take 3 48 _ (.slice (some ⟨B, 0, none⟩) l.length c) rfl rfl (by kernel_rfl) (by kernel_rfl) (by kernel_rfl) rfl hS0 (fun V hV => exec_loadc 27 _ rfl _ _ rfl (load_one 27 (fun _ => by kernel_rfl) V _ _ _ hV)) ?_
      simp only [Act.put, List.setIfInBounds_toArray, List.set_cons_succ, List.set_cons_zero]
      refine held_take 4 49 _ (.int .i64 ((i : Int) + 1)) rfl rfl (by kernel_rfl) (by kernel_rfl) (by kernel_rfl) rfl hS0 (fun _ _ => rfl) ?_
      simp only [Act.put, List.setIfInBounds_toArray, List.set_cons_succ, List.set_cons_zero]
      refine held_take 5 50 _ (.int .i64 (i : Int)) rfl rfl (by kernel_rfl) (by kernel_rfl) (by kernel_rfl) rfl hS0 (fun V hV => (exec_subi 3 _ _ rfl ((i : Int) + 1) 1 rfl rfl (by omega) (by omega)).trans (by rw [HSUB.out])) ?_
      simp only [Act.put, List.setIfInBounds_toArray, List.set_cons_succ, List.set_cons_zero]
      refine held_take 6 51 _ (.pointer (some ⟨G, 0, none⟩)) rfl rfl (by kernel_rfl) (by kernel_rfl) (by kernel_rfl) rfl hS0 (fun _ _ => rfl) ?_
      simp only [Act.put, List.setIfInBounds_toArray, List.set_cons_succ, List.set_cons_zero]
      refine held_take 7 52 _ (.pointer (some ⟨G, 0, none⟩)) rfl rfl (by kernel_rfl) (by kernel_rfl) (by kernel_rfl) rfl hS0 (fun _ _ => rfl) ?_
      simp only [Act.put, List.setIfInBounds_toArray, List.set_cons_succ, List.set_cons_zero]
      refine held_take 8 53 _ (.pointer (some ⟨G, 0, none⟩)) rfl rfl (by kernel_rfl) (by kernel_rfl) (by kernel_rfl) rfl hS0 (fun _ _ => rfl) ?_
      simp only [Act.put, List.setIfInBounds_toArray, List.set_cons_succ, List.set_cons_zero]
      refine held_take 9 54 _ (.slice (some ⟨B, 0, none⟩) l.length c) rfl rfl (by kernel_rfl) (by kernel_rfl) (by kernel_rfl) rfl hS0 (fun V hV => exec_loadc 27 _ rfl _ _ rfl (load_one 27 (fun _ => by kernel_rfl) V _ _ _ hV)) ?_
      simp only [Act.put, List.setIfInBounds_toArray, List.set_cons_succ, List.set_cons_zero]
      refine held_take 10 55 _ (.int .i64 ((i : Int) + 1)) rfl rfl (by kernel_rfl) (by kernel_rfl) (by kernel_rfl) rfl hS0 (fun _ _ => rfl) ?_
      simp only [Act.put, List.setIfInBounds_toArray, List.set_cons_succ, List.set_cons_zero]
      refine held_take 11 56 _ (.int .i64 (i : Int)) rfl rfl (by kernel_rfl) (by kernel_rfl) (by kernel_rfl) rfl hS0 (fun V hV => (exec_subi 3 _ _ rfl ((i : Int) + 1) 1 rfl rfl (by omega) (by omega)).trans (by rw [HSUB.out])) ?_
      simp only [Act.put, List.setIfInBounds_toArray, List.set_cons_succ, List.set_cons_zero]
      refine held_take 12 57 _ (.pointer (some ⟨B, i * 3, none⟩)) rfl rfl (by kernel_rfl) (by kernel_rfl) (by kernel_rfl) rfl hS0 (fun V hV => exec_indexat 27 _ _ rfl (.slice (some ⟨B, 0, none⟩) l.length c) (.int .i64 (i : Int)) _ rfl rfl (HIX.out V)) ?_
      simp only [Act.put, List.setIfInBounds_toArray, List.set_cons_succ, List.set_cons_zero]
      refine held_take 13 58 _ (.pointer (some ⟨B, i * 3 + 2, none⟩)) rfl rfl (by kernel_rfl) (by kernel_rfl) (by kernel_rfl) rfl hS0 (fun _ _ => rfl) ?_
      simp only [Act.put, List.setIfInBounds_toArray, List.set_cons_succ, List.set_cons_zero]
      refine held_take 15 60 _ (.int .i64 now) rfl rfl (by kernel_rfl) (by kernel_rfl) (by kernel_rfl) rfl hS0 (fun _ _ => rfl) ?_
      simp only [Act.put, List.setIfInBounds_toArray, List.set_cons_succ, List.set_cons_zero]
      refine held_take 16 61 _ (.int .i64 life) rfl rfl (by kernel_rfl) (by kernel_rfl) (by kernel_rfl) rfl hS0 (fun _ _ => rfl) ?_
      simp only [Act.put, List.setIfInBounds_toArray, List.set_cons_succ, List.set_cons_zero]
      refine held_take 17 62 _ (.int .i64 (now + life)) rfl rfl (by kernel_rfl) (by kernel_rfl) (by kernel_rfl) rfl hS0 (fun V hV => exec_addE 3 _ _ rfl now life rfl rfl HWR.out) ?_
      simp only [Act.put, List.setIfInBounds_toArray, List.set_cons_succ, List.set_cons_zero]
      refine held_all1 14 (by kernel_rfl) (op_value 14 59 _ (.int .i64 eu) ((w.alloc (.cells #[.int .i64 0, .int .i64 0, .int .i64 0] 43)).drew) rfl rfl rfl (exec_loadc 3 _ rfl _ _ rfl (load_one 3 (fun _ => by kernel_rfl) ((w.alloc (.cells #[.int .i64 0, .int .i64 0, .int .i64 0] 43)).drew) _ _ _ k2)) ⟨hS0, ?_⟩)
      simp only [Act.put, List.setIfInBounds_toArray, List.set_cons_succ, List.set_cons_zero]
      refine held_take 18 63 _ (.int .i64 (max eu (now + life))) rfl rfl (by kernel_rfl) (by kernel_rfl) (by kernel_rfl) rfl hS0 (fun V hV => exec_maxE _ _ rfl eu (now + life) rfl rfl) ?_
      simp only [Act.put, List.setIfInBounds_toArray, List.set_cons_succ, List.set_cons_zero]
      refine held_take 19 64 _ (.pointer (some ⟨B, i * 3, none⟩)) rfl rfl (by kernel_rfl) (by kernel_rfl) (by kernel_rfl) rfl hS0 (fun V hV => exec_indexat 27 _ _ rfl (.slice (some ⟨B, 0, none⟩) l.length c) (.int .i64 (i : Int)) _ rfl rfl (HIX.out V)) ?_
      simp only [Act.put, List.setIfInBounds_toArray, List.set_cons_succ, List.set_cons_zero]
      refine held_take 20 65 _ (.pointer (some ⟨B, i * 3 + 2, none⟩)) rfl rfl (by kernel_rfl) (by kernel_rfl) (by kernel_rfl) rfl hS0 (fun _ _ => rfl) ?_
      simp only [Act.put, List.setIfInBounds_toArray, List.set_cons_succ, List.set_cons_zero]
      obtain ⟨W5, hW5, q1, q2, q3⟩ := HST.out
      refine held_all1 21 (by kernel_rfl) (op_skip 21 _ W5 rfl rfl rfl ((exec_storeiE _ _ rfl B (i * 3 + 2) (max eu (now + life)) _ rfl rfl HC2.out.1 HC2.out.2).trans (by rw [hW5])) ⟨q1.1, ?_⟩)
      refine wpAnyH_done (by kernel_rfl) ?_ _
      refine NoPanic.normal ?_
      obtain ⟨z2, hT5, kR5, ⟨z0, z1⟩, hc5⟩ : (W5.cell? ⟨B, i * 3 + 2, none⟩ = some (.int .i64 (max eu (now + life)))) ∧ RfT W5 lo G (.slice (some ⟨B, 0, none⟩) l.length c) (l.set i ⟨en, ed, max eu (now + life)⟩) ∧ Blk W5 w.heap.size 43 #[.int .i64 0, .int .i64 0, .int .i64 0] ∧ (W5.cell? ⟨B, i * 3, none⟩ = some (.int .i64 en) ∧ W5.cell? ⟨B, i * 3 + 1, none⟩ = some (.int .i64 ed)) ∧ Chg (RfM G (.slice (some ⟨B, 0, none⟩) l.length c)) w W5 := ⟨q1.2, q2, q3.1, q3.2.1, q3.2.2⟩
      have g5 : W5.cell? ⟨G, 0, none⟩ = some (.slice (some ⟨B, 0, none⟩) l.length c) := q1.1
      have HFIN : Hid (∀ w9, W5.grownBy w9 (some w.heap.size) → RfT w9 lo G (.slice (some ⟨B, 0, none⟩) l.length c) (l.set i ⟨en, ed, max eu (now + life)⟩) ∧ Chg (RfM G (.slice (some ⟨B, 0, none⟩) l.length c)) w w9) := fun w9 hg9 => by
        refine ⟨hT5.store hg9 HNR.out, ⟨hc5.1.trans (below_grown (Below.refl 0 _) hg9 (Nat.zero_le _) (fun _ _ => Nat.zero_le _)), fun k hk hn => ?_⟩⟩
        rw [hg9.block k (Nat.lt_of_lt_of_le hk hc5.size) (fun e2 => by cases e2; omega), hc5.2 k hk hn]
      clear hW5 q1 q2 q3 hT5 hc5 hS0 c0 k0 k1 k2 HST HC2 HO
      go_wp2_with (first | (refine store_blk rfl 43 _ _ rfl rfl w.heap.size #[.int .i64 en, .int .i64 ed, .int .i64 (max eu (now + life))] rfl rfl 43 _ (kR5) info_le rfl (by simp [Value.oneCell']) ?_; intro w9 kR9 hg9 _))
      refine bodyPost_ret (results_pairE Try.results23 _ _ w.heap.size 43 _ (0, 0) _ _ rfl kR9 Try.underlying43 rfl info_le rfl) rfl ?_
      exact ⟨rfl, HFIN.out w9 hg9⟩
set_option maxRecDepth 100000 in
set_option maxHeartbeats 2000000 in
theorem rend16_any {w : World} {lo G : Nat} {v : Value} {l : List LE} (h : RfT w lo G v l) (n : Int) : Calls Try.prog 24 #[.pointer (some ⟨G, 0, none⟩), .int .i64 n] w fun e w' => e = .returned (.int .i64 (endT l n).1) ∧ RfT w' lo G v (endT l n).2 ∧ Chg (RfM G v) w w' := by
  have HO := ropen16_any h n
  unfold endT
  cases hop : opnT l n with
  | none =>
    rw [hop, show (none : Option LE).isSome = false from rfl] at HO
    dsimp only
    have HT : Hid (RfT w lo G v l) := h
    clear hop h
    go_enter Try.func24, Try.ntmps24
    go_wp2_with fail
    refine HO.mono ?_
    rintro e w2 ⟨rfl, rfl⟩
    go_wp2
    go_ret
    exact ⟨rfl, HT.out, Chg.refl _ _⟩
  | some e =>
    rw [hop, show (some e).isSome = true from rfl] at HO
    dsimp only
    obtain ⟨i, rfl, hi, hu⟩ := opnT_some hop
    have hit : ((i : Int) + 1 - 1).toNat = i := by omega
    rw [hit]
    have hil : i < l.length := (List.getElem?_eq_some_iff.1 hi).1
    have hlen := h.ok.len
    obtain ⟨B, c, e1, hBl, hBlo, hcell⟩ := h.row.at hi
    subst e1
    obtain ⟨k0, k1, k2⟩ := cells_le0 hcell
    have c0 : w.cell? ⟨G, 0, none⟩ = some (.slice (some ⟨B, 0, none⟩) l.length c) := h.head.cell (j := 0) rfl
    have hf : w.frozen? ⟨B, i * 3 + 2, none⟩ = false := by
      obtain ⟨b', c', cur, f1, _, f3, _⟩ := h.row.blk (by omega)
      cases f1
      exact f3.frozen _
    have ix := fun w => index_le0 B l.length c i w hil
    have hw : wrap64 (i : Int) = (i : Int) := by unfold wrap64; omega
    have hGB : G ≠ B := fun e2 => h.nG (by rw [e2]; rfl)
    have hc5 : Chg (fun q => q = B) w (w.setCell ⟨B, i * 3 + 2, none⟩ (.int .i64 0)) := (Chg.refl (fun q => q = B) _).setCell B _ _ (fun _ => rfl)
    have HF : Hid (RfT (w.setCell ⟨B, i * 3 + 2, none⟩ (.int .i64 0)) lo G (.slice (some ⟨B, 0, none⟩) l.length c) (l.set i e.off) ∧ Chg (RfM G (.slice (some ⟨B, 0, none⟩) l.length c)) w (w.setCell ⟨B, i * 3 + 2, none⟩ (.int .i64 0))) := ⟨⟨h.head.chg hc5 hGB, h.row.until hi 0, h.ok.set hi 0 (by omega) (by omega) (fun h0 => absurd h0 (by omega)), h.gG, h.nG⟩, hc5.weaken (fun q e2 => .inr (by rw [e2]; rfl))⟩
    clear hop h hit hi hu hcell hGB hc5 hlen hBl hBlo k0 k1
    go_enter Try.func24, Try.ntmps24
    go_wp2_with fail
    refine HO.mono ?_
    rintro e' w2 ⟨rfl, hw2⟩
    subst hw2
    go_wp2
    go_ret
    exact ⟨rfl, HF.out⟩
end Go.Proofs.Ythlohlomefiebaa
