/-
  What is proved here: more of a link's small calls: pass, meet, New, Waiting, Peer, acknowledged.
  Conditions: the link lies in memory, and its numbers are as the document bounds them.
-/
import Derived.Test.YtichmnbhephkkaaLinkSess
namespace Go.Proofs.Ytichmnbhephkkaa
open Go.RowKit

theorem linkC_cells {w : World} {G : Nat} {s : KS} {v : Value} (h : Blk w G 69 (linkC s v)) : w.cell? ⟨G, 0, none⟩ = some (.int .i64 s.ep) ∧ w.cell? ⟨G, 1, none⟩ = some (.int .i64 s.pe) ∧ w.cell? ⟨G, 2, none⟩ = some (.int .i64 (s.fi : Int)) ∧ w.cell? ⟨G, 3, none⟩ = some (.int .i64 (s.se : Int)) ∧ w.cell? ⟨G, 4, none⟩ = some (.int .i64 (s.ne : Int)) ∧ w.cell? ⟨G, 5, none⟩ = some (.int .i64 (s.ti : Int)) ∧ w.cell? ⟨G, 6, none⟩ = some v :=
  ⟨h.cell (j := 0) rfl, h.cell (j := 1) rfl, h.cell (j := 2) rfl, h.cell (j := 3) rfl, h.cell (j := 4) rfl, h.cell (j := 5) rfl, h.cell (j := 6) rfl⟩
set_option maxRecDepth 100000 in
theorem waitK_any (G n c : Nat) (s : KS) (ao : Option Addr) (w : World) (hK : Blk w G 69 (linkC s (.slice ao n c))) : Calls Try.prog 18 #[.pointer (some ⟨G, 0, none⟩)] w fun r w' => r = .returned (.int .i64 (n : Int)) ∧ w' = w := by
  obtain ⟨c0, c1, c2, c3, c4, c5, c6⟩ := linkC_cells hK
  clear hK c0 c1 c2 c3 c4 c5
  go_enter Try.func18, Try.ntmps18
  go_wp2
  go_ret
  exact ⟨rfl, rfl⟩
set_option maxRecDepth 100000 in
theorem peerK_any (G : Nat) (s : KS) (v : Value) (w : World) (hK : Blk w G 69 (linkC s v)) : Calls Try.prog 19 #[.pointer (some ⟨G, 0, none⟩)] w fun r w' => r = .returned (.int .i64 s.pe) ∧ w' = w := by
  obtain ⟨c0, c1, c2, c3, c4, c5, c6⟩ := linkC_cells hK
  clear hK c0 c6 c2 c3 c4 c5
  go_enter Try.func19, Try.ntmps19
  go_wp2
  go_ret
  exact ⟨rfl, rfl⟩
set_option maxRecDepth 100000 in
theorem passK_any (G : Nat) (s : KS) (v : Value) (w : World) (hK : Blk w G 69 (linkC s v)) (ht : s.ti ≤ 2) : Calls Try.prog 27 #[.pointer (some ⟨G, 0, none⟩)] w fun r w' => r = .returned (.tuple #[]) ∧ Blk w' G 69 (linkC (passK s) v) ∧ Chg (fun q => q = G) w w' ∧ w'.heap.size = w.heap.size := by
  obtain ⟨c0, c1, c2, c3, c4, c5, c6⟩ := linkC_cells hK
  have f5 := hK.frozen 5
  have f3 := hK.frozen 3
  clear c0 c1 c2 c4 c6
  unfold passK
  by_cases h0 : s.se = 0
  · rw [if_pos h0]
    have d0 : ((s.se : Int) == 0) = true := by rw [h0]; rfl
    clear h0
    go_enter Try.func27, Try.ntmps27
    go_wp2
    refine bodyPost_ret (results_none rfl _ _ _) rfl ?_
    exact ⟨rfl, hK, Chg.refl _ _, rfl⟩
  · rw [if_neg h0]
    have d0 : ((s.se : Int) == 0) = false := beq_eq_false_iff_ne.2 (by omega)
    have hw : IntKind.i64.wrap ((s.ti : Int) + 1) = (s.ti : Int) + 1 := by rw [IntKind.wrap_i64]; omega
    clear h0
    by_cases h2 : s.ti = 2
    · rw [if_pos h2]
      have hk : Blk (((w.setCell ⟨G, 5, none⟩ (.int .i64 3)).setCell ⟨G, 5, none⟩ (.int .i64 0)).setCell ⟨G, 3, none⟩ (.int .i64 0)) G 69 (linkC { s with ti := 0, se := 0 } v) := (((hK.set 5 (.int .i64 3)).set 5 (.int .i64 0)).set 3 (.int .i64 0)).of_eq rfl
      have hc : Chg (fun q => q = G) w (((w.setCell ⟨G, 5, none⟩ (.int .i64 3)).setCell ⟨G, 5, none⟩ (.int .i64 0)).setCell ⟨G, 3, none⟩ (.int .i64 0)) := (((Chg.refl (fun q => q = G) w).setCell G 5 _ (fun _ => rfl)).setCell G 5 _ (fun _ => rfl)).setCell G 3 _ (fun _ => rfl)
      rw [h2] at c5
      clear h2 hw hK ht
      go_enter Try.func27, Try.ntmps27
      go_wp2
      refine bodyPost_end (results_none rfl _ _ _) rfl ?_
      exact ⟨rfl, hk, hc, by simp⟩
    · rw [if_neg h2]
      have d3 : ((s.ti : Int) + 1 == 3) = false := beq_eq_false_iff_ne.2 (by omega)
      have hk : Blk (w.setCell ⟨G, 5, none⟩ (.int .i64 ((s.ti : Int) + 1))) G 69 (linkC { s with ti := s.ti + 1 } v) := (hK.set 5 (.int .i64 ((s.ti : Int) + 1))).of_eq (by unfold linkC; simp)
      have hc : Chg (fun q => q = G) w (w.setCell ⟨G, 5, none⟩ (.int .i64 ((s.ti : Int) + 1))) := (Chg.refl (fun q => q = G) w).setCell G 5 _ (fun _ => rfl)
      clear h2 hK ht
      go_enter Try.func27, Try.ntmps27
      go_wp2
      refine bodyPost_end (results_none rfl _ _ _) rfl ?_
      exact ⟨rfl, hk, hc, by simp⟩
set_option maxRecDepth 100000 in
theorem meetK_any (G : Nat) (s : KS) (v : Value) (p : Int) (w : World) (hK : Blk w G 69 (linkC s v)) : Calls Try.prog 32 #[.pointer (some ⟨G, 0, none⟩), .int .i64 p] w fun r w' => r = .returned (.tuple #[]) ∧ Blk w' G 69 (linkC (meetK s p) v) ∧ Chg (fun q => q = G) w w' := by
  obtain ⟨c0, c1, c2, c3, c4, c5, c6⟩ := linkC_cells hK
  have HLC : Hid (linkC s v = #[.int .i64 s.ep, .int .i64 s.pe, .int .i64 (s.fi : Int), .int .i64 (s.se : Int), .int .i64 (s.ne : Int), .int .i64 (s.ti : Int), v]) := rfl
  unfold meetK
  by_cases h : s.pe < p
  · rw [if_pos h]
    clear c2 c3 c4 c5 c6
    go_enter Try.func32, Try.ntmps32
    go_wp2_with fail
    refine (beginK_any s.ep p w).mono ?_
    rintro e w1 ⟨rfl, hb1⟩
    have hK1 := hK.below hb1 hK.lt
    rw [HLC.out] at hK1
    clear c0 c1 hK HLC
    go_wp2_with (refine store_mid rfl 66 _ _ rfl rfl G 0 #[.int .i64 s.ep, .int .i64 p, .int .i64 1, .int .i64 0, .int .i64 1, .int .i64 0] rfl rfl 69 _ hK1 info_sess (by simp) (by simp [Value.oneCell']) ?_; intro w2 hK2 hg2 hz2)
    refine bodyPost_end (results_none rfl _ _ _) rfl ?_
    exact ⟨rfl, hK2.of_eq rfl, (Chg.of_below (S := fun q => q = G) hb1 (Nat.le_refl _)).trans (S' := fun q => q = G) (Chg.of_grown hg2 (fun k e => (Option.some.inj e).symm)) (fun _ _ h => h)⟩
  · rw [if_neg h]
    clear c2 c3 c4 c5 c6
    go_enter Try.func32, Try.ntmps32
    go_wp2
    refine bodyPost_end (results_none rfl _ _ _) rfl ?_
    exact ⟨rfl, hK, Chg.refl _ _⟩
theorem built_link (a : Array Value) (e p f s n t : Int) (h : a = #[.int .i64 e, .int .i64 p, .int .i64 f, .int .i64 s, .int .i64 n, .int .i64 t]) : Try.prog.built 69 [(0, .agg a)] = some #[.int .i64 e, .int .i64 p, .int .i64 f, .int .i64 s, .int .i64 n, .int .i64 t, .slice none 0 0] := by subst h; kernel_rfl
set_option maxRecDepth 100000 in
theorem newK_any (e : Int) (w : World) (h1 : 1 ≤ e) (h2 : e ≤ 1073741824) : Calls Try.prog 8 #[.int .i64 e] w fun r w' => ∃ G, r = .returned (.tuple #[.pointer (some ⟨G, 0, none⟩), .int .i64 0]) ∧ w.heap.size ≤ G ∧ Blk w' G 69 (linkC (newK e) (.slice none 0 0)) ∧ Below w.heap.size w w' := by
  have d1 : decide (e < 1) = false := decide_eq_false (by omega)
  have d2 : decide (1073741824 < e) = false := decide_eq_false (by omega)
  clear h1 h2
  go_enter Try.func8, Try.ntmps8
  go_wp2_with fail
  refine (beginK_any e 0 w).mono ?_
  rintro r w1 ⟨rfl, hb1⟩
  have hB := hb1.trans ((below_new w1 (.cells (linkC (newK e) (.slice none 0 0)) 69)).mono hb1.size)
  have hk := Blk.new w1 69 (linkC (newK e) (.slice none 0 0))
  go_wp2
  go_ret2
  exact ⟨w1.heap.size, rfl, hb1.size, hk, hB⟩
set_option maxRecDepth 100000 in
theorem newK_bad (e : Int) (w : World) (h : ¬ (1 ≤ e ∧ e ≤ 1073741824)) : Calls Try.prog 8 #[.int .i64 e] w fun r w' => r = .returned (.tuple #[.pointer none, .int .i64 1]) ∧ w' = w := by
  by_cases h1 : e < 1
  · have d1 : decide (e < 1) = true := decide_eq_true h1
    clear h h1
    go_enter Try.func8, Try.ntmps8
    go_wp2
    go_ret2
    exact ⟨rfl, rfl⟩
  · have d1 : decide (e < 1) = false := decide_eq_false h1
    have d2 : decide (1073741824 < e) = true := decide_eq_true (by omega)
    clear h h1
    go_enter Try.func8, Try.ntmps8
    go_wp2
    go_ret2
    exact ⟨rfl, rfl⟩
set_option maxRecDepth 100000 in
set_option maxHeartbeats 2000000 in
theorem ackedK_any (G : Nat) (s : KS) (v : Value) (a : Int) (w : World) (hK : Blk w G 69 (linkC s v)) (hf : s.fi ≤ 1073741825) (hs : s.se ≤ 4) : Calls Try.prog 41 #[.pointer (some ⟨G, 0, none⟩), .int .i64 a] w fun r w' => r = .returned (.int .i64 (goneK s a : Int)) ∧ Blk w' G 69 (linkC (ackS s a) v) ∧ Chg (fun q => q = G) w w' := by
  obtain ⟨c0, c1, c2, c3, c4, c5, c6⟩ := linkC_cells hK
  clear c0 c1 c4 c5 c6
  have hAS : ackS s a = ⟨s.ep, s.pe, s.fi + goneK s a, s.se - goneK s a, s.ne, if goneK s a = 0 then s.ti else 0, s.wt⟩ := rfl
  have hgl := goneK_le (s := s) a
  rw [hAS]
  have hw : IntKind.i64.wrap ((s.fi : Int) + (s.se : Int)) = (s.fi : Int) + (s.se : Int) := by rw [IntKind.wrap_i64]; omega
  have hg0 : goneK s a = if a < (s.fi : Int) ∨ (s.fi : Int) + (s.se : Int) ≤ a then 0 else (a - (s.fi : Int) + 1).toNat := rfl
  generalize goneK s a = g at *
  by_cases h1 : a < (s.fi : Int)
  · rw [if_pos (.inl h1)] at hg0
    subst hg0
    have d1 : decide (a < (s.fi : Int)) = true := decide_eq_true h1
    clear h1 hw hf hs hgl hAS
    go_enter Try.func41, Try.ntmps41
    go_wp2_with fail
    go_quiet (fail)
    go_wp2
    go_ret
    exact ⟨rfl, hK.drewN _, Chg.of_below (Below.drewN (Below.refl _ _) _) (Nat.le_refl _)⟩
  by_cases h2 : (s.fi : Int) + (s.se : Int) ≤ a
  · rw [if_pos (.inr h2)] at hg0
    subst hg0
    have d1 : decide (a < (s.fi : Int)) = false := decide_eq_false h1
    have d2 : decide ((s.fi : Int) + (s.se : Int) ≤ a) = true := decide_eq_true h2
    clear h1 h2 hf hs hgl hAS
    go_enter Try.func41, Try.ntmps41
    go_wp2_with fail
    go_quiet (fail)
    go_wp2
    go_ret
    exact ⟨rfl, hK.drewN _, Chg.of_below (Below.drewN (Below.refl _ _) _) (Nat.le_refl _)⟩
  have d1 : decide (a < (s.fi : Int)) = false := decide_eq_false h1
  have d2 : decide ((s.fi : Int) + (s.se : Int) ≤ a) = false := decide_eq_false h2
  rw [if_neg (by omega)] at hg0
  have e1 : IntKind.i64.wrap (a - (s.fi : Int)) = a - (s.fi : Int) := by rw [IntKind.wrap_i64]; omega
  have hgi : (g : Int) = a - (s.fi : Int) + 1 := by omega
  have e2 : IntKind.i64.wrap (a - (s.fi : Int) + 1) = (g : Int) := by rw [← hgi, IntKind.wrap_i64]; omega
  have HG0 : Hid (g ≠ 0) := (by omega : g ≠ 0)
  have HBN : Hid (s.fi ≤ 1073741825 ∧ s.se ≤ 4 ∧ g ≤ s.se) := ⟨hf, hs, hgl⟩
  have HGI : Hid ((((s.fi + g : Nat)) : Int) = (s.fi : Int) + (g : Int) ∧ (((s.se - g : Nat)) : Int) = (s.se : Int) - (g : Int)) := ⟨by omega, by omega⟩
  have HLC : Hid (linkC s v = #[.int .i64 s.ep, .int .i64 s.pe, .int .i64 (s.fi : Int), .int .i64 (s.se : Int), .int .i64 (s.ne : Int), .int .i64 (s.ti : Int), v]) := rfl
  clear h1 h2 hf hs hgl hAS hg0 hgi
  go_enter Try.func41, Try.ntmps41
  go_wp2_with fail
  go_quiet (fail)
  have hKq := hK.drewN nq
  have hCq : Chg (fun q => q = G) w (w.drewN nq) := Chg.of_below (Below.drewN (Below.refl _ _) _) (Nat.le_refl _)
  have q2 : (w.drewN nq).cell? ⟨G, 2, none⟩ = some (.int .i64 (s.fi : Int)) := c2
  have q3 : (w.drewN nq).cell? ⟨G, 3, none⟩ = some (.int .i64 (s.se : Int)) := c3
  generalize w.drewN nq = W at *
  go_wp2_with fail
  have hK0 : Blk W.drew G 69 #[.int .i64 s.ep, .int .i64 s.pe, .int .i64 (s.fi : Int), .int .i64 (s.se : Int), .int .i64 (s.ne : Int), .int .i64 (s.ti : Int), v] := by
    have := hKq.drew
    rw [HLC.out] at this
    exact this
  have hK2 := hK0.set 2 (.int .i64 ((s.fi : Int) + (g : Int)))
  have hK3 := hK2.set 3 (.int .i64 ((s.se : Int) - (g : Int)))
  have hK4 := hK3.set 5 (.int .i64 0)
  clear hK c2 c3
  refine held_begin (fun _ => True) (by kernel_rfl) ?_
  refine held_take 0 32 _ (.pointer (some ⟨G, 0, none⟩)) rfl rfl (by kernel_rfl) (by kernel_rfl) (by kernel_rfl) rfl trivial (fun _ _ => rfl) ?_
  simp only [Act.put, List.setIfInBounds_toArray, List.set_cons_succ, List.set_cons_zero]
  refine held_take 1 33 _ (.pointer (some ⟨G, 0, none⟩)) rfl rfl (by kernel_rfl) (by kernel_rfl) (by kernel_rfl) rfl trivial (fun _ _ => rfl) ?_
  simp only [Act.put, List.setIfInBounds_toArray, List.set_cons_succ, List.set_cons_zero]
  refine held_take 2 34 _ (.pointer (some ⟨G, 0, none⟩)) rfl rfl (by kernel_rfl) (by kernel_rfl) (by kernel_rfl) rfl trivial (fun _ _ => rfl) ?_
  simp only [Act.put, List.setIfInBounds_toArray, List.set_cons_succ, List.set_cons_zero]
  refine held_take 3 35 _ (.pointer (some ⟨G, 0, none⟩)) rfl rfl (by kernel_rfl) (by kernel_rfl) (by kernel_rfl) rfl trivial (fun _ _ => rfl) ?_
  simp only [Act.put, List.setIfInBounds_toArray, List.set_cons_succ, List.set_cons_zero]
  refine held_take 4 36 _ (.pointer (some ⟨G, 0, none⟩)) rfl rfl (by kernel_rfl) (by kernel_rfl) (by kernel_rfl) rfl trivial (fun _ _ => rfl) ?_
  simp only [Act.put, List.setIfInBounds_toArray, List.set_cons_succ, List.set_cons_zero]
  refine held_take 5 37 _ (.pointer (some ⟨G, 2, none⟩)) rfl rfl (by kernel_rfl) (by kernel_rfl) (by kernel_rfl) rfl trivial (fun _ _ => rfl) ?_
  simp only [Act.put, List.setIfInBounds_toArray, List.set_cons_succ, List.set_cons_zero]
  refine held_take 7 39 _ (.int .i64 (g : Int)) rfl rfl (by kernel_rfl) (by kernel_rfl) (by kernel_rfl) rfl trivial (fun _ _ => rfl) ?_
  simp only [Act.put, List.setIfInBounds_toArray, List.set_cons_succ, List.set_cons_zero]
  refine held_take 9 41 _ (.pointer (some ⟨G, 0, none⟩)) rfl rfl (by kernel_rfl) (by kernel_rfl) (by kernel_rfl) rfl trivial (fun _ _ => rfl) ?_
  simp only [Act.put, List.setIfInBounds_toArray, List.set_cons_succ, List.set_cons_zero]
  refine held_take 10 42 _ (.pointer (some ⟨G, 0, none⟩)) rfl rfl (by kernel_rfl) (by kernel_rfl) (by kernel_rfl) rfl trivial (fun _ _ => rfl) ?_
  simp only [Act.put, List.setIfInBounds_toArray, List.set_cons_succ, List.set_cons_zero]
  refine held_take 11 43 _ (.pointer (some ⟨G, 3, none⟩)) rfl rfl (by kernel_rfl) (by kernel_rfl) (by kernel_rfl) rfl trivial (fun _ _ => rfl) ?_
  simp only [Act.put, List.setIfInBounds_toArray, List.set_cons_succ, List.set_cons_zero]
  refine held_take 13 45 _ (.int .i64 (g : Int)) rfl rfl (by kernel_rfl) (by kernel_rfl) (by kernel_rfl) rfl trivial (fun _ _ => rfl) ?_
  simp only [Act.put, List.setIfInBounds_toArray, List.set_cons_succ, List.set_cons_zero]
  refine held_all2 6 12 (by kernel_rfl) ?_ ?_
  · refine op_value 6 38 _ (.int .i64 (s.fi : Int)) W.drew rfl rfl rfl (exec_loadc 3 _ rfl _ _ rfl (load_one 3 (fun _ => by kernel_rfl) W.drew _ _ _ q2)) ⟨trivial, ?_⟩
    simp only [Act.put, List.setIfInBounds_toArray, List.set_cons_succ, List.set_cons_zero]
    refine held_take 8 40 _ (.int .i64 ((s.fi : Int) + (g : Int))) rfl rfl (by kernel_rfl) (by kernel_rfl) (by kernel_rfl) rfl trivial (fun V _ => exec_addK 3 _ _ rfl (s.fi : Int) (g : Int) rfl rfl (by have := HBN.out; omega) (by have := HBN.out; omega)) ?_
    simp only [Act.put, List.setIfInBounds_toArray, List.set_cons_succ, List.set_cons_zero]
    refine held_all1 12 (by kernel_rfl) (op_value 12 44 _ (.int .i64 (s.se : Int)) W.drew rfl rfl rfl (exec_loadc 3 _ rfl _ _ rfl (load_one 3 (fun _ => by kernel_rfl) W.drew _ _ _ q3)) ⟨trivial, ?_⟩)
    simp only [Act.put, List.setIfInBounds_toArray, List.set_cons_succ, List.set_cons_zero]
    refine held_take 14 46 _ (.int .i64 ((s.se : Int) - (g : Int))) rfl rfl (by kernel_rfl) (by kernel_rfl) (by kernel_rfl) rfl trivial (fun V _ => exec_subi 3 _ _ rfl (s.se : Int) (g : Int) rfl rfl (by have := HBN.out; omega) (by have := HBN.out; omega)) ?_
    simp only [Act.put, List.setIfInBounds_toArray, List.set_cons_succ, List.set_cons_zero]
    refine held_take 15 47 _ (.pointer (some ⟨G, 0, none⟩)) rfl rfl (by kernel_rfl) (by kernel_rfl) (by kernel_rfl) rfl trivial (fun _ _ => rfl) ?_
    simp only [Act.put, List.setIfInBounds_toArray, List.set_cons_succ, List.set_cons_zero]
    refine held_take 16 48 _ (.pointer (some ⟨G, 2, none⟩)) rfl rfl (by kernel_rfl) (by kernel_rfl) (by kernel_rfl) rfl trivial (fun _ _ => rfl) ?_
    simp only [Act.put, List.setIfInBounds_toArray, List.set_cons_succ, List.set_cons_zero]
    refine held_all1 17 (by kernel_rfl) (op_skip 17 _ (W.drew.setCell ⟨G, 2, none⟩ (.int .i64 ((s.fi : Int) + (g : Int)))) rfl rfl rfl (exec_storeK _ _ rfl G 2 ((s.fi : Int) + (g : Int)) _ rfl rfl (hK0.cell (j := 2) rfl) (hK0.frozen 2)) ⟨trivial, ?_⟩)
    refine held_take 18 49 _ (.pointer (some ⟨G, 0, none⟩)) rfl rfl (by kernel_rfl) (by kernel_rfl) (by kernel_rfl) rfl trivial (fun _ _ => rfl) ?_
    simp only [Act.put, List.setIfInBounds_toArray, List.set_cons_succ, List.set_cons_zero]
    refine held_take 19 50 _ (.pointer (some ⟨G, 3, none⟩)) rfl rfl (by kernel_rfl) (by kernel_rfl) (by kernel_rfl) rfl trivial (fun _ _ => rfl) ?_
    simp only [Act.put, List.setIfInBounds_toArray, List.set_cons_succ, List.set_cons_zero]
    refine held_all1 20 (by kernel_rfl) (op_skip 20 _ ((W.drew.setCell ⟨G, 2, none⟩ (.int .i64 ((s.fi : Int) + (g : Int)))).setCell ⟨G, 3, none⟩ (.int .i64 ((s.se : Int) - (g : Int)))) rfl rfl rfl (exec_storeK _ _ rfl G 3 ((s.se : Int) - (g : Int)) _ rfl rfl (hK2.cell (j := 3) rfl) (hK2.frozen 3)) ⟨trivial, ?_⟩)
    refine held_take 21 51 _ (.pointer (some ⟨G, 0, none⟩)) rfl rfl (by kernel_rfl) (by kernel_rfl) (by kernel_rfl) rfl trivial (fun _ _ => rfl) ?_
    simp only [Act.put, List.setIfInBounds_toArray, List.set_cons_succ, List.set_cons_zero]
    refine held_take 22 52 _ (.pointer (some ⟨G, 5, none⟩)) rfl rfl (by kernel_rfl) (by kernel_rfl) (by kernel_rfl) rfl trivial (fun _ _ => rfl) ?_
    simp only [Act.put, List.setIfInBounds_toArray, List.set_cons_succ, List.set_cons_zero]
    refine held_all1 23 (by kernel_rfl) (op_skip 23 _ (((W.drew.setCell ⟨G, 2, none⟩ (.int .i64 ((s.fi : Int) + (g : Int)))).setCell ⟨G, 3, none⟩ (.int .i64 ((s.se : Int) - (g : Int)))).setCell ⟨G, 5, none⟩ (.int .i64 0)) rfl rfl rfl (exec_storeK _ _ rfl G 5 0 _ rfl rfl (hK3.cell (j := 5) rfl) (hK3.frozen 5)) ⟨trivial, ?_⟩)
    refine wpAnyH_done (by kernel_rfl) ?_ _
    refine NoPanic.normal ?_
    have hC4 : Chg (fun q => q = G) w (((W.drew.setCell ⟨G, 2, none⟩ (.int .i64 ((s.fi : Int) + (g : Int)))).setCell ⟨G, 3, none⟩ (.int .i64 ((s.se : Int) - (g : Int)))).setCell ⟨G, 5, none⟩ (.int .i64 0)) := hCq.trans (S' := fun q => q = G) ((((Chg.refl (fun q => q = G) W).drew.setCell G 2 _ (fun _ => rfl)).setCell G 3 _ (fun _ => rfl)).setCell G 5 _ (fun _ => rfl)) (fun _ _ h => h)
    go_wp2
    go_ret
    refine ⟨rfl, hK4.of_eq ?_, hC4⟩
    unfold linkC
    simp [HGI.out.1, HGI.out.2]
  · refine op_value 12 44 _ (.int .i64 (s.se : Int)) W.drew rfl rfl rfl (exec_loadc 3 _ rfl _ _ rfl (load_one 3 (fun _ => by kernel_rfl) W.drew _ _ _ q3)) ⟨trivial, ?_⟩
    simp only [Act.put, List.setIfInBounds_toArray, List.set_cons_succ, List.set_cons_zero]
    refine held_take 14 46 _ (.int .i64 ((s.se : Int) - (g : Int))) rfl rfl (by kernel_rfl) (by kernel_rfl) (by kernel_rfl) rfl trivial (fun V _ => exec_subi 3 _ _ rfl (s.se : Int) (g : Int) rfl rfl (by have := HBN.out; omega) (by have := HBN.out; omega)) ?_
    simp only [Act.put, List.setIfInBounds_toArray, List.set_cons_succ, List.set_cons_zero]
    refine held_all1 6 (by kernel_rfl) (op_value 6 38 _ (.int .i64 (s.fi : Int)) W.drew rfl rfl rfl (exec_loadc 3 _ rfl _ _ rfl (load_one 3 (fun _ => by kernel_rfl) W.drew _ _ _ q2)) ⟨trivial, ?_⟩)
    simp only [Act.put, List.setIfInBounds_toArray, List.set_cons_succ, List.set_cons_zero]
    refine held_take 8 40 _ (.int .i64 ((s.fi : Int) + (g : Int))) rfl rfl (by kernel_rfl) (by kernel_rfl) (by kernel_rfl) rfl trivial (fun V _ => exec_addK 3 _ _ rfl (s.fi : Int) (g : Int) rfl rfl (by have := HBN.out; omega) (by have := HBN.out; omega)) ?_
    simp only [Act.put, List.setIfInBounds_toArray, List.set_cons_succ, List.set_cons_zero]
    refine held_take 15 47 _ (.pointer (some ⟨G, 0, none⟩)) rfl rfl (by kernel_rfl) (by kernel_rfl) (by kernel_rfl) rfl trivial (fun _ _ => rfl) ?_
    simp only [Act.put, List.setIfInBounds_toArray, List.set_cons_succ, List.set_cons_zero]
    refine held_take 16 48 _ (.pointer (some ⟨G, 2, none⟩)) rfl rfl (by kernel_rfl) (by kernel_rfl) (by kernel_rfl) rfl trivial (fun _ _ => rfl) ?_
    simp only [Act.put, List.setIfInBounds_toArray, List.set_cons_succ, List.set_cons_zero]
    refine held_all1 17 (by kernel_rfl) (op_skip 17 _ (W.drew.setCell ⟨G, 2, none⟩ (.int .i64 ((s.fi : Int) + (g : Int)))) rfl rfl rfl (exec_storeK _ _ rfl G 2 ((s.fi : Int) + (g : Int)) _ rfl rfl (hK0.cell (j := 2) rfl) (hK0.frozen 2)) ⟨trivial, ?_⟩)
    refine held_take 18 49 _ (.pointer (some ⟨G, 0, none⟩)) rfl rfl (by kernel_rfl) (by kernel_rfl) (by kernel_rfl) rfl trivial (fun _ _ => rfl) ?_
    simp only [Act.put, List.setIfInBounds_toArray, List.set_cons_succ, List.set_cons_zero]
    refine held_take 19 50 _ (.pointer (some ⟨G, 3, none⟩)) rfl rfl (by kernel_rfl) (by kernel_rfl) (by kernel_rfl) rfl trivial (fun _ _ => rfl) ?_
    simp only [Act.put, List.setIfInBounds_toArray, List.set_cons_succ, List.set_cons_zero]
    refine held_all1 20 (by kernel_rfl) (op_skip 20 _ ((W.drew.setCell ⟨G, 2, none⟩ (.int .i64 ((s.fi : Int) + (g : Int)))).setCell ⟨G, 3, none⟩ (.int .i64 ((s.se : Int) - (g : Int)))) rfl rfl rfl (exec_storeK _ _ rfl G 3 ((s.se : Int) - (g : Int)) _ rfl rfl (hK2.cell (j := 3) rfl) (hK2.frozen 3)) ⟨trivial, ?_⟩)
    refine held_take 21 51 _ (.pointer (some ⟨G, 0, none⟩)) rfl rfl (by kernel_rfl) (by kernel_rfl) (by kernel_rfl) rfl trivial (fun _ _ => rfl) ?_
    simp only [Act.put, List.setIfInBounds_toArray, List.set_cons_succ, List.set_cons_zero]
    refine held_take 22 52 _ (.pointer (some ⟨G, 5, none⟩)) rfl rfl (by kernel_rfl) (by kernel_rfl) (by kernel_rfl) rfl trivial (fun _ _ => rfl) ?_
    simp only [Act.put, List.setIfInBounds_toArray, List.set_cons_succ, List.set_cons_zero]
    refine held_all1 23 (by kernel_rfl) (op_skip 23 _ (((W.drew.setCell ⟨G, 2, none⟩ (.int .i64 ((s.fi : Int) + (g : Int)))).setCell ⟨G, 3, none⟩ (.int .i64 ((s.se : Int) - (g : Int)))).setCell ⟨G, 5, none⟩ (.int .i64 0)) rfl rfl rfl (exec_storeK _ _ rfl G 5 0 _ rfl rfl (hK3.cell (j := 5) rfl) (hK3.frozen 5)) ⟨trivial, ?_⟩)
    refine wpAnyH_done (by kernel_rfl) ?_ _
    refine NoPanic.normal ?_
    have hC4 : Chg (fun q => q = G) w (((W.drew.setCell ⟨G, 2, none⟩ (.int .i64 ((s.fi : Int) + (g : Int)))).setCell ⟨G, 3, none⟩ (.int .i64 ((s.se : Int) - (g : Int)))).setCell ⟨G, 5, none⟩ (.int .i64 0)) := hCq.trans (S' := fun q => q = G) ((((Chg.refl (fun q => q = G) W).drew.setCell G 2 _ (fun _ => rfl)).setCell G 3 _ (fun _ => rfl)).setCell G 5 _ (fun _ => rfl)) (fun _ _ h => h)
    go_wp2
    go_ret
    refine ⟨rfl, hK4.of_eq ?_, hC4⟩
    unfold linkC
    simp [HGI.out.1, HGI.out.2]
end Go.Proofs.Ytichmnbhephkkaa
