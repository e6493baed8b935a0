/-
  What is proved here: boot.Next and the document's own tell what comes of a record when a device begins; the document's Right whether it may be.
  Conditions: the numbers are of 64 bits.
-/
import Derived.Test.YtlnekjilafcojaaDoorJBootSave
import Derived.Lib.MinMax
namespace Go.Proofs.YtlnekjilafcojaaDoor
open Go.RowKit

set_option maxRecDepth 100000 in
set_option maxHeartbeats 4000000 in
theorem next9_any (b : BR) (most : Int) (w : World) : Calls Tryd.prog 10 #[brV b, .int .i64 most] w fun e w' => e = .returned (.tuple #[brV (nextR b most).1, .int .i64 (nextR b most).2]) ∧ Below w.heap.size w w' := by
  have HRG : Hid (∀ W, Calls Tryd.prog 12 #[brV b] W fun e w' => e = .returned (.bool (rightR b)) ∧ Below W.heap.size W w') := fun W => right9_any b W
  have HNX : Hid (nextR b most = if rightR b = false ∨ b.trial = -1 then (b, b.active) else if most ≤ b.tries then (⟨b.active, -1, 0, b.v0, b.v1⟩, b.active) else (⟨b.active, b.trial, min (b.tries + 1) 15, b.v0, b.v1⟩, b.trial)) := rfl
  have HTR : Hid (rightR b = true → 0 ≤ b.tries ∧ b.tries ≤ 15) := fun h => (of_decide_eq_true h : b.ok).2.1
  generalize nextR b most = NX at *
  generalize rightR b = RB at *
  obtain ⟨a, t, r, v0, v1⟩ := b
  unfold brV brL at *
  simp only at *
  have hB0 := ((Below.refl w.heap.size w).alloc (Nat.le_refl _) (.cells #[.int .i64 a, .int .i64 t, .int .i64 r, .int .i64 v0, .int .i64 v1] 24)).alloc (by simp) (.cells #[.int .i64 0, .int .i64 0, .int .i64 0, .int .i64 0, .int .i64 0] 24)
  have k2 : Blk ((w.alloc (.cells #[.int .i64 a, .int .i64 t, .int .i64 r, .int .i64 v0, .int .i64 v1] 24)).alloc (.cells #[.int .i64 0, .int .i64 0, .int .i64 0, .int .i64 0, .int .i64 0] 24)) w.heap.size 24 #[.int .i64 a, .int .i64 t, .int .i64 r, .int .i64 v0, .int .i64 v1] := (Blk.new w _ _).alloc _
  have k4 : Blk ((w.alloc (.cells #[.int .i64 a, .int .i64 t, .int .i64 r, .int .i64 v0, .int .i64 v1] 24)).alloc (.cells #[.int .i64 0, .int .i64 0, .int .i64 0, .int .i64 0, .int .i64 0] 24)) (w.heap.size + 1) 24 #[.int .i64 0, .int .i64 0, .int .i64 0, .int .i64 0, .int .i64 0] := Blk.newAt _ _ _ _ (by simp)
  go_enter Tryd.func10, Tryd.ntmps10
  go_wp2_with fail
  refine (HRG.out _).mono ?_
  rintro e W1 ⟨rfl, hb1⟩
  have m2 := k2.below hb1 k2.lt
  have m4 := k4.below hb1 k4.lt
  have hB1 : Below w.heap.size w W1 := hB0.trans (hb1.mono hB0.size)
  clear HRG hB0 k2 k4 hb1
  cases RB with
  | false =>
    rw [if_pos (.inl rfl)] at HNX
    go_wp2_with fail
    have hS0 : (W1).drew.rangeAt w.heap.size 0 [.int .i64 a, .int .i64 t, .int .i64 r, .int .i64 v0, .int .i64 v1] ∧ (W1).drew.cell? ⟨w.heap.size, 0, none⟩ = some (.int .i64 a) := ⟨m2.drew.range', m2.drew.cell (j := 0) rfl⟩
    refine held_begin (fun V => V.rangeAt w.heap.size 0 [.int .i64 a, .int .i64 t, .int .i64 r, .int .i64 v0, .int .i64 v1] ∧ V.cell? ⟨w.heap.size, 0, none⟩ = some (.int .i64 a)) (by kernel_rfl) ?_
    refine held_take 0 14 _ (.agg #[.int .i64 a, .int .i64 t, .int .i64 r, .int .i64 v0, .int .i64 v1]) rfl rfl (by kernel_rfl) (by kernel_rfl) (by kernel_rfl) rfl hS0 (fun V hV => exec_loads 24 _ rfl w.heap.size 0 rfl [.int .i64 a, .int .i64 t, .int .i64 r, .int .i64 v0, .int .i64 v1] _ hV.1 Tryd.underlying24 rfl info_boot9) ?_
    simp only [Act.put, List.setIfInBounds_toArray, List.set_cons_succ, List.set_cons_zero]
    refine held_take 1 15 _ (.pointer (some ⟨w.heap.size, 0, none⟩)) rfl rfl (by kernel_rfl) (by kernel_rfl) (by kernel_rfl) rfl hS0 (fun _ _ => rfl) ?_
    simp only [Act.put, List.setIfInBounds_toArray, List.set_cons_succ, List.set_cons_zero]
    refine held_take 2 16 _ (.int .i64 a) rfl rfl (by kernel_rfl) (by kernel_rfl) (by kernel_rfl) rfl hS0 (fun V hV => exec_loadc 3 _ rfl _ _ rfl (load_one 3 (fun _ => by kernel_rfl) V _ _ _ hV.2)) ?_
    simp only [Act.put, List.setIfInBounds_toArray, List.set_cons_succ, List.set_cons_zero]
    refine held_all1 3 (by kernel_rfl) (op_row 3 _ rfl rfl rfl 24 _ _ rfl (w.heap.size + 1) #[.int .i64 a, .int .i64 t, .int .i64 r, .int .i64 v0, .int .i64 v1] rfl rfl 24 _ m4.drew info_boot9 rfl (by simp [Value.oneCell']) ?_)
    intro W9 hb9 hg9 hs9
    have hS9 : W9.rangeAt w.heap.size 0 [.int .i64 a, .int .i64 t, .int .i64 r, .int .i64 v0, .int .i64 v1] ∧ W9.cell? ⟨w.heap.size, 0, none⟩ = some (.int .i64 a) := ⟨(m2.drew.grown hg9 (fun e => by have := Option.some.inj e; omega)).range', (m2.drew.grown hg9 (fun e => by have := Option.some.inj e; omega)).cell (j := 0) rfl⟩
    refine ⟨hS9, ?_⟩
    refine held_all1 4 (by kernel_rfl) (op_value 4 5 _ (.int .i64 a) W9 rfl rfl rfl rfl ⟨hS9, ?_⟩)
    simp only [Act.put, List.setIfInBounds_toArray, List.set_cons_succ, List.set_cons_zero]
    refine wpAnyH_done (by kernel_rfl) ?_ _
    refine NoPanic.normal ?_
    go_wp2
    (try simp only [Exit.inBlock, Exit.then])
    refine bodyPost_ret (results_pair rfl _ _ (w.heap.size + 1) 24 #[.int .i64 a, .int .i64 t, .int .i64 r, .int .i64 v0, .int .i64 v1] (0, 0) _ _ rfl rfl hb9 Tryd.underlying24 rfl info_boot9) rfl ?_
    rw [HNX.out]
    exact ⟨rfl, below_grown hB1.drew hg9 hB1.drew.size (fun q hq => by have h2 : w.heap.size + 1 = q := Option.some.inj hq; omega)⟩
  | true =>
    have htr := HTR.out rfl
    have e1 : W1.cell? ⟨w.heap.size, 1, none⟩ = some (.int .i64 t) := m2.cell (j := 1) rfl
    have e2 : W1.cell? ⟨w.heap.size, 2, none⟩ = some (.int .i64 r) := m2.cell (j := 2) rfl
    have z1 := m2.frozen 1
    have z2 := m2.frozen 2
    by_cases ht : t = -1
    · rw [if_pos (.inr ht)] at HNX
      subst ht
      clear e2 htr HTR
      go_wp2_with fail
      have hS0 : (W1).drew.rangeAt w.heap.size 0 [.int .i64 a, .int .i64 (-1), .int .i64 r, .int .i64 v0, .int .i64 v1] ∧ (W1).drew.cell? ⟨w.heap.size, 0, none⟩ = some (.int .i64 a) := ⟨m2.drew.range', m2.drew.cell (j := 0) rfl⟩
      refine held_begin (fun V => V.rangeAt w.heap.size 0 [.int .i64 a, .int .i64 (-1), .int .i64 r, .int .i64 v0, .int .i64 v1] ∧ V.cell? ⟨w.heap.size, 0, none⟩ = some (.int .i64 a)) (by kernel_rfl) ?_
      refine held_take 0 14 _ (.agg #[.int .i64 a, .int .i64 (-1), .int .i64 r, .int .i64 v0, .int .i64 v1]) rfl rfl (by kernel_rfl) (by kernel_rfl) (by kernel_rfl) rfl hS0 (fun V hV => exec_loads 24 _ rfl w.heap.size 0 rfl [.int .i64 a, .int .i64 (-1), .int .i64 r, .int .i64 v0, .int .i64 v1] _ hV.1 Tryd.underlying24 rfl info_boot9) ?_
      simp only [Act.put, List.setIfInBounds_toArray, List.set_cons_succ, List.set_cons_zero]
      refine held_take 1 15 _ (.pointer (some ⟨w.heap.size, 0, none⟩)) rfl rfl (by kernel_rfl) (by kernel_rfl) (by kernel_rfl) rfl hS0 (fun _ _ => rfl) ?_
      simp only [Act.put, List.setIfInBounds_toArray, List.set_cons_succ, List.set_cons_zero]
      refine held_take 2 16 _ (.int .i64 a) rfl rfl (by kernel_rfl) (by kernel_rfl) (by kernel_rfl) rfl hS0 (fun V hV => exec_loadc 3 _ rfl _ _ rfl (load_one 3 (fun _ => by kernel_rfl) V _ _ _ hV.2)) ?_
      simp only [Act.put, List.setIfInBounds_toArray, List.set_cons_succ, List.set_cons_zero]
      refine held_all1 3 (by kernel_rfl) (op_row 3 _ rfl rfl rfl 24 _ _ rfl (w.heap.size + 1) #[.int .i64 a, .int .i64 (-1), .int .i64 r, .int .i64 v0, .int .i64 v1] rfl rfl 24 _ m4.drew info_boot9 rfl (by simp [Value.oneCell']) ?_)
      intro W9 hb9 hg9 hs9
      have hS9 : W9.rangeAt w.heap.size 0 [.int .i64 a, .int .i64 (-1), .int .i64 r, .int .i64 v0, .int .i64 v1] ∧ W9.cell? ⟨w.heap.size, 0, none⟩ = some (.int .i64 a) := ⟨(m2.drew.grown hg9 (fun e => by have := Option.some.inj e; omega)).range', (m2.drew.grown hg9 (fun e => by have := Option.some.inj e; omega)).cell (j := 0) rfl⟩
      refine ⟨hS9, ?_⟩
      refine held_all1 4 (by kernel_rfl) (op_value 4 5 _ (.int .i64 a) W9 rfl rfl rfl rfl ⟨hS9, ?_⟩)
      simp only [Act.put, List.setIfInBounds_toArray, List.set_cons_succ, List.set_cons_zero]
      refine wpAnyH_done (by kernel_rfl) ?_ _
      refine NoPanic.normal ?_
      go_wp2
      (try simp only [Exit.inBlock, Exit.then])
      refine bodyPost_ret (results_pair rfl _ _ (w.heap.size + 1) 24 #[.int .i64 a, .int .i64 (-1), .int .i64 r, .int .i64 v0, .int .i64 v1] (0, 0) _ _ rfl rfl hb9 Tryd.underlying24 rfl info_boot9) rfl ?_
      rw [HNX.out]
      exact ⟨rfl, below_grown hB1.drew hg9 hB1.drew.size (fun q hq => by have h2 : w.heap.size + 1 = q := Option.some.inj hq; omega)⟩
    have hne : (t == -1) = false := by simpa using ht
    rw [if_neg (fun h => by rcases h with h | h; cases h; exact ht h)] at HNX
    clear ht HTR
    by_cases hm : most ≤ r
    · rw [if_pos hm] at HNX
      have hc2 : Chg (fun q => q = w.heap.size) W1 ((W1.setCell ⟨w.heap.size, 1, none⟩ (.int .i64 (-1))).setCell ⟨w.heap.size, 2, none⟩ (.int .i64 0)) := ((Chg.refl (fun q => q = w.heap.size) W1).setCell w.heap.size 1 _ (fun _ => rfl)).setCell w.heap.size 2 _ (fun _ => rfl)
      have n2 : Blk ((W1.setCell ⟨w.heap.size, 1, none⟩ (.int .i64 (-1))).setCell ⟨w.heap.size, 2, none⟩ (.int .i64 0)) w.heap.size 24 #[.int .i64 a, .int .i64 (-1), .int .i64 0, .int .i64 v0, .int .i64 v1] := (m2.set 1 (.int .i64 (-1))).set 2 (.int .i64 0)
      have n4 : Blk ((W1.setCell ⟨w.heap.size, 1, none⟩ (.int .i64 (-1))).setCell ⟨w.heap.size, 2, none⟩ (.int .i64 0)) (w.heap.size + 1) 24 #[.int .i64 0, .int .i64 0, .int .i64 0, .int .i64 0, .int .i64 0] := m4.chg hc2 (by omega)
      have hB2 : Below w.heap.size w ((W1.setCell ⟨w.heap.size, 1, none⟩ (.int .i64 (-1))).setCell ⟨w.heap.size, 2, none⟩ (.int .i64 0)) := hB1.trans (hc2.below (fun q hq => by omega) hB1.size)
      clear htr
      go_wp2_with fail
      have hS0 : (((W1.setCell ⟨w.heap.size, 1, none⟩ (.int .i64 (-1))).setCell ⟨w.heap.size, 2, none⟩ (.int .i64 0))).drew.rangeAt w.heap.size 0 [.int .i64 a, .int .i64 (-1), .int .i64 0, .int .i64 v0, .int .i64 v1] ∧ (((W1.setCell ⟨w.heap.size, 1, none⟩ (.int .i64 (-1))).setCell ⟨w.heap.size, 2, none⟩ (.int .i64 0))).drew.cell? ⟨w.heap.size, 0, none⟩ = some (.int .i64 a) := ⟨n2.drew.range', n2.drew.cell (j := 0) rfl⟩
      refine held_begin (fun V => V.rangeAt w.heap.size 0 [.int .i64 a, .int .i64 (-1), .int .i64 0, .int .i64 v0, .int .i64 v1] ∧ V.cell? ⟨w.heap.size, 0, none⟩ = some (.int .i64 a)) (by kernel_rfl) ?_
      refine held_take 0 23 _ (.agg #[.int .i64 a, .int .i64 (-1), .int .i64 0, .int .i64 v0, .int .i64 v1]) rfl rfl (by kernel_rfl) (by kernel_rfl) (by kernel_rfl) rfl hS0 (fun V hV => exec_loads 24 _ rfl w.heap.size 0 rfl [.int .i64 a, .int .i64 (-1), .int .i64 0, .int .i64 v0, .int .i64 v1] _ hV.1 Tryd.underlying24 rfl info_boot9) ?_
      simp only [Act.put, List.setIfInBounds_toArray, List.set_cons_succ, List.set_cons_zero]
      refine held_take 1 24 _ (.pointer (some ⟨w.heap.size, 0, none⟩)) rfl rfl (by kernel_rfl) (by kernel_rfl) (by kernel_rfl) rfl hS0 (fun _ _ => rfl) ?_
      simp only [Act.put, List.setIfInBounds_toArray, List.set_cons_succ, List.set_cons_zero]
      refine held_take 2 25 _ (.int .i64 a) rfl rfl (by kernel_rfl) (by kernel_rfl) (by kernel_rfl) rfl hS0 (fun V hV => exec_loadc 3 _ rfl _ _ rfl (load_one 3 (fun _ => by kernel_rfl) V _ _ _ hV.2)) ?_
      simp only [Act.put, List.setIfInBounds_toArray, List.set_cons_succ, List.set_cons_zero]
      refine held_all1 3 (by kernel_rfl) (op_row 3 _ rfl rfl rfl 24 _ _ rfl (w.heap.size + 1) #[.int .i64 a, .int .i64 (-1), .int .i64 0, .int .i64 v0, .int .i64 v1] rfl rfl 24 _ n4.drew info_boot9 rfl (by simp [Value.oneCell']) ?_)
      intro W9 hb9 hg9 hs9
      have hS9 : W9.rangeAt w.heap.size 0 [.int .i64 a, .int .i64 (-1), .int .i64 0, .int .i64 v0, .int .i64 v1] ∧ W9.cell? ⟨w.heap.size, 0, none⟩ = some (.int .i64 a) := ⟨(n2.drew.grown hg9 (fun e => by have := Option.some.inj e; omega)).range', (n2.drew.grown hg9 (fun e => by have := Option.some.inj e; omega)).cell (j := 0) rfl⟩
      refine ⟨hS9, ?_⟩
      refine held_all1 4 (by kernel_rfl) (op_value 4 5 _ (.int .i64 a) W9 rfl rfl rfl rfl ⟨hS9, ?_⟩)
      simp only [Act.put, List.setIfInBounds_toArray, List.set_cons_succ, List.set_cons_zero]
      refine wpAnyH_done (by kernel_rfl) ?_ _
      refine NoPanic.normal ?_
      go_wp2
      (try simp only [Exit.inBlock, Exit.then])
      refine bodyPost_ret (results_pair rfl _ _ (w.heap.size + 1) 24 #[.int .i64 a, .int .i64 (-1), .int .i64 0, .int .i64 v0, .int .i64 v1] (0, 0) _ _ rfl rfl hb9 Tryd.underlying24 rfl info_boot9) rfl ?_
      rw [HNX.out]
      exact ⟨rfl, below_grown hB2.drew hg9 hB2.drew.size (fun q hq => by have h2 : w.heap.size + 1 = q := Option.some.inj hq; omega)⟩
    · rw [if_neg hm] at HNX
      have hw1 : IntKind.i64.wrap (r + 1) = r + 1 := by rw [IntKind.wrap_i64]; omega
      have hc2 : Chg (fun q => q = w.heap.size) W1 (W1.setCell ⟨w.heap.size, 2, none⟩ (.int .i64 (min (r + 1) 15))) := (Chg.refl (fun q => q = w.heap.size) W1).setCell w.heap.size 2 _ (fun _ => rfl)
      have n2 : Blk (W1.setCell ⟨w.heap.size, 2, none⟩ (.int .i64 (min (r + 1) 15))) w.heap.size 24 #[.int .i64 a, .int .i64 t, .int .i64 (min (r + 1) 15), .int .i64 v0, .int .i64 v1] := m2.set 2 _
      have n4 : Blk (W1.setCell ⟨w.heap.size, 2, none⟩ (.int .i64 (min (r + 1) 15))) (w.heap.size + 1) 24 #[.int .i64 0, .int .i64 0, .int .i64 0, .int .i64 0, .int .i64 0] := m4.chg hc2 (by omega)
      have hB2 : Below w.heap.size w (W1.setCell ⟨w.heap.size, 2, none⟩ (.int .i64 (min (r + 1) 15))) := hB1.trans (hc2.below (fun q hq => by omega) hB1.size)
      clear htr
      go_wp2_with fail
      have hS0 : ((W1.setCell ⟨w.heap.size, 2, none⟩ (.int .i64 (min (r + 1) 15)))).drew.rangeAt w.heap.size 0 [.int .i64 a, .int .i64 t, .int .i64 (min (r + 1) 15), .int .i64 v0, .int .i64 v1] ∧ ((W1.setCell ⟨w.heap.size, 2, none⟩ (.int .i64 (min (r + 1) 15)))).drew.cell? ⟨w.heap.size, 1, none⟩ = some (.int .i64 t) := ⟨n2.drew.range', n2.drew.cell (j := 1) rfl⟩
      refine held_begin (fun V => V.rangeAt w.heap.size 0 [.int .i64 a, .int .i64 t, .int .i64 (min (r + 1) 15), .int .i64 v0, .int .i64 v1] ∧ V.cell? ⟨w.heap.size, 1, none⟩ = some (.int .i64 t)) (by kernel_rfl) ?_
      refine held_take 0 31 _ (.agg #[.int .i64 a, .int .i64 t, .int .i64 (min (r + 1) 15), .int .i64 v0, .int .i64 v1]) rfl rfl (by kernel_rfl) (by kernel_rfl) (by kernel_rfl) rfl hS0 (fun V hV => exec_loads 24 _ rfl w.heap.size 0 rfl [.int .i64 a, .int .i64 t, .int .i64 (min (r + 1) 15), .int .i64 v0, .int .i64 v1] _ hV.1 Tryd.underlying24 rfl info_boot9) ?_
      simp only [Act.put, List.setIfInBounds_toArray, List.set_cons_succ, List.set_cons_zero]
      refine held_take 1 32 _ (.pointer (some ⟨w.heap.size, 1, none⟩)) rfl rfl (by kernel_rfl) (by kernel_rfl) (by kernel_rfl) rfl hS0 (fun _ _ => rfl) ?_
      simp only [Act.put, List.setIfInBounds_toArray, List.set_cons_succ, List.set_cons_zero]
      refine held_take 2 33 _ (.int .i64 t) rfl rfl (by kernel_rfl) (by kernel_rfl) (by kernel_rfl) rfl hS0 (fun V hV => exec_loadc 3 _ rfl _ _ rfl (load_one 3 (fun _ => by kernel_rfl) V _ _ _ hV.2)) ?_
      simp only [Act.put, List.setIfInBounds_toArray, List.set_cons_succ, List.set_cons_zero]
      refine held_all1 3 (by kernel_rfl) (op_row 3 _ rfl rfl rfl 24 _ _ rfl (w.heap.size + 1) #[.int .i64 a, .int .i64 t, .int .i64 (min (r + 1) 15), .int .i64 v0, .int .i64 v1] rfl rfl 24 _ n4.drew info_boot9 rfl (by simp [Value.oneCell']) ?_)
      intro W9 hb9 hg9 hs9
      have hS9 : W9.rangeAt w.heap.size 0 [.int .i64 a, .int .i64 t, .int .i64 (min (r + 1) 15), .int .i64 v0, .int .i64 v1] ∧ W9.cell? ⟨w.heap.size, 1, none⟩ = some (.int .i64 t) := ⟨(n2.drew.grown hg9 (fun e => by have := Option.some.inj e; omega)).range', (n2.drew.grown hg9 (fun e => by have := Option.some.inj e; omega)).cell (j := 1) rfl⟩
      refine ⟨hS9, ?_⟩
      refine held_all1 4 (by kernel_rfl) (op_value 4 5 _ (.int .i64 t) W9 rfl rfl rfl rfl ⟨hS9, ?_⟩)
      simp only [Act.put, List.setIfInBounds_toArray, List.set_cons_succ, List.set_cons_zero]
      refine wpAnyH_done (by kernel_rfl) ?_ _
      refine NoPanic.normal ?_
      go_wp2
      (try simp only [Exit.inBlock, Exit.then])
      refine bodyPost_ret (results_pair rfl _ _ (w.heap.size + 1) 24 #[.int .i64 a, .int .i64 t, .int .i64 (min (r + 1) 15), .int .i64 v0, .int .i64 v1] (0, 0) _ _ rfl rfl hb9 Tryd.underlying24 rfl info_boot9) rfl ?_
      rw [HNX.out]
      exact ⟨rfl, below_grown hB2.drew hg9 hB2.drew.size (fun q hq => by have h2 : w.heap.size + 1 = q := Option.some.inj hq; omega)⟩

end Go.Proofs.YtlnekjilafcojaaDoor
