/-
  What is proved here: the statement LeaseScripts is true of any steps.
  Conditions: they lie in memory.
-/
import Derived.Test.YthlohlomefiebaaLeStep
import Derived.BigQuiet
import Derived.Deep.QuietTactic
namespace Go.Proofs.Ythlohlomefiebaa
open Go.RowKit Go.Maps

set_option maxRecDepth 100000 in
set_option maxHeartbeats 4000000 in
theorem leaseScripts_any (x : Value) (L : List SP) (w : World) (hx : Steps16 w x L) : Calls Try.prog 3 #[x] w fun e w' => e = .returned (.bool true) ∧ Below w.heap.size w w' := by
  have HR : Hid (0 < L.length → ∃ b off c, x = .slice (some ⟨b, off, none⟩) L.length c ∧ b < w.heap.size ∧ ∀ (i : Nat) s, L[i]? = some s → ∀ (j : Nat) u, (spL s)[j]? = some u → w.cell? ⟨b, off + i * 4 + j, none⟩ = some u) := fun h => by
    obtain ⟨b, off, c, h1, _, h2, h3⟩ := hx.1.form h
    exact ⟨b, off, c, h1, h2, h3⟩
  have HW : Hid (∀ s ∈ L, s.good) := hx.2
  obtain ⟨ax, cx, rfl⟩ := hx.1.shape
  clear hx
  go_enter Try.func3, Try.ntmps3
  go_wp2_with fail
  refine (awake16_any w).mono ?_
  rintro e w1 ⟨rfl, hB1⟩
  go_wp2_with fail
  refine (new16_any w1).mono ?_
  rintro e w2 ⟨G, b, rfl, hT, hb2⟩
  obtain ⟨G', hG'⟩ : ∃ g, g = w2.heap.size := ⟨_, rfl⟩
  have hbR := below_newE w2 (.cells #[.slice none 0 0] 29)
  have hR2 := rfT_new w2
  have hTT : TT (w2.alloc (.cells #[.slice none 0 0] 29)) w1.heap.size G b G' (.slice none 0 0) (.slice none 0 0) [] [] := by
    refine ⟨hT.after hbR (Nat.le_refl _), ⟨hG' ▸ hR2.head, LeR.nil _ _, OkT.nil, by rw [hG']; exact hb2.size, fun e => by cases e⟩, fun q hq hr => ?_, Nat.le_trans hb2.size hbR.size⟩
    have h1 := hT.lt q hq
    rcases hr with e | e
    · omega
    · cases e
  have HTT : Hid (TT (w2.alloc (.cells #[.slice none 0 0] 29)) w1.heap.size G b G' (.slice none 0 0) (.slice none 0 0) [] []) := hTT
  have HS : Hid (w.heap.size ≤ w1.heap.size) := hB1.size
  have hB2 : Below w.heap.size w (w2.alloc (.cells #[.slice none 0 0] 29)) := low_new (hB1.trans (hb2.mono hB1.size)) _
  clear hT hb2 hB1 hbR hR2 hTT
  go_wp2_with fail
  rw [← hG']
  clear hG'
  generalize w2.alloc (.cells #[.slice none 0 0] 29) = w3 at *
  go_loopw [6] (fun i wr => ∃ (k : Nat) (v v2 : Value) (l : List LE), i = .int .i64 (k : Int) ∧ k ≤ L.length ∧ k ≤ 200 ∧ Below w.heap.size w wr ∧ Hid (TT wr w1.heap.size G b G' v v2 l l)) (fun i _ => 200 - (Go.RowKit.intOf i).toNat)
  case atStart => exact ⟨0, _, _, [], rfl, Nat.zero_le _, Nat.zero_le _, hB2, HTT.out⟩
  case round =>
    clear hB2 HTT
    obtain ⟨k, v, v2, l, rfl, hk, hk200, hB, HT⟩ := hrel
    by_cases hlt : k < L.length
    · by_cases h200 : k < 200
      · obtain ⟨bd, off, c', hxx, hbd, hr⟩ := HR.out (by omega)
        cases hxx
        have hgd := HW.out L[k] (List.getElem_mem hlt)
        have hcs := hr k _ (List.getElem?_eq_getElem hlt)
        generalize L[k] = s at *
        have HST : Hid (Calls Try.prog 11 #[.pointer (some ⟨G, 0, none⟩), .pointer (some ⟨G', 0, none⟩), spV s] wr fun e w' => PostS wr w1.heap.size G b G' v v2 l l (doT l s) (doT l s) e w') := step16_any HT.out s hgd
        have HTL : Hid (∀ q, LeM G b v q ∨ RfM G' v2 q → w.heap.size ≤ q) := fun q hq => by
          have := HS.out
          rcases hq with e | e
          · have := HT.out.t.ge q e; omega
          · have := HT.out.r.ge q e; omega
        obtain ⟨so, sn, st, sf⟩ := s
        unfold spV spL at HST
        dsimp only at HST
        have k0 : wr.cell? ⟨bd, off + k * 4, none⟩ = some (.int .i64 so) := (hB.cell (p := ⟨bd, off + k * 4, none⟩) hbd).trans (hcs 0 _ rfl)
        have k1 : wr.cell? ⟨bd, off + k * 4 + 1, none⟩ = some (.int .i64 sn) := (hB.cell (p := ⟨bd, off + k * 4 + 1, none⟩) hbd).trans (hcs 1 _ rfl)
        have k2 : wr.cell? ⟨bd, off + k * 4 + 2, none⟩ = some (.int .i64 st) := (hB.cell (p := ⟨bd, off + k * 4 + 2, none⟩) hbd).trans (hcs 2 _ rfl)
        have k3 : wr.cell? ⟨bd, off + k * 4 + 3, none⟩ = some (.int .i64 sf) := (hB.cell (p := ⟨bd, off + k * 4 + 3, none⟩) hbd).trans (hcs 3 _ rfl)
        have ix := fun w => index_s16 bd off L.length cx k w hlt
        have HB : Hid (Below w.heap.size w wr) := hB
        clear hr hgd hcs hB
        go_wp2_with fail
        refine HST.out.mono ?_
        rintro e w4 ⟨bb, rfl, hbb, v3, v4, hT4, _, _, hC4⟩
        obtain rfl : bb = true := hbb rfl
        have HF : Hid (TT w4 w1.heap.size G b G' v3 v4 (doT l ⟨so, sn, st, sf⟩) (doT l ⟨so, sn, st, sf⟩) ∧ Below w.heap.size w w4) := ⟨hT4, HB.out.trans (hC4.below HTL.out HB.out.size)⟩
        clear hT4 hC4 HST k0 k1 k2 k3
        go_wp2
        go_roundw
        case rel => exact ⟨k + 1, v3, v4, _, by go_num, hlt, h200, HF.out.2, HF.out.1⟩
        case measure => simp [Go.RowKit.intOf]; omega
      · have hni : ¬ (k : Int) < 200 := by omega
        clear h200
        have HAL : Hid (Calls Try.prog 13 #[.pointer (some ⟨G, 0, none⟩)] wr.drew fun e w' => ∃ u, e = .returned u ∧ LeR w' wr.drew.heap.size u l ∧ Below wr.drew.heap.size wr.drew w') := all16_any (HT.out.t.after ((Below.refl _ _).drew) (Nat.le_refl _))
        obtain ⟨ar, cr, er⟩ := HT.out.r.row.shape
        subst er
        have hS0 : (fun V : World => V.cell? ⟨G', 0, none⟩ = some (.slice ar l.length cr)) wr.drew := HT.out.r.head.cell (j := 0) rfl
        have HGL : Hid (G' < wr.drew.heap.size) := HT.out.r.head.lt
        have HRL : Hid (LeIn wr.drew (.slice ar l.length cr) l) := HT.out.r.row.lies
        have hB7 := hB.drew
        clear HT hB
        go_wp2_with fail
        refine held_begin (fun V => V.cell? ⟨G', 0, none⟩ = some (.slice ar l.length cr)) (by kernel_rfl) ?_
        refine held_take 0 37 _ (.pointer (some ⟨G, 0, none⟩)) rfl rfl (by kernel_rfl) (by kernel_rfl) (by kernel_rfl) rfl hS0 (fun _ _ => rfl) ?_
        simp only [Act.put, List.setIfInBounds_toArray, List.set_cons_succ, List.set_cons_zero]
        refine held_take 2 39 _ (.pointer (some ⟨G', 0, none⟩)) rfl rfl (by kernel_rfl) (by kernel_rfl) (by kernel_rfl) rfl hS0 (fun _ _ => rfl) ?_
        simp only [Act.put, List.setIfInBounds_toArray, List.set_cons_succ, List.set_cons_zero]
        refine held_take 3 40 _ (.pointer (some ⟨G', 0, none⟩)) rfl rfl (by kernel_rfl) (by kernel_rfl) (by kernel_rfl) rfl hS0 (fun _ _ => rfl) ?_
        simp only [Act.put, List.setIfInBounds_toArray, List.set_cons_succ, List.set_cons_zero]
        refine held_take 4 41 _ (.pointer (some ⟨G', 0, none⟩)) rfl rfl (by kernel_rfl) (by kernel_rfl) (by kernel_rfl) rfl hS0 (fun _ _ => rfl) ?_
        simp only [Act.put, List.setIfInBounds_toArray, List.set_cons_succ, List.set_cons_zero]
        refine held_take 5 42 _ (.slice ar l.length cr) rfl rfl (by kernel_rfl) (by kernel_rfl) (by kernel_rfl) rfl hS0 (fun V hV => exec_loadc 27 _ rfl _ _ rfl (load_one 27 (fun _ => by kernel_rfl) V _ _ _ hV)) ?_
        simp only [Act.put, List.setIfInBounds_toArray, List.set_cons_succ, List.set_cons_zero]
        refine held_all1 1 (by kernel_rfl) (op_call 1 38 _ 13 #[.pointer (some ⟨G, 0, none⟩)] rfl rfl rfl (exec_one 13 _ _ rfl _ rfl Try.call13) (HAL.out.mono ?_))
        rintro e W8 ⟨u, rfl, hu, hb8⟩
        obtain ⟨au, cu, rfl⟩ := hu.shape
        have hS8 : W8.cell? ⟨G', 0, none⟩ = some (.slice ar l.length cr) := (hb8.cell (p := ⟨G', 0, none⟩) HGL.out).trans hS0
        have HS9 : Hid (Calls Try.prog 12 #[.slice au l.length cu, .slice ar l.length cr] W8 fun e w' => e = .returned (.bool true) ∧ Below W8.heap.size W8 w') := by
          have := same16_any hu.lies (HRL.out.after hb8 (Nat.le_refl _))
          rw [decide_eq_true rfl] at this
          exact this
        have hB8 := hB7.trans (hb8.mono hB7.size)
        refine ⟨_, rfl, hS8, ?_⟩
        simp only [Act.put, List.setIfInBounds_toArray, List.set_cons_succ, List.set_cons_zero]
        refine held_all1 6 (by kernel_rfl) (op_call 6 43 _ 12 #[.slice au l.length cu, .slice ar l.length cr] rfl rfl rfl (exec_two8 12 _ _ _ rfl _ _ rfl rfl Try.call12) (HS9.out.mono ?_))
        rintro e W9 ⟨rfl, hb9⟩
        have hS9 : W9.cell? ⟨G', 0, none⟩ = some (.slice ar l.length cr) := (hb9.cell (p := ⟨G', 0, none⟩) (Nat.lt_of_lt_of_le HGL.out hb8.size)).trans hS8
        have hB9 := hB8.trans (hb9.mono hB8.size)
        refine ⟨_, rfl, hS9, ?_⟩
        simp only [Act.put, List.setIfInBounds_toArray, List.set_cons_succ, List.set_cons_zero]
        refine held_take 7 2 _ (.bool true) rfl rfl (by kernel_rfl) (by kernel_rfl) (by kernel_rfl) rfl hS9 (fun _ _ => rfl) ?_
        simp only [Act.put, List.setIfInBounds_toArray, List.set_cons_succ, List.set_cons_zero]
        refine wpAnyH_done (by kernel_rfl) ?_ _
        refine NoPanic.normal ?_
        go_wp2
        go_ret
        exact ⟨rfl, hB9⟩
    · have hni : ¬ (k : Int) < (L.length : Int) := by omega
      clear hlt
      have HAL : Hid (Calls Try.prog 13 #[.pointer (some ⟨G, 0, none⟩)] wr.drew fun e w' => ∃ u, e = .returned u ∧ LeR w' wr.drew.heap.size u l ∧ Below wr.drew.heap.size wr.drew w') := all16_any (HT.out.t.after ((Below.refl _ _).drew) (Nat.le_refl _))
      obtain ⟨ar, cr, er⟩ := HT.out.r.row.shape
      subst er
      have hS0 : (fun V : World => V.cell? ⟨G', 0, none⟩ = some (.slice ar l.length cr)) wr.drew := HT.out.r.head.cell (j := 0) rfl
      have HGL : Hid (G' < wr.drew.heap.size) := HT.out.r.head.lt
      have HRL : Hid (LeIn wr.drew (.slice ar l.length cr) l) := HT.out.r.row.lies
      have hB7 := hB.drew
      clear HT hB
      go_wp2_with fail
      refine held_begin (fun V => V.cell? ⟨G', 0, none⟩ = some (.slice ar l.length cr)) (by kernel_rfl) ?_
      refine held_take 0 37 _ (.pointer (some ⟨G, 0, none⟩)) rfl rfl (by kernel_rfl) (by kernel_rfl) (by kernel_rfl) rfl hS0 (fun _ _ => rfl) ?_
      simp only [Act.put, List.setIfInBounds_toArray, List.set_cons_succ, List.set_cons_zero]
      refine held_take 2 39 _ (.pointer (some ⟨G', 0, none⟩)) rfl rfl (by kernel_rfl) (by kernel_rfl) (by kernel_rfl) rfl hS0 (fun _ _ => rfl) ?_
      simp only [Act.put, List.setIfInBounds_toArray, List.set_cons_succ, List.set_cons_zero]
      refine held_take 3 40 _ (.pointer (some ⟨G', 0, none⟩)) rfl rfl (by kernel_rfl) (by kernel_rfl) (by kernel_rfl) rfl hS0 (fun _ _ => rfl) ?_
      simp only [Act.put, List.setIfInBounds_toArray, List.set_cons_succ, List.set_cons_zero]
      refine held_take 4 41 _ (.pointer (some ⟨G', 0, none⟩)) rfl rfl (by kernel_rfl) (by kernel_rfl) (by kernel_rfl) rfl hS0 (fun _ _ => rfl) ?_
      simp only [Act.put, List.setIfInBounds_toArray, List.set_cons_succ, List.set_cons_zero]
      refine held_take 5 42 _ (.slice ar l.length cr) rfl rfl (by kernel_rfl) (by kernel_rfl) (by kernel_rfl) rfl hS0 (fun V hV => exec_loadc 27 _ rfl _ _ rfl (load_one 27 (fun _ => by kernel_rfl) V _ _ _ hV)) ?_
      simp only [Act.put, List.setIfInBounds_toArray, List.set_cons_succ, List.set_cons_zero]
      refine held_all1 1 (by kernel_rfl) (op_call 1 38 _ 13 #[.pointer (some ⟨G, 0, none⟩)] rfl rfl rfl (exec_one 13 _ _ rfl _ rfl Try.call13) (HAL.out.mono ?_))
      rintro e W8 ⟨u, rfl, hu, hb8⟩
      obtain ⟨au, cu, rfl⟩ := hu.shape
      have hS8 : W8.cell? ⟨G', 0, none⟩ = some (.slice ar l.length cr) := (hb8.cell (p := ⟨G', 0, none⟩) HGL.out).trans hS0
      have HS9 : Hid (Calls Try.prog 12 #[.slice au l.length cu, .slice ar l.length cr] W8 fun e w' => e = .returned (.bool true) ∧ Below W8.heap.size W8 w') := by
        have := same16_any hu.lies (HRL.out.after hb8 (Nat.le_refl _))
        rw [decide_eq_true rfl] at this
        exact this
      have hB8 := hB7.trans (hb8.mono hB7.size)
      refine ⟨_, rfl, hS8, ?_⟩
      simp only [Act.put, List.setIfInBounds_toArray, List.set_cons_succ, List.set_cons_zero]
      refine held_all1 6 (by kernel_rfl) (op_call 6 43 _ 12 #[.slice au l.length cu, .slice ar l.length cr] rfl rfl rfl (exec_two8 12 _ _ _ rfl _ _ rfl rfl Try.call12) (HS9.out.mono ?_))
      rintro e W9 ⟨rfl, hb9⟩
      have hS9 : W9.cell? ⟨G', 0, none⟩ = some (.slice ar l.length cr) := (hb9.cell (p := ⟨G', 0, none⟩) (Nat.lt_of_lt_of_le HGL.out hb8.size)).trans hS8
      have hB9 := hB8.trans (hb9.mono hB8.size)
      refine ⟨_, rfl, hS9, ?_⟩
      simp only [Act.put, List.setIfInBounds_toArray, List.set_cons_succ, List.set_cons_zero]
      refine held_take 7 2 _ (.bool true) rfl rfl (by kernel_rfl) (by kernel_rfl) (by kernel_rfl) rfl hS9 (fun _ _ => rfl) ?_
      simp only [Act.put, List.setIfInBounds_toArray, List.set_cons_succ, List.set_cons_zero]
      refine wpAnyH_done (by kernel_rfl) ?_ _
      refine NoPanic.normal ?_
      go_wp2
      go_ret
      exact ⟨rfl, hB9⟩
end Go.Proofs.Ythlohlomefiebaa
