/-
  What is proved here: outbox.places brings the places of both blocks, one behind the other, to a loop whose rounds all go on.
  Conditions: what a round writes lay there ahead.
-/
import Derived.Test.YtgoehohadnkpdaaDoorJOutBehind
import Derived.Test.YtgoehohadnkpdaaDoorJBootOver
namespace Go.Proofs.YtgoehohadnkpdaaDoor
open Go.RowKit
attribute [local go_sem] Oper.semAt_some

/-- A place of the two blocks. -/
abbrev PlT := Fin 2 × Fin 32
def encP (x : PlT) : Array Value := #[.agg #[.int .i64 (x.1.val : Int), .int .i64 (x.2.val : Int)]]
def prs (ys : List PlT) : List (Nat × Nat) := ys.map fun x => (x.1.val, x.2.val)
def allP : List (Nat × Nat) := (List.range 32).map (fun i => (0, i)) ++ (List.range 32).map (fun i => (1, i))
theorem prs_half (b : Fin 2) (ys : List (Fin 32)) (h : nums ys = List.range' 0 (32 - 0)) : prs (ys.map fun k => (b, k)) = (List.range 32).map (fun i => (b.val, i)) := by
  have e : List.range' 0 (32 - 0) = List.range 32 := List.range_eq_range'.symm
  rw [e] at h
  rw [← h]
  unfold prs nums
  rw [List.map_map, List.map_map]
  rfl
set_option maxRecDepth 100000 in
theorem placesF (w : World) : Calls Tryd.prog 37 #[] w fun e w' => e = .returned (.func (.func 56) #[] #[]) ∧ w' = w := by
  go_enter Tryd.func37, Tryd.ntmps37
  go_wp2
  go_ret
  exact ⟨rfl, rfl⟩
set_option maxRecDepth 100000 in
set_option maxHeartbeats 4000000 in
theorem placesX (S : Nat → Prop) (w : World) (hS : ∀ q, S q → q < w.heap.size) :
    Brings 5 56 #[] encP S (fun ys => prs ys = allP) w := by
  intro l J W hW hl1 hl2 hJ hY h0
  have hfn : Fence.wide.fn 43 := trivial
  have hsz := hW.size
  obtain ⟨Y, hYe⟩ : ∃ Y, Y = W.heap.size := ⟨_, rfl⟩
  have hyB := Blk.new W 112 #[.func (.yield l) #[] #[]]
  have hJ0 : J [] (W.alloc (.cells #[.func (.yield l) #[] #[]] 112)) := hJ.alloc _ h0
  have hsU : W.heap.size < (W.alloc (.cells #[.func (.yield l) #[] #[]] 112)).heap.size := by simp
  rw [← hYe] at hyB
  refine callsIn_of_wp_marks Tryd.func56 rfl trivial ?_ rfl
  simp only [Tryd.ntmps56, List.size_toArray, List.length_cons, List.length_nil, Nat.reduceAdd, Nat.reduceSub, Array.replicate_succ, Array.replicate_zero, List.push_toArray, List.append_toArray, List.nil_append, List.cons_append]
  gi_wp2_with fail
  rw [← hYe]
  generalize W.alloc (.cells #[.func (.yield l) #[] #[]] 112) = U at *
  have hYW : W.heap.size ≤ Y := by omega
  clear hYe h0
  obtain ⟨L0, hL0⟩ : ∃ L0 : List PlT, L0 = [] := ⟨_, rfl⟩
  rw [← hL0] at hJ0
  have HL0 : Hid (L0 = []) := hL0
  clear hL0
  refine wpIn_loop_rounds 3 ?_
  rw [roundsIn_succ]
  gi_wp2_with fail
  refine (callsIn_wide.2 (behindX 0 (-1) U)).mono ?_
  rintro e W0 ⟨rfl, hW0⟩
  obtain ⟨B0, hB0⟩ : ∃ B, B = U.heap.size := ⟨_, rfl⟩
  rw [← hB0]
  have hkB0 : Blk W0 B0 61 #[.int .i64 ((0 : Nat) : Int), .int .i64 (((0 : Nat) : Int) - 1)] := by rw [hW0, hB0]; exact Blk.new _ _ _
  have hs0 : U.heap.size < W0.heap.size := by rw [hW0]; simp
  have hb0 : Below U.heap.size U W0 := by rw [hW0]; exact (Below.refl _ _).alloc (Nat.le_refl _) _
  have hJ10 : J L0 W0 := by rw [hW0]; exact hJ.alloc _ hJ0
  have hy0 := hyB.below hb0 hyB.lt
  have hyl0 : Y < W0.heap.size := hy0.lt
  have hBl0 : U.heap.size ≤ B0 := by omega
  have hBs0 : B0 < W0.heap.size := hkB0.lt
  clear hW0 hB0
  gi_wp2_with fail
  refine wpIn_rangeFunc_ownH rfl (by decide) (gf := 63) (lb := #[.pointer (some ⟨B0, 0, none⟩)]) rfl trivial (enters_of Tryd.func63 (by kernel_rfl) rfl)
    (behind_stops 4 (by decide) B0 (fun q => S q ∨ q = l ∨ W0.heap.size ≤ q) 0 0 (by decide) (by rintro (h | h | h); (have := hS _ h; omega); omega; omega) W0 hkB0) (fun h k => h.trans k (fun _ _ h => h)) (fun V l o o' hl _ _ _ => Chg.of_grown (grownBy_putObj' V l o') (fun k e => by cases e; exact .inr (.inr hl))) (Below.refl _ _) (fun _ => rfl)
    (fun pre V => J (L0 ++ pre.map fun k => ((0 : Fin 2), k)) V ∧ Chg (fun q => S q ∨ q = l ∨ W0.heap.size ≤ q) W0 V)
    (fun _ _ _ => False)
    (fun pre A B row ⟨h1, h2⟩ hg hr => ⟨hJ _ A B row h1 hg (fun r e => ⟨by have := (hr r e).1; omega, (hr r e).2⟩), h2.trans (Chg.of_grown (S := fun q => S q ∨ q = l ∨ W0.heap.size ≤ q) hg (fun k e => .inr (.inr (hr k e).1))) (fun _ _ h => h)⟩)
    (fun _ _ _ _ _ h => h.elim)
    ⟨by rw [List.map_nil, List.append_nil]; exact hJ10, Chg.refl _ _⟩
    (fun x a' V => ∃ N, W0.heap.size ≤ N ∧ Blk V N 61 #[.int .i64 0, .int .i64 (x.val : Int)] ∧ a' = { tmps := #[.func (.yield l) #[] #[], .pointer (some ⟨Y, 0, none⟩), .int .i64 0, .pointer (some ⟨N, 0, none⟩), .int .i64 0, .bool true, .int .i64 0, .int .i64 0, .agg #[.int .i64 0, .int .i64 (-1)], .func (.func 63) #[] #[.pointer (some ⟨B0, 0, none⟩)], .agg #[.int .i64 0, .int .i64 (x.val : Int)], undef, undef, undef, undef, undef], defers := [] })
    (fun x a' _ A B row ⟨N, hN, hk, ha⟩ hg hr => ⟨N, hN, hk.grown hg (fun e => by obtain ⟨_, o, ho, hc⟩ := hr N e.symm; rw [blk_isCells9 hk o ho] at hc; cases hc), ha⟩)
    ?assign0 ?body0 ?done0 ?stop0
  case assign0 =>
    rintro lab pre ⟨X, hX⟩ V K ⟨hJv, hcv⟩ hK
    dsimp only
    gi_wp2
    exact hK _ _ (keepsFrom_alloc9 _) ((Chg.refl _ _).alloc _) ⟨hJ.alloc _ hJv, hcv.alloc _⟩ ⟨V.heap.size, hcv.size, Blk.new _ _ _, rfl⟩
  case body0 =>
    rintro lab pre ⟨X, hX⟩ a' V hlab hrec ⟨hJv, hcv⟩ ⟨N, hN, hkN, rfl⟩ hlt
    dsimp only
    have hF : ∀ f, (Fence.wide.inRound lab).fn f := fun _ => trivial
    have hyV := (hy0.chg hcv (by rintro (h | h | h); (have := hS _ h; omega); omega; omega)).cell (j := 0) rfl
    have n0 := hkN.cell (j := 0) rfl
    have n1 := hkN.cell (j := 1) rfl
    obtain ⟨fn, tmps, assign, body, hy, hR⟩ := hY _ ((0 : Fin 2), ⟨X, hX⟩) _ hJv
    change (Instr.yield l #[.agg #[.int .i64 0, .int .i64 (X : Int)]]).run Tryd.prog _ = _ at hy
    have HAP : Hid (L0 ++ (pre ++ [(⟨X, hX⟩ : Fin 32)]).map (fun k => ((0 : Fin 2), k)) = (L0 ++ pre.map fun k => ((0 : Fin 2), k)) ++ [((0 : Fin 2), ⟨X, hX⟩)]) := by show _ = _; simp
    have hR' := hR
    clear hR hrec
    gi_wp2
    refine (round_in9 hR').mono ?_
    clear hR' hy hyV n0 n1
    rintro e V7 ⟨rfl, hJ7, hk7, hc7⟩
    gi_wp2
    have hc8 : Chg (fun q => S q ∨ q = l ∨ W0.heap.size ≤ q) V V7 := hc7.weaken (fun q h => by rcases h with h | h; exact .inl h; exact .inr (.inl h))
    refine ⟨keepsFrom_mono9 hk7 (by omega), hc8, ?_, hcv.trans hc8 (fun _ _ h => h)⟩
    rw [HAP.out]
    exact hJ7
  case done0 =>
    rintro D0 ys0 V hD0 hys0 ⟨hJ1, hcv0⟩ hKD0
    have hyB1 := hy0.chg hcv0 (by rintro (h | h | h); (have := hS _ h; omega); omega; omega)
    obtain ⟨L1, hL1⟩ : ∃ L1 : List PlT, L1 = L0 ++ ys0.map fun k => ((0 : Fin 2), k) := ⟨_, rfl⟩
    rw [← hL1] at hJ1
    have HL1 : Hid (L1 = L0 ++ ys0.map fun k => ((0 : Fin 2), k)) := hL1
    have HY0 : Hid (nums ys0 = List.range' 0 (32 - 0)) := hys0
    have hsV := hcv0.size
    have hD0W : W0.heap.size ≤ D0 := hD0
    clear hL1 hys0 hy0 hyB hb0 hJ10 hJ0 hkB0 hcv0
    gi_wp2_with fail
    rw [roundsIn_succ]
    gi_wp2_with fail
    refine (callsIn_wide.2 (behindX 1 (-1) V)).mono ?_
    rintro e W1 ⟨rfl, hW1⟩
    obtain ⟨B1, hB1⟩ : ∃ B, B = V.heap.size := ⟨_, rfl⟩
    rw [← hB1]
    have hkB1 : Blk W1 B1 61 #[.int .i64 ((1 : Nat) : Int), .int .i64 (((0 : Nat) : Int) - 1)] := by rw [hW1, hB1]; exact Blk.new _ _ _
    have hs1 : V.heap.size < W1.heap.size := by rw [hW1]; simp
    have hb1 : Below V.heap.size V W1 := by rw [hW1]; exact (Below.refl _ _).alloc (Nat.le_refl _) _
    have hJ11 : J L1 W1 := by rw [hW1]; exact hJ.alloc _ hJ1
    have hy1 := hyB1.below hb1 hyB1.lt
    have hyl1 : Y < W1.heap.size := hy1.lt
    have xk0 : W1.heap[D0]? = some (.deferred (some [])) := by rw [hb1.block _ (Array.getElem?_eq_some_iff.1 hKD0).1]; exact hKD0
    have hBl1 : V.heap.size ≤ B1 := by omega
    have hBs1 : B1 < W1.heap.size := hkB1.lt
    clear hW1 hB1
    gi_wp2_with fail
    refine wpIn_rangeFunc_ownH rfl (by decide) (gf := 63) (lb := #[.pointer (some ⟨B1, 0, none⟩)]) rfl trivial (enters_of Tryd.func63 (by kernel_rfl) rfl)
      (behind_stops 4 (by decide) B1 (fun q => S q ∨ q = l ∨ W1.heap.size ≤ q) 1 0 (by decide) (by rintro (h | h | h); (have := hS _ h; omega); omega; omega) W1 hkB1) (fun h k => h.trans k (fun _ _ h => h)) (fun V l o o' hl _ _ _ => Chg.of_grown (grownBy_putObj' V l o') (fun k e => by cases e; exact .inr (.inr hl))) (Below.refl _ _) (fun _ => rfl)
      (fun pre V => J (L1 ++ pre.map fun k => ((1 : Fin 2), k)) V ∧ Chg (fun q => S q ∨ q = l ∨ W1.heap.size ≤ q) W1 V)
      (fun _ _ _ => False)
      (fun pre A B row ⟨h1, h2⟩ hg hr => ⟨hJ _ A B row h1 hg (fun r e => ⟨by have := (hr r e).1; omega, (hr r e).2⟩), h2.trans (Chg.of_grown (S := fun q => S q ∨ q = l ∨ W1.heap.size ≤ q) hg (fun k e => .inr (.inr (hr k e).1))) (fun _ _ h => h)⟩)
      (fun _ _ _ _ _ h => h.elim)
      ⟨by rw [List.map_nil, List.append_nil]; exact hJ11, Chg.refl _ _⟩
      (fun x a' V => ∃ N, W1.heap.size ≤ N ∧ Blk V N 61 #[.int .i64 1, .int .i64 (x.val : Int)] ∧ a' = { tmps := #[.func (.yield l) #[] #[], .pointer (some ⟨Y, 0, none⟩), .int .i64 1, .pointer (some ⟨N, 0, none⟩), .int .i64 1, .bool true, .int .i64 1, .int .i64 1, .agg #[.int .i64 1, .int .i64 (-1)], .func (.func 63) #[] #[.pointer (some ⟨B1, 0, none⟩)], .agg #[.int .i64 1, .int .i64 (x.val : Int)], undef, undef, undef, undef, .int .i64 1], defers := [] })
      (fun x a' _ A B row ⟨N, hN, hk, ha⟩ hg hr => ⟨N, hN, hk.grown hg (fun e => by obtain ⟨_, o, ho, hc⟩ := hr N e.symm; rw [blk_isCells9 hk o ho] at hc; cases hc), ha⟩)
      ?assign1 ?body1 ?done1 ?stop1
    case assign1 =>
      rintro lab pre ⟨X, hX⟩ V K ⟨hJv, hcv⟩ hK
      dsimp only
      gi_wp2
      exact hK _ _ (keepsFrom_alloc9 _) ((Chg.refl _ _).alloc _) ⟨hJ.alloc _ hJv, hcv.alloc _⟩ ⟨V.heap.size, hcv.size, Blk.new _ _ _, rfl⟩
    case body1 =>
      rintro lab pre ⟨X, hX⟩ a' V hlab hrec ⟨hJv, hcv⟩ ⟨N, hN, hkN, rfl⟩ hlt
      dsimp only
      have hF : ∀ f, (Fence.wide.inRound lab).fn f := fun _ => trivial
      have hyV := (hy1.chg hcv (by rintro (h | h | h); (have := hS _ h; omega); omega; omega)).cell (j := 0) rfl
      have n0 := hkN.cell (j := 0) rfl
      have n1 := hkN.cell (j := 1) rfl
      obtain ⟨fn, tmps, assign, body, hy, hR⟩ := hY _ ((1 : Fin 2), ⟨X, hX⟩) _ hJv
      change (Instr.yield l #[.agg #[.int .i64 1, .int .i64 (X : Int)]]).run Tryd.prog _ = _ at hy
      have HAP : Hid (L1 ++ (pre ++ [(⟨X, hX⟩ : Fin 32)]).map (fun k => ((1 : Fin 2), k)) = (L1 ++ pre.map fun k => ((1 : Fin 2), k)) ++ [((1 : Fin 2), ⟨X, hX⟩)]) := by show _ = _; simp
      have hR' := hR
      clear hR hrec
      gi_wp2
      refine (round_in9 hR').mono ?_
      clear hR' hy hyV n0 n1
      rintro e V7 ⟨rfl, hJ7, hk7, hc7⟩
      gi_wp2
      have hc8 : Chg (fun q => S q ∨ q = l ∨ W1.heap.size ≤ q) V V7 := hc7.weaken (fun q h => by rcases h with h | h; exact .inl h; exact .inr (.inl h))
      refine ⟨keepsFrom_mono9 hk7 (by omega), hc8, ?_, hcv.trans hc8 (fun _ _ h => h)⟩
      rw [HAP.out]
      exact hJ7
    case done1 =>
      rintro D1 ys1 V hD1 hys1 ⟨hJ2, hcv1⟩ hKD1
      have HY1 : Hid (nums ys1 = List.range' 0 (32 - 0)) := hys1
      have yk0 : V.heap[D0]? = some (.deferred (some [])) := by rw [hcv1.2 D0 (Array.getElem?_eq_some_iff.1 xk0).1 (by rintro (h | h | h); (have := hS _ h; omega); omega; (have := (Array.getElem?_eq_some_iff.1 xk0).1; omega))]; exact xk0
      clear hys1
      gi_wp2_with fail
      rw [roundsIn_succ]
      gi_wp2
      (try simp only [Exit.noGoto])
      have hD1W : W1.heap.size ≤ D1 := hD1
      have hD10 : D0 ≠ D1 := fun e => by subst e; have := (Array.getElem?_eq_some_iff.1 xk0).1; omega
      have hk5 : (V.putObj D1 (.deferred none)).heap[D0]? = some (.deferred (some [])) := (World.putObj_heap_other hD10).trans yk0
      refine ⟨by simp, .inl ⟨_, _, rfl, run_takeDeferred hKD1, ?_⟩⟩
      refine ⟨by simp, .inl ⟨_, _, rfl, run_takeDeferred hk5, ?_⟩⟩
      refine ⟨_, results_none rfl _ _ _, ⟨_, rfl⟩, _, ?_, hJ.putObj _ (hJ.putObj _ hJ2 (by omega) hKD1 rfl) (by omega) hk5 rfl⟩
      rw [HL1.out, HL0.out, List.nil_append]
      have e0 := prs_half 0 ys0 HY0.out
      have e1 := prs_half 1 ys1 HY1.out
      unfold prs at e0 e1 ⊢
      rw [List.map_append, e0, e1]
      rfl
    case stop1 =>
      rintro D c pre V _ _ h
      exact h.elim
  case stop0 =>
    rintro D c pre V _ _ h
    exact h.elim
end Go.Proofs.YtgoehohadnkpdaaDoor
