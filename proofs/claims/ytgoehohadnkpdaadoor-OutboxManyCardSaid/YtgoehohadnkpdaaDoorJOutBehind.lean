/-
  What is proved here: outbox.behind brings the places of a block behind one of it, one behind the other, to whichever loop goes through them.
  Conditions: none.
-/
import Derived.Test.YtgoehohadnkpdaaDoorJOutSmall
namespace Go.Proofs.YtgoehohadnkpdaaDoor
open Go.RowKit
attribute [local go_sem] Oper.semAt_some

def plV (wh : Nat) (i : Int) : Value := .agg #[.int .i64 (wh : Int), .int .i64 i]
set_option maxRecDepth 100000 in
theorem behindX (wh : Nat) (la : Int) (w : World) :
    Calls Tryd.prog 43 #[.agg #[.int .i64 (wh : Int), .int .i64 la]] w fun e w' => e = .returned (.func (.func 63) #[] #[.pointer (some ⟨w.heap.size, 0, none⟩)]) ∧ w' = w.alloc (.cells #[.int .i64 (wh : Int), .int .i64 la] 61) := by
  go_enter Tryd.func43, Tryd.ntmps43
  go_wp2
  go_ret
  exact ⟨rfl, rfl⟩
set_option maxRecDepth 100000 in
set_option maxHeartbeats 2000000 in
theorem behind1_in (n : Nat) (hn : 1 ≤ n) (l Bn : Nat) (S : Nat → Prop) (wh b0 : Nat) (hb : b0 ≤ 32) (hS : ¬ S Bn) (J Jx : List (Fin 32) → World → Prop)
    (hY : ∀ (pre : List (Fin 32)) (k : Fin 32) (W : World), J pre W → pre.length < 32 → YieldAt Fence.wide (n - 1) Tryd.prog l #[.agg #[.int .i64 (wh : Int), .int .i64 (k.val : Int)]] W fun e W' =>
      (e = .returned (.bool true) ∧ J (pre ++ [k]) W' ∧ Chg S W W') ∨ (e = .returned (.bool false) ∧ Jx (pre ++ [k]) W'))
    (W : World) (hBn : Blk W Bn 61 #[.int .i64 (wh : Int), .int .i64 ((b0 : Int) - 1)]) (h0 : J [] W) :
    CallsIn Fence.wide n Tryd.prog 63 #[.func (.yield l) #[] #[], .pointer (some ⟨Bn, 0, none⟩)] W fun e W' => (∃ v, e = .returned v) ∧
      ((∃ ys, nums ys = List.range' b0 (32 - b0) ∧ J ys W') ∨ (∃ pre, (∃ k, k ≤ 32 - b0 ∧ nums pre = List.range' b0 k) ∧ Jx pre W')) := by
  refine callsIn_of_wp Tryd.func63 rfl trivial ?_ rfl
  simp only [Tryd.ntmps63, List.size_toArray, List.length_cons, List.length_nil, Nat.reduceAdd, Nat.reduceSub, Array.replicate_succ, Array.replicate_zero, List.push_toArray, List.append_toArray, List.nil_append, List.cons_append]
  have c1 := hBn.cell (j := 1) rfl
  have e1 : IntKind.i64.wrap ((b0 : Int) - 1 + 1) = (b0 : Int) := by rw [IntKind.wrap_i64]; omega
  gi_wp2
  gi_loopw [3] (fun i wr => ∃ (k : Nat) (ys : List (Fin 32)), b0 + k ≤ 32 ∧ nums ys = List.range' b0 k ∧ i = .int .i64 ((b0 + k : Nat) : Int) ∧ Blk wr Bn 61 #[.int .i64 (wh : Int), .int .i64 ((b0 : Int) - 1)] ∧ J ys wr) (fun i _ => 32 - (intOf i).toNat)
  case atStart => exact ⟨0, [], by omega, rfl, rfl, hBn, h0⟩
  case round =>
    obtain ⟨k, ys, hk, hys, rfl, hcell, hJ⟩ := hrel
    clear hBn c1 e1
    have HYS : Hid (nums ys = List.range' b0 k) := hys
    clear hys
    obtain ⟨B, hB⟩ : ∃ B, B = b0 + k := ⟨_, rfl⟩
    have HB : Hid (B = b0 + k) := hB
    rw [← hB] at hk ⊢
    clear hB
    by_cases hlt : B < 32
    · have i1 : (B : Int) < 32 := by omega
      have hyl : ys.length = k := by have := congrArg List.length HYS.out; unfold nums at this; rw [List.length_map, List.length_range'] at this; exact this
      obtain ⟨fn, tmps, assign, body, hy, hR⟩ := hY ys ⟨B, hlt⟩ wr hJ (by have := HB.out; omega)
      have HSN : Hid (nums (ys ++ [⟨B, hlt⟩]) = List.range' b0 (k + 1)) := by
        show _ = _
        unfold nums
        rw [List.map_append, List.range'_concat, Nat.one_mul, ← HB.out]
        exact congrArg (· ++ [B]) HYS.out
      clear hyl
      dsimp only at hy
      generalize (⟨B, hlt⟩ : Fin 32) = kf at *
      have c0 := hcell.cell (j := 0) rfl
      gi_wp2
      refine hR.mono ?_
      clear hR hy
      rintro e W3 (⟨rfl, hJ3, hk3⟩ | ⟨rfl, hJx3⟩)
      · have hcell3 := hcell.chg hk3 hS
        clear c0
        gi_wp2
        go_roundw
        case rel => exact ⟨k + 1, _, by have := HB.out; omega, HSN.out, by have := HB.out; subst this; go_num, hcell3, hJ3⟩
        case measure => simp [intOf]; omega
      · clear c0
        gi_wp2
        (try simp only [Exit.inBlock, Exit.then])
        refine bodyPost_ret (results_none rfl _ _ _) rfl ?_
        exact ⟨⟨_, rfl⟩, .inr ⟨_, ⟨k + 1, by have := HB.out; omega, HSN.out⟩, hJx3⟩⟩
    · obtain rfl : B = 32 := by omega
      gi_wp2
      go_end0
      exact ⟨⟨_, rfl⟩, .inl ⟨_, by rw [HYS.out, show 32 - b0 = k by have := HB.out; omega], hJ⟩⟩
theorem behind_stops (n : Nat) (hn : 1 ≤ n) (Bn : Nat) (S : Nat → Prop) (wh b0 : Nat) (hb : b0 ≤ 32) (hS : ¬ S Bn) (w : World) (hBn : Blk w Bn 61 #[.int .i64 (wh : Int), .int .i64 ((b0 : Int) - 1)]) :
    SeqStopsK Fence.wide n Tryd.prog 63 #[.pointer (some ⟨Bn, 0, none⟩)] (fun k : Fin 32 => #[.agg #[.int .i64 (wh : Int), .int .i64 (k.val : Int)]]) (Chg S) (fun ys => nums ys = List.range' b0 (32 - b0)) (fun pre => ∃ k, k ≤ 32 - b0 ∧ nums pre = List.range' b0 k) 32 w := fun l J Jx W hW _ _ hY h0 =>
  behind1_in n hn l Bn S wh b0 hb hS J Jx hY W (hBn.below hW hBn.lt) h0
end Go.Proofs.YtgoehohadnkpdaaDoor
