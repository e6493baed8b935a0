/-
  What is proved here: boot.places brings the 32 places of a block's bytes, one behind the other, to whichever loop goes through them.
  Conditions: the bytes lie in memory.
-/
import Derived.Test.YtoemdmfpcobadaaDoorJBootDec
import Derived.Test.YtoemdmfpcobadaaDoorJPFlashIs
import Derived.Laws.OwnMore
import Derived.RangeFuncBox
import Derived.RangeFuncLeaves
import Derived.RangeFuncCalls
import Derived.Shelf.Abstract
import Derived.OwnWalkIn
import Derived.TacticsInMore
import Derived.LoopNIn
import Derived.LoopIn
import Derived.Maps.OwnIn
import Derived.RangeFuncNested
namespace Go.Proofs.YtoemdmfpcobadaaDoor
open Go.RowKit
attribute [local go_sem] Oper.semAt_some

def cellV (ao : Option Addr) (c k : Nat) : Value := .slice (restD ao c (32 * k)) 32 (c - 32 * k)
theorem slice_mid9 (ao : Option Addr) (len c lo hi : Nat) (h : lo ≤ hi) (hc : hi ≤ c) (w : World) : (Instr.slice 41 (.slice ao len c) (some (.int .i64 (lo : Int))) (some (.int .i64 (hi : Int))) none).run Tryd.prog w = .ok (.slice (restD ao c lo) (hi - lo) (c - lo)) w := by
  rw [run_slice_lh w 41 ao len c (by rw [elem_bytesD]; exact Tryd.underlying41) .i64 .i64 lo hi (by omega) (by omega) (by omega), elem_bytesD, size_byteD]
  simp only [Result.andThen_ok, sliced, Int.toNat_natCast, restD]
theorem slice_cell (ao : Option Addr) (c k : Nat) (hk : k < 32) (hc : 1024 ≤ c) (w : World) : (Instr.slice 41 (.slice ao 1024 c) (some (.int .i64 ((k : Int) * 32))) (some (.int .i64 (((k : Int) + 1) * 32))) none).run Tryd.prog w = .ok (cellV ao c k) w := by
  have := slice_mid9 ao 1024 c (32 * k) (32 * k + 32) (by omega) (by omega) w
  rw [show 32 * k + 32 - 32 * k = 32 by omega] at this
  have e1 : ((32 * k : Nat) : Int) = (k : Int) * 32 := by omega
  have e2 : ((32 * k + 32 : Nat) : Int) = ((k : Int) + 1) * 32 := by omega
  rw [e1, e2] at this
  exact this
theorem seg_cell {w : World} {ao : Option Addr} {c : Nat} {bs : List UInt8} (h : Seg w (.slice ao 1024 c) bs) (k : Nat) (hk : k < 32) : Seg w (cellV ao c k) (cellB bs k) := by
  have h1 := h.dropsD (32 * k) (by omega)
  exact (h1.takesD 32 (by omega)).1

set_option maxRecDepth 100000 in
theorem places_any (ao : Option Addr) (n c : Nat) (w : World) :
    Calls Tryd.prog 59 #[.slice ao n c] w fun e w' => e = .returned (.func (.func 66) #[] #[.pointer (some ⟨w.heap.size, 0, none⟩)]) ∧ w' = w.alloc (.cells #[.slice ao n c] 41) := by
  go_enter Tryd.func59, Tryd.ntmps59
  go_wp2
  go_ret
  exact ⟨rfl, rfl⟩
set_option maxRecDepth 100000 in
theorem entries_any (ao : Option Addr) (n c : Nat) (w : World) :
    Calls Tryd.prog 49 #[.slice ao n c] w fun e w' => e = .returned (.func (.func 58) #[] #[.pointer (some ⟨w.heap.size, 0, none⟩)]) ∧ w' = w.alloc (.cells #[.slice ao n c] 41) := by
  go_enter Tryd.func49, Tryd.ntmps49
  go_wp2
  go_ret
  exact ⟨rfl, rfl⟩

/-- The numbers of places. -/
def nums (ys : List (Fin 32)) : List Nat := ys.map (·.val)
set_option maxRecDepth 100000 in
set_option maxHeartbeats 2000000 in
theorem places1_in (n : Nat) (hn : 1 ≤ n) (l Bn : Nat) (S : Nat → Prop) (ao : Option Addr) (c : Nat) (hc : 1024 ≤ c) (hS : ¬ S Bn) (J Jx : List (Fin 32) → World → Prop)
    (hY : ∀ (pre : List (Fin 32)) (k : Fin 32) (W : World), J pre W → pre.length < 32 → YieldAt Fence.wide (n - 1) Tryd.prog l #[.int .i64 (k.val : Int), cellV ao c k.val] W fun e W' =>
      (e = .returned (.bool true) ∧ J (pre ++ [k]) W' ∧ Chg S W W') ∨ (e = .returned (.bool false) ∧ Jx (pre ++ [k]) W'))
    (W : World) (hBn : W.cell? ⟨Bn, 0, none⟩ = some (.slice ao 1024 c)) (h0 : J [] W) :
    CallsIn Fence.wide n Tryd.prog 66 #[.func (.yield l) #[] #[], .pointer (some ⟨Bn, 0, none⟩)] W fun e W' => (∃ v, e = .returned v) ∧
      ((∃ ys, nums ys = List.range 32 ∧ J ys W') ∨ (∃ pre, (∃ k, k ≤ 32 ∧ nums pre = List.range k) ∧ Jx pre W')) := by
  refine callsIn_of_wp Tryd.func66 rfl trivial ?_ rfl
  simp only [Tryd.ntmps66, List.size_toArray, List.length_cons, List.length_nil, Nat.reduceAdd, Nat.reduceSub, Array.replicate_succ, Array.replicate_zero, List.push_toArray, List.append_toArray, List.nil_append, List.cons_append]
  gi_wp2
  gi_loopw [7] (fun i wr => ∃ (k : Nat) (ys : List (Fin 32)), k ≤ 32 ∧ nums ys = List.range k ∧ i = .int .i64 (k : Int) ∧ wr.cell? ⟨Bn, 0, none⟩ = some (.slice ao 1024 c) ∧ J ys wr) (fun i _ => 32 - (intOf i).toNat)
  case atStart => exact ⟨0, [], Nat.zero_le _, rfl, rfl, hBn, h0⟩
  case round =>
    obtain ⟨k, ys, hk, hys, rfl, hcell, hJ⟩ := hrel
    clear hBn
    have HYS : Hid (nums ys = List.range k) := hys
    clear hys
    by_cases hlt : k < 32
    · have i1 : (k : Int) < 32 := by omega
      have ls := slice_cell ao c k hlt hc
      have hyl : ys.length = k := by have := congrArg List.length HYS.out; unfold nums at this; rw [List.length_map, List.length_range] at this; exact this
      obtain ⟨fn, tmps, assign, body, hy, hR⟩ := hY ys ⟨k, hlt⟩ wr hJ (by omega)
      have HSN : Hid (nums (ys ++ [⟨k, hlt⟩]) = List.range (k + 1)) := by show _ = _; unfold nums; rw [List.map_append, List.range_succ]; exact congrArg (· ++ [k]) HYS.out
      clear hyl
      dsimp only at hy
      generalize (⟨k, hlt⟩ : Fin 32) = kf at *
      generalize hcv : cellV ao c k = CV at *
      have hcv' : ∃ a n c, CV = .slice a n c := ⟨_, _, _, hcv.symm⟩
      obtain ⟨ca, cn, cc, rfl⟩ := hcv'
      clear hcv
      gi_wp2
      refine hR.mono ?_
      clear hR hy
      rintro e W3 (⟨rfl, hJ3, hk3⟩ | ⟨rfl, hJx3⟩)
      · have hcell3 : W3.cell? ⟨Bn, 0, none⟩ = some (.slice ao 1024 c) := (World.cell?_of_block (w := wr) (w' := W3) (a := ⟨Bn, 0, none⟩) (hk3.2 Bn (cell_lt hcell) hS)).trans hcell
        clear ls
        gi_wp2
        go_roundw
        case rel => exact ⟨k + 1, _, hlt, HSN.out, by go_num, hcell3, hJ3⟩
        case measure => simp [intOf]; omega
      · clear ls
        gi_wp2
        (try simp only [Exit.inBlock, Exit.then])
        refine bodyPost_ret (results_none rfl _ _ _) rfl ?_
        exact ⟨⟨_, rfl⟩, .inr ⟨_, ⟨k + 1, hlt, HSN.out⟩, hJx3⟩⟩
    · obtain rfl : k = 32 := by omega
      gi_wp2
      go_end0
      exact ⟨⟨_, rfl⟩, .inl ⟨_, HYS.out, hJ⟩⟩
theorem places_stops (n : Nat) (hn : 1 ≤ n) (Bn : Nat) (S : Nat → Prop) (ao : Option Addr) (c : Nat) (hc : 1024 ≤ c) (hS : ¬ S Bn) (w : World) (hBn : Bn < w.heap.size) (hcell : w.cell? ⟨Bn, 0, none⟩ = some (.slice ao 1024 c)) :
    SeqStopsK Fence.wide n Tryd.prog 66 #[.pointer (some ⟨Bn, 0, none⟩)] (fun k : Fin 32 => #[.int .i64 (k.val : Int), cellV ao c k.val]) (Chg S) (fun ys => nums ys = List.range 32) (fun pre => ∃ k, k ≤ 32 ∧ nums pre = List.range k) 32 w := fun l J Jx W hW _ _ hY h0 =>
  places1_in n hn l Bn S ao c hc hS J Jx hY W ((hW.cell (p := ⟨Bn, 0, none⟩) hBn).trans hcell) h0
end Go.Proofs.YtoemdmfpcobadaaDoor
