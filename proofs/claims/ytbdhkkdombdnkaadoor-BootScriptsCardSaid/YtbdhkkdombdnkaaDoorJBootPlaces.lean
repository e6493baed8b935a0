/-
  What is proved here: boot.places brings the 32 places of a block's bytes, one behind the other, to whichever loop goes through them. how a keeper lies in memory; Keeper.read tells the bytes of one of its two blocks. Keeper.room tells the first free place behind the last entry, in its block; where there is none, the other block is erased, and it is its first place. a loop over a function of the program that itself loops over another one: of a loop whose rounds all go on.
  Conditions: the bytes lie in memory. the keeper and its flash lie in memory, and the two blocks are there. the function that is looped over brings what it brings to every loop whose facts don't hang on what it lays for itself.
-/
import Derived.Test.YtbdhkkdombdnkaaDoorJBootDec
import Derived.Test.YtbdhkkdombdnkaaDoorJBytesClone
import Derived.Laws.OwnMore
import Derived.RangeFuncBox
import Derived.RangeFuncLeaves
import Derived.RangeFuncCalls
import Derived.Shelf.Abstract
import Derived.OwnWalkIn
import Derived.TacticsInMore
import Derived.LoopNIn
import Derived.LoopIn
import Derived.Maps.OwnIn
import Derived.RangeFuncNested
namespace Go.Proofs.YtbdhkkdombdnkaaDoor
open Go.RowKit
attribute [local go_sem] Oper.semAt_some

def cellV (ao : Option Addr) (c k : Nat) : Value := .slice (restD ao c (32 * k)) 32 (c - 32 * k)
theorem slice_mid9 (ao : Option Addr) (len c lo hi : Nat) (h : lo ≤ hi) (hc : hi ≤ c) (w : World) : (Instr.slice 41 (.slice ao len c) (some (.int .i64 (lo : Int))) (some (.int .i64 (hi : Int))) none).run Tryd.prog w = .ok (.slice (restD ao c lo) (hi - lo) (c - lo)) w := by
  rw [run_slice_lh w 41 ao len c (by rw [elem_bytesD]; exact Tryd.underlying41) .i64 .i64 lo hi (by omega) (by omega) (by omega), elem_bytesD, size_byteD]
  simp only [Result.andThen_ok, sliced, Int.toNat_natCast, restD]
theorem slice_cell (ao : Option Addr) (c k : Nat) (hk : k < 32) (hc : 1024 ≤ c) (w : World) : (Instr.slice 41 (.slice ao 1024 c) (some (.int .i64 ((k : Int) * 32))) (some (.int .i64 (((k : Int) + 1) * 32))) none).run Tryd.prog w = .ok (cellV ao c k) w := by
  have := slice_mid9 ao 1024 c (32 * k) (32 * k + 32) (by omega) (by omega) w
  rw [show 32 * k + 32 - 32 * k = 32 by omega] at this
  have e1 : ((32 * k : Nat) : Int) = (k : Int) * 32 := by omega
  have e2 : ((32 * k + 32 : Nat) : Int) = ((k : Int) + 1) * 32 := by omega
  rw [e1, e2] at this
  exact this
theorem seg_cell {w : World} {ao : Option Addr} {c : Nat} {bs : List UInt8} (h : Seg w (.slice ao 1024 c) bs) (k : Nat) (hk : k < 32) : Seg w (cellV ao c k) (cellB bs k) := by
  have h1 := h.dropsD (32 * k) (by omega)
  exact (h1.takesD 32 (by omega)).1

set_option maxRecDepth 100000 in
theorem places_any (ao : Option Addr) (n c : Nat) (w : World) :
    Calls Tryd.prog 59 #[.slice ao n c] w fun e w' => e = .returned (.func (.func 66) #[] #[.pointer (some ⟨w.heap.size, 0, none⟩)]) ∧ w' = w.alloc (.cells #[.slice ao n c] 41) := by
  go_enter Tryd.func59, Tryd.ntmps59
  go_wp2
  go_ret
  exact ⟨rfl, rfl⟩
set_option maxRecDepth 100000 in
theorem entries_any (ao : Option Addr) (n c : Nat) (w : World) :
    Calls Tryd.prog 49 #[.slice ao n c] w fun e w' => e = .returned (.func (.func 58) #[] #[.pointer (some ⟨w.heap.size, 0, none⟩)]) ∧ w' = w.alloc (.cells #[.slice ao n c] 41) := by
  go_enter Tryd.func49, Tryd.ntmps49
  go_wp2
  go_ret
  exact ⟨rfl, rfl⟩

/-- The numbers of places. -/
def nums (ys : List (Fin 32)) : List Nat := ys.map (·.val)
set_option maxRecDepth 100000 in
set_option maxHeartbeats 2000000 in
theorem places1_in (n : Nat) (hn : 1 ≤ n) (l Bn : Nat) (S : Nat → Prop) (ao : Option Addr) (c : Nat) (hc : 1024 ≤ c) (hS : ¬ S Bn) (J Jx : List (Fin 32) → World → Prop)
    (hY : ∀ (pre : List (Fin 32)) (k : Fin 32) (W : World), J pre W → pre.length < 32 → YieldAt Fence.wide (n - 1) Tryd.prog l #[.int .i64 (k.val : Int), cellV ao c k.val] W fun e W' =>
      (e = .returned (.bool true) ∧ J (pre ++ [k]) W' ∧ Chg S W W') ∨ (e = .returned (.bool false) ∧ Jx (pre ++ [k]) W'))
    (W : World) (hBn : W.cell? ⟨Bn, 0, none⟩ = some (.slice ao 1024 c)) (h0 : J [] W) :
    CallsIn Fence.wide n Tryd.prog 66 #[.func (.yield l) #[] #[], .pointer (some ⟨Bn, 0, none⟩)] W fun e W' => (∃ v, e = .returned v) ∧
      ((∃ ys, nums ys = List.range 32 ∧ J ys W') ∨ (∃ pre, (∃ k, k ≤ 32 ∧ nums pre = List.range k) ∧ Jx pre W')) := by
  refine callsIn_of_wp Tryd.func66 rfl trivial ?_ rfl
  simp only [Tryd.ntmps66, List.size_toArray, List.length_cons, List.length_nil, Nat.reduceAdd, Nat.reduceSub, Array.replicate_succ, Array.replicate_zero, List.push_toArray, List.append_toArray, List.nil_append, List.cons_append]
  gi_wp2
  gi_loopw [7] (fun i wr => ∃ (k : Nat) (ys : List (Fin 32)), k ≤ 32 ∧ nums ys = List.range k ∧ i = .int .i64 (k : Int) ∧ wr.cell? ⟨Bn, 0, none⟩ = some (.slice ao 1024 c) ∧ J ys wr) (fun i _ => 32 - (intOf i).toNat)
  case atStart => exact ⟨0, [], Nat.zero_le _, rfl, rfl, hBn, h0⟩
  case round =>
    obtain ⟨k, ys, hk, hys, rfl, hcell, hJ⟩ := hrel
    clear hBn
    have HYS : Hid (nums ys = List.range k) := hys
    clear hys
    by_cases hlt : k < 32
    · have i1 : (k : Int) < 32 := by omega
      have ls := slice_cell ao c k hlt hc
      have hyl : ys.length = k := by have := congrArg List.length HYS.out; unfold nums at this; rw [List.length_map, List.length_range] at this; exact this
      obtain ⟨fn, tmps, assign, body, hy, hR⟩ := hY ys ⟨k, hlt⟩ wr hJ (by omega)
      have HSN : Hid (nums (ys ++ [⟨k, hlt⟩]) = List.range (k + 1)) := by show _ = _; unfold nums; rw [List.map_append, List.range_succ]; exact congrArg (· ++ [k]) HYS.out
      clear hyl
      dsimp only at hy
      generalize (⟨k, hlt⟩ : Fin 32) = kf at *
      generalize hcv : cellV ao c k = CV at *
      have hcv' : ∃ a n c, CV = .slice a n c := ⟨_, _, _, hcv.symm⟩
      obtain ⟨ca, cn, cc, rfl⟩ := hcv'
      clear hcv
      gi_wp2
      refine hR.mono ?_
      clear hR hy
      rintro e W3 (⟨rfl, hJ3, hk3⟩ | ⟨rfl, hJx3⟩)
      · have hcell3 : W3.cell? ⟨Bn, 0, none⟩ = some (.slice ao 1024 c) := (World.cell?_of_block (w := wr) (w' := W3) (a := ⟨Bn, 0, none⟩) (hk3.2 Bn (cell_lt hcell) hS)).trans hcell
        clear ls
        gi_wp2
        go_roundw
        case rel => exact ⟨k + 1, _, hlt, HSN.out, by go_num, hcell3, hJ3⟩
        case measure => simp [intOf]; omega
      · clear ls
        gi_wp2
        (try simp only [Exit.inBlock, Exit.then])
        refine bodyPost_ret (results_none rfl _ _ _) rfl ?_
        exact ⟨⟨_, rfl⟩, .inr ⟨_, ⟨k + 1, hlt, HSN.out⟩, hJx3⟩⟩
    · obtain rfl : k = 32 := by omega
      gi_wp2
      go_end0
      exact ⟨⟨_, rfl⟩, .inl ⟨_, HYS.out, hJ⟩⟩
theorem places_stops (n : Nat) (hn : 1 ≤ n) (Bn : Nat) (S : Nat → Prop) (ao : Option Addr) (c : Nat) (hc : 1024 ≤ c) (hS : ¬ S Bn) (w : World) (hBn : Bn < w.heap.size) (hcell : w.cell? ⟨Bn, 0, none⟩ = some (.slice ao 1024 c)) :
    SeqStopsK Fence.wide n Tryd.prog 66 #[.pointer (some ⟨Bn, 0, none⟩)] (fun k : Fin 32 => #[.int .i64 (k.val : Int), cellV ao c k.val]) (Chg S) (fun ys => nums ys = List.range 32) (fun pre => ∃ k, k ≤ 32 ∧ nums pre = List.range k) 32 w := fun l J Jx W hW _ _ hY h0 =>
  places1_in n hn l Bn S ao c hc hS J Jx hY W ((hW.cell (p := ⟨Bn, 0, none⟩) hBn).trans hcell) h0
end Go.Proofs.YtbdhkkdombdnkaaDoor
namespace Go.Proofs.YtbdhkkdombdnkaaDoor
open Go.RowKit

def kpC (L : PLay6) (j : Nat) (k : KS) : Array Value := #[.pointer (some ⟨L.g, 0, none⟩), .int .i64 (j : Int), .int .i64 (k.gen : Int), .int .i64 k.r.active, .int .i64 k.r.trial, .int .i64 k.r.tries, .int .i64 k.r.v0, .int .i64 k.r.v1, .int .i64 (k.wh : Int), .int .i64 k.la, .bool k.br]
theorem exec_add9 {a : Act} {o : Oper} {w : World} (t : TypeId) (x y : Operand) (ho : o.op = .binOp .add t x y t) (m n : Int) (hx : a.eval x = .int .i64 m) (hy : a.eval y = .int .i64 n) (h0 : -9223372036854775808 ≤ m + n) (h1 : m + n < 9223372036854775808) : (execOp a.eval o).run Tryd.prog w = .ok (.value (.int .i64 (m + n))) w := by
  have hw : IntKind.i64.wrap (m + n) = m + n := by rw [IntKind.wrap_i64]; omega
  unfold execOp
  simp [ho, hx, hy]
  rw [← hw]
  rfl
theorem exec_mul9 {a : Act} {o : Oper} {w : World} (t : TypeId) (x y : Operand) (ho : o.op = .binOp .mul t x y t) (m n : Int) (hx : a.eval x = .int .i64 m) (hy : a.eval y = .int .i64 n) (h0 : -9223372036854775808 ≤ m * n) (h1 : m * n < 9223372036854775808) : (execOp a.eval o).run Tryd.prog w = .ok (.value (.int .i64 (m * n))) w := by
  have hw : IntKind.i64.wrap (m * n) = m * n := by
    generalize m * n = z at *
    rw [IntKind.wrap_i64]; omega
  unfold execOp
  simp [ho, hx, hy]
  rw [← hw]
  rfl
theorem there9 {s : FS} {a m : Int} (h0 : 0 ≤ m) (h1 : m ≤ 4096) (h2 : 0 ≤ a) (h3 : a ≤ (s.b.length : Int) - m) : thereB s a m = true := by
  unfold thereB
  rw [decide_eq_true h0, decide_eq_true h1, decide_eq_true h2, decide_eq_true h3]
  rfl
/-- What a look at a block tells. -/
def lookB (s : FS) (j : Nat) : List UInt8 := if s.down then [] else blkB s j
def lookE (s : FS) : Int := if s.down then 7 else 0
theorem read_blk {s : FS} {n j wh : Nat} (hs : s.ok n) (h : j + wh < n) : readF s (((j : Int) + (wh : Int)) * 1024) 1024 = (lookB s (j + wh), lookE s) := by
  have hl := hs.b
  unfold readF lookB lookE
  by_cases hd : s.down = true
  · rw [if_pos hd, if_pos hd, if_pos hd]
  · rw [if_neg hd, if_neg hd, if_neg hd, there9 (by decide) (by decide) (by omega) (by omega), if_neg (by decide)]
    unfold blkB
    rw [show (((j : Int) + (wh : Int)) * 1024).toNat = 1024 * (j + wh) by omega]
    rfl
theorem blkB_len {s : FS} {n j : Nat} (hs : s.ok n) (h : j < n) : (blkB s j).length = 1024 := by
  unfold blkB
  rw [List.length_take, List.length_drop, hs.b]
  omega

set_option maxRecDepth 100000 in
set_option maxHeartbeats 1000000 in
theorem read9_any (L : PLay6) (s : FS) (g j wh : Nat) (k : KS) (w : World) (hK : Blk w g 71 (kpC L j k)) (hD : PFlash w L s) (hj : j + wh < L.n) :
    Calls Tryd.prog 48 #[.pointer (some ⟨g, 0, none⟩), .int .i64 (wh : Int)] w fun e w' => ∃ v, e = .returned (.tuple #[v, .int .i64 (lookE s)]) ∧ Own w' w.heap.size v (lookB s (j + wh)) ∧ Below w.heap.size w w' := by
  have hcap := hD.ok.cap
  have HR : Hid (∀ W, PFlash W L s → Calls Tryd.prog 23 #[.pointer (some ⟨L.g, 0, none⟩), .int .i64 (((j : Int) + (wh : Int)) * 1024), .int .i64 1024] W fun e w' => ∃ v, e = .returned (.tuple #[v, .int .i64 (lookE s)]) ∧ Own w' W.heap.size v (lookB s (j + wh)) ∧ Below W.heap.size W w') := fun W hW => by
    have := read6_any L s (((j : Int) + (wh : Int)) * 1024) 1024 W hW
    rw [read_blk hD.ok hj] at this
    exact this
  have HC : Hid (∀ V, Below w.heap.size w V → V.cell? ⟨g, 0, none⟩ = some (.pointer (some ⟨L.g, 0, none⟩)) ∧ V.cell? ⟨g, 1, none⟩ = some (.int .i64 (j : Int))) := fun V hV => ⟨(hK.below hV hK.lt).cell (j := 0) rfl, (hK.below hV hK.lt).cell (j := 1) rfl⟩
  have hS0 := HC.out w.drew (Below.refl _ _).drew
  have HD : Hid (PFlash w.drew L s) := thePF.after hD (Below.refl _ _).drew
  clear hK hD
  go_enter Tryd.func48, Tryd.ntmps48
  go_wp2_with fail
  refine held_begin (fun V => V.cell? ⟨g, 0, none⟩ = some (.pointer (some ⟨L.g, 0, none⟩)) ∧ V.cell? ⟨g, 1, none⟩ = some (.int .i64 (j : Int))) (by kernel_rfl) ?_
  refine held_take 0 6 _ (.pointer (some ⟨g, 0, none⟩)) rfl rfl (by kernel_rfl) (by kernel_rfl) (by kernel_rfl) rfl hS0 (fun _ _ => rfl) ?_
  simp only [Act.put, List.setIfInBounds_toArray, List.set_cons_succ, List.set_cons_zero]
  refine held_take 1 7 _ (.pointer (some ⟨g, 0, none⟩)) rfl rfl (by kernel_rfl) (by kernel_rfl) (by kernel_rfl) rfl hS0 (fun _ _ => rfl) ?_
  simp only [Act.put, List.setIfInBounds_toArray, List.set_cons_succ, List.set_cons_zero]
  refine held_take 2 8 _ (.pointer (some ⟨g, 0, none⟩)) rfl rfl (by kernel_rfl) (by kernel_rfl) (by kernel_rfl) rfl hS0 (fun _ _ => rfl) ?_
  simp only [Act.put, List.setIfInBounds_toArray, List.set_cons_succ, List.set_cons_zero]
  refine held_take 3 9 _ (.pointer (some ⟨L.g, 0, none⟩)) rfl rfl (by kernel_rfl) (by kernel_rfl) (by kernel_rfl) rfl hS0 (fun V hV => exec_loadc 25 _ rfl _ _ rfl (load_one 25 (fun _ => by kernel_rfl) V _ _ _ hV.1)) ?_
  simp only [Act.put, List.setIfInBounds_toArray, List.set_cons_succ, List.set_cons_zero]
  refine held_take 4 10 _ (.pointer (some ⟨g, 0, none⟩)) rfl rfl (by kernel_rfl) (by kernel_rfl) (by kernel_rfl) rfl hS0 (fun _ _ => rfl) ?_
  simp only [Act.put, List.setIfInBounds_toArray, List.set_cons_succ, List.set_cons_zero]
  refine held_take 5 11 _ (.pointer (some ⟨g, 0, none⟩)) rfl rfl (by kernel_rfl) (by kernel_rfl) (by kernel_rfl) rfl hS0 (fun _ _ => rfl) ?_
  simp only [Act.put, List.setIfInBounds_toArray, List.set_cons_succ, List.set_cons_zero]
  refine held_take 6 12 _ (.pointer (some ⟨g, 1, none⟩)) rfl rfl (by kernel_rfl) (by kernel_rfl) (by kernel_rfl) rfl hS0 (fun _ _ => rfl) ?_
  simp only [Act.put, List.setIfInBounds_toArray, List.set_cons_succ, List.set_cons_zero]
  refine held_take 7 13 _ (.int .i64 (j : Int)) rfl rfl (by kernel_rfl) (by kernel_rfl) (by kernel_rfl) rfl hS0 (fun V hV => exec_loadc 3 _ rfl _ _ rfl (load_one 3 (fun _ => by kernel_rfl) V _ _ _ hV.2)) ?_
  simp only [Act.put, List.setIfInBounds_toArray, List.set_cons_succ, List.set_cons_zero]
  refine held_take 8 14 _ (.int .i64 (wh : Int)) rfl rfl (by kernel_rfl) (by kernel_rfl) (by kernel_rfl) rfl hS0 (fun _ _ => rfl) ?_
  simp only [Act.put, List.setIfInBounds_toArray, List.set_cons_succ, List.set_cons_zero]
  refine held_take 9 15 _ (.int .i64 ((j : Int) + (wh : Int))) rfl rfl (by kernel_rfl) (by kernel_rfl) (by kernel_rfl) rfl hS0 (fun V _ => exec_add9 3 _ _ rfl (j : Int) (wh : Int) rfl rfl (by omega) (by omega)) ?_
  simp only [Act.put, List.setIfInBounds_toArray, List.set_cons_succ, List.set_cons_zero]
  refine held_take 10 16 _ (.int .i64 (((j : Int) + (wh : Int)) * 1024)) rfl rfl (by kernel_rfl) (by kernel_rfl) (by kernel_rfl) rfl hS0 (fun V _ => exec_mul9 3 _ _ rfl ((j : Int) + (wh : Int)) 1024 rfl rfl (by omega) (by omega)) ?_
  simp only [Act.put, List.setIfInBounds_toArray, List.set_cons_succ, List.set_cons_zero]
  refine held_all1 11 (by kernel_rfl) (op_call 11 17 _ 23 #[.pointer (some ⟨L.g, 0, none⟩), .int .i64 (((j : Int) + (wh : Int)) * 1024), .int .i64 1024] rfl rfl rfl (exec_three8 23 _ _ _ _ rfl _ _ _ rfl rfl rfl Tryd.call23) ((HR.out _ HD.out).mono ?_))
  rintro e W1 ⟨v1, rfl, ho1, hb1⟩
  have hB1 : Below w.heap.size w W1 := ((Below.refl w.heap.size w).drew).trans hb1
  have hS1 := HC.out W1 hB1
  refine ⟨_, rfl, hS1, ?_⟩
  simp only [Act.put, List.setIfInBounds_toArray, List.set_cons_succ, List.set_cons_zero]
  refine held_take 12 18 _ (v1) rfl rfl (by kernel_rfl) (by kernel_rfl) (by kernel_rfl) rfl hS1 (fun _ _ => rfl) ?_
  simp only [Act.put, List.setIfInBounds_toArray, List.set_cons_succ, List.set_cons_zero]
  refine held_take 13 19 _ (.int .i64 (lookE s)) rfl rfl (by kernel_rfl) (by kernel_rfl) (by kernel_rfl) rfl hS1 (fun _ _ => rfl) ?_
  simp only [Act.put, List.setIfInBounds_toArray, List.set_cons_succ, List.set_cons_zero]
  refine held_take 14 4 _ (v1) rfl rfl (by kernel_rfl) (by kernel_rfl) (by kernel_rfl) rfl hS1 (fun _ _ => rfl) ?_
  simp only [Act.put, List.setIfInBounds_toArray, List.set_cons_succ, List.set_cons_zero]
  refine held_take 15 5 _ (.int .i64 (lookE s)) rfl rfl (by kernel_rfl) (by kernel_rfl) (by kernel_rfl) rfl hS1 (fun _ _ => rfl) ?_
  simp only [Act.put, List.setIfInBounds_toArray, List.set_cons_succ, List.set_cons_zero]
  refine wpAnyH_done (by kernel_rfl) ?_ _
  refine NoPanic.normal ?_
  go_wp2
  go_ret2
  exact ⟨v1, rfl, ho1, hB1⟩
end Go.Proofs.YtbdhkkdombdnkaaDoor
namespace Go.Proofs.YtbdhkkdombdnkaaDoor
open Go.RowKit
attribute [local go_sem] Oper.semAt_some

theorem keeps_chg9 {S : Nat → Prop} {W W' : World} (B : Nat) (hc : Chg S W W') (hS : ∀ k, S k → ∀ o, W.heap[k]? = some o → o.isCells = true) : KeepsFrom B W W' :=
  ⟨hc.size, fun k o _ hk ho => by
    rw [hc.2 k (Array.getElem?_eq_some_iff.1 hk).1 (fun e => by have := hS k e o hk; rw [this] at ho; cases ho)]
    exact hk⟩
theorem blk_isCells9 {w : World} {g : Nat} {t : TypeId} {arr : Array Value} (h : Blk w g t arr) (o : Obj) (ho : w.heap[g]? = some o) : o.isCells = true := by
  rw [show w.heap[g]? = _ from h] at ho
  cases ho
  rfl
theorem exec_storeE9 {a : Act} {o : Oper} {w : World} (x y : Operand) (ho : o.op = .store 26 x y) (g i : Nat) (z : Int) (u : Value) (hx : a.eval x = .pointer (some ⟨g, i, none⟩)) (hy : a.eval y = .int .i64 z) (hc : w.cell? ⟨g, i, none⟩ = some u) (hf : w.frozen? ⟨g, i, none⟩ = false) : (execOp a.eval o).run Tryd.prog w = .ok .skip (w.setCell ⟨g, i, none⟩ (.int .i64 z)) := by
  unfold execOp
  simp only [ho, hx, hy]
  simp [go_sem, hc, hf]
def freeI (b : List UInt8) (la : Int) (i : Nat) : Bool := decide (la < (i : Int)) && (cellB b i).all (· == 255)
theorem roomI_none {b : List UInt8} {la : Int} (h : ∀ i ∈ List.range 32, freeI b la i = false) : roomI b la = none := by
  unfold roomI
  rw [List.find?_eq_none]
  intro i hi
  have := h i hi
  unfold freeI at this
  rw [this]
  decide
theorem roomI_some {b : List UInt8} {la : Int} {k i : Nat} {q : List Nat} (hk : k ≤ 32) (hr : List.range k = q ++ [i]) (h : ∀ x ∈ q, freeI b la x = false) (hi : freeI b la i = true) : roomI b la = some i := by
  unfold roomI
  have h32 : List.range 32 = q ++ ([i] ++ (List.range' k (32 - k))) := by
    rw [← List.append_assoc, ← hr, List.range_eq_range', List.range_eq_range']
    have := List.range'_append (s := 0) (m := k) (n := 32 - k) (step := 1)
    rw [Nat.zero_add, Nat.one_mul, show k + (32 - k) = 32 by omega] at this
    exact this.symm
  rw [h32, List.find?_append, List.find?_eq_none.2 (fun x hx => by have := h x hx; unfold freeI at this; rw [this]; decide)]
  unfold freeI at hi
  simp [hi]
theorem room_results (tmps : Array Value) (W : World) (p q : Nat) (x y u : Value) (hp : tmps.getD 2 undef = .pointer (some ⟨p, 0, none⟩)) (hq : tmps.getD 3 undef = .pointer (some ⟨q, 0, none⟩)) (h0 : Blk W p 68 #[x, y]) (h1 : W.cell? ⟨q, 0, none⟩ = some u) :
    (results Tryd.f52 tmps).run Tryd.prog W = .ok (.tuple #[.agg #[x, y], u]) W := by
  have hp' : tmps[2]?.getD undef = .pointer (some ⟨p, 0, none⟩) := by simpa using hp
  have hq' : tmps[3]?.getD undef = .pointer (some ⟨q, 0, none⟩) := by simpa using hq
  have h2 := h0.cell (j := 0) rfl
  have h3 := h0.cell (j := 1) rfl
  simp [results, Tryd.results52, go_sem, hp', hq', h1, h2, h3]
def roomE (k : KS) (j : Nat) (s : FS) : (Nat × Nat) × Int × FS := if s.down then ((0, 0), 7, s) else match roomI (blkB s (j + k.wh)) k.la with
  | some i => ((k.wh, i), 0, s)
  | none => ((1 - k.wh, 0), (eraseF s ((j + (1 - k.wh) : Nat) : Int)).1, (eraseF s ((j + (1 - k.wh) : Nat) : Int)).2)

set_option maxRecDepth 100000 in
set_option maxHeartbeats 4000000 in
theorem room9_any (L : PLay6) (s : FS) (g j : Nat) (k : KS) (w : World) (hK : Blk w g 71 (kpC L j k)) (hg : ¬ L.T g) (hD : PFlash w L s) (hj : j + 1 < L.n) (hw : k.wh ≤ 1) :
    Calls Tryd.prog 52 #[.pointer (some ⟨g, 0, none⟩)] w fun e w' => e = .returned (.tuple #[.agg #[.int .i64 ((roomE k j s).1.1 : Int), .int .i64 ((roomE k j s).1.2 : Int)], .int .i64 (roomE k j s).2.1]) ∧ PFlash w' L (roomE k j s).2.2 ∧ Chg L.T w w' := by
  have hB0 := (((Below.refl w.heap.size w).alloc (Nat.le_refl _) (.cells #[.pointer (some ⟨g, 0, none⟩)] 32)).alloc (by simp) (.cells #[.int .i64 0, .int .i64 0] 68)).alloc (by simp; omega) (.cells #[.int .i64 0] 26)
  have k0 : Blk (((w.alloc (.cells #[.pointer (some ⟨g, 0, none⟩)] 32)).alloc (.cells #[.int .i64 0, .int .i64 0] 68)).alloc (.cells #[.int .i64 0] 26)) w.heap.size 32 #[.pointer (some ⟨g, 0, none⟩)] := ((Blk.new w _ _).alloc _).alloc _
  have k1 : Blk (((w.alloc (.cells #[.pointer (some ⟨g, 0, none⟩)] 32)).alloc (.cells #[.int .i64 0, .int .i64 0] 68)).alloc (.cells #[.int .i64 0] 26)) (w.heap.size + 1) 68 #[.int .i64 0, .int .i64 0] := (Blk.newAt _ _ _ _ (by simp)).alloc _
  have k2 : Blk (((w.alloc (.cells #[.pointer (some ⟨g, 0, none⟩)] 32)).alloc (.cells #[.int .i64 0, .int .i64 0] 68)).alloc (.cells #[.int .i64 0] 26)) (w.heap.size + 1 + 1) 26 #[.int .i64 0] := Blk.newAt _ _ _ _ (by simp)
  have hK0 := hK.below hB0 hK.lt
  have hD0 := thePF.after hD hB0
  have hglt := hK.lt
  have hlw := hD.lt
  have hcap := hD.ok.cap
  have hok := hD.ok
  obtain ⟨W0, hW0⟩ : ∃ W0, W0 = ((w.alloc (.cells #[.pointer (some ⟨g, 0, none⟩)] 32)).alloc (.cells #[.int .i64 0, .int .i64 0] 68)).alloc (.cells #[.int .i64 0] 26) := ⟨_, rfl⟩
  have HRD : Hid (Calls Tryd.prog 48 #[.pointer (some ⟨g, 0, none⟩), .int .i64 (k.wh : Int)] W0.drew fun e w' => ∃ v, e = .returned (.tuple #[v, .int .i64 (lookE s)]) ∧ Own w' W0.heap.size v (lookB s (j + k.wh)) ∧ Below W0.heap.size W0 w') := by
    rw [hW0]
    exact (read9_any L s g j k.wh k _ hK0.drew (thePF.after hD0 (Below.refl _ _).drew) (by omega)).mono fun e w' ⟨v, h1, h2, h3⟩ => ⟨v, h1, h2, ((Below.refl _ _).drew).trans h3⟩
  have HCL : Hid (∀ V, Below W0.heap.size W0 V → V.cell? ⟨w.heap.size, 0, none⟩ = some (.pointer (some ⟨g, 0, none⟩)) ∧ V.cell? ⟨g, 8, none⟩ = some (.int .i64 (k.wh : Int))) := by
    rw [hW0]
    exact fun V hV => ⟨(k0.below hV k0.lt).cell (j := 0) rfl, (hK0.below hV hK0.lt).cell (j := 8) rfl⟩
  have hS0 := HCL.out W0.drew (Below.refl _ _).drew
  rw [← hW0] at k0 k1 k2 hB0 hK0 hD0
  have hs0 : W0.heap.size = w.heap.size + 1 + 1 + 1 := by rw [hW0]; simp
  have hfn : Fence.wide.fn 59 := trivial
  have hfn2 : Fence.wide.fn 61 := trivial
  clear hK hD
  refine (callsIn_wide (n := 6)).1 ?_
  refine callsIn_of_wp_marks Tryd.func52 rfl trivial ?_ rfl
  simp only [Tryd.ntmps52, List.size_toArray, List.length_cons, List.length_nil, Nat.reduceAdd, Nat.reduceSub, Array.replicate_succ, Array.replicate_zero, List.push_toArray, List.append_toArray, List.nil_append, List.cons_append]
  gi_wp2_with fail
  rw [← hW0]
  clear hW0
  refine wpIn_wide.2 ?_
  refine held_begin (fun V => V.cell? ⟨w.heap.size, 0, none⟩ = some (.pointer (some ⟨g, 0, none⟩)) ∧ V.cell? ⟨g, 8, none⟩ = some (.int .i64 (k.wh : Int))) (by kernel_rfl) ?_
  refine held_take 0 10 _ (.pointer (some ⟨g, 0, none⟩)) rfl rfl (by kernel_rfl) (by kernel_rfl) (by kernel_rfl) rfl hS0 (fun V hV => exec_loadc 32 _ rfl _ _ rfl (load_one 32 (fun _ => by kernel_rfl) V _ _ _ hV.1)) ?_
  simp only [Act.put, List.setIfInBounds_toArray, List.set_cons_succ, List.set_cons_zero]
  refine held_take 1 11 _ (.pointer (some ⟨g, 0, none⟩)) rfl rfl (by kernel_rfl) (by kernel_rfl) (by kernel_rfl) rfl hS0 (fun V hV => exec_loadc 32 _ rfl _ _ rfl (load_one 32 (fun _ => by kernel_rfl) V _ _ _ hV.1)) ?_
  simp only [Act.put, List.setIfInBounds_toArray, List.set_cons_succ, List.set_cons_zero]
  refine held_take 2 12 _ (.pointer (some ⟨g, 0, none⟩)) rfl rfl (by kernel_rfl) (by kernel_rfl) (by kernel_rfl) rfl hS0 (fun _ _ => rfl) ?_
  simp only [Act.put, List.setIfInBounds_toArray, List.set_cons_succ, List.set_cons_zero]
  refine held_take 3 13 _ (.pointer (some ⟨g, 8, none⟩)) rfl rfl (by kernel_rfl) (by kernel_rfl) (by kernel_rfl) rfl hS0 (fun _ _ => rfl) ?_
  simp only [Act.put, List.setIfInBounds_toArray, List.set_cons_succ, List.set_cons_zero]
  refine held_take 4 14 _ (.pointer (some ⟨g, 8, none⟩)) rfl rfl (by kernel_rfl) (by kernel_rfl) (by kernel_rfl) rfl hS0 (fun _ _ => rfl) ?_
  simp only [Act.put, List.setIfInBounds_toArray, List.set_cons_succ, List.set_cons_zero]
  refine held_take 5 15 _ (.int .i64 (k.wh : Int)) rfl rfl (by kernel_rfl) (by kernel_rfl) (by kernel_rfl) rfl hS0 (fun V hV => exec_loadc 3 _ rfl _ _ rfl (load_one 3 (fun _ => by kernel_rfl) V _ _ _ hV.2)) ?_
  simp only [Act.put, List.setIfInBounds_toArray, List.set_cons_succ, List.set_cons_zero]
  refine held_all1 6 (by kernel_rfl) (op_call 6 16 _ 48 #[.pointer (some ⟨g, 0, none⟩), .int .i64 (k.wh : Int)] rfl rfl rfl (exec_two8 48 _ _ _ rfl _ _ rfl rfl Tryd.call48) (HRD.out.mono ?_))
  rintro e W1 ⟨v1, rfl, ho1, hb1⟩
  have hB1 : Below w.heap.size w W1 := hB0.trans (hb1.mono hB0.size)
  have hS1 := HCL.out W1 hb1
  refine ⟨_, rfl, hS1, ?_⟩
  simp only [Act.put, List.setIfInBounds_toArray, List.set_cons_succ, List.set_cons_zero]
  refine held_take 7 9 _ (.tuple #[v1, .int .i64 (lookE s)]) rfl rfl (by kernel_rfl) (by kernel_rfl) (by kernel_rfl) rfl hS1 (fun _ _ => rfl) ?_
  simp only [Act.put, List.setIfInBounds_toArray, List.set_cons_succ, List.set_cons_zero]
  refine held_take 8 17 _ (v1) rfl rfl (by kernel_rfl) (by kernel_rfl) (by kernel_rfl) rfl hS1 (fun _ _ => rfl) ?_
  simp only [Act.put, List.setIfInBounds_toArray, List.set_cons_succ, List.set_cons_zero]
  refine held_take 9 18 _ (.int .i64 (lookE s)) rfl rfl (by kernel_rfl) (by kernel_rfl) (by kernel_rfl) rfl hS1 (fun _ _ => rfl) ?_
  simp only [Act.put, List.setIfInBounds_toArray, List.set_cons_succ, List.set_cons_zero]
  refine held_take 10 4 _ (v1) rfl rfl (by kernel_rfl) (by kernel_rfl) (by kernel_rfl) rfl hS1 (fun _ _ => rfl) ?_
  simp only [Act.put, List.setIfInBounds_toArray, List.set_cons_succ, List.set_cons_zero]
  refine held_take 11 5 _ (.int .i64 (lookE s)) rfl rfl (by kernel_rfl) (by kernel_rfl) (by kernel_rfl) rfl hS1 (fun _ _ => rfl) ?_
  simp only [Act.put, List.setIfInBounds_toArray, List.set_cons_succ, List.set_cons_zero]
  refine wpAnyH_done (by kernel_rfl) ?_ _
  refine NoPanic.normal ?_
  have m0 := k0.below hb1 k0.lt
  have m1 := k1.below hb1 k1.lt
  have m2 := k2.below hb1 k2.lt
  clear HRD HCL hS0 hS1
  obtain ⟨a1, c1, hv1⟩ := ho1.seg.shapeD
  subst hv1
  by_cases hdn : s.down = true
  · have e1 : lookE s = 7 := by unfold lookE; rw [if_pos hdn]
    have HRE : Hid (roomE k j s = ((0, 0), 7, s)) := by show _ = _; unfold roomE; rw [if_pos hdn]
    have hD1 := thePF.after hD0 hb1
    rw [e1]
    clear e1
    have hkA := m1
    have c20 := m2.cell (j := 0) rfl
    have f20 := m2.frozen 0
    have c10 := m1.cell (j := 0) rfl
    have f10 := m1.frozen 0
    have c11 := m1.cell (j := 1) rfl
    have f11 := m1.frozen 1
    have hcW : Chg (fun q => q = w.heap.size + 1 ∨ q = w.heap.size + 1 + 1) W1 (((W1.setCell ⟨w.heap.size + 1, 0, none⟩ (.int .i64 0)).setCell ⟨w.heap.size + 1, 1, none⟩ (.int .i64 0)).setCell ⟨w.heap.size + 1 + 1, 0, none⟩ (.int .i64 7)) := (((Chg.refl (fun q => q = w.heap.size + 1 ∨ q = w.heap.size + 1 + 1) W1).setCell (w.heap.size + 1) 0 _ (fun _ => .inl rfl)).setCell (w.heap.size + 1) 1 _ (fun _ => .inl rfl)).setCell (w.heap.size + 1 + 1) 0 _ (fun _ => .inr rfl)
    have y1 : Blk (((W1.setCell ⟨w.heap.size + 1, 0, none⟩ (.int .i64 0)).setCell ⟨w.heap.size + 1, 1, none⟩ (.int .i64 0)).setCell ⟨w.heap.size + 1 + 1, 0, none⟩ (.int .i64 7)) (w.heap.size + 1) 68 #[.int .i64 0, .int .i64 0] := ((m1.set 0 (.int .i64 0)).set 1 (.int .i64 0)).setOther _ _ (by show w.heap.size + 1 ≠ w.heap.size + 1 + 1; omega)
    have y2 : Blk (((W1.setCell ⟨w.heap.size + 1, 0, none⟩ (.int .i64 0)).setCell ⟨w.heap.size + 1, 1, none⟩ (.int .i64 0)).setCell ⟨w.heap.size + 1 + 1, 0, none⟩ (.int .i64 7)) (w.heap.size + 1 + 1) 26 #[.int .i64 7] := ((m2.setOther _ _ (by show w.heap.size + 1 + 1 ≠ w.heap.size + 1; omega)).setOther _ _ (by show w.heap.size + 1 + 1 ≠ w.heap.size + 1; omega)).set 0 (.int .i64 7)
    gi_wp2
    (try simp only [Exit.noGoto])
    refine ⟨_, room_results _ _ _ _ _ _ _ rfl rfl y1 (y2.cell (j := 0) rfl), ?_⟩
    rw [HRE.out]
    exact ⟨rfl, hD1.chg hcW (fun q hq e => by have := hlw q hq; omega), Chg.of_below (hB1.trans (hcW.below (B := w.heap.size) (fun k hk => by omega) hB1.size)) (Nat.le_refl _)⟩
  · have e1 : lookE s = 0 := by unfold lookE; rw [if_neg hdn]
    have e2 : lookB s (j + k.wh) = blkB s (j + k.wh) := by unfold lookB; rw [if_neg hdn]
    have hbl := blkB_len hok (j := j + k.wh) (by omega)
    have HRE : Hid (roomE k j s = match roomI (blkB s (j + k.wh)) k.la with
      | some i => ((k.wh, i), 0, s)
      | none => ((1 - k.wh, 0), (eraseF s ((j + (1 - k.wh) : Nat) : Int)).1, (eraseF s ((j + (1 - k.wh) : Nat) : Int)).2)) := by show _ = _; unfold roomE; rw [if_neg hdn]
    rw [e2, hbl] at ho1
    rw [e1, e2, hbl]
    clear e1 e2 hbl
    generalize blkB s (j + k.wh) = b at *
    have hc1 : 1024 ≤ c1 := by
      obtain ⟨_, _, _, hcc, _, _⟩ := ho1.seg.formD (by decide)
      exact hcc
    gi_wp2_with fail
    refine (callsIn_wide.2 (places_any a1 1024 c1 W1)).mono ?_
    rintro e W3 ⟨rfl, hW3⟩
    have hcell3 : W3.cell? ⟨W1.heap.size, 0, none⟩ = some (.slice a1 1024 c1) := by rw [hW3]; exact (Blk.new W1 _ _).cell rfl
    have hs3 : W1.heap.size < W3.heap.size := by rw [hW3]; simp
    have hb3 : Below W1.heap.size W1 W3 := by rw [hW3]; exact (Below.refl _ _).alloc (Nat.le_refl _) _
    clear hW3
    have hB3 : Below w.heap.size w W3 := hB1.trans (hb3.mono hB1.size)
    have n0 := m0.below hb3 m0.lt
    have n1 := m1.below hb3 m1.lt
    have n2 := m2.below hb3 m2.lt
    have hK3 := (hK0.below hb1 hK0.lt).below hb3 (Nat.lt_of_lt_of_le hK0.lt hb1.size)
    have hD3 := thePF.after (thePF.after hD0 hb1) hb3
    have hseg3 : Seg W3 (.slice a1 1024 c1) b := ho1.seg.below hb3 (Nat.le_refl _)
    have hlt1 : w.heap.size + 1 + 1 < W1.heap.size := m2.lt
    clear m0 m1 m2 hK0 hD0 ho1 hb1 hb3 hB1 k0 k1 k2 hB0
    gi_wp2_with fail
    have hSb : ∀ {q}, W3.heap.size ≤ q → ¬ q < W3.heap.size := fun h => by omega
    refine wpIn_rangeFunc_ownG rfl (by decide) (gf := 66) (lb := #[.pointer (some ⟨W1.heap.size, 0, none⟩)]) rfl trivial (enters_of Tryd.func66 (by kernel_rfl) rfl)
      (places_stops 5 (by decide) W1.heap.size (fun q => W3.heap.size ≤ q) a1 c1 hc1 (by show ¬ W3.heap.size ≤ W1.heap.size; omega) W3 (by omega) hcell3) (fun h k => h.trans k (fun _ _ h => h)) (fun W l o o' hl _ _ _ => Chg.of_grown (grownBy_putObj' W l o') (fun k e => by cases e; exact hl)) (Below.refl _ _) (fun _ => rfl)
      (fun pre W => (∀ i ∈ nums pre, freeI b k.la i = false) ∧ Chg (fun q => W3.heap.size ≤ q) W3 W)
      (fun c pre W => c = .ret ∧ ∃ q i, nums pre = q ++ [i] ∧ (∀ x ∈ q, freeI b k.la x = false) ∧ freeI b k.la i = true ∧ Blk W (w.heap.size + 1) 68 #[.int .i64 (k.wh : Int), .int .i64 (i : Int)] ∧ Blk W (w.heap.size + 1 + 1) 26 #[.int .i64 0] ∧ Chg (fun q => W3.heap.size ≤ q ∨ q = w.heap.size + 1 ∨ q = w.heap.size + 1 + 1) W3 W)
      (fun pre W W' row ⟨h1, h2⟩ hg hr => ⟨h1, h2.trans (Chg.of_grown (S := fun q => W3.heap.size ≤ q) hg (fun k e => (hr k e).1)) (fun _ _ h => h)⟩)
      (fun c pre W W' row ⟨h0, q, i, h1, h2, h3, h4, h5, h6⟩ hg hr => ⟨h0, q, i, h1, h2, h3, h4.grown hg (fun e => by have := (hr _ e.symm).1; omega), h5.grown hg (fun e => by have := (hr _ e.symm).1; omega), h6.trans (Chg.of_grown (S := fun q => W3.heap.size ≤ q) hg (fun k e => (hr k e).1)) (fun _ _ h => .inl h)⟩)
      ⟨(fun i hi => by cases hi), Chg.refl _ _⟩
      (fun x => { tmps := #[.pointer (some ⟨g, 0, none⟩), .pointer (some ⟨w.heap.size, 0, none⟩), .pointer (some ⟨w.heap.size + 1, 0, none⟩), .pointer (some ⟨w.heap.size + 1 + 1, 0, none⟩), .slice a1 1024 c1, .int .i64 0, .int .i64 (x.val : Int), cellV a1 c1 x.val, undef, .tuple #[.slice a1 1024 c1, .int .i64 0], .pointer (some ⟨g, 0, none⟩), .pointer (some ⟨g, 0, none⟩), .pointer (some ⟨g, 0, none⟩), .pointer (some ⟨g, 8, none⟩), .pointer (some ⟨g, 8, none⟩), .int .i64 (k.wh : Int), .tuple #[.slice a1 1024 c1, .int .i64 0], .slice a1 1024 c1, .int .i64 0, .int .i64 0, .bool false, undef, undef, .slice a1 1024 c1, .func (.func 66) #[] #[.pointer (some ⟨W1.heap.size, 0, none⟩)], .int .i64 (x.val : Int), cellV a1 c1 x.val, undef, undef, undef, undef, undef, undef, undef, undef, undef, undef, undef, undef, undef, undef, undef, undef, undef, undef, undef, undef, undef, undef, undef, undef, undef, undef, undef, undef, undef, undef, undef, undef, undef, undef, undef, undef, undef], defers := [] }) ?assign ?body ?done ?stop
    case assign =>
      intro l x W K hK
      gi_wp2
      exact hK
    case body =>
      rintro l pre x W ⟨hall, hc⟩ hlt
      have hF : ∀ f, (Fence.wide.inRound l).fn f := fun _ => trivial
      obtain ⟨X, hX⟩ := x
      dsimp only
      have HSN : Hid (nums (pre ++ [⟨X, hX⟩]) = nums pre ++ [X]) := by show _ = _; unfold nums; rw [List.map_append]; rfl
      have p0 := n0.chg hc (by show ¬ W3.heap.size ≤ w.heap.size; omega)
      have p1 := n1.chg hc (by show ¬ W3.heap.size ≤ w.heap.size + 1; omega)
      have p2 := n2.chg hc (by show ¬ W3.heap.size ≤ w.heap.size + 1 + 1; omega)
      have pK := hK3.chg hc (by show ¬ W3.heap.size ≤ g; have := hB3.size; omega)
      have d0 := p0.cell (j := 0) rfl
      have d8 : W.cell? ⟨g, 8, none⟩ = some (.int .i64 (k.wh : Int)) := pK.cell (j := 8) rfl
      have d9 : W.cell? ⟨g, 9, none⟩ = some (.int .i64 k.la) := pK.cell (j := 9) rfl
      have hsx : Seg W (cellV a1 c1 X) (cellB b X) := seg_cell (hseg3.chg hc (fun _ q hq => by
        obtain ⟨b', off, rfl, _, _, hbl⟩ := hseg3.formD (by decide)
        obtain rfl : b' = q := Option.some.inj hq
        show ¬ W3.heap.size ≤ b'
        omega)) X hX
      have HA : Hid (Calls Tryd.prog 61 #[cellV a1 c1 X, .int .u8 255] W fun e w' => e = .returned (.bool ((cellB b X).all (· == 255))) ∧ Below W.heap.size W w') := are_any _ (cellB b X) 255 W (by unfold cellB; rw [List.length_take]; omega) hsx
      have HFR : Hid (freeI b k.la X = (decide (k.la < (X : Int)) && (cellB b X).all (· == 255))) := rfl
      generalize (cellB b X).all (· == 255) = AL at *
      clear hsx hseg3 hcell3
      by_cases h1 : k.la < (X : Int)
      · rw [decide_eq_true h1, Bool.true_and] at HFR
        gi_wp2_with fail
        refine (CallsIn.inRound l (callsIn_wide.2 HA.out)).mono ?_
        rintro e W5 ⟨rfl, hb5⟩
        clear HA
        have q0 := p0.below hb5 p0.lt
        have q1 := p1.below hb5 p1.lt
        have q2 := p2.below hb5 p2.lt
        have qK := pK.below hb5 pK.lt
        have hc5 : Chg (fun q => W3.heap.size ≤ q) W W5 := Chg.of_below hb5 (Nat.le_refl _)
        have hk5 : KeepsFrom W3.heap.size W W5 := keeps_chg9 (S := fun _ => False) _ (Chg.of_below hb5 (Nat.le_refl _)) (fun k hk => hk.elim)
        clear d0 d8 d9 p0 p1 p2 pK
        cases AL with
        | true =>
          have g0 := q0.cell (j := 0) rfl
          have g8 : W5.cell? ⟨g, 8, none⟩ = some (.int .i64 (k.wh : Int)) := qK.cell (j := 8) rfl
          have g10 := q1.cell (j := 0) rfl
          have z10 := q1.frozen 0
          have g11 := q1.cell (j := 1) rfl
          have z11 := q1.frozen 1
          have g20 := q2.cell (j := 0) rfl
          have z20 := q2.frozen 0
          have hcW : Chg (fun q => q = w.heap.size + 1 ∨ q = w.heap.size + 1 + 1) W5 (((W5.setCell ⟨w.heap.size + 1, 0, none⟩ (.int .i64 (k.wh : Int))).setCell ⟨w.heap.size + 1, 1, none⟩ (.int .i64 (X : Int))).setCell ⟨w.heap.size + 1 + 1, 0, none⟩ (.int .i64 0)) := (((Chg.refl (fun q => q = w.heap.size + 1 ∨ q = w.heap.size + 1 + 1) W5).setCell (w.heap.size + 1) 0 _ (fun _ => .inl rfl)).setCell (w.heap.size + 1) 1 _ (fun _ => .inl rfl)).setCell (w.heap.size + 1 + 1) 0 _ (fun _ => .inr rfl)
          have y1 : Blk (((W5.setCell ⟨w.heap.size + 1, 0, none⟩ (.int .i64 (k.wh : Int))).setCell ⟨w.heap.size + 1, 1, none⟩ (.int .i64 (X : Int))).setCell ⟨w.heap.size + 1 + 1, 0, none⟩ (.int .i64 0)) (w.heap.size + 1) 68 #[.int .i64 (k.wh : Int), .int .i64 (X : Int)] := ((q1.set 0 (.int .i64 (k.wh : Int))).set 1 (.int .i64 (X : Int))).setOther _ _ (by show w.heap.size + 1 ≠ w.heap.size + 1 + 1; omega)
          have y2 : Blk (((W5.setCell ⟨w.heap.size + 1, 0, none⟩ (.int .i64 (k.wh : Int))).setCell ⟨w.heap.size + 1, 1, none⟩ (.int .i64 (X : Int))).setCell ⟨w.heap.size + 1 + 1, 0, none⟩ (.int .i64 0)) (w.heap.size + 1 + 1) 26 #[.int .i64 0] := ((q2.setOther _ _ (by show w.heap.size + 1 + 1 ≠ w.heap.size + 1; omega)).setOther _ _ (by show w.heap.size + 1 + 1 ≠ w.heap.size + 1; omega)).set 0 (.int .i64 0)
          have hkW := keeps_chg9 W3.heap.size hcW (fun q hq o ho => by rcases hq with rfl | rfl; exact blk_isCells9 q1 o ho; exact blk_isCells9 q2 o ho)
          gi_wp2
          exact ⟨hk5.trans hkW, rfl, nums pre, X, HSN.out, hall, HFR.out, y1, y2, (Chg.trans (S := fun q => W3.heap.size ≤ q ∨ q = w.heap.size + 1 ∨ q = w.heap.size + 1 + 1) (Chg.trans (S := fun q => W3.heap.size ≤ q ∨ q = w.heap.size + 1 ∨ q = w.heap.size + 1 + 1) (hc.weaken (fun _ h => .inl h)) hc5 (fun _ _ h => .inl h)) hcW (fun _ _ h => .inr h))⟩
        | false =>
          gi_wp2
          refine ⟨hk5, hc5, ?_, hc.trans hc5 (fun _ _ h => h)⟩
          intro i hi
          rw [HSN.out] at hi
          rcases List.mem_append.1 hi with h | h
          · exact hall i h
          · rw [List.mem_singleton.1 h]; exact HFR.out
      · rw [decide_eq_false h1, Bool.false_and] at HFR
        clear HA
        gi_wp2
        refine ⟨KeepsFrom.refl _ _, Chg.refl _ _, ?_, hc⟩
        intro i hi
        rw [HSN.out] at hi
        rcases List.mem_append.1 hi with h | h
        · exact hall i h
        · rw [List.mem_singleton.1 h]; exact HFR.out
    case done =>
      rintro D ys W hDD hS ⟨hall, hc⟩ hKD
      have hrn : roomI b k.la = none := roomI_none (fun i hi => hall i (by rw [hS]; exact hi))
      rw [hrn] at HRE
      clear hrn hall hS hseg3 hcell3
      have hDl : D < W.heap.size := (Array.getElem?_eq_some_iff.1 hKD).1
      have p0 := n0.chg hc (by show ¬ W3.heap.size ≤ w.heap.size; omega)
      have p1 := n1.chg hc (by show ¬ W3.heap.size ≤ w.heap.size + 1; omega)
      have p2 := n2.chg hc (by show ¬ W3.heap.size ≤ w.heap.size + 1 + 1; omega)
      have pK := hK3.chg hc (by show ¬ W3.heap.size ≤ g; have := hB3.size; omega)
      have pD := hD3.chg hc (fun q hq => by show ¬ W3.heap.size ≤ q; have := hlw q hq; have := hB3.size; omega)
      have hBW : Below w.heap.size w W := hB3.trans (hc.below (B := w.heap.size) (fun q hq => by have := hB3.size; omega) hB3.size)
      have d0 := p0.cell (j := 0) rfl
      have d8 : W.cell? ⟨g, 8, none⟩ = some (.int .i64 (k.wh : Int)) := pK.cell (j := 8) rfl
      obtain ⟨O, hO⟩ : ∃ O : Nat, O = 1 - k.wh := ⟨_, rfl⟩
      have hw1 : IntKind.i64.wrap (1 - (k.wh : Int)) = (O : Int) := by rw [IntKind.wrap_i64]; omega
      have HO : Hid (O = 1 - k.wh) := hO
      have hO1 : O ≤ 1 := by omega
      clear hO
      gi_wp2_with fail
      refine wpIn_wide.2 ?_
      have HCL : Hid (∀ V, Blk V w.heap.size 32 #[.pointer (some ⟨g, 0, none⟩)] → Blk V g 71 (kpC L j k) → V.cell? ⟨w.heap.size, 0, none⟩ = some (.pointer (some ⟨g, 0, none⟩)) ∧ V.cell? ⟨g, 0, none⟩ = some (.pointer (some ⟨L.g, 0, none⟩)) ∧ V.cell? ⟨g, 1, none⟩ = some (.int .i64 (j : Int))) := fun V h1 h2 => ⟨h1.cell (j := 0) rfl, h2.cell (j := 0) rfl, h2.cell (j := 1) rfl⟩
      have hS0 := HCL.out W.drew p0.drew pK.drew
      have HER : Hid (Calls Tryd.prog 17 #[.pointer (some ⟨L.g, 0, none⟩), .int .i64 ((j : Int) + (O : Int))] W.drew fun e w' => e = .returned (.int .i64 (eraseF s ((j : Int) + (O : Int))).1) ∧ PFlash w' L (eraseF s ((j : Int) + (O : Int))).2 ∧ Chg L.T W.drew w') := erase6_any L s _ _ (thePF.after pD (Below.refl _ _).drew)
      refine held_begin (fun V => V.cell? ⟨w.heap.size, 0, none⟩ = some (.pointer (some ⟨g, 0, none⟩)) ∧ V.cell? ⟨g, 0, none⟩ = some (.pointer (some ⟨L.g, 0, none⟩)) ∧ V.cell? ⟨g, 1, none⟩ = some (.int .i64 (j : Int))) (by kernel_rfl) ?_
      refine held_take 0 51 _ (.int .i64 (O : Int)) rfl rfl (by kernel_rfl) (by kernel_rfl) (by kernel_rfl) rfl hS0 (fun _ _ => rfl) ?_
      simp only [Act.put, List.setIfInBounds_toArray, List.set_cons_succ, List.set_cons_zero]
      refine held_take 1 52 _ (.agg #[.int .i64 (O : Int), .int .i64 0]) rfl rfl (by kernel_rfl) (by kernel_rfl) (by kernel_rfl) rfl hS0 (fun _ _ => by kernel_rfl) ?_
      simp only [Act.put, List.setIfInBounds_toArray, List.set_cons_succ, List.set_cons_zero]
      refine held_take 2 53 _ (.pointer (some ⟨g, 0, none⟩)) rfl rfl (by kernel_rfl) (by kernel_rfl) (by kernel_rfl) rfl hS0 (fun V hV => exec_loadc 32 _ rfl _ _ rfl (load_one 32 (fun _ => by kernel_rfl) V _ _ _ hV.1)) ?_
      simp only [Act.put, List.setIfInBounds_toArray, List.set_cons_succ, List.set_cons_zero]
      refine held_take 3 54 _ (.pointer (some ⟨g, 0, none⟩)) rfl rfl (by kernel_rfl) (by kernel_rfl) (by kernel_rfl) rfl hS0 (fun _ _ => rfl) ?_
      simp only [Act.put, List.setIfInBounds_toArray, List.set_cons_succ, List.set_cons_zero]
      refine held_take 4 55 _ (.pointer (some ⟨g, 0, none⟩)) rfl rfl (by kernel_rfl) (by kernel_rfl) (by kernel_rfl) rfl hS0 (fun _ _ => rfl) ?_
      simp only [Act.put, List.setIfInBounds_toArray, List.set_cons_succ, List.set_cons_zero]
      refine held_take 5 56 _ (.pointer (some ⟨L.g, 0, none⟩)) rfl rfl (by kernel_rfl) (by kernel_rfl) (by kernel_rfl) rfl hS0 (fun V hV => exec_loadc 25 _ rfl _ _ rfl (load_one 25 (fun _ => by kernel_rfl) V _ _ _ hV.2.1)) ?_
      simp only [Act.put, List.setIfInBounds_toArray, List.set_cons_succ, List.set_cons_zero]
      refine held_take 6 57 _ (.pointer (some ⟨g, 0, none⟩)) rfl rfl (by kernel_rfl) (by kernel_rfl) (by kernel_rfl) rfl hS0 (fun V hV => exec_loadc 32 _ rfl _ _ rfl (load_one 32 (fun _ => by kernel_rfl) V _ _ _ hV.1)) ?_
      simp only [Act.put, List.setIfInBounds_toArray, List.set_cons_succ, List.set_cons_zero]
      refine held_take 7 58 _ (.pointer (some ⟨g, 0, none⟩)) rfl rfl (by kernel_rfl) (by kernel_rfl) (by kernel_rfl) rfl hS0 (fun _ _ => rfl) ?_
      simp only [Act.put, List.setIfInBounds_toArray, List.set_cons_succ, List.set_cons_zero]
      refine held_take 8 59 _ (.pointer (some ⟨g, 1, none⟩)) rfl rfl (by kernel_rfl) (by kernel_rfl) (by kernel_rfl) rfl hS0 (fun _ _ => rfl) ?_
      simp only [Act.put, List.setIfInBounds_toArray, List.set_cons_succ, List.set_cons_zero]
      refine held_take 9 60 _ (.int .i64 (j : Int)) rfl rfl (by kernel_rfl) (by kernel_rfl) (by kernel_rfl) rfl hS0 (fun V hV => exec_loadc 3 _ rfl _ _ rfl (load_one 3 (fun _ => by kernel_rfl) V _ _ _ hV.2.2)) ?_
      simp only [Act.put, List.setIfInBounds_toArray, List.set_cons_succ, List.set_cons_zero]
      refine held_take 10 61 _ (.int .i64 (O : Int)) rfl rfl (by kernel_rfl) (by kernel_rfl) (by kernel_rfl) rfl hS0 (fun _ _ => rfl) ?_
      simp only [Act.put, List.setIfInBounds_toArray, List.set_cons_succ, List.set_cons_zero]
      refine held_take 11 62 _ (.int .i64 ((j : Int) + (O : Int))) rfl rfl (by kernel_rfl) (by kernel_rfl) (by kernel_rfl) rfl hS0 (fun V _ => exec_add9 3 _ _ rfl (j : Int) (O : Int) rfl rfl (by omega) (by omega)) ?_
      simp only [Act.put, List.setIfInBounds_toArray, List.set_cons_succ, List.set_cons_zero]
      refine held_all1 12 (by kernel_rfl) (op_call 12 63 _ 17 #[.pointer (some ⟨L.g, 0, none⟩), .int .i64 ((j : Int) + (O : Int))] rfl rfl rfl (exec_two8 17 _ _ _ rfl _ _ rfl rfl Tryd.call17) (HER.out.mono ?_))
      rintro e W6 ⟨rfl, hD6, hc6⟩
      have hc6' : Chg L.T W W6 := ((Chg.refl L.T W).drew).trans hc6 (fun _ _ h => h)
      have hnT : ∀ q, w.heap.size ≤ q → ¬ L.T q := fun q hq h => by have := hlw q h; omega
      have q0 := p0.chg hc6' (hnT _ (Nat.le_refl _))
      have q1 := p1.chg hc6' (hnT _ (by omega))
      have q2 := p2.chg hc6' (hnT _ (by omega))
      have qK := pK.chg hc6' hg
      have hS6 := HCL.out W6 q0 qK
      have hKD6 : W6.heap[D]? = some (.deferred (some [])) := by rw [hc6'.2 D hDl (hnT D (by have := hB3.size; have h9 : W3.heap.size ≤ D := hDD; omega))]; exact hKD
      refine ⟨_, rfl, hS6, ?_⟩
      simp only [Act.put, List.setIfInBounds_toArray, List.set_cons_succ, List.set_cons_zero]
      generalize hER : eraseF s ((j : Int) + (O : Int)) = ER at *
      refine held_all1 13 (by kernel_rfl) (op_row 13 _ rfl rfl rfl 68 _ _ rfl (w.heap.size + 1) #[.int .i64 (O : Int), .int .i64 0] rfl rfl 68 _ q1 info_place9 rfl (by simp [Value.oneCell']) ?_)
      intro W7 y1 hg7 hs7
      have hc7 : Chg (fun q => q = w.heap.size + 1) W6 W7 := Chg.of_grown hg7 (fun k e => by cases e; rfl)
      have r0 := q0.chg hc7 (by omega)
      have r2 := q2.chg hc7 (by omega)
      have rK := qK.chg hc7 (by omega)
      have hS7 := HCL.out W7 r0 rK
      refine ⟨hS7, ?_⟩
      have hc8 : Chg (fun q => q = w.heap.size + 1 + 1) W7 (W7.setCell ⟨w.heap.size + 1 + 1, 0, none⟩ (.int .i64 ER.1)) := (Chg.refl _ _).setCell (w.heap.size + 1 + 1) 0 _ (fun _ => rfl)
      have s1 := y1.chg hc8 (by omega)
      have s2 : Blk (W7.setCell ⟨w.heap.size + 1 + 1, 0, none⟩ (.int .i64 ER.1)) (w.heap.size + 1 + 1) 26 #[.int .i64 ER.1] := r2.set 0 (.int .i64 ER.1)
      have hS8 := HCL.out _ (r0.chg hc8 (by omega)) (rK.chg hc8 (by omega))
      refine held_all1 14 (by kernel_rfl) (op_skip 14 _ _ rfl rfl rfl (exec_storeE9 _ _ rfl (w.heap.size + 1 + 1) 0 ER.1 _ rfl rfl (r2.cell (j := 0) rfl) (r2.frozen 0)) ⟨hS8, ?_⟩)
      refine wpAnyH_done (by kernel_rfl) ?_ _
      refine NoPanic.normal ?_
      have hc68 : Chg (fun q => q = w.heap.size + 1 ∨ q = w.heap.size + 1 + 1) W6 (W7.setCell ⟨w.heap.size + 1 + 1, 0, none⟩ (.int .i64 ER.1)) := (hc7.weaken (fun _ h => .inl h)).trans hc8 (fun _ _ h => .inr h)
      have hDW3 : W3.heap.size ≤ D := hDD
      have hKD8 : (W7.setCell ⟨w.heap.size + 1 + 1, 0, none⟩ (.int .i64 ER.1)).heap[D]? = some (.deferred (some [])) := by rw [hc68.2 D (Array.getElem?_eq_some_iff.1 hKD6).1 (fun e => by omega)]; exact hKD6
      have hD8 := hD6.chg hc68 (fun q hq e => by have := hlw q hq; omega)
      generalize W7.setCell ⟨w.heap.size + 1 + 1, 0, none⟩ (.int .i64 ER.1) = W8 at *
      have hc9 : Chg (fun q => q = D) W8 (W8.putObj D (.deferred none)) := Chg.of_grown (grownBy_putObj' _ D (.deferred none)) (fun k e => by cases e; rfl)
      gi_wp2
      (try simp only [Exit.noGoto])
      refine ⟨by simp, .inl ⟨_, _, rfl, run_takeDeferred hKD8, ?_⟩⟩
      refine ⟨_, room_results _ _ _ _ _ _ _ rfl rfl (s1.chg hc9 (by omega)) ((s2.chg hc9 (by omega)).cell (j := 0) rfl), ?_⟩
      rw [HRE.out]
      have hee : eraseF s ((j + (1 - k.wh) : Nat) : Int) = ER := by rw [← hER, HO.out, Int.natCast_add]
      refine ⟨by dsimp only; rw [hee, ← HO.out]; rfl, by dsimp only; rw [hee]; exact hD8.chg hc9 (fun q hq e => by have := hlw q hq; have := hB3.size; omega), ?_⟩
      exact (Chg.trans (S := L.T) (Chg.trans (S := L.T) (Chg.trans (S := L.T) (Chg.of_below hBW (Nat.le_refl _)) hc6' (fun _ _ h => h)) hc68 (fun q hq e => by omega)) hc9 (fun q hq e => by have := hB3.size; omega))
    case stop =>
      rintro D c pre W hDD ⟨kk, hkk, hr⟩ ⟨rfl, q, i, hq, hall, hfi, y1, y2, hc⟩ hKD
      have hrs : roomI b k.la = some i := roomI_some hkk (hr.symm.trans hq) hall hfi
      rw [hrs] at HRE
      have hDW3 : W3.heap.size ≤ D := hDD
      have hc9 : Chg (fun q => q = D) W (W.putObj D (.deferred none)) := Chg.of_grown (grownBy_putObj' _ D (.deferred none)) (fun k e => by cases e; rfl)
      have hBW : Below w.heap.size w W := hB3.trans (hc.below (B := w.heap.size) (fun q hq => by have := hB3.size; omega) hB3.size)
      have pD := hD3.chg hc (fun q hq => by have := hlw q hq; have := hB3.size; omega)
      clear hrs hr hq hall hfi
      gi_wp2
      (try simp only [Exit.noGoto])
      refine ⟨by simp, .inl ⟨_, _, rfl, run_takeDeferred hKD, ?_⟩⟩
      refine ⟨_, room_results _ _ _ _ _ _ _ rfl rfl (y1.chg hc9 (by omega)) ((y2.chg hc9 (by omega)).cell (j := 0) rfl), ?_⟩
      rw [HRE.out]
      exact ⟨rfl, pD.chg hc9 (fun q hq e => by have := hlw q hq; have := hB3.size; omega), Chg.of_below (hBW.trans (hc9.below (B := w.heap.size) (fun q hq => by have := hB3.size; omega) hBW.size)) (Nat.le_refl _)⟩
end Go.Proofs.YtbdhkkdombdnkaaDoor
namespace Go.Proofs.YtbdhkkdombdnkaaDoor
open Go.RowKit

theorem keepsFrom_mono9 {A B : Nat} {W W' : World} (h : KeepsFrom A W W') (hB : A ≤ B) : KeepsFrom B W W' := ⟨h.size, fun k o hk h0 ho => h.same k o (Nat.le_trans hB hk) h0 ho⟩
theorem keepsFrom_put9 {A l : Nat} {W : World} {o' : Obj} (hl : l < A) : KeepsFrom A W (W.putObj l o') :=
  ⟨by simp, fun k o hk h0 _ => (World.putObj_heap_other (by omega)).trans h0⟩
theorem keepsFrom_alloc9 {A : Nat} {W : World} (o : Obj) : KeepsFrom A W (W.alloc o) :=
  keeps_chg9 (S := fun _ => False) A ((Chg.refl _ W).alloc o) (fun _ h => h.elim)
/-- What a function that is looped over must bring. -/
def Brings {α : Type} (n gf : Nat) (lb : Array Value) (encs : α → Array Value) (S : Nat → Prop) (D : List α → Prop) (w : World) : Prop :=
  ∀ (l : Nat) (J : List α → World → Prop) (W : World), Below w.heap.size w W → w.heap.size ≤ l → l < W.heap.size → OwnFrom W.heap.size J →
    (∀ (pre : List α) (x : α) (W1 : World), J pre W1 → YieldAt Fence.wide (n - 1) Tryd.prog l (encs x) W1 fun e W' => e = .returned (.bool true) ∧ J (pre ++ [x]) W' ∧ KeepsFrom W.heap.size W1 W' ∧ Chg (fun q => S q ∨ q = l) W1 W') →
    J [] W → CallsIn Fence.wide n Tryd.prog gf (#[.func (.yield l) #[] #[]] ++ lb) W fun e W' => (∃ v, e = .returned v) ∧ ∃ xs, D xs ∧ J xs W'

theorem over_all {α : Type} {g : Operand} {ps : Array Tmp} {assign body : Code} {Q : Exit → Act → World → Prop} {a : Act} {w : World} {n : Nat} (h1 : 1 ≤ n) {gf : Nat} {lb : Array Value} (hg : a.eval g = .func (.func gf) #[] lb) (eg : ∀ args w, (callFunc gf args).run Tryd.prog w = .ok (.enter gf args) w)
    {encs : α → Array Value} {S : Nat → Prop} {D : List α → Prop} (hseq : Brings (n - 1) gf lb encs S D w) (hps : ∀ x, (encs x).size = ps.size)
    (I : List α → World → Prop) (hI : OwnFrom w.heap.size I) (h0 : I [] w) (ob : α → Obj) (a₁ : α → Nat → Act)
    (hassign : ∀ (l : Nat) (x : α) (W : World) (K : Act → World → Prop), K (a₁ x W.heap.size) (W.alloc (ob x)) → assign.wpIn (Fence.wide.inRound l) (n - 1 - 1) Tryd.prog (Exit.then K (fun _ _ _ => False)) { tmps := (ps.zip (encs x)).foldl (fun t (p, v) => t.setIfInBounds p v) a.tmps, defers := [] } W)
    (hbody : ∀ (l : Nat) (pre : List α) (x : α) (N : Nat) (V : World), I pre V → V.heap[N]? = some (ob x) → w.heap.size ≤ N →
      body.wpIn (Fence.wide.inRound l) (n - 1 - 1) Tryd.prog (fun e _ W' => e = .normal ∧ KeepsFrom w.heap.size V W' ∧ Chg S V W' ∧ I (pre ++ [x]) W') (a₁ x N) V)
    (hdone : ∀ (B : Nat) (xs : List α) (W : World), w.heap.size ≤ B → D xs → I xs W → W.heap[B]? = some (.deferred (some [])) → Q .normal { a with defers := { target := .collected B, args := #[] } :: a.defers } W) :
    (Code.rangeFunc g ps assign body).wpIn Fence.wide n Tryd.prog Q a w := by
  refine wpIn_rangeFunc fun fn hfn => ?_
  obtain ⟨R, hR⟩ : ∃ R : LoopState → Option Code → Loop, R = fun st pe => { state := st, pending := pe, fn, tmps := a.tmps, params := ps, assign, body, defers := w.heap.size } := ⟨_, rfl⟩
  have hRs : ∀ st pe, (R st pe).state = st := fun st pe => by rw [hR]
  have hRb : ∀ st pe st', { R st pe with state := st' } = R st' pe := fun st pe st' => by rw [hR]
  obtain ⟨W1, hW1⟩ : ∃ W1, W1 = (w.alloc (.deferred (some []))).alloc (.loop (R .ready none)) := ⟨_, rfl⟩
  have hs1 : W1.heap.size = w.heap.size + 1 + 1 := by rw [hW1]; simp
  have hb1 : Below w.heap.size w W1 := by rw [hW1]; exact ((Below.refl _ _).alloc (Nat.le_refl _) _).alloc (by simp) _
  have hl1 : W1.heap[w.heap.size + 1]? = some (.loop (R .ready none)) := by
    rw [hW1]
    have := World.alloc_heap_new (w.alloc (.deferred (some []))) (.loop (R .ready none))
    rwa [World.size_alloc] at this
  have hd1 : W1.heap[w.heap.size]? = some (.deferred (some [])) := by
    rw [hW1]; exact (Below.heap_alloc _ _ _ (by simp)).trans (World.alloc_heap_new w _)
  have hi1 : I [] W1 := by rw [hW1]; exact hI.alloc _ (hI.alloc _ h0)
  refine ⟨w.heap.size + 1, [{ target := .collected w.heap.size, args := #[] }], W1, { target := .fn (.func gf) lb, args := #[.func (.yield (w.heap.size + 1)) #[] #[]] }, W1, gf, #[.func (.yield (w.heap.size + 1)) #[] #[]] ++ lb, W1, ?_, ?_, fun _ _ => trivial, ?_, fun _ => h1, ?_⟩
  · rw [hW1, hR]; exact run_enterLoop_outer _ _ _ _ _
  · simp only [resolve, hg]
    simp [go_sem]
  · simp [invoke, go_sem, eg]
  refine (hseq (w.heap.size + 1) (fun pre W => I pre W ∧ W.heap[w.heap.size + 1]? = some (.loop (R .ready none)) ∧ W.heap[w.heap.size]? = some (.deferred (some []))) W1 hb1 (by omega) (by omega) ?own ?rounds ⟨hi1, hl1, hd1⟩).mono ?_
  case own =>
    rintro s A B row ⟨k1, k2, k3⟩ hgr hr
    refine ⟨hI s A B row k1 hgr (fun r e => ⟨by have := (hr r e).1; omega, (hr r e).2⟩), ?_, ?_⟩
    · rw [hgr.block _ (Array.getElem?_eq_some_iff.1 k2).1 (fun e => by have := (hr _ e.symm).1; omega)]; exact k2
    · rw [hgr.block _ (Array.getElem?_eq_some_iff.1 k3).1 (fun e => by have := (hr _ e.symm).1; omega)]; exact k3
  case rounds =>
    rintro pre x W ⟨hi, hl, hd⟩
    have hlt : w.heap.size + 1 < W.heap.size := (Array.getElem?_eq_some_iff.1 hl).1
    have hy := run_yield (P := Tryd.prog) (args := encs x) hl (by rw [hR]; exact hps x)
    rw [hR] at hy
    refine ⟨fn, _, assign, body, hy, roundIn_of_wpIn hfn (hassign _ x W _ ?_)⟩
    clear hy
    have hlA : (W.alloc (ob x)).heap[w.heap.size + 1]? = some (.loop (R .ready none)) := (Below.heap_alloc _ _ _ hlt).trans hl
    have hdA : (W.alloc (ob x)).heap[w.heap.size]? = some (.deferred (some [])) := (Below.heap_alloc _ _ _ (by omega)).trans hd
    have hoA : (W.alloc (ob x)).heap[W.heap.size]? = some (ob x) := World.alloc_heap_new W _
    have hiA : I pre (W.alloc (ob x)) := hI.alloc _ hi
    have hsA : w.heap.size + 1 < (W.alloc (ob x)).heap.size := by simp; omega
    have hkA : KeepsFrom W1.heap.size W (W.alloc (ob x)) := keepsFrom_alloc9 _
    have hcA : Chg (fun q => S q ∨ q = w.heap.size + 1) W (W.alloc (ob x)) := (Chg.refl _ W).alloc _
    refine ⟨_, run_beginRound hlA (hRs _ _), ?_⟩
    rw [hRb]
    generalize W.alloc (ob x) = A at *
    have hlV : (A.putObj (w.heap.size + 1) (.loop (R .busy none))).heap[w.heap.size + 1]? = some (.loop (R .busy none)) := World.putObj_heap_same hsA
    have hdV : (A.putObj (w.heap.size + 1) (.loop (R .busy none))).heap[w.heap.size]? = some (.deferred (some [])) := (World.putObj_heap_other (by omega)).trans hdA
    have hoV : (A.putObj (w.heap.size + 1) (.loop (R .busy none))).heap[W.heap.size]? = some (ob x) := (World.putObj_heap_other (by omega)).trans hoA
    have hiV : I pre (A.putObj (w.heap.size + 1) (.loop (R .busy none))) := hI.putObj _ hiA (by omega) hlA rfl
    have hkV : KeepsFrom W1.heap.size A (A.putObj (w.heap.size + 1) (.loop (R .busy none))) := keepsFrom_put9 (by omega)
    have hcV : Chg (fun q => S q ∨ q = w.heap.size + 1) A (A.putObj (w.heap.size + 1) (.loop (R .busy none))) := Chg.of_grown (grownBy_putObj' _ _ _) (fun k e => by cases e; exact .inr rfl)
    generalize A.putObj (w.heap.size + 1) (.loop (R .busy none)) = V at *
    refine wpIn_mono (hbody _ pre x W.heap.size V hiV hoV (by omega)) ?_
    rintro e a3 W3 ⟨rfl, hk3, hc3, hi3⟩
    have hl3 := hk3.same _ _ (by omega) hlV rfl
    have hd3 := hk3.same _ _ (Nat.le_refl _) hdV rfl
    have hlt3 : w.heap.size + 1 < W3.heap.size := (Array.getElem?_eq_some_iff.1 hl3).1
    have hen := run_endRound (P := Tryd.prog) none hl3
    have hfin : { R .busy none with state := if (none : Option Code).isNone = true then LoopState.ready else .done, pending := none } = R .ready none := by rw [hR]; rfl
    rw [hfin] at hen
    refine ⟨_, _, hen, rfl, ⟨hI.putObj _ hi3 (by omega) hl3 rfl, World.putObj_heap_same hlt3, (World.putObj_heap_other (by omega)).trans hd3⟩, ?_, ?_⟩
    · exact ((hkA.trans hkV).trans (keepsFrom_mono9 hk3 (by omega))).trans (keepsFrom_put9 (by omega))
    · exact ((hcA.trans hcV (fun _ _ h => h)).trans hc3 (fun _ _ h => .inl h)).trans (Chg.of_grown (S := fun q => S q ∨ q = w.heap.size + 1) (grownBy_putObj' _ _ _) (fun k e => by cases e; exact .inr rfl)) (fun _ _ h => h)
  · rintro e W2 ⟨⟨v, rfl⟩, xs, hD, hi, hl, hd⟩
    refine ⟨none, _, by have := run_endLoop (P := Tryd.prog) hl (by rw [hRs]; simp); rw [hR] at this; exact this, hdone w.heap.size xs _ (Nat.le_refl _) hD (hI.putObj _ hi (by omega) hl rfl) ((World.putObj_heap_other (by omega)).trans hd)⟩
end Go.Proofs.YtbdhkkdombdnkaaDoor
