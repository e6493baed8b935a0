/-
  What is proved here: how a keeper lies in memory; Keeper.read tells the bytes of one of its two blocks.
  Conditions: the keeper and its flash lie in memory, and the two blocks are there.
-/
import Derived.Test.YtoemdmfpcobadaaDoorJBootPlaces
namespace Go.Proofs.YtoemdmfpcobadaaDoor
open Go.RowKit

def kpC (L : PLay6) (j : Nat) (k : KS) : Array Value := #[.pointer (some ⟨L.g, 0, none⟩), .int .i64 (j : Int), .int .i64 (k.gen : Int), .int .i64 k.r.active, .int .i64 k.r.trial, .int .i64 k.r.tries, .int .i64 k.r.v0, .int .i64 k.r.v1, .int .i64 (k.wh : Int), .int .i64 k.la, .bool k.br]
theorem exec_add9 {a : Act} {o : Oper} {w : World} (t : TypeId) (x y : Operand) (ho : o.op = .binOp .add t x y t) (m n : Int) (hx : a.eval x = .int .i64 m) (hy : a.eval y = .int .i64 n) (h0 : -9223372036854775808 ≤ m + n) (h1 : m + n < 9223372036854775808) : (execOp a.eval o).run Tryd.prog w = .ok (.value (.int .i64 (m + n))) w := by
  have hw : IntKind.i64.wrap (m + n) = m + n := by rw [IntKind.wrap_i64]; omega
  unfold execOp
  simp [ho, hx, hy]
  rw [← hw]
  rfl
theorem exec_mul9 {a : Act} {o : Oper} {w : World} (t : TypeId) (x y : Operand) (ho : o.op = .binOp .mul t x y t) (m n : Int) (hx : a.eval x = .int .i64 m) (hy : a.eval y = .int .i64 n) (h0 : -9223372036854775808 ≤ m * n) (h1 : m * n < 9223372036854775808) : (execOp a.eval o).run Tryd.prog w = .ok (.value (.int .i64 (m * n))) w := by
  have hw : IntKind.i64.wrap (m * n) = m * n := by
    generalize m * n = z at *
    rw [IntKind.wrap_i64]; omega
  unfold execOp
  simp [ho, hx, hy]
  rw [← hw]
  rfl
theorem there9 {s : FS} {a m : Int} (h0 : 0 ≤ m) (h1 : m ≤ 4096) (h2 : 0 ≤ a) (h3 : a ≤ (s.b.length : Int) - m) : thereB s a m = true := by
  unfold thereB
  rw [decide_eq_true h0, decide_eq_true h1, decide_eq_true h2, decide_eq_true h3]
  rfl
/-- What a look at a block tells. -/
def lookB (s : FS) (j : Nat) : List UInt8 := if s.down then [] else blkB s j
def lookE (s : FS) : Int := if s.down then 7 else 0
theorem read_blk {s : FS} {n j wh : Nat} (hs : s.ok n) (h : j + wh < n) : readF s (((j : Int) + (wh : Int)) * 1024) 1024 = (lookB s (j + wh), lookE s) := by
  have hl := hs.b
  unfold readF lookB lookE
  by_cases hd : s.down = true
  · rw [if_pos hd, if_pos hd, if_pos hd]
  · rw [if_neg hd, if_neg hd, if_neg hd, there9 (by decide) (by decide) (by omega) (by omega), if_neg (by decide)]
    unfold blkB
    rw [show (((j : Int) + (wh : Int)) * 1024).toNat = 1024 * (j + wh) by omega]
    rfl
theorem blkB_len {s : FS} {n j : Nat} (hs : s.ok n) (h : j < n) : (blkB s j).length = 1024 := by
  unfold blkB
  rw [List.length_take, List.length_drop, hs.b]
  omega

set_option maxRecDepth 100000 in
set_option maxHeartbeats 1000000 in
theorem read9_any (L : PLay6) (s : FS) (g j wh : Nat) (k : KS) (w : World) (hK : Blk w g 71 (kpC L j k)) (hD : PFlash w L s) (hj : j + wh < L.n) :
    Calls Tryd.prog 48 #[.pointer (some ⟨g, 0, none⟩), .int .i64 (wh : Int)] w fun e w' => ∃ v, e = .returned (.tuple #[v, .int .i64 (lookE s)]) ∧ Own w' w.heap.size v (lookB s (j + wh)) ∧ Below w.heap.size w w' := by
  have hcap := hD.ok.cap
  have HR : Hid (∀ W, PFlash W L s → Calls Tryd.prog 23 #[.pointer (some ⟨L.g, 0, none⟩), .int .i64 (((j : Int) + (wh : Int)) * 1024), .int .i64 1024] W fun e w' => ∃ v, e = .returned (.tuple #[v, .int .i64 (lookE s)]) ∧ Own w' W.heap.size v (lookB s (j + wh)) ∧ Below W.heap.size W w') := fun W hW => by
    have := read6_any L s (((j : Int) + (wh : Int)) * 1024) 1024 W hW
    rw [read_blk hD.ok hj] at this
    exact this
  have HC : Hid (∀ V, Below w.heap.size w V → V.cell? ⟨g, 0, none⟩ = some (.pointer (some ⟨L.g, 0, none⟩)) ∧ V.cell? ⟨g, 1, none⟩ = some (.int .i64 (j : Int))) := fun V hV => ⟨(hK.below hV hK.lt).cell (j := 0) rfl, (hK.below hV hK.lt).cell (j := 1) rfl⟩
  have hS0 := HC.out w.drew (Below.refl _ _).drew
  have HD : Hid (PFlash w.drew L s) := thePF.after hD (Below.refl _ _).drew
  clear hK hD
  go_enter Tryd.func48, Tryd.ntmps48
  go_wp2_with fail
  refine held_begin (fun V => V.cell? ⟨g, 0, none⟩ = some (.pointer (some ⟨L.g, 0, none⟩)) ∧ V.cell? ⟨g, 1, none⟩ = some (.int .i64 (j : Int))) (by kernel_rfl) ?_
  refine held_take 0 6 _ (.pointer (some ⟨g, 0, none⟩)) rfl rfl (by kernel_rfl) (by kernel_rfl) (by kernel_rfl) rfl hS0 (fun _ _ => rfl) ?_
  simp only [Act.put, List.setIfInBounds_toArray, List.set_cons_succ, List.set_cons_zero]
  refine held_take 1 7 _ (.pointer (some ⟨g, 0, none⟩)) rfl rfl (by kernel_rfl) (by kernel_rfl) (by kernel_rfl) rfl hS0 (fun _ _ => rfl) ?_
  simp only [Act.put, List.setIfInBounds_toArray, List.set_cons_succ, List.set_cons_zero]
  refine held_take 2 8 _ (.pointer (some ⟨g, 0, none⟩)) rfl rfl (by kernel_rfl) (by kernel_rfl) (by kernel_rfl) rfl hS0 (fun _ _ => rfl) ?_
  simp only [Act.put, List.setIfInBounds_toArray, List.set_cons_succ, List.set_cons_zero]
  refine held_take 3 9 _ (.pointer (some ⟨L.g, 0, none⟩)) rfl rfl (by kernel_rfl) (by kernel_rfl) (by kernel_rfl) rfl hS0 (fun V hV => exec_loadc 25 _ rfl _ _ rfl (load_one 25 (fun _ => by kernel_rfl) V _ _ _ hV.1)) ?_
  simp only [Act.put, List.setIfInBounds_toArray, List.set_cons_succ, List.set_cons_zero]
  refine held_take 4 10 _ (.pointer (some ⟨g, 0, none⟩)) rfl rfl (by kernel_rfl) (by kernel_rfl) (by kernel_rfl) rfl hS0 (fun _ _ => rfl) ?_
  simp only [Act.put, List.setIfInBounds_toArray, List.set_cons_succ, List.set_cons_zero]
  refine held_take 5 11 _ (.pointer (some ⟨g, 0, none⟩)) rfl rfl (by kernel_rfl) (by kernel_rfl) (by kernel_rfl) rfl hS0 (fun _ _ => rfl) ?_
  simp only [Act.put, List.setIfInBounds_toArray, List.set_cons_succ, List.set_cons_zero]
  refine held_take 6 12 _ (.pointer (some ⟨g, 1, none⟩)) rfl rfl (by kernel_rfl) (by kernel_rfl) (by kernel_rfl) rfl hS0 (fun _ _ => rfl) ?_
  simp only [Act.put, List.setIfInBounds_toArray, List.set_cons_succ, List.set_cons_zero]
  refine held_take 7 13 _ (.int .i64 (j : Int)) rfl rfl (by kernel_rfl) (by kernel_rfl) (by kernel_rfl) rfl hS0 (fun V hV => exec_loadc 3 _ rfl _ _ rfl (load_one 3 (fun _ => by kernel_rfl) V _ _ _ hV.2)) ?_
  simp only [Act.put, List.setIfInBounds_toArray, List.set_cons_succ, List.set_cons_zero]
  refine held_take 8 14 _ (.int .i64 (wh : Int)) rfl rfl (by kernel_rfl) (by kernel_rfl) (by kernel_rfl) rfl hS0 (fun _ _ => rfl) ?_
  simp only [Act.put, List.setIfInBounds_toArray, List.set_cons_succ, List.set_cons_zero]
  refine held_take 9 15 _ (.int .i64 ((j : Int) + (wh : Int))) rfl rfl (by kernel_rfl) (by kernel_rfl) (by kernel_rfl) rfl hS0 (fun V _ => exec_add9 3 _ _ rfl (j : Int) (wh : Int) rfl rfl (by omega) (by omega)) ?_
  simp only [Act.put, List.setIfInBounds_toArray, List.set_cons_succ, List.set_cons_zero]
  refine held_take 10 16 _ (.int .i64 (((j : Int) + (wh : Int)) * 1024)) rfl rfl (by kernel_rfl) (by kernel_rfl) (by kernel_rfl) rfl hS0 (fun V _ => exec_mul9 3 _ _ rfl ((j : Int) + (wh : Int)) 1024 rfl rfl (by omega) (by omega)) ?_
  simp only [Act.put, List.setIfInBounds_toArray, List.set_cons_succ, List.set_cons_zero]
  refine held_all1 11 (by kernel_rfl) (op_call 11 17 _ 23 #[.pointer (some ⟨L.g, 0, none⟩), .int .i64 (((j : Int) + (wh : Int)) * 1024), .int .i64 1024] rfl rfl rfl (exec_three8 23 _ _ _ _ rfl _ _ _ rfl rfl rfl Tryd.call23) ((HR.out _ HD.out).mono ?_))
  rintro e W1 ⟨v1, rfl, ho1, hb1⟩
  have hB1 : Below w.heap.size w W1 := ((Below.refl w.heap.size w).drew).trans hb1
  have hS1 := HC.out W1 hB1
  refine ⟨_, rfl, hS1, ?_⟩
  simp only [Act.put, List.setIfInBounds_toArray, List.set_cons_succ, List.set_cons_zero]
  refine held_take 12 18 _ (v1) rfl rfl (by kernel_rfl) (by kernel_rfl) (by kernel_rfl) rfl hS1 (fun _ _ => rfl) ?_
  simp only [Act.put, List.setIfInBounds_toArray, List.set_cons_succ, List.set_cons_zero]
  refine held_take 13 19 _ (.int .i64 (lookE s)) rfl rfl (by kernel_rfl) (by kernel_rfl) (by kernel_rfl) rfl hS1 (fun _ _ => rfl) ?_
  simp only [Act.put, List.setIfInBounds_toArray, List.set_cons_succ, List.set_cons_zero]
  refine held_take 14 4 _ (v1) rfl rfl (by kernel_rfl) (by kernel_rfl) (by kernel_rfl) rfl hS1 (fun _ _ => rfl) ?_
  simp only [Act.put, List.setIfInBounds_toArray, List.set_cons_succ, List.set_cons_zero]
  refine held_take 15 5 _ (.int .i64 (lookE s)) rfl rfl (by kernel_rfl) (by kernel_rfl) (by kernel_rfl) rfl hS1 (fun _ _ => rfl) ?_
  simp only [Act.put, List.setIfInBounds_toArray, List.set_cons_succ, List.set_cons_zero]
  refine wpAnyH_done (by kernel_rfl) ?_ _
  refine NoPanic.normal ?_
  go_wp2
  go_ret2
  exact ⟨v1, rfl, ho1, hB1⟩
end Go.Proofs.YtoemdmfpcobadaaDoor
