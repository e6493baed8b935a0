/-
  What is proved here: wire.numbersOf tells where the numbers of a message's kind stand.
  Conditions: the message lies in memory.
-/
import Derived.Test.YtgfcindkfnjeoaaJWireMessP
import Derived.Test.YtgfcindkfnjeoaaJWireKit
namespace Go.Proofs.Ytgfcindkfnjeoaa
open Go.RowKit

/-- Numbers of a message, as numbersOf tells them. -/
def NumsAt (w : World) (B : Nat) (v : Value) (l : List (Nat × Nat × Nat)) : Prop := ∃ ao c, v = .slice ao l.length c ∧ ∀ (i : Nat) n, l[i]? = some n → ∃ g, ao = some ⟨g, 0, none⟩ ∧ g < w.heap.size ∧ w.cell? ⟨g, i * 3, none⟩ = some (.pointer (some ⟨B, n.1, none⟩)) ∧ w.cell? ⟨g, i * 3 + 1, none⟩ = some (.int .i64 (n.2.1 : Int)) ∧ w.cell? ⟨g, i * 3 + 2, none⟩ = some (.int .i64 (n.2.2 : Int))
def numCs (B : Nat) (l : List (Nat × Nat × Nat)) : List Value := l.flatMap fun n => [.pointer (some ⟨B, n.1, none⟩), .int .i64 (n.2.1 : Int), .int .i64 (n.2.2 : Int)]
theorem numCs_at (B : Nat) : ∀ (l : List (Nat × Nat × Nat)) (i j : Nat) (n : Nat × Nat × Nat), l[i]? = some n → j < 3 → (numCs B l)[i * 3 + j]? = ([.pointer (some ⟨B, n.1, none⟩), .int .i64 (n.2.1 : Int), .int .i64 (n.2.2 : Int)] : List Value)[j]?
  | [], _, _, _, h, _ => by cases h
  | x :: l, 0, j, n, h, hj => by
    cases h
    show ([Value.pointer (some ⟨B, x.1, none⟩), .int .i64 (x.2.1 : Int), .int .i64 (x.2.2 : Int)] ++ numCs B l)[0 * 3 + j]? = _
    rw [Nat.zero_mul, Nat.zero_add, List.getElem?_append_left (by exact hj)]
  | x :: l, i + 1, j, n, h, hj => by
    show ([Value.pointer (some ⟨B, x.1, none⟩), .int .i64 (x.2.1 : Int), .int .i64 (x.2.2 : Int)] ++ numCs B l)[(i + 1) * 3 + j]? = _
    rw [List.getElem?_append_right (by show 3 ≤ _; omega)]
    show (numCs B l)[(i + 1) * 3 + j - 3]? = _
    rw [show (i + 1) * 3 + j - 3 = i * 3 + j by omega]
    exact numCs_at B l i j n h hj
theorem numsAt_of {w : World} {B g c : Nat} {l : List (Nat × Nat × Nat)} (hk : Blk w g 59 (numCs B l).toArray) : NumsAt w B (.slice (some ⟨g, 0, none⟩) l.length c) l := by
  refine ⟨_, c, rfl, fun i n hn => ⟨g, rfl, hk.lt, ?_, ?_, ?_⟩⟩
  · exact hk.cell (by rw [List.getElem?_toArray]; exact numCs_at B l i 0 n hn (by decide))
  · exact hk.cell (by rw [List.getElem?_toArray]; exact numCs_at B l i 1 n hn (by decide))
  · exact hk.cell (by rw [List.getElem?_toArray]; exact numCs_at B l i 2 n hn (by decide))
theorem NumsAt.after {w w' : World} {B : Nat} {v : Value} {l : List (Nat × Nat × Nat)} (h : NumsAt w B v l) (hb : Below w.heap.size w w') : NumsAt w' B v l := by
  obtain ⟨ao, c, hv, h⟩ := h
  refine ⟨ao, c, hv, fun i n hn => ?_⟩
  obtain ⟨g, h1, h2, h3, h4, h5⟩ := h i n hn
  exact ⟨g, h1, Nat.lt_of_lt_of_le h2 hb.size, (hb.cell (p := ⟨g, i * 3, none⟩) h2).trans h3, (hb.cell (p := ⟨g, i * 3 + 1, none⟩) h2).trans h4, (hb.cell (p := ⟨g, i * 3 + 2, none⟩) h2).trans h5⟩
/-- A block that is none of these numbers' changes. -/
theorem NumsAt.grown {w w' : World} {B R : Nat} {v : Value} {l : List (Nat × Nat × Nat)} (h : NumsAt w B v l) (hg : w.grownBy w' (some R)) (hne : v.ownBlock ≠ some R) : NumsAt w' B v l := by
  obtain ⟨ao, c, rfl, h⟩ := h
  refine ⟨ao, c, rfl, fun i n hn => ?_⟩
  obtain ⟨g, rfl, h2, h3, h4, h5⟩ := h i n hn
  have hq : some g ≠ some R := fun e => hne (by cases e; rfl)
  have hc := fun o => World.cell?_of_block (a := ⟨g, o, none⟩) (hg.block g h2 hq)
  exact ⟨g, rfl, Nat.lt_of_lt_of_le h2 hg.size, (hc _).trans h3, (hc _).trans h4, (hc _).trans h5⟩

theorem info_wnum : (Try.prog.info? 59).map (·.size) = some 3 := by kernel_rfl
theorem nums_begin (B : Nat) (k : Int) (w : World) (hk : w.cell? ⟨B, 0, none⟩ = some (.int .i64 k)) (hBl : B < w.heap.size) : ((((((w.alloc (.cells #[.pointer (some ⟨B, 1, none⟩), .int .i64 1, .int .i64 4096] 59)).alloc (.cells #[.pointer (some ⟨B, 5, none⟩), .int .i64 1, .int .i64 1073741824] 59)).alloc (.cells #[.pointer (some ⟨B, 2, none⟩), .int .i64 1, .int .i64 1073741824] 59)).alloc (.cells #[.pointer (some ⟨B, 3, none⟩), .int .i64 1, .int .i64 1073741824] 59)).alloc (.cells #[.pointer (some ⟨B, 6, none⟩), .int .i64 0, .int .i64 127] 59)).alloc (.cells #[.pointer (some ⟨B, 7, none⟩), .int .i64 1, .int .i64 3] 59)).cell? ⟨B, 0, none⟩ = some (.int .i64 k) ∧ Below w.heap.size w ((((((w.alloc (.cells #[.pointer (some ⟨B, 1, none⟩), .int .i64 1, .int .i64 4096] 59)).alloc (.cells #[.pointer (some ⟨B, 5, none⟩), .int .i64 1, .int .i64 1073741824] 59)).alloc (.cells #[.pointer (some ⟨B, 2, none⟩), .int .i64 1, .int .i64 1073741824] 59)).alloc (.cells #[.pointer (some ⟨B, 3, none⟩), .int .i64 1, .int .i64 1073741824] 59)).alloc (.cells #[.pointer (some ⟨B, 6, none⟩), .int .i64 0, .int .i64 127] 59)).alloc (.cells #[.pointer (some ⟨B, 7, none⟩), .int .i64 1, .int .i64 3] 59)) := by
  have hb : Below w.heap.size w ((((((w.alloc (.cells #[.pointer (some ⟨B, 1, none⟩), .int .i64 1, .int .i64 4096] 59)).alloc (.cells #[.pointer (some ⟨B, 5, none⟩), .int .i64 1, .int .i64 1073741824] 59)).alloc (.cells #[.pointer (some ⟨B, 2, none⟩), .int .i64 1, .int .i64 1073741824] 59)).alloc (.cells #[.pointer (some ⟨B, 3, none⟩), .int .i64 1, .int .i64 1073741824] 59)).alloc (.cells #[.pointer (some ⟨B, 6, none⟩), .int .i64 0, .int .i64 127] 59)).alloc (.cells #[.pointer (some ⟨B, 7, none⟩), .int .i64 1, .int .i64 3] 59)) := ((((((Below.refl w.heap.size w).alloc (Nat.le_refl _) _).alloc (by simp) _).alloc (by simp; omega) _).alloc (by simp; omega) _).alloc (by simp; omega) _).alloc (by simp; omega) _
  exact ⟨(hb.cell (p := ⟨B, 0, none⟩) hBl).trans hk, hb⟩
theorem nums_blks (B : Nat) (w : World) : Blk ((((((w.alloc (.cells #[.pointer (some ⟨B, 1, none⟩), .int .i64 1, .int .i64 4096] 59)).alloc (.cells #[.pointer (some ⟨B, 5, none⟩), .int .i64 1, .int .i64 1073741824] 59)).alloc (.cells #[.pointer (some ⟨B, 2, none⟩), .int .i64 1, .int .i64 1073741824] 59)).alloc (.cells #[.pointer (some ⟨B, 3, none⟩), .int .i64 1, .int .i64 1073741824] 59)).alloc (.cells #[.pointer (some ⟨B, 6, none⟩), .int .i64 0, .int .i64 127] 59)).alloc (.cells #[.pointer (some ⟨B, 7, none⟩), .int .i64 1, .int .i64 3] 59)) (w.heap.size) 59 #[.pointer (some ⟨B, 1, none⟩), .int .i64 1, .int .i64 4096] ∧ Blk ((((((w.alloc (.cells #[.pointer (some ⟨B, 1, none⟩), .int .i64 1, .int .i64 4096] 59)).alloc (.cells #[.pointer (some ⟨B, 5, none⟩), .int .i64 1, .int .i64 1073741824] 59)).alloc (.cells #[.pointer (some ⟨B, 2, none⟩), .int .i64 1, .int .i64 1073741824] 59)).alloc (.cells #[.pointer (some ⟨B, 3, none⟩), .int .i64 1, .int .i64 1073741824] 59)).alloc (.cells #[.pointer (some ⟨B, 6, none⟩), .int .i64 0, .int .i64 127] 59)).alloc (.cells #[.pointer (some ⟨B, 7, none⟩), .int .i64 1, .int .i64 3] 59)) (w.heap.size + 1) 59 #[.pointer (some ⟨B, 5, none⟩), .int .i64 1, .int .i64 1073741824] ∧ Blk ((((((w.alloc (.cells #[.pointer (some ⟨B, 1, none⟩), .int .i64 1, .int .i64 4096] 59)).alloc (.cells #[.pointer (some ⟨B, 5, none⟩), .int .i64 1, .int .i64 1073741824] 59)).alloc (.cells #[.pointer (some ⟨B, 2, none⟩), .int .i64 1, .int .i64 1073741824] 59)).alloc (.cells #[.pointer (some ⟨B, 3, none⟩), .int .i64 1, .int .i64 1073741824] 59)).alloc (.cells #[.pointer (some ⟨B, 6, none⟩), .int .i64 0, .int .i64 127] 59)).alloc (.cells #[.pointer (some ⟨B, 7, none⟩), .int .i64 1, .int .i64 3] 59)) (w.heap.size + 1 + 1) 59 #[.pointer (some ⟨B, 2, none⟩), .int .i64 1, .int .i64 1073741824] ∧ Blk ((((((w.alloc (.cells #[.pointer (some ⟨B, 1, none⟩), .int .i64 1, .int .i64 4096] 59)).alloc (.cells #[.pointer (some ⟨B, 5, none⟩), .int .i64 1, .int .i64 1073741824] 59)).alloc (.cells #[.pointer (some ⟨B, 2, none⟩), .int .i64 1, .int .i64 1073741824] 59)).alloc (.cells #[.pointer (some ⟨B, 3, none⟩), .int .i64 1, .int .i64 1073741824] 59)).alloc (.cells #[.pointer (some ⟨B, 6, none⟩), .int .i64 0, .int .i64 127] 59)).alloc (.cells #[.pointer (some ⟨B, 7, none⟩), .int .i64 1, .int .i64 3] 59)) (w.heap.size + 1 + 1 + 1) 59 #[.pointer (some ⟨B, 3, none⟩), .int .i64 1, .int .i64 1073741824] ∧ Blk ((((((w.alloc (.cells #[.pointer (some ⟨B, 1, none⟩), .int .i64 1, .int .i64 4096] 59)).alloc (.cells #[.pointer (some ⟨B, 5, none⟩), .int .i64 1, .int .i64 1073741824] 59)).alloc (.cells #[.pointer (some ⟨B, 2, none⟩), .int .i64 1, .int .i64 1073741824] 59)).alloc (.cells #[.pointer (some ⟨B, 3, none⟩), .int .i64 1, .int .i64 1073741824] 59)).alloc (.cells #[.pointer (some ⟨B, 6, none⟩), .int .i64 0, .int .i64 127] 59)).alloc (.cells #[.pointer (some ⟨B, 7, none⟩), .int .i64 1, .int .i64 3] 59)) (w.heap.size + 1 + 1 + 1 + 1) 59 #[.pointer (some ⟨B, 6, none⟩), .int .i64 0, .int .i64 127] ∧ Blk ((((((w.alloc (.cells #[.pointer (some ⟨B, 1, none⟩), .int .i64 1, .int .i64 4096] 59)).alloc (.cells #[.pointer (some ⟨B, 5, none⟩), .int .i64 1, .int .i64 1073741824] 59)).alloc (.cells #[.pointer (some ⟨B, 2, none⟩), .int .i64 1, .int .i64 1073741824] 59)).alloc (.cells #[.pointer (some ⟨B, 3, none⟩), .int .i64 1, .int .i64 1073741824] 59)).alloc (.cells #[.pointer (some ⟨B, 6, none⟩), .int .i64 0, .int .i64 127] 59)).alloc (.cells #[.pointer (some ⟨B, 7, none⟩), .int .i64 1, .int .i64 3] 59)) (w.heap.size + 1 + 1 + 1 + 1 + 1) 59 #[.pointer (some ⟨B, 7, none⟩), .int .i64 1, .int .i64 3] := by
  refine ⟨(Blk.new w _ _) |>.alloc _ |>.alloc _ |>.alloc _ |>.alloc _ |>.alloc _, (Blk.newAt _ _ _ _ (by simp) : Blk ((w.alloc (.cells #[.pointer (some ⟨B, 1, none⟩), .int .i64 1, .int .i64 4096] 59)).alloc (.cells #[.pointer (some ⟨B, 5, none⟩), .int .i64 1, .int .i64 1073741824] 59)) (w.heap.size + 1) 59 #[.pointer (some ⟨B, 5, none⟩), .int .i64 1, .int .i64 1073741824]) |>.alloc _ |>.alloc _ |>.alloc _ |>.alloc _, (Blk.newAt _ _ _ _ (by simp) : Blk (((w.alloc (.cells #[.pointer (some ⟨B, 1, none⟩), .int .i64 1, .int .i64 4096] 59)).alloc (.cells #[.pointer (some ⟨B, 5, none⟩), .int .i64 1, .int .i64 1073741824] 59)).alloc (.cells #[.pointer (some ⟨B, 2, none⟩), .int .i64 1, .int .i64 1073741824] 59)) (w.heap.size + 1 + 1) 59 #[.pointer (some ⟨B, 2, none⟩), .int .i64 1, .int .i64 1073741824]) |>.alloc _ |>.alloc _ |>.alloc _, (Blk.newAt _ _ _ _ (by simp) : Blk ((((w.alloc (.cells #[.pointer (some ⟨B, 1, none⟩), .int .i64 1, .int .i64 4096] 59)).alloc (.cells #[.pointer (some ⟨B, 5, none⟩), .int .i64 1, .int .i64 1073741824] 59)).alloc (.cells #[.pointer (some ⟨B, 2, none⟩), .int .i64 1, .int .i64 1073741824] 59)).alloc (.cells #[.pointer (some ⟨B, 3, none⟩), .int .i64 1, .int .i64 1073741824] 59)) (w.heap.size + 1 + 1 + 1) 59 #[.pointer (some ⟨B, 3, none⟩), .int .i64 1, .int .i64 1073741824]) |>.alloc _ |>.alloc _, (Blk.newAt _ _ _ _ (by simp) : Blk (((((w.alloc (.cells #[.pointer (some ⟨B, 1, none⟩), .int .i64 1, .int .i64 4096] 59)).alloc (.cells #[.pointer (some ⟨B, 5, none⟩), .int .i64 1, .int .i64 1073741824] 59)).alloc (.cells #[.pointer (some ⟨B, 2, none⟩), .int .i64 1, .int .i64 1073741824] 59)).alloc (.cells #[.pointer (some ⟨B, 3, none⟩), .int .i64 1, .int .i64 1073741824] 59)).alloc (.cells #[.pointer (some ⟨B, 6, none⟩), .int .i64 0, .int .i64 127] 59)) (w.heap.size + 1 + 1 + 1 + 1) 59 #[.pointer (some ⟨B, 6, none⟩), .int .i64 0, .int .i64 127]) |>.alloc _, (Blk.newAt _ _ _ _ (by simp) : Blk ((((((w.alloc (.cells #[.pointer (some ⟨B, 1, none⟩), .int .i64 1, .int .i64 4096] 59)).alloc (.cells #[.pointer (some ⟨B, 5, none⟩), .int .i64 1, .int .i64 1073741824] 59)).alloc (.cells #[.pointer (some ⟨B, 2, none⟩), .int .i64 1, .int .i64 1073741824] 59)).alloc (.cells #[.pointer (some ⟨B, 3, none⟩), .int .i64 1, .int .i64 1073741824] 59)).alloc (.cells #[.pointer (some ⟨B, 6, none⟩), .int .i64 0, .int .i64 127] 59)).alloc (.cells #[.pointer (some ⟨B, 7, none⟩), .int .i64 1, .int .i64 3] 59)) (w.heap.size + 1 + 1 + 1 + 1 + 1) 59 #[.pointer (some ⟨B, 7, none⟩), .int .i64 1, .int .i64 3])⟩
set_option maxRecDepth 100000 in
set_option maxHeartbeats 4000000 in
theorem numsOf_two (B : Nat) (w : World) (hk : w.cell? ⟨B, 0, none⟩ = some (.int .i64 2)) (hBl : B < w.heap.size) :
    Calls Try.prog 32 #[.pointer (some ⟨B, 0, none⟩)] w fun e w' => ∃ v, e = .returned v ∧ NumsAt w' B v (numK 2) ∧ Below w.heap.size w w' := by
  obtain ⟨k6, hB6⟩ := nums_begin B 2 w hk hBl
  clear hk
  go_enter Try.func32, Try.ntmps32
  go_wp2_with fail
  go_ret
  refine ⟨_, rfl, ?_, hB6.alloc hB6.size _⟩
  exact numsAt_of (l := numK 2) (Blk.newAt _ _ _ _ (by simp))
set_option maxRecDepth 100000 in
set_option maxHeartbeats 4000000 in
theorem numsOf_four (B : Nat) (w : World) (hk : w.cell? ⟨B, 0, none⟩ = some (.int .i64 4)) (hBl : B < w.heap.size) :
    Calls Try.prog 32 #[.pointer (some ⟨B, 0, none⟩)] w fun e w' => ∃ v, e = .returned v ∧ NumsAt w' B v (numK 4) ∧ Below w.heap.size w w' := by
  obtain ⟨k6, hB6⟩ := nums_begin B 4 w hk hBl
  clear hk
  go_enter Try.func32, Try.ntmps32
  go_wp2_with fail
  go_ret
  refine ⟨_, rfl, ?_, hB6.alloc hB6.size _⟩
  exact numsAt_of (l := numK 4) (Blk.newAt _ _ _ _ (by simp))
set_option maxRecDepth 100000 in
set_option maxHeartbeats 4000000 in
theorem numsOf_five (B : Nat) (w : World) (hk : w.cell? ⟨B, 0, none⟩ = some (.int .i64 5)) (hBl : B < w.heap.size) :
    Calls Try.prog 32 #[.pointer (some ⟨B, 0, none⟩)] w fun e w' => ∃ v, e = .returned v ∧ NumsAt w' B v (numK 5) ∧ Below w.heap.size w w' := by
  obtain ⟨k6, hB6⟩ := nums_begin B 5 w hk hBl
  clear hk
  go_enter Try.func32, Try.ntmps32
  go_wp2_with fail
  go_ret
  refine ⟨_, rfl, ?_, hB6.alloc hB6.size _⟩
  exact numsAt_of (l := numK 5) (Blk.newAt _ _ _ _ (by simp))
set_option maxRecDepth 100000 in
set_option maxHeartbeats 4000000 in
theorem numsOf_seven (B : Nat) (w : World) (hk : w.cell? ⟨B, 0, none⟩ = some (.int .i64 7)) (hBl : B < w.heap.size) :
    Calls Try.prog 32 #[.pointer (some ⟨B, 0, none⟩)] w fun e w' => ∃ v, e = .returned v ∧ NumsAt w' B v (numK 7) ∧ Below w.heap.size w w' := by
  obtain ⟨k6, hB6⟩ := nums_begin B 7 w hk hBl
  clear hk
  go_enter Try.func32, Try.ntmps32
  go_wp2_with fail
  go_ret
  refine ⟨_, rfl, ?_, hB6.alloc hB6.size _⟩
  exact numsAt_of (l := numK 7) (Blk.newAt _ _ _ _ (by simp))
set_option maxRecDepth 100000 in
set_option maxHeartbeats 4000000 in
theorem numsOf_eight (B : Nat) (w : World) (hk : w.cell? ⟨B, 0, none⟩ = some (.int .i64 8)) (hBl : B < w.heap.size) :
    Calls Try.prog 32 #[.pointer (some ⟨B, 0, none⟩)] w fun e w' => ∃ v, e = .returned v ∧ NumsAt w' B v (numK 8) ∧ Below w.heap.size w w' := by
  obtain ⟨k6, hB6⟩ := nums_begin B 8 w hk hBl
  clear hk
  go_enter Try.func32, Try.ntmps32
  go_wp2_with fail
  go_ret
  refine ⟨_, rfl, ?_, hB6.alloc hB6.size _⟩
  exact numsAt_of (l := numK 8) (Blk.newAt _ _ _ _ (by simp))
theorem exec_nums2 {a : Act} {o : Oper} {w : World} (x0 x1 : Operand) (ho : o.op = .buildSlice 54 2 #[(0, x0), (1, x1)]) (p0 q0 p1 q1 : Nat) (a0 b0 a1 b1 : Int) (h0 : a.eval x0 = .agg #[.pointer (some ⟨p0, q0, none⟩), .int .i64 a0, .int .i64 b0]) (h1 : a.eval x1 = .agg #[.pointer (some ⟨p1, q1, none⟩), .int .i64 a1, .int .i64 b1]) :
    (execOp a.eval o).run Try.prog w = .ok (.value (.slice (some ⟨w.heap.size, 0, none⟩) 2 2)) (w.alloc (.cells #[.pointer (some ⟨p0, q0, none⟩), .int .i64 a0, .int .i64 b0, .pointer (some ⟨p1, q1, none⟩), .int .i64 a1, .int .i64 b1] 59)) := by
  unfold execOp
  have e : Array.map (fun y : Nat × Operand => (y.1, a.eval y.2)) #[(0, x0), (1, x1)] = #[(0, .agg #[.pointer (some ⟨p0, q0, none⟩), .int .i64 a0, .int .i64 b0]), (1, .agg #[.pointer (some ⟨p1, q1, none⟩), .int .i64 a1, .int .i64 b1])] := by simp [h0, h1]
  simp only [ho, e]
  simp [go_sem]
theorem exec_nums6 {a : Act} {o : Oper} {w : World} (x0 x1 x2 x3 x4 x5 : Operand) (ho : o.op = .buildSlice 54 6 #[(0, x0), (1, x1), (2, x2), (3, x3), (4, x4), (5, x5)]) (p0 q0 p1 q1 p2 q2 p3 q3 p4 q4 p5 q5 : Nat) (a0 b0 a1 b1 a2 b2 a3 b3 a4 b4 a5 b5 : Int) (h0 : a.eval x0 = .agg #[.pointer (some ⟨p0, q0, none⟩), .int .i64 a0, .int .i64 b0]) (h1 : a.eval x1 = .agg #[.pointer (some ⟨p1, q1, none⟩), .int .i64 a1, .int .i64 b1]) (h2 : a.eval x2 = .agg #[.pointer (some ⟨p2, q2, none⟩), .int .i64 a2, .int .i64 b2]) (h3 : a.eval x3 = .agg #[.pointer (some ⟨p3, q3, none⟩), .int .i64 a3, .int .i64 b3]) (h4 : a.eval x4 = .agg #[.pointer (some ⟨p4, q4, none⟩), .int .i64 a4, .int .i64 b4]) (h5 : a.eval x5 = .agg #[.pointer (some ⟨p5, q5, none⟩), .int .i64 a5, .int .i64 b5]) :
    (execOp a.eval o).run Try.prog w = .ok (.value (.slice (some ⟨w.heap.size, 0, none⟩) 6 6)) (w.alloc (.cells #[.pointer (some ⟨p0, q0, none⟩), .int .i64 a0, .int .i64 b0, .pointer (some ⟨p1, q1, none⟩), .int .i64 a1, .int .i64 b1, .pointer (some ⟨p2, q2, none⟩), .int .i64 a2, .int .i64 b2, .pointer (some ⟨p3, q3, none⟩), .int .i64 a3, .int .i64 b3, .pointer (some ⟨p4, q4, none⟩), .int .i64 a4, .int .i64 b4, .pointer (some ⟨p5, q5, none⟩), .int .i64 a5, .int .i64 b5] 59)) := by
  unfold execOp
  have e : Array.map (fun y : Nat × Operand => (y.1, a.eval y.2)) #[(0, x0), (1, x1), (2, x2), (3, x3), (4, x4), (5, x5)] = #[(0, .agg #[.pointer (some ⟨p0, q0, none⟩), .int .i64 a0, .int .i64 b0]), (1, .agg #[.pointer (some ⟨p1, q1, none⟩), .int .i64 a1, .int .i64 b1]), (2, .agg #[.pointer (some ⟨p2, q2, none⟩), .int .i64 a2, .int .i64 b2]), (3, .agg #[.pointer (some ⟨p3, q3, none⟩), .int .i64 a3, .int .i64 b3]), (4, .agg #[.pointer (some ⟨p4, q4, none⟩), .int .i64 a4, .int .i64 b4]), (5, .agg #[.pointer (some ⟨p5, q5, none⟩), .int .i64 a5, .int .i64 b5])] := by simp [h0, h1, h2, h3, h4, h5]
  simp only [ho, e]
  simp [go_sem]
theorem built_num (B j : Nat) (a b : Int) : Try.prog.built 59 [(0, .pointer (some ⟨B, j, none⟩)), (1, .int .i64 a), (2, .int .i64 b)] = some #[.pointer (some ⟨B, j, none⟩), .int .i64 a, .int .i64 b] := by kernel_rfl
set_option maxRecDepth 100000 in
set_option maxHeartbeats 4000000 in
theorem numsOf_one (B : Nat) (w : World) (hk : w.cell? ⟨B, 0, none⟩ = some (.int .i64 1)) (hBl : B < w.heap.size) :
    Calls Try.prog 32 #[.pointer (some ⟨B, 0, none⟩)] w fun e w' => ∃ v, e = .returned v ∧ NumsAt w' B v (numK 1) ∧ Below w.heap.size w w' := by
  obtain ⟨k6, hB6⟩ := nums_begin B 1 w hk hBl
  clear hk
  obtain ⟨b0, b1, b2, b3, b4, b5⟩ := nums_blks B w
  go_enter Try.func32, Try.ntmps32
  go_wp2_with fail
  generalize ((((((w.alloc (.cells #[.pointer (some ⟨B, 1, none⟩), .int .i64 1, .int .i64 4096] 59)).alloc (.cells #[.pointer (some ⟨B, 5, none⟩), .int .i64 1, .int .i64 1073741824] 59)).alloc (.cells #[.pointer (some ⟨B, 2, none⟩), .int .i64 1, .int .i64 1073741824] 59)).alloc (.cells #[.pointer (some ⟨B, 3, none⟩), .int .i64 1, .int .i64 1073741824] 59)).alloc (.cells #[.pointer (some ⟨B, 6, none⟩), .int .i64 0, .int .i64 127] 59)).alloc (.cells #[.pointer (some ⟨B, 7, none⟩), .int .i64 1, .int .i64 3] 59)) = W6 at *
  have hS0 : (fun V => Blk V (w.heap.size) 59 #[.pointer (some ⟨B, 1, none⟩), .int .i64 1, .int .i64 4096]) W6.drew := b0.drew
  refine held_begin (fun V => Blk V (w.heap.size) 59 #[.pointer (some ⟨B, 1, none⟩), .int .i64 1, .int .i64 4096]) (by kernel_rfl) ?_
  refine held_take 0 39 _ (.agg #[.pointer (some ⟨B, 1, none⟩), .int .i64 1, .int .i64 4096]) rfl rfl (by kernel_rfl) (by kernel_rfl) (by kernel_rfl) rfl hS0 (fun V hV => exec_loadB 59 _ rfl (w.heap.size) 0 [.pointer (some ⟨B, 1, none⟩), .int .i64 1, .int .i64 4096] _ rfl ((hV).range 0 _ (fun j v hj => by rw [Nat.zero_add]; simpa using hj)) Try.underlying59 rfl info_wnum) ?_
  simp only [Act.put, List.setIfInBounds_toArray, List.set_cons_succ, List.set_cons_zero]
  refine held_take 1 40 _ (.pointer (some ⟨B, 0, none⟩)) rfl rfl (by kernel_rfl) (by kernel_rfl) (by kernel_rfl) rfl hS0 (fun _ _ => rfl) ?_
  simp only [Act.put, List.setIfInBounds_toArray, List.set_cons_succ, List.set_cons_zero]
  refine held_take 2 41 _ (.pointer (some ⟨B, 0, none⟩)) rfl rfl (by kernel_rfl) (by kernel_rfl) (by kernel_rfl) rfl hS0 (fun _ _ => rfl) ?_
  simp only [Act.put, List.setIfInBounds_toArray, List.set_cons_succ, List.set_cons_zero]
  refine held_take 3 42 _ (.pointer (some ⟨B, 4, none⟩)) rfl rfl (by kernel_rfl) (by kernel_rfl) (by kernel_rfl) rfl hS0 (fun _ _ => rfl) ?_
  simp only [Act.put, List.setIfInBounds_toArray, List.set_cons_succ, List.set_cons_zero]
  refine held_take 4 43 _ (.agg #[.pointer (some ⟨B, 4, none⟩), .int .i64 0, .int .i64 1073741824]) rfl rfl (by kernel_rfl) (by kernel_rfl) (by kernel_rfl) rfl hS0 (fun V _ => exec_buildW 59 #[(0, .tmp 42), (1, .const (.int .i64 0)), (2, .const (.int .i64 1073741824))] rfl _ (built_num B 4 0 1073741824)) ?_
  simp only [Act.put, List.setIfInBounds_toArray, List.set_cons_succ, List.set_cons_zero]
  have hb7 : Below w.heap.size w (W6.drew.alloc (.cells #[.pointer (some ⟨B, 1, none⟩), .int .i64 1, .int .i64 4096, .pointer (some ⟨B, 4, none⟩), .int .i64 0, .int .i64 1073741824] 59)) := hB6.drew.alloc hB6.drew.size _
  have k7 := Blk.new W6.drew 59 #[.pointer (some ⟨B, 1, none⟩), .int .i64 1, .int .i64 4096, .pointer (some ⟨B, 4, none⟩), .int .i64 0, .int .i64 1073741824]
  have hS7 : (fun V => Blk V (w.heap.size) 59 #[.pointer (some ⟨B, 1, none⟩), .int .i64 1, .int .i64 4096]) (W6.drew.alloc (.cells #[.pointer (some ⟨B, 1, none⟩), .int .i64 1, .int .i64 4096, .pointer (some ⟨B, 4, none⟩), .int .i64 0, .int .i64 1073741824] 59)) := hS0.alloc _
  refine held_all1 5 (by kernel_rfl) (op_value 5 44 _ (.slice (some ⟨W6.drew.heap.size, 0, none⟩) 2 2) (W6.drew.alloc (.cells #[.pointer (some ⟨B, 1, none⟩), .int .i64 1, .int .i64 4096, .pointer (some ⟨B, 4, none⟩), .int .i64 0, .int .i64 1073741824] 59)) rfl rfl rfl (exec_nums2 _ _ rfl _ _ _ _ _ _ _ _ rfl rfl ) ⟨hS7, ?_⟩)
  simp only [Act.put, List.setIfInBounds_toArray, List.set_cons_succ, List.set_cons_zero]
  refine held_take 6 2 _ (.slice (some ⟨W6.drew.heap.size, 0, none⟩) 2 2) rfl rfl (by kernel_rfl) (by kernel_rfl) (by kernel_rfl) rfl hS7 (fun _ _ => rfl) ?_
  simp only [Act.put, List.setIfInBounds_toArray, List.set_cons_succ, List.set_cons_zero]
  refine wpAnyH_done (by kernel_rfl) ?_ _
  refine NoPanic.normal ?_
  generalize (W6.drew.alloc (.cells #[.pointer (some ⟨B, 1, none⟩), .int .i64 1, .int .i64 4096, .pointer (some ⟨B, 4, none⟩), .int .i64 0, .int .i64 1073741824] 59)) = W7 at *
  go_wp2
  go_ret
  exact ⟨_, rfl, numsAt_of (l := numK 1) k7, hb7⟩
set_option maxRecDepth 100000 in
set_option maxHeartbeats 4000000 in
theorem numsOf_six (B : Nat) (w : World) (hk : w.cell? ⟨B, 0, none⟩ = some (.int .i64 6)) (hBl : B < w.heap.size) :
    Calls Try.prog 32 #[.pointer (some ⟨B, 0, none⟩)] w fun e w' => ∃ v, e = .returned v ∧ NumsAt w' B v (numK 6) ∧ Below w.heap.size w w' := by
  obtain ⟨k6, hB6⟩ := nums_begin B 6 w hk hBl
  clear hk
  obtain ⟨b0, b1, b2, b3, b4, b5⟩ := nums_blks B w
  go_enter Try.func32, Try.ntmps32
  go_wp2_with fail
  generalize ((((((w.alloc (.cells #[.pointer (some ⟨B, 1, none⟩), .int .i64 1, .int .i64 4096] 59)).alloc (.cells #[.pointer (some ⟨B, 5, none⟩), .int .i64 1, .int .i64 1073741824] 59)).alloc (.cells #[.pointer (some ⟨B, 2, none⟩), .int .i64 1, .int .i64 1073741824] 59)).alloc (.cells #[.pointer (some ⟨B, 3, none⟩), .int .i64 1, .int .i64 1073741824] 59)).alloc (.cells #[.pointer (some ⟨B, 6, none⟩), .int .i64 0, .int .i64 127] 59)).alloc (.cells #[.pointer (some ⟨B, 7, none⟩), .int .i64 1, .int .i64 3] 59)) = W6 at *
  have hS0 : (fun V => Blk V (w.heap.size) 59 #[.pointer (some ⟨B, 1, none⟩), .int .i64 1, .int .i64 4096] ∧ Blk V (w.heap.size + 1) 59 #[.pointer (some ⟨B, 5, none⟩), .int .i64 1, .int .i64 1073741824] ∧ Blk V (w.heap.size + 1 + 1) 59 #[.pointer (some ⟨B, 2, none⟩), .int .i64 1, .int .i64 1073741824] ∧ Blk V (w.heap.size + 1 + 1 + 1) 59 #[.pointer (some ⟨B, 3, none⟩), .int .i64 1, .int .i64 1073741824] ∧ Blk V (w.heap.size + 1 + 1 + 1 + 1 + 1) 59 #[.pointer (some ⟨B, 7, none⟩), .int .i64 1, .int .i64 3]) W6.drew := ⟨b0.drew, b1.drew, b2.drew, b3.drew, b5.drew⟩
  refine held_begin (fun V => Blk V (w.heap.size) 59 #[.pointer (some ⟨B, 1, none⟩), .int .i64 1, .int .i64 4096] ∧ Blk V (w.heap.size + 1) 59 #[.pointer (some ⟨B, 5, none⟩), .int .i64 1, .int .i64 1073741824] ∧ Blk V (w.heap.size + 1 + 1) 59 #[.pointer (some ⟨B, 2, none⟩), .int .i64 1, .int .i64 1073741824] ∧ Blk V (w.heap.size + 1 + 1 + 1) 59 #[.pointer (some ⟨B, 3, none⟩), .int .i64 1, .int .i64 1073741824] ∧ Blk V (w.heap.size + 1 + 1 + 1 + 1 + 1) 59 #[.pointer (some ⟨B, 7, none⟩), .int .i64 1, .int .i64 3]) (by kernel_rfl) ?_
  refine held_take 0 60 _ (.agg #[.pointer (some ⟨B, 1, none⟩), .int .i64 1, .int .i64 4096]) rfl rfl (by kernel_rfl) (by kernel_rfl) (by kernel_rfl) rfl hS0 (fun V hV => exec_loadB 59 _ rfl (w.heap.size) 0 [.pointer (some ⟨B, 1, none⟩), .int .i64 1, .int .i64 4096] _ rfl ((hV.1).range 0 _ (fun j v hj => by rw [Nat.zero_add]; simpa using hj)) Try.underlying59 rfl info_wnum) ?_
  simp only [Act.put, List.setIfInBounds_toArray, List.set_cons_succ, List.set_cons_zero]
  refine held_take 1 61 _ (.agg #[.pointer (some ⟨B, 5, none⟩), .int .i64 1, .int .i64 1073741824]) rfl rfl (by kernel_rfl) (by kernel_rfl) (by kernel_rfl) rfl hS0 (fun V hV => exec_loadB 59 _ rfl (w.heap.size + 1) 0 [.pointer (some ⟨B, 5, none⟩), .int .i64 1, .int .i64 1073741824] _ rfl ((hV.2.1).range 0 _ (fun j v hj => by rw [Nat.zero_add]; simpa using hj)) Try.underlying59 rfl info_wnum) ?_
  simp only [Act.put, List.setIfInBounds_toArray, List.set_cons_succ, List.set_cons_zero]
  refine held_take 2 62 _ (.agg #[.pointer (some ⟨B, 2, none⟩), .int .i64 1, .int .i64 1073741824]) rfl rfl (by kernel_rfl) (by kernel_rfl) (by kernel_rfl) rfl hS0 (fun V hV => exec_loadB 59 _ rfl (w.heap.size + 1 + 1) 0 [.pointer (some ⟨B, 2, none⟩), .int .i64 1, .int .i64 1073741824] _ rfl ((hV.2.2.1).range 0 _ (fun j v hj => by rw [Nat.zero_add]; simpa using hj)) Try.underlying59 rfl info_wnum) ?_
  simp only [Act.put, List.setIfInBounds_toArray, List.set_cons_succ, List.set_cons_zero]
  refine held_take 3 63 _ (.agg #[.pointer (some ⟨B, 3, none⟩), .int .i64 1, .int .i64 1073741824]) rfl rfl (by kernel_rfl) (by kernel_rfl) (by kernel_rfl) rfl hS0 (fun V hV => exec_loadB 59 _ rfl (w.heap.size + 1 + 1 + 1) 0 [.pointer (some ⟨B, 3, none⟩), .int .i64 1, .int .i64 1073741824] _ rfl ((hV.2.2.2.1).range 0 _ (fun j v hj => by rw [Nat.zero_add]; simpa using hj)) Try.underlying59 rfl info_wnum) ?_
  simp only [Act.put, List.setIfInBounds_toArray, List.set_cons_succ, List.set_cons_zero]
  refine held_take 4 64 _ (.pointer (some ⟨B, 0, none⟩)) rfl rfl (by kernel_rfl) (by kernel_rfl) (by kernel_rfl) rfl hS0 (fun _ _ => rfl) ?_
  simp only [Act.put, List.setIfInBounds_toArray, List.set_cons_succ, List.set_cons_zero]
  refine held_take 5 65 _ (.pointer (some ⟨B, 0, none⟩)) rfl rfl (by kernel_rfl) (by kernel_rfl) (by kernel_rfl) rfl hS0 (fun _ _ => rfl) ?_
  simp only [Act.put, List.setIfInBounds_toArray, List.set_cons_succ, List.set_cons_zero]
  refine held_take 6 66 _ (.pointer (some ⟨B, 4, none⟩)) rfl rfl (by kernel_rfl) (by kernel_rfl) (by kernel_rfl) rfl hS0 (fun _ _ => rfl) ?_
  simp only [Act.put, List.setIfInBounds_toArray, List.set_cons_succ, List.set_cons_zero]
  refine held_take 7 67 _ (.agg #[.pointer (some ⟨B, 4, none⟩), .int .i64 1, .int .i64 1073741824]) rfl rfl (by kernel_rfl) (by kernel_rfl) (by kernel_rfl) rfl hS0 (fun V _ => exec_buildW 59 #[(0, .tmp 66), (1, .const (.int .i64 1)), (2, .const (.int .i64 1073741824))] rfl _ (built_num B 4 1 1073741824)) ?_
  simp only [Act.put, List.setIfInBounds_toArray, List.set_cons_succ, List.set_cons_zero]
  refine held_take 8 68 _ (.agg #[.pointer (some ⟨B, 7, none⟩), .int .i64 1, .int .i64 3]) rfl rfl (by kernel_rfl) (by kernel_rfl) (by kernel_rfl) rfl hS0 (fun V hV => exec_loadB 59 _ rfl (w.heap.size + 1 + 1 + 1 + 1 + 1) 0 [.pointer (some ⟨B, 7, none⟩), .int .i64 1, .int .i64 3] _ rfl ((hV.2.2.2.2).range 0 _ (fun j v hj => by rw [Nat.zero_add]; simpa using hj)) Try.underlying59 rfl info_wnum) ?_
  simp only [Act.put, List.setIfInBounds_toArray, List.set_cons_succ, List.set_cons_zero]
  have hb7 : Below w.heap.size w (W6.drew.alloc (.cells #[.pointer (some ⟨B, 1, none⟩), .int .i64 1, .int .i64 4096, .pointer (some ⟨B, 5, none⟩), .int .i64 1, .int .i64 1073741824, .pointer (some ⟨B, 2, none⟩), .int .i64 1, .int .i64 1073741824, .pointer (some ⟨B, 3, none⟩), .int .i64 1, .int .i64 1073741824, .pointer (some ⟨B, 4, none⟩), .int .i64 1, .int .i64 1073741824, .pointer (some ⟨B, 7, none⟩), .int .i64 1, .int .i64 3] 59)) := hB6.drew.alloc hB6.drew.size _
  have k7 := Blk.new W6.drew 59 #[.pointer (some ⟨B, 1, none⟩), .int .i64 1, .int .i64 4096, .pointer (some ⟨B, 5, none⟩), .int .i64 1, .int .i64 1073741824, .pointer (some ⟨B, 2, none⟩), .int .i64 1, .int .i64 1073741824, .pointer (some ⟨B, 3, none⟩), .int .i64 1, .int .i64 1073741824, .pointer (some ⟨B, 4, none⟩), .int .i64 1, .int .i64 1073741824, .pointer (some ⟨B, 7, none⟩), .int .i64 1, .int .i64 3]
  have hS7 : (fun V => Blk V (w.heap.size) 59 #[.pointer (some ⟨B, 1, none⟩), .int .i64 1, .int .i64 4096] ∧ Blk V (w.heap.size + 1) 59 #[.pointer (some ⟨B, 5, none⟩), .int .i64 1, .int .i64 1073741824] ∧ Blk V (w.heap.size + 1 + 1) 59 #[.pointer (some ⟨B, 2, none⟩), .int .i64 1, .int .i64 1073741824] ∧ Blk V (w.heap.size + 1 + 1 + 1) 59 #[.pointer (some ⟨B, 3, none⟩), .int .i64 1, .int .i64 1073741824] ∧ Blk V (w.heap.size + 1 + 1 + 1 + 1 + 1) 59 #[.pointer (some ⟨B, 7, none⟩), .int .i64 1, .int .i64 3]) (W6.drew.alloc (.cells #[.pointer (some ⟨B, 1, none⟩), .int .i64 1, .int .i64 4096, .pointer (some ⟨B, 5, none⟩), .int .i64 1, .int .i64 1073741824, .pointer (some ⟨B, 2, none⟩), .int .i64 1, .int .i64 1073741824, .pointer (some ⟨B, 3, none⟩), .int .i64 1, .int .i64 1073741824, .pointer (some ⟨B, 4, none⟩), .int .i64 1, .int .i64 1073741824, .pointer (some ⟨B, 7, none⟩), .int .i64 1, .int .i64 3] 59)) := ⟨hS0.1.alloc _, hS0.2.1.alloc _, hS0.2.2.1.alloc _, hS0.2.2.2.1.alloc _, hS0.2.2.2.2.alloc _⟩
  refine held_all1 9 (by kernel_rfl) (op_value 9 69 _ (.slice (some ⟨W6.drew.heap.size, 0, none⟩) 6 6) (W6.drew.alloc (.cells #[.pointer (some ⟨B, 1, none⟩), .int .i64 1, .int .i64 4096, .pointer (some ⟨B, 5, none⟩), .int .i64 1, .int .i64 1073741824, .pointer (some ⟨B, 2, none⟩), .int .i64 1, .int .i64 1073741824, .pointer (some ⟨B, 3, none⟩), .int .i64 1, .int .i64 1073741824, .pointer (some ⟨B, 4, none⟩), .int .i64 1, .int .i64 1073741824, .pointer (some ⟨B, 7, none⟩), .int .i64 1, .int .i64 3] 59)) rfl rfl rfl (exec_nums6 _ _ _ _ _ _ rfl _ _ _ _ _ _ _ _ _ _ _ _ _ _ _ _ _ _ _ _ _ _ _ _ rfl rfl rfl rfl rfl rfl ) ⟨hS7, ?_⟩)
  simp only [Act.put, List.setIfInBounds_toArray, List.set_cons_succ, List.set_cons_zero]
  refine held_take 10 2 _ (.slice (some ⟨W6.drew.heap.size, 0, none⟩) 6 6) rfl rfl (by kernel_rfl) (by kernel_rfl) (by kernel_rfl) rfl hS7 (fun _ _ => rfl) ?_
  simp only [Act.put, List.setIfInBounds_toArray, List.set_cons_succ, List.set_cons_zero]
  refine wpAnyH_done (by kernel_rfl) ?_ _
  refine NoPanic.normal ?_
  generalize (W6.drew.alloc (.cells #[.pointer (some ⟨B, 1, none⟩), .int .i64 1, .int .i64 4096, .pointer (some ⟨B, 5, none⟩), .int .i64 1, .int .i64 1073741824, .pointer (some ⟨B, 2, none⟩), .int .i64 1, .int .i64 1073741824, .pointer (some ⟨B, 3, none⟩), .int .i64 1, .int .i64 1073741824, .pointer (some ⟨B, 4, none⟩), .int .i64 1, .int .i64 1073741824, .pointer (some ⟨B, 7, none⟩), .int .i64 1, .int .i64 3] 59)) = W7 at *
  go_wp2
  go_ret
  exact ⟨_, rfl, numsAt_of (l := numK 6) k7, hb7⟩
set_option maxRecDepth 100000 in
set_option maxHeartbeats 4000000 in
theorem numsOf_three (B : Nat) (w : World) (hk : w.cell? ⟨B, 0, none⟩ = some (.int .i64 3)) (hBl : B < w.heap.size) :
    Calls Try.prog 32 #[.pointer (some ⟨B, 0, none⟩)] w fun e w' => ∃ v, e = .returned v ∧ NumsAt w' B v (numK 3) ∧ Below w.heap.size w w' := by
  obtain ⟨k6, hB6⟩ := nums_begin B 3 w hk hBl
  clear hk
  go_enter Try.func32, Try.ntmps32
  go_wp2_with fail
  go_ret
  exact ⟨_, rfl, ⟨none, 0, rfl, fun i n hn => by cases hn⟩, hB6⟩
set_option maxRecDepth 100000 in
set_option maxHeartbeats 4000000 in
theorem numsOf_none (B : Nat) (k : Int) (w : World) (hk : w.cell? ⟨B, 0, none⟩ = some (.int .i64 k)) (hBl : B < w.heap.size) (h : k ≠ 1 ∧ k ≠ 2 ∧ k ≠ 3 ∧ k ≠ 4 ∧ k ≠ 5 ∧ k ≠ 6 ∧ k ≠ 7 ∧ k ≠ 8) :
    Calls Try.prog 32 #[.pointer (some ⟨B, 0, none⟩)] w fun e w' => ∃ v, e = .returned v ∧ NumsAt w' B v (numK k) ∧ Below w.heap.size w w' := by
  obtain ⟨k6, hB6⟩ := nums_begin B k w hk hBl
  clear hk
  rw [numK_none h]
  have q1 : (k == 1) = false := beq_eq_false_iff_ne.2 (by omega)
  have q2 : (k == 2) = false := beq_eq_false_iff_ne.2 (by omega)
  have q3 : (k == 3) = false := beq_eq_false_iff_ne.2 (by omega)
  have q4 : (k == 4) = false := beq_eq_false_iff_ne.2 (by omega)
  have q5 : (k == 5) = false := beq_eq_false_iff_ne.2 (by omega)
  have q6 : (k == 6) = false := beq_eq_false_iff_ne.2 (by omega)
  have q7 : (k == 7) = false := beq_eq_false_iff_ne.2 (by omega)
  have q8 : (k == 8) = false := beq_eq_false_iff_ne.2 (by omega)
  clear h
  go_enter Try.func32, Try.ntmps32
  go_wp2_with fail
  go_ret
  exact ⟨_, rfl, ⟨none, 0, rfl, fun i n hn => by cases hn⟩, hB6⟩
theorem numsOf_any (B : Nat) (k : Int) (w : World) (hk : w.cell? ⟨B, 0, none⟩ = some (.int .i64 k)) (hBl : B < w.heap.size) :
    Calls Try.prog 32 #[.pointer (some ⟨B, 0, none⟩)] w fun e w' => ∃ v, e = .returned v ∧ NumsAt w' B v (numK k) ∧ Below w.heap.size w w' := by
  rcases kinds k with rfl | rfl | rfl | rfl | rfl | rfl | rfl | rfl | h
  · exact numsOf_one B w hk hBl
  · exact numsOf_two B w hk hBl
  · exact numsOf_three B w hk hBl
  · exact numsOf_four B w hk hBl
  · exact numsOf_five B w hk hBl
  · exact numsOf_six B w hk hBl
  · exact numsOf_seven B w hk hBl
  · exact numsOf_eight B w hk hBl
  · exact numsOf_none B k w hk hBl h
end Go.Proofs.Ytgfcindkfnjeoaa
