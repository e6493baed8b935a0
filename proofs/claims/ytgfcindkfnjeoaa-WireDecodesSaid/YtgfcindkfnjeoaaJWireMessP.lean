/-
  What is proved here: plain facts on messages: the numbers that a kind has, which messages may be, a message's cells.
  Conditions: those that each fact names.
-/
import Derived.Test.YtgfcindkfnjeoaaJWireRec
import Derived.Test.YtgfcindkfnjeoaaJManPure
namespace Go.Proofs.Ytgfcindkfnjeoaa

/-- A message. -/
structure MS where
  k : Int
  d : Int
  c : Int
  l : Int
  v : Int
  s : Int
  h : Int
  o : Int
  m : MM
  b : List UInt8
/-- A message's cells; mc: its manifest's; bv: the slice of its body. -/
def msL (x : MS) (mc : List Value) (bv : Value) : List Value := .int .i64 x.k :: .int .i64 x.d :: .int .i64 x.c :: .int .i64 x.l :: .int .i64 x.v :: .int .i64 x.s :: .int .i64 x.h :: .int .i64 x.o :: (mc ++ [bv])
def msA (x : MS) (mc : List Value) (bv : Value) : Array Value := (msL x mc bv).toArray
def getM (x : MS) : Nat → Int
  | 1 => x.d
  | 2 => x.c
  | 3 => x.l
  | 4 => x.v
  | 5 => x.s
  | 6 => x.h
  | 7 => x.o
  | _ => x.k
def zeroAt (x : MS) : Nat → MS
  | 1 => { x with d := 0 }
  | 2 => { x with c := 0 }
  | 3 => { x with l := 0 }
  | 4 => { x with v := 0 }
  | 5 => { x with s := 0 }
  | 6 => { x with h := 0 }
  | 7 => { x with o := 0 }
  | _ => x
theorem msA_size (x : MS) (mc : List Value) (bv : Value) (h : mc.length = 36) : (msA x mc bv).size = 45 := by simp [msA, msL, h]
theorem msA_k (x : MS) (mc : List Value) (bv : Value) : (msA x mc bv)[0]? = some (.int .i64 x.k) := rfl
theorem msA_get (x : MS) (mc : List Value) (bv : Value) : ∀ j, 1 ≤ j → j ≤ 7 → (msA x mc bv)[j]? = some (.int .i64 (getM x j))
  | 1, _, _ => rfl
  | 2, _, _ => rfl
  | 3, _, _ => rfl
  | 4, _, _ => rfl
  | 5, _, _ => rfl
  | 6, _, _ => rfl
  | 7, _, _ => rfl
theorem msA_zero (x : MS) (mc : List Value) (bv : Value) : ∀ j, 1 ≤ j → j ≤ 7 → (msA x mc bv).setIfInBounds j (.int .i64 0) = msA (zeroAt x j) mc bv
  | 1, _, _ => by simp [msA, msL, zeroAt]
  | 2, _, _ => by simp [msA, msL, zeroAt]
  | 3, _, _ => by simp [msA, msL, zeroAt]
  | 4, _, _ => by simp [msA, msL, zeroAt]
  | 5, _, _ => by simp [msA, msL, zeroAt]
  | 6, _, _ => by simp [msA, msL, zeroAt]
  | 7, _, _ => by simp [msA, msL, zeroAt]
theorem msA_man (x : MS) (mc : List Value) (bv : Value) (j : Nat) (v : Value) (h : mc[j]? = some v) : (msA x mc bv)[8 + j]? = some v := by
  have hj := (List.getElem?_eq_some_iff.1 h).1
  unfold msA msL
  rw [List.getElem?_toArray, show 8 + j = j + 8 by omega]
  simp only [List.getElem?_cons_succ]
  rw [List.getElem?_append_left hj]
  exact h
theorem msA_body (x : MS) (mc : List Value) (bv : Value) (h : mc.length = 36) : (msA x mc bv)[44]? = some bv := by
  unfold msA msL
  rw [List.getElem?_toArray, show (44 : Nat) = 36 + 8 by omega]
  simp only [List.getElem?_cons_succ]
  rw [List.getElem?_append_right (by omega), h]
  rfl
theorem msA_one (x : MS) (mc : List Value) (bv : Value) (h : ∀ u ∈ mc, u.oneCell' = true) (hb : bv.oneCell' = true) : (msA x mc bv).all (·.oneCell') = true := by
  unfold msA
  rw [List.all_toArray, List.all_eq_true]
  intro u hu
  simp only [msL, List.mem_cons, List.mem_append, List.not_mem_nil, or_false] at hu
  rcases hu with rfl | rfl | rfl | rfl | rfl | rfl | rfl | rfl | hu | rfl
  · rfl
  · rfl
  · rfl
  · rfl
  · rfl
  · rfl
  · rfl
  · rfl
  · exact h u hu
  · exact hb
/-- The numbers of a kind: where each stands, from what to what it may be. -/
def numK (k : Int) : List (Nat × Nat × Nat) :=
  if k = 1 then [(1, 1, 4096), (4, 0, 1073741824)]
  else if k = 2 ∨ k = 8 then [(2, 1, 1073741824), (3, 1, 1073741824)]
  else if k = 4 ∨ k = 5 then [(2, 1, 1073741824), (3, 1, 1073741824), (6, 0, 127)]
  else if k = 6 then [(1, 1, 4096), (5, 1, 1073741824), (2, 1, 1073741824), (3, 1, 1073741824), (4, 1, 1073741824), (7, 1, 3)]
  else if k = 7 then [(5, 1, 1073741824)]
  else []
theorem kinds (k : Int) : k = 1 ∨ k = 2 ∨ k = 3 ∨ k = 4 ∨ k = 5 ∨ k = 6 ∨ k = 7 ∨ k = 8 ∨ (k ≠ 1 ∧ k ≠ 2 ∧ k ≠ 3 ∧ k ≠ 4 ∧ k ≠ 5 ∧ k ≠ 6 ∧ k ≠ 7 ∧ k ≠ 8) := by omega
theorem numK_none {k : Int} (h : k ≠ 1 ∧ k ≠ 2 ∧ k ≠ 3 ∧ k ≠ 4 ∧ k ≠ 5 ∧ k ≠ 6 ∧ k ≠ 7 ∧ k ≠ 8) : numK k = [] := by
  unfold numK
  rw [if_neg (by omega), if_neg (by omega), if_neg (by omega), if_neg (by omega), if_neg (by omega)]
theorem numK_at {k : Int} {n : Nat × Nat × Nat} (h : n ∈ numK k) : (1 ≤ n.1 ∧ n.1 ≤ 7) ∧ n.2.1 ≤ 1 ∧ n.2.2 ≤ 1073741824 := by
  rcases kinds k with rfl | rfl | rfl | rfl | rfl | rfl | rfl | rfl | hk
  all_goals first | (rw [numK_none hk] at h; cases h) | skip
  · have : ∀ n ∈ numK 1, (1 ≤ n.1 ∧ n.1 ≤ 7) ∧ n.2.1 ≤ 1 ∧ n.2.2 ≤ 1073741824 := by decide
    exact this n h
  · have : ∀ n ∈ numK 2, (1 ≤ n.1 ∧ n.1 ≤ 7) ∧ n.2.1 ≤ 1 ∧ n.2.2 ≤ 1073741824 := by decide
    exact this n h
  · have : ∀ n ∈ numK 3, (1 ≤ n.1 ∧ n.1 ≤ 7) ∧ n.2.1 ≤ 1 ∧ n.2.2 ≤ 1073741824 := by decide
    exact this n h
  · have : ∀ n ∈ numK 4, (1 ≤ n.1 ∧ n.1 ≤ 7) ∧ n.2.1 ≤ 1 ∧ n.2.2 ≤ 1073741824 := by decide
    exact this n h
  · have : ∀ n ∈ numK 5, (1 ≤ n.1 ∧ n.1 ≤ 7) ∧ n.2.1 ≤ 1 ∧ n.2.2 ≤ 1073741824 := by decide
    exact this n h
  · have : ∀ n ∈ numK 6, (1 ≤ n.1 ∧ n.1 ≤ 7) ∧ n.2.1 ≤ 1 ∧ n.2.2 ≤ 1073741824 := by decide
    exact this n h
  · have : ∀ n ∈ numK 7, (1 ≤ n.1 ∧ n.1 ≤ 7) ∧ n.2.1 ≤ 1 ∧ n.2.2 ≤ 1073741824 := by decide
    exact this n h
  · have : ∀ n ∈ numK 8, (1 ≤ n.1 ∧ n.1 ≤ 7) ∧ n.2.1 ≤ 1 ∧ n.2.2 ≤ 1073741824 := by decide
    exact this n h
theorem numK_len (k : Int) : (numK k).length ≤ 6 := by
  rcases kinds k with rfl | rfl | rfl | rfl | rfl | rfl | rfl | rfl | hk
  all_goals first | decide | (rw [numK_none hk]; decide)
/-- Whether numbers may be, and all else is nought. -/
def mayL : List (Nat × Nat × Nat) → MS → Bool
  | [], x => x.d == 0 && (x.c == 0 && (x.l == 0 && (x.v == 0 && (x.s == 0 && (x.h == 0 && x.o == 0)))))
  | n :: r, x => (decide ((n.2.1 : Int) ≤ getM x n.1) && decide (getM x n.1 ≤ (n.2.2 : Int))) && mayL r (zeroAt x n.1)
def numsMay (x : MS) : Bool := mayL (numK x.k) x
def noneM (m : MM) : Bool := m.v == 0 && (m.s == 0 && (m.c == 0 && ((m.h == List.replicate 32 0) && decide (m.u.length = 0))))
def manMay (x : MS) : Bool := if x.k = 2 then decide (okM x.m) else noneM x.m
def bodyMay (x : MS) : Bool := if x.k = 5 then decide (x.b.length ≤ 1024) else decide (x.b.length = 0)
def rightM (x : MS) : Bool := (decide (1 ≤ x.k) && decide (x.k ≤ 8)) && (numsMay x && (manMay x && bodyMay x))
end Go.Proofs.Ytgfcindkfnjeoaa
