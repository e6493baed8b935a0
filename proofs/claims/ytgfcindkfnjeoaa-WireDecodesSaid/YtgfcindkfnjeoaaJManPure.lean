/-
  What is proved here: a manifest as plain data, and as cells; whether one may be; slices of words in memory.
  Conditions: those that each fact names.
-/
import Derived.Test.YtgfcindkfnjeoaaJShaPure
import Derived.Test.YtgfcindkfnjeoaaJCrcPure
import Derived.Test.YtgfcindkfnjeoaaJHeldKit
import Derived.Lib.MinMax
namespace Go.Proofs.Ytgfcindkfnjeoaa
open Go.RowKit

structure MM where
  v : Int
  s : Int
  c : Int
  h : List UInt8
  u : List (BitVec 32)
/-- A manifest's cells; su: the slice of its sums. -/
def manL (m : MM) (su : Value) : List Value := .int .i64 m.v :: .int .i64 m.s :: .int .i64 m.c :: (m.h.map v8 ++ [su])
def manC (m : MM) (su : Value) : Array Value := (manL m su).toArray
abbrev manV (m : MM) (su : Value) : Value := .agg (manC m su)
theorem manC_size (m : MM) (su : Value) (h : m.h.length = 32) : (manC m su).size = 36 := by simp [manC, manL, h]
theorem manC_info (m : MM) (su : Value) (h : m.h.length = 32) : (Try.prog.info? 25).map (·.size) = some (manC m su).size := by rw [manC_size m su h]; kernel_rfl
theorem manC_0 (m : MM) (su : Value) : (manC m su)[0]? = some (.int .i64 m.v) := rfl
theorem manC_1 (m : MM) (su : Value) : (manC m su)[1]? = some (.int .i64 m.s) := rfl
theorem manC_2 (m : MM) (su : Value) : (manC m su)[2]? = some (.int .i64 m.c) := rfl
theorem manC_35 (m : MM) (su : Value) (h : m.h.length = 32) : (manC m su)[35]? = some su := by
  simp [manC, manL, h]
theorem manC_hash (m : MM) (su : Value) (j : Nat) (hj : j < m.h.length) : (manC m su)[3 + j]? = some (v8 m.h[j]) := by
  simp [manC, manL, Nat.add_comm 3 j, List.getElem?_append_left, hj]
theorem manC_one (m : MM) (su : Value) (hs : su.oneCell' = true) : (manC m su).all (·.oneCell') = true := by
  have hi : ∀ (k : IntKind) (z : Int), (Value.int k z).oneCell' = true := fun _ _ => rfl
  simp [manC, manL, hs, hi]

/-- How many chunks. -/
def countM (m : MM) : Int := (m.s + m.c - 1) / m.c
def numsOk (m : MM) : Prop := (1 ≤ m.v ∧ m.v ≤ 1073741824) ∧ (1 ≤ m.s ∧ m.s ≤ 32768) ∧ (16 ≤ m.c ∧ m.c ≤ 1024) ∧ countM m ≤ 128
instance (m : MM) : Decidable (numsOk m) := by unfold numsOk; infer_instance
/-- A manifest that may be. -/
def okM (m : MM) : Prop := numsOk m ∧ (m.u.length : Int) = countM m ∧ ∀ x ∈ m.u, x.toNat < 16777216
instance (m : MM) : Decidable (okM m) := by unfold okM; infer_instance
theorem countM_pos {m : MM} (h : numsOk m) : 1 ≤ countM m := by
  obtain ⟨_, ⟨h1, _⟩, ⟨h2, _⟩, _⟩ := h
  unfold countM
  exact (Int.le_ediv_iff_mul_le (by omega)).2 (by omega)
theorem okM_len {m : MM} (h : okM m) : m.u.length ≤ 128 ∧ 0 < m.u.length := by
  have h1 := countM_pos h.1
  have h2 := h.1.2.2.2
  have h3 := h.2.1
  omega
/-- Where a chunk begins, and how many bytes it has. -/
def atM (m : MM) (i : Int) : Int := m.c * i
def lenM (m : MM) (i : Int) : Int := min m.c (m.s - m.c * i)
theorem span_bounds {m : MM} (h : numsOk m) {i : Int} (h0 : 0 ≤ i) (h1 : i < countM m) : 0 ≤ atM m i ∧ 1 ≤ lenM m i ∧ atM m i + lenM m i ≤ m.s ∧ atM m i ≤ 32768 ∧ lenM m i ≤ 1024 := by
  obtain ⟨_, ⟨s1, s2⟩, ⟨c1, c2⟩, _⟩ := h
  unfold countM at h1
  have h2 : i * m.c ≤ m.s + m.c - 1 - m.c := by
    have := (Int.le_ediv_iff_mul_le (a := i + 1) (b := m.s + m.c - 1) (c := m.c) (by omega)).1 (by omega)
    rw [Int.add_mul] at this
    omega
  have h3 : 0 ≤ m.c * i := Int.mul_nonneg (by omega) h0
  rw [Int.mul_comm] at h2
  unfold atM lenM
  omega

/-- Words that lie in a slice. -/
def WRow (w : World) (b off : Nat) (u : List (BitVec 32)) : Prop := ∀ j (h : j < u.length), w.cell? ⟨b, off + j, none⟩ = some (v32 u[j])
def Wds (w : World) (x : Value) (u : List (BitVec 32)) : Prop := ∃ ao c, x = .slice ao u.length c ∧ (0 < u.length → ∃ b off, ao = some ⟨b, off, none⟩ ∧ u.length ≤ c ∧ WRow w b off u ∧ b < w.heap.size)
theorem Wds.below {w w' : World} {B : Nat} {x : Value} {u : List (BitVec 32)} (h : Wds w x u) (hb : Below B w w') (hB : w.heap.size ≤ B) : Wds w' x u := by
  obtain ⟨ao, c, rfl, h2⟩ := h
  refine ⟨ao, c, rfl, fun h0 => ?_⟩
  obtain ⟨b, off, h3, h4, h5, h6⟩ := h2 h0
  exact ⟨b, off, h3, h4, fun j hj => by rw [hb.cell (p := ⟨b, off + j, none⟩) (Nat.lt_of_lt_of_le h6 hB)]; exact h5 j hj, Nat.lt_of_lt_of_le h6 hb.size⟩
theorem Wds.alloc {w : World} {x : Value} {u : List (BitVec 32)} (h : Wds w x u) (o : Obj) : Wds (w.alloc o) x u := h.below ((Below.refl w.heap.size w).alloc (Nat.le_refl _) o) (Nat.le_refl _)
theorem Wds.one {w : World} {x : Value} {u : List (BitVec 32)} (h : Wds w x u) : x.oneCell' = true := by obtain ⟨ao, c, rfl, _⟩ := h; rfl
/-- A whole manifest read off its block. -/
theorem exec_loadM {a : Act} {o : Oper} {w : World} (x : Operand) (ho : o.op = .load 25 x) (g : Nat) (hx : a.eval x = .pointer (some ⟨g, 0, none⟩)) {MC : Array Value} (hb : Blk w g 25 MC) (hi : (Try.prog.info? 25).map (·.size) = some MC.size) : (execOp a.eval o).run Try.prog w = .ok (.value (.agg MC)) w := by
  have hc : w.rangeAt g 0 MC.toList := fun j v hv => by rw [Nat.zero_add]; exact hb.cell (by simpa using hv)
  unfold execOp
  simp only [ho, hx, Instr.loadAt, Instr.sureAddr, Sem.run_bind, Sem.run_pure, Result.andThen_ok, run_loadVar_mid w g 0 25 MC.toList _ hc Try.underlying25 rfl (by rw [Array.length_toList]; exact hi), Array.toArray_toList]
theorem exec_notM {a : Act} {o : Oper} {w : World} (t : TypeId) (x : Operand) (ho : o.op = .unOp .not t x) (b r : Bool) (hx : a.eval x = .bool b) (h : (!b) = r) : (execOp a.eval o).run Try.prog w = .ok (.value (.bool r)) w := by
  subst h
  unfold execOp
  simp [ho, hx]
  rfl
theorem exec_neM {a : Act} {o : Oper} {w : World} (t : TypeId) (x y : Operand) (ho : o.op = .binOp .neq t x y t) (m n : Int) (b : Bool) (hx : a.eval x = .int .i64 m) (hy : a.eval y = .int .i64 n) (h : (m != n) = b) : (execOp a.eval o).run Try.prog w = .ok (.value (.bool b)) w := by
  subst h
  unfold execOp
  simp only [ho, hx, hy]
  simp [go_sem]
theorem exec_lenM {a : Act} {o : Oper} {w : World} (t e : TypeId) (ht : Try.prog.underlying t = some (.slice e)) (x : Operand) (ho : o.op = .call { callee := .builtin .len, args := #[x], argTypes := #[t] }) (ao : Option Addr) (n c : Nat) (hx : a.eval x = .slice ao n c) : (execOp a.eval o).run Try.prog w = .ok (.value (.int .i64 (n : Int))) w := by
  unfold execOp
  have hl : ∀ cs, builtin .len #[t] o.type cs #[.slice ao n c] = (do pure (.value (← Builtin.len_ #[t] o.type #[.slice ao n c]))) := fun _ => rfl
  simp [ho, resolve, invoke, hx, hl, Builtin.len_, run_underlying ht]
  rfl
end Go.Proofs.Ytgfcindkfnjeoaa
