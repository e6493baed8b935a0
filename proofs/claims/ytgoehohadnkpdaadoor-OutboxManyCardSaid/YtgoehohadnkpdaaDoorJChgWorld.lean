/-
  What is proved here: plain facts on worlds in which, of the blocks that were there, only such of a kind have changed. FlashI small facts on bytes and numbers in memory that a flash is made of.
  Conditions: those that each fact names. none.
-/
import Derived.Test.YtgoehohadnkpdaaDoorJSegKit
import Derived.Test.YtgoehohadnkpdaaDoorJShaPure
import Derived.Lib.MinMax
import Derived.StillTailTactics
import Derived.Deep.OwnRows
namespace Go.Proofs.YtgoehohadnkpdaaDoor
open Go.RowKit

/-- Of the blocks that were there, none but such have changed. -/
def Chg (S : Nat → Prop) (w w' : World) : Prop := Below 0 w w' ∧ ∀ k, k < w.heap.size → ¬ S k → w'.heap[k]? = w.heap[k]?
theorem Chg.size {S : Nat → Prop} {w w' : World} (h : Chg S w w') : w.heap.size ≤ w'.heap.size := h.1.size
theorem Chg.refl (S : Nat → Prop) (w : World) : Chg S w w := ⟨Below.refl _ _, fun _ _ _ => rfl⟩
theorem Chg.trans {S S' : Nat → Prop} {w w' w'' : World} (h : Chg S w w') (h' : Chg S' w' w'') (hS : ∀ k, k < w.heap.size → S' k → S k) : Chg S w w'' :=
  ⟨h.1.trans h'.1, fun k hk hn => (h'.2 k (Nat.lt_of_lt_of_le hk h.size) (fun e => hn (hS k hk e))).trans (h.2 k hk hn)⟩
theorem Chg.of_below {S : Nat → Prop} {B : Nat} {w w' : World} (h : Below B w w') (hB : w.heap.size ≤ B) : Chg S w w' :=
  ⟨h.mono (Nat.zero_le _), fun k hk _ => h.block k (Nat.lt_of_lt_of_le hk hB)⟩
theorem Chg.of_grown {S : Nat → Prop} {w w' : World} {row : Option Nat} (h : w.grownBy w' row) (hS : ∀ k, row = some k → S k) : Chg S w w' :=
  ⟨below_grown (Below.refl 0 w) h (Nat.zero_le _) (fun _ _ => Nat.zero_le _), fun k hk hn => h.block k hk (fun e => hn (hS k e.symm))⟩
theorem Chg.alloc {S : Nat → Prop} {w w' : World} (h : Chg S w w') (o : Obj) : Chg S w (w'.alloc o) :=
  h.trans (S' := S) (Chg.of_below ((Below.refl w'.heap.size w').alloc (Nat.le_refl _) o) (Nat.le_refl _)) (fun _ _ h => h)
theorem Chg.setCell {S : Nat → Prop} {w w' : World} (h : Chg S w w') (g i : Nat) (v : Value) (hS : g < w.heap.size → S g) : Chg S w (w'.setCell ⟨g, i, none⟩ v) :=
  h.trans (S' := fun k => k = g) ⟨(Below.refl 0 w').setCell (p := ⟨g, i, none⟩) (Nat.zero_le _) v, fun k _ hn => Below.heap_setCell w' ⟨g, i, none⟩ v k hn⟩ (fun k hk e => by subst e; exact hS hk)
theorem Chg.below {S : Nat → Prop} {B : Nat} {w w' : World} (h : Chg S w w') (hS : ∀ k, S k → B ≤ k) (hB : B ≤ w.heap.size) : Below B w w' :=
  ⟨h.1.os, h.1.tape, h.1.output, h.1.size, fun k hk => h.2 k (Nat.lt_of_lt_of_le hk hB) (fun e => by have := hS k e; omega)⟩
theorem Own.chg {S : Nat → Prop} {w w' : World} {lo : Nat} {v : Value} {bs : List UInt8} (h : Own w lo v bs) (hc : Chg S w w') (hv : ∀ k, v.ownBlock = some k → ¬ S k) : Own w' lo v bs := by
  refine ⟨h.1, ?_⟩
  rcases h.2 with h2 | ⟨g, cap, cur, h1, h2, h3, h4⟩
  · exact .inl h2
  · exact .inr ⟨g, cap, cur, h1, h2, by rw [hc.2 g (Array.getElem?_eq_some_iff.1 h3).1 (hv g (by rw [h1]; rfl))]; exact h3, h4⟩
theorem Seg.chg {S : Nat → Prop} {w w' : World} {v : Value} {bs : List UInt8} (h : Seg w v bs) (hc : Chg S w w') (hv : 0 < bs.length → ∀ k, v.ownBlock = some k → ¬ S k) : Seg w' v bs := by
  rcases h with h | ⟨b, off, c, h1, h2, h3, h4⟩
  · exact .inl h
  · refine .inr ⟨b, off, c, h1, h2, fun j hj => ?_, Nat.lt_of_lt_of_le h4 hc.size⟩
    rw [World.cell?_of_block (w := w) (a := ⟨b, off + j, none⟩) (hc.2 b h4 (hv (by omega) b (by rw [h1]; rfl)))]
    exact h3 j hj
theorem Blk.chg {S : Nat → Prop} {w w' : World} {g : Nat} {t : TypeId} {arr : Array Value} (h : Blk w g t arr) (hc : Chg S w w') (hg : ¬ S g) : Blk w' g t arr := by
  unfold Blk; rw [hc.2 g h.lt hg]; exact h
theorem Tab.chg {S : Nat → Prop} {w w' : World} {g : Nat} {vs : List Value} (h : Tab w g vs) (hc : Chg S w w') (hl : g < w.heap.size) (hg : ¬ S g) : Tab w' g vs := fun j v hv => by
  rw [World.cell?_of_block (w := w) (a := ⟨g, j, none⟩) (hc.2 g hl hg)]; exact h j v hv
theorem Chg.weaken {S S' : Nat → Prop} {w w' : World} (h : Chg S w w') (hS : ∀ k, S k → S' k) : Chg S' w w' := ⟨h.1, fun k hk hn => h.2 k hk (fun e => hn (hS k e))⟩
theorem Chg.drew {S : Nat → Prop} {w w' : World} (h : Chg S w w') : Chg S w w'.drew := ⟨h.1.drew, h.2⟩
/-- A table: a block whose first cells are these. -/
def TabB (w : World) (b : Nat) (t : TypeId) (vs : List Value) : Prop := ∃ arr, Blk w b t arr ∧ vs.length ≤ arr.size ∧ ∀ (j : Nat) v, vs[j]? = some v → arr[j]? = some v
theorem TabB.lt {w : World} {b : Nat} {t : TypeId} {vs : List Value} (h : TabB w b t vs) : b < w.heap.size := by obtain ⟨_, h, _⟩ := h; exact h.lt
theorem TabB.cell {w : World} {b : Nat} {t : TypeId} {vs : List Value} (h : TabB w b t vs) {j : Nat} {v : Value} (hv : vs[j]? = some v) : w.cell? ⟨b, j, none⟩ = some v := by
  obtain ⟨_, h, _, h2⟩ := h; exact h.cell (h2 j v hv)
theorem TabB.frozen {w : World} {b : Nat} {t : TypeId} {vs : List Value} (h : TabB w b t vs) (j : Nat) : w.frozen? ⟨b, j, none⟩ = false := by
  obtain ⟨_, h, _⟩ := h; exact h.frozen j
theorem TabB.chg {S : Nat → Prop} {w w' : World} {b : Nat} {t : TypeId} {vs : List Value} (h : TabB w b t vs) (hc : Chg S w w') (hb : ¬ S b) : TabB w' b t vs := by
  obtain ⟨arr, h, h2⟩ := h; exact ⟨arr, h.chg hc hb, h2⟩
theorem TabB.set {w : World} {b : Nat} {t : TypeId} {vs : List Value} (h : TabB w b t vs) (k : Nat) (v : Value) : TabB (w.setCell ⟨b, k, none⟩ v) b t (vs.set k v) := by
  obtain ⟨arr, h, h1, h2⟩ := h
  refine ⟨_, h.set k v, by simpa using h1, fun j u hu => ?_⟩
  by_cases hjk : k = j
  · subst hjk
    rw [List.getElem?_set_self' ] at hu
    cases hv : vs[k]? with
    | none => rw [hv] at hu; cases hu
    | some x =>
      rw [hv] at hu
      have hu' : v = u := by simpa using hu
      subst hu'
      have := h2 k x hv
      rw [Array.getElem?_setIfInBounds_self_of_lt (Array.getElem?_eq_some_iff.1 this).1]
  · rw [List.getElem?_set_ne hjk] at hu
    rw [Array.getElem?_setIfInBounds_ne hjk]
    exact h2 j u hu
/-- Bytes lie here, apart from such blocks. -/
def SegA (w : World) (T : Nat → Prop) (v : Value) (bs : List UInt8) : Prop := Seg w v bs ∧ (0 < bs.length → ∀ q, v.ownBlock = some q → ¬ T q)
theorem SegA.chg {T : Nat → Prop} {w w' : World} {v : Value} {bs : List UInt8} (h : SegA w T v bs) (hc : Chg T w w') : SegA w' T v bs := ⟨h.1.chg hc h.2, h.2⟩
def RowsA (w : World) (T : Nat → Prop) (vs : List Value) (rs : List (List UInt8)) : Prop := vs.length = rs.length ∧ ∀ (i : Nat) v r, vs[i]? = some v → rs[i]? = some r → SegA w T v r
theorem RowsA.chg {T : Nat → Prop} {w w' : World} {vs : List Value} {rs : List (List UInt8)} (h : RowsA w T vs rs) (hc : Chg T w w') : RowsA w' T vs rs := ⟨h.1, fun i v r h1 h2 => (h.2 i v r h1 h2).chg hc⟩
theorem RowsA.set {T : Nat → Prop} {w : World} {vs : List Value} {rs : List (List UInt8)} (h : RowsA w T vs rs) (k : Nat) (v : Value) (r : List UInt8) (hv : SegA w T v r) : RowsA w T (vs.set k v) (rs.set k r) := by
  refine ⟨by rw [List.length_set, List.length_set]; exact h.1, fun i u q h1 h2 => ?_⟩
  by_cases hik : k = i
  · subst hik
    rcases Nat.lt_or_ge k vs.length with hl | hl
    · rw [List.getElem?_set_self hl] at h1
      rw [List.getElem?_set_self (by rw [← h.1]; exact hl)] at h2
      cases h1; cases h2
      exact hv
    · rw [List.getElem?_eq_none (by rw [List.length_set]; exact hl)] at h1
      cases h1
  · rw [List.getElem?_set_ne hik] at h1 h2
    exact h.2 i u q h1 h2
theorem RowsA.at {T : Nat → Prop} {w : World} {vs : List Value} {rs : List (List UInt8)} (h : RowsA w T vs rs) {k : Nat} (hk : k < rs.length) : ∃ v, vs[k]? = some v ∧ SegA w T v (rs.getD k []) := by
  obtain ⟨v, hv⟩ : ∃ v, vs[k]? = some v := ⟨vs[k]'(by rw [h.1]; exact hk), List.getElem?_eq_getElem (by rw [h.1]; exact hk)⟩
  refine ⟨v, hv, h.2 k v _ hv ?_⟩
  rw [List.getD_eq_getElem?_getD, List.getElem?_eq_getElem hk]; rfl
/-- A slice of the call's own lies apart from what was there. -/
theorem Own.segA {w w0 : World} {T : Nat → Prop} {v : Value} {bs : List UInt8} (h : Own w w0.heap.size v bs) (hT : ∀ q, T q → q < w0.heap.size) : SegA w T v bs := ⟨h.seg, fun _ q hq e => by have := (h.blocks q hq).1; have := hT q e; omega⟩
end Go.Proofs.YtgoehohadnkpdaaDoor
namespace Go.Proofs.YtgoehohadnkpdaaDoor
open Go.RowKit

/-- A number of 64 bits. -/
def R64 (x : Int) : Prop := -9223372036854775808 ≤ x ∧ x ≤ 9223372036854775807
/-- How the program's flash lies in memory, and what its calls do. -/
structure PF where
  Lay : Type
  g : Lay → Nat
  T : Lay → Nat → Prop
  Rel : World → Lay → FS → Prop
  n : Lay → Nat
  ok : ∀ {w : World} {L : Lay} {s : FS}, Rel w L s → s.ok (n L)
  lt : ∀ {w : World} {L : Lay} {s : FS}, Rel w L s → ∀ q, T L q → q < w.heap.size
  chg : ∀ {w w' : World} {L : Lay} {s : FS} {S : Nat → Prop}, Rel w L s → Chg S w w' → (∀ q, T L q → ¬ S q) → Rel w' L s
  new_bad : ∀ (n k : Int) (w : World), R64 n → R64 k → (n < 1 ∨ 256 < n ∨ k < 1 ∨ 10000 < k) →
    Calls Tryd.prog 11 #[.int .i64 n, .int .i64 k] w fun e w' => e = .returned (.tuple #[.pointer none, .int .i64 1]) ∧ Below w.heap.size w w'
  new_any : ∀ (m k : Nat) (w : World), 1 ≤ m → m ≤ 256 → 1 ≤ k → k ≤ 10000 →
    Calls Tryd.prog 11 #[.int .i64 (m : Int), .int .i64 (k : Int)] w fun e w' => ∃ L : Lay, e = .returned (.tuple #[.pointer (some ⟨g L, 0, none⟩), .int .i64 0]) ∧ n L = m ∧ Rel w' L (newF m k) ∧ Below w.heap.size w w' ∧ (∀ q, T L q → w.heap.size ≤ q)
  read : ∀ (L : Lay) (s : FS) (a m : Int) (w : World), Rel w L s → R64 a → R64 m →
    Calls Tryd.prog 57 #[.pointer (some ⟨g L, 0, none⟩), .int .i64 a, .int .i64 m] w fun e w' => ∃ v, e = .returned (.tuple #[v, .int .i64 (readF s a m).2]) ∧ Own w' w.heap.size v (readF s a m).1 ∧ Below w.heap.size w w'
  program : ∀ (L : Lay) (s : FS) (a : Int) (x : Value) (bs : List UInt8) (w : World), Rel w L s → R64 a → Seg w x bs → bs.length ≤ maxLen → (0 < bs.length → ∀ q, x.ownBlock = some q → ¬ T L q) →
    Calls Tryd.prog 29 #[.pointer (some ⟨g L, 0, none⟩), .int .i64 a, x] w fun e w' => e = .returned (.int .i64 (programF s a bs).1) ∧ Rel w' L (programF s a bs).2 ∧ Chg (T L) w w'
  erase : ∀ (L : Lay) (s : FS) (b : Int) (w : World), Rel w L s → R64 b →
    Calls Tryd.prog 47 #[.pointer (some ⟨g L, 0, none⟩), .int .i64 b] w fun e w' => e = .returned (.int .i64 (eraseF s b).1) ∧ Rel w' L (eraseF s b).2 ∧ Chg (T L) w w'
  arm : ∀ (L : Lay) (s : FS) (c d : Int) (w : World), Rel w L s → R64 c → R64 d →
    Calls Tryd.prog 17 #[.pointer (some ⟨g L, 0, none⟩), .int .i64 c, .int .i64 d] w fun e w' => e = .returned (.tuple #[]) ∧ Rel w' L (armF s c d) ∧ Chg (T L) w w'
  power : ∀ (L : Lay) (s : FS) (w : World), Rel w L s →
    Calls Tryd.prog 18 #[.pointer (some ⟨g L, 0, none⟩)] w fun e w' => e = .returned (.tuple #[]) ∧ Rel w' L (powerF s) ∧ Chg (T L) w w'
theorem PF.after (P : PF) {w w' : World} {L : P.Lay} {s : FS} (h : P.Rel w L s) (hb : Below w.heap.size w w') : P.Rel w' L s :=
  P.chg h (Chg.of_below (S := fun _ => False) hb (Nat.le_refl _)) (fun _ _ => id)
end Go.Proofs.YtgoehohadnkpdaaDoor
namespace Go.Proofs.YtgoehohadnkpdaaDoor
open Go.RowKit

def wornV (l : List Nat) : Array Value := (l.map fun (x : Nat) => Value.int .i64 (x : Int)).toArray
theorem wornV_at {l : List Nat} {k : Nat} (h : k < l.length) : (wornV l)[k]? = some (.int .i64 ((l.getD k 0 : Nat) : Int)) := by
  simp [wornV, h]
theorem slice_midD (ao : Option Addr) (len c lo hi : Nat) (h : lo ≤ hi) (hc : hi ≤ c) (w : World) : (Instr.slice 35 (.slice ao len c) (some (.int .i64 (lo : Int))) (some (.int .i64 (hi : Int))) none).run Tryd.prog w = .ok (.slice (restD ao c lo) (hi - lo) (c - lo)) w := by
  rw [run_slice_lh w 35 ao len c (by rw [elem_bytesD]; exact Tryd.underlying35) .i64 .i64 lo hi (by omega) (by omega) (by omega), elem_bytesD, size_byteD]
  simp only [Result.andThen_ok, sliced, Int.toNat_natCast, restD]
theorem bits_and8 (x y : UInt8) : bits .and .u8 (n8 x) (n8 y) = n8 (x &&& y) := by
  have h : ∀ a b : Nat, a < 256 → b < 256 → bits .and .u8 (a : Int) (b : Int) = ((a &&& b : Nat) : Int) := fun a b ha hb => by
    show IntKind.u8.wrap ((BitVec.ofInt 8 (a : Int) &&& BitVec.ofInt 8 (b : Int)).toNat : Int) = _
    rw [BitVec.ofInt_natCast, BitVec.ofInt_natCast, BitVec.toNat_and, BitVec.toNat_ofNat, BitVec.toNat_ofNat, Nat.mod_eq_of_lt ha, Nat.mod_eq_of_lt hb, wrap_u8_nat, Nat.mod_eq_of_lt (Nat.lt_of_le_of_lt Nat.and_le_left ha)]
  unfold n8
  rw [h _ _ x.toNat_lt y.toNat_lt, UInt8.toNat_and]
theorem bytes_at {l : List UInt8} {k : Nat} (h : k < l.length) : ((l.map v8).toArray)[k]? = some (v8 (l.getD k 0)) := by
  simp [h]
theorem index_bytesZ (b off len c : Nat) (z : Int) (I : Nat) (hz : z = (I : Int)) (h : I < len) (w : World) : (Instr.indexAt 35 (.slice (some ⟨b, off, none⟩) len c) (.int .i64 z)).run Tryd.prog w = .ok (.pointer (some ⟨b, off + I, none⟩)) w := by
  subst hz
  have hi : (0 : Int) ≤ (I : Int) ∧ (I : Int) < (len : Int) := by omega
  simp [Instr.indexAt, asIntOf, run_underlying Tryd.underlying35, hi, Addr.add_mid]
  intro h2
  omega
theorem Tryd.info5q : (Tryd.prog.info? 5).map (fun i => (i.zero, i.size, i.bytes)) = some (some (.int .u8 0), 1, 1) := by kernel_rfl
theorem Tryd.info3q : (Tryd.prog.info? 3).map (fun i => (i.zero, i.size, i.bytes)) = some (some (.int .i64 0), 1, 8) := by kernel_rfl
def zbytes (n : Nat) : Array Value := ((List.replicate n (0 : UInt8)).map v8).toArray
def zints (n : Nat) : Array Value := wornV (List.replicate n 0)
theorem made_zbytes (n : Nat) : madeCells #[Value.int .u8 0] n = zbytes n := by
  unfold zbytes
  apply Array.ext
  · simp [madeCells]
  · intro i h1 h2
    have : v8 0 = Value.int .u8 0 := rfl
    simp [madeCells, this, Nat.mod_one]
theorem made_zints (n : Nat) : madeCells #[Value.int .i64 0] n = zints n := by
  unfold zints wornV
  apply Array.ext
  · simp [madeCells]
  · intro i h1 h2
    simp [madeCells, Nat.mod_one]
theorem exec_mkB {a : Act} {o : Oper} {w : World} (x : Operand) (ho : o.op = .makeSlice 35 x x) (n b : Nat) (w' : World) (hx : a.eval x = .int .i64 (n : Int)) (hn : n ≤ 1000000) (hb : b = w.heap.size) (hw : w' = w.alloc (.cells (zbytes n) 5)) : (execOp a.eval o).run Tryd.prog w = .ok (.value (.slice (some ⟨b, 0, none⟩) n n)) w' := by
  subst hb hw
  have := run_make_row' (P := Tryd.prog) 35 5 (.int .u8 0) 1 Tryd.underlying35 Tryd.info5q rfl .i64 .i64 n (by omega) (by omega) w
  rw [made_zbytes] at this
  unfold execOp
  simp only [ho, hx]
  rw [Sem.run_bind, this]
  rfl
theorem exec_mkI {a : Act} {o : Oper} {w : World} (x : Operand) (ho : o.op = .makeSlice 51 x x) (n b : Nat) (w' : World) (hx : a.eval x = .int .i64 (n : Int)) (hn : n ≤ 1000000) (hb : b = w.heap.size) (hw : w' = w.alloc (.cells (zints n) 3)) : (execOp a.eval o).run Tryd.prog w = .ok (.value (.slice (some ⟨b, 0, none⟩) n n)) w' := by
  subst hb hw
  have := run_make_row' (P := Tryd.prog) 51 3 (.int .i64 0) 8 Tryd.underlying51 Tryd.info3q rfl .i64 .i64 n (by omega) (by omega) w
  rw [made_zints] at this
  unfold execOp
  simp only [ho, hx]
  rw [Sem.run_bind, this]
  rfl
theorem exec_muli {a : Act} {o : Oper} {w : World} (t : TypeId) (x y : Operand) (ho : o.op = .binOp .mul t x y t) (m n r : Int) (hx : a.eval x = .int .i64 m) (hy : a.eval y = .int .i64 n) (h : IntKind.i64.wrap (m * n) = r) : (execOp a.eval o).run Tryd.prog w = .ok (.value (.int .i64 r)) w := by
  unfold execOp
  simp [ho, hx, hy]
  rw [← h]
  rfl
end Go.Proofs.YtgoehohadnkpdaaDoor
