/-
  What is proved here: plain facts on blocks of memory: what a block holds behind a store, a new block, a draw; and on arrays that are filled one cell after another.
  Conditions: those that each fact names.
-/
import Derived.Test.YthlohlomefiebaaShaPure
import Derived.WalkKit
import Derived.WalkSpells
import Derived.WalkLawsBesides
import Derived.Laws.CopyOwn
import Derived.Deep.MidRow
import Derived.Deep.AppendLies
import Derived.ArgAppend
import Derived.Deep.Quiet
namespace Go.Proofs.Ythlohlomefiebaa
open Go.RowKit

/-- Block g holds these cells, of element type t, none of them frozen. -/
def Blk (w : World) (g : Nat) (t : TypeId) (arr : Array Value) : Prop := w.heap[g]? = some (.cells arr t (0, 0))

theorem Blk.lt {w : World} {g : Nat} {t : TypeId} {arr : Array Value} (h : Blk w g t arr) : g < w.heap.size := (Array.getElem?_eq_some_iff.1 h).1
theorem Blk.cell {w : World} {g : Nat} {t : TypeId} {arr : Array Value} (h : Blk w g t arr) {j : Nat} {v : Value} (hv : arr[j]? = some v) : w.cell? ⟨g, j, none⟩ = some v := by
  rw [cell_of_row w g j arr t (0, 0) h, hv]
theorem Blk.frozen {w : World} {g : Nat} {t : TypeId} {arr : Array Value} (h : Blk w g t arr) (j : Nat) : w.frozen? ⟨g, j, none⟩ = false := frozen_of_row w g j arr t h
theorem Blk.set {w : World} {g : Nat} {t : TypeId} {arr : Array Value} (h : Blk w g t arr) (i : Nat) (v : Value) : Blk (w.setCell ⟨g, i, none⟩ v) g t (arr.setIfInBounds i v) := by
  unfold Blk; rw [setCell_eq_setRow w g i arr t (0, 0) v h]; exact setRow_heap w g arr _ t (0, 0) h
theorem Blk.setOther {w : World} {g : Nat} {t : TypeId} {arr : Array Value} (h : Blk w g t arr) (a : Addr) (v : Value) (hne : g ≠ a.block) : Blk (w.setCell a v) g t arr := by
  unfold Blk; rw [Below.heap_setCell w a v g hne]; exact h
theorem Blk.alloc {w : World} {g : Nat} {t : TypeId} {arr : Array Value} (h : Blk w g t arr) (o : Obj) : Blk (w.alloc o) g t arr := by
  unfold Blk; rw [Below.heap_alloc w o g h.lt]; exact h
theorem Blk.new (w : World) (t : TypeId) (arr : Array Value) : Blk (w.alloc (.cells arr t)) w.heap.size t arr := heap_alloc_new w _
theorem Blk.drew {w : World} {g : Nat} {t : TypeId} {arr : Array Value} (h : Blk w g t arr) : Blk w.drew g t arr := h
theorem Blk.drewN {w : World} {g : Nat} {t : TypeId} {arr : Array Value} (h : Blk w g t arr) (n : Nat) : Blk (w.drewN n) g t arr := h
theorem Below.drewN {B : Nat} {a w : World} (h : Below B a w) (n : Nat) : Below B a (w.drewN n) := ⟨h.os, h.tape, h.output, h.size, h.block⟩
theorem Blk.setRow {w : World} {g : Nat} {t : TypeId} {arr : Array Value} (h : Blk w g t arr) (arr' : Array Value) : Blk (w.setRow g arr') g t arr' := setRow_heap w g arr arr' t (0, 0) h
theorem Blk.setRowOther {w : World} {g : Nat} {t : TypeId} {arr : Array Value} (h : Blk w g t arr) (g' : Nat) (arr' : Array Value) (hne : g ≠ g') : Blk (w.setRow g' arr') g t arr := by
  unfold Blk; rw [setRow_other w g' g arr' hne]; exact h
theorem Blk.below {w w' : World} {g B : Nat} {t : TypeId} {arr : Array Value} (h : Blk w g t arr) (hb : Below B w w') (hg : g < B) : Blk w' g t arr := by
  unfold Blk; rw [hb.block g hg]; exact h
theorem Blk.grown {w w' : World} {g : Nat} {t : TypeId} {arr : Array Value} {row : Option Nat} (h : Blk w g t arr) (hb : w.grownBy w' row) (hg : some g ≠ row) : Blk w' g t arr := by
  unfold Blk; rw [hb.block g h.lt hg]; exact h

theorem Blk.newAt (w : World) (t : TypeId) (arr : Array Value) (n : Nat) (h : n = w.heap.size) : Blk (w.alloc (.cells arr t)) n t arr := by subst h; exact Blk.new w t arr
theorem Blk.of_eq {w : World} {g : Nat} {t : TypeId} {arr arr' : Array Value} (h : Blk w g t arr) (e : arr = arr') : Blk w g t arr' := e ▸ h
theorem at32 (ws : List (BitVec 32)) (j : Nat) (h : j < ws.length) : (ws.map v32).toArray[j]? = some (v32 (ws.getD j 0#32)) := by
  simp [h, List.getD]
theorem at8 (bs : List UInt8) (j : Nat) (h : j < bs.length) : (bs.map v8).toArray[j]? = some (v8 (bs.getD j 0)) := by
  simp [h, List.getD]

theorem Below.setRow {B : Nat} {a w : World} (h : Below B a w) (g : Nat) (cs : Array Value) (hg : B ≤ g) : Below B a (w.setRow g cs) := below_setRow h hg cs
theorem below_grown {B : Nat} {a w w' : World} {row : Option Nat} (h : Below B a w) (hg : w.grownBy w' row) (hB : B ≤ w.heap.size) (hr : ∀ k, row = some k → B ≤ k) : Below B a w' := h.grown hg hB hr
theorem bcell {W w1 : World} (hb : Below W.heap.size W w1) : (∀ b o, b < W.heap.size → w1.cell? ⟨b, o, none⟩ = W.cell? ⟨b, o, none⟩) ∧ (∀ b o, b < W.heap.size → w1.frozen? ⟨b, o, none⟩ = W.frozen? ⟨b, o, none⟩) :=
  ⟨fun b o h => hb.cell (p := ⟨b, o, none⟩) h, fun b o h => hb.frozen (p := ⟨b, o, none⟩) h⟩

/-- A whole array stored into a block: of the world behind it what is wanted, no more. -/
theorem store_blk {P : Program} {w : World} {ops : Array Oper} {rest : List Oper} {o : Oper} {a : Act} {Q : Exit → Act → World → Prop} (hgd : o.guard = none) (ty : TypeId) (x y : Operand) (ho : o.op = .store ty x y) (hd : o.dst = none)
    (g : Nat) (cells : Array Value) (hx : a.eval x = .pointer (some ⟨g, 0, none⟩)) (hy : a.eval y = .agg cells)
    (t : TypeId) (old : Array Value) (hg : Blk w g t old) (hi : (P.info? ty).map (·.size) = some cells.size)
    (hold : old.size = cells.size) (h1 : cells.all (·.oneCell') = true)
    (hK : ∀ w', Blk w' g t cells → w.grownBy w' (some g) → w'.heap.size = w.heap.size → wpList P ops Q rest a w') : wpList P ops Q (o :: rest) a w := by
  refine wpList_store_row hgd ty x y ho g cells hx hy t old hg hi hold h1 ?_
  rw [hd]
  exact hK _ (hg.setRow _) ⟨rfl, rfl, rfl, by simp, fun k _ hk => setRow_other w g k cells (fun e => hk (by rw [e]))⟩ (by simp)

/-- An array of n cells of which the first k are filled by f, the others hold z. -/
def upTo (n k : Nat) (f : Nat → Value) (z : Value) : Array Value := ((List.range n).map fun i => if i < k then f i else z).toArray
theorem upTo_size (n k : Nat) (f : Nat → Value) (z : Value) : (upTo n k f z).size = n := by simp [upTo]
theorem upTo_at (n k : Nat) (f : Nat → Value) (z : Value) (j : Nat) (h : j < n) : (upTo n k f z)[j]? = some (if j < k then f j else z) := by
  simp [upTo, h]
theorem upTo_set (n k : Nat) (f : Nat → Value) (z : Value) : (upTo n k f z).setIfInBounds k (f k) = upTo n (k + 1) f z := by
  apply Array.ext
  · simp [upTo]
  · intro i h1 h2
    simp only [Array.size_setIfInBounds, upTo_size] at h1
    rw [Array.getElem_setIfInBounds (by simpa [upTo_size] using h1)]
    simp only [upTo, List.getElem_toArray, List.getElem_map, List.getElem_range]
    by_cases he : k = i
    · subst he; simp
    · by_cases hl : i < k
      · simp [he, hl, show i < k + 1 by omega]
      · simp [he, hl, show ¬ i < k + 1 by omega]
theorem upTo_full (n : Nat) (f : Nat → Value) (z : Value) : upTo n n f z = ((List.range n).map f).toArray := by
  unfold upTo; congr 1; apply List.map_congr_left; intro i hi; simp at hi; simp [hi]
/-- An array of n cells of which the first k are filled by f, the others by z. -/
def mixTo (n k : Nat) (f z : Nat → Value) : Array Value := ((List.range n).map fun i => if i < k then f i else z i).toArray
theorem mixTo_size (n k : Nat) (f z : Nat → Value) : (mixTo n k f z).size = n := by simp [mixTo]
theorem mixTo_at (n k : Nat) (f z : Nat → Value) (j : Nat) (h : j < n) : (mixTo n k f z)[j]? = some (if j < k then f j else z j) := by
  simp [mixTo, h]
theorem mixTo_set (n k : Nat) (f z : Nat → Value) : (mixTo n k f z).setIfInBounds k (f k) = mixTo n (k + 1) f z := by
  apply Array.ext
  · simp [mixTo]
  · intro i h1 h2
    simp only [Array.size_setIfInBounds, mixTo_size] at h1
    rw [Array.getElem_setIfInBounds (by simpa [mixTo_size] using h1)]
    simp only [mixTo, List.getElem_toArray, List.getElem_map, List.getElem_range]
    by_cases he : k = i
    · subst he; simp
    · by_cases hl : i < k
      · simp [he, hl, show i < k + 1 by omega]
      · simp [he, hl, show ¬ i < k + 1 by omega]
theorem one8 (l : List UInt8) : (l.map v8).toArray.all (·.oneCell') = true := by
  simp [Value.oneCell']
theorem one32 (l : List (BitVec 32)) : (l.map v32).toArray.all (·.oneCell') = true := by
  simp [Value.oneCell']
theorem ret_agg {x y : Array Value} (h : x = y) : Ending.returned (.agg x) = .returned (.agg y) := by rw [h]
theorem ret_int {k : IntKind} {a b : Int} (h : a = b) : Ending.returned (.int k a) = .returned (.int k b) := by rw [h]

/-- The 32 bytes of eight words, of each the highest first. -/
def wb (ws : List (BitVec 32)) (i : Nat) : UInt8 := UInt8.ofNat ((ws.getD (i / 4) 0#32).toNat / 2 ^ (8 * (3 - i % 4)))
def wbytes (ws : List (BitVec 32)) : List UInt8 := (List.range 32).map (wb ws)
theorem wbytes_len (ws : List (BitVec 32)) : (wbytes ws).length = 32 := by simp [wbytes]
theorem wb_form (ws : List (BitVec 32)) (i : Nat) : IntKind.u8.wrap (n32 (ws.getD (i / 4) 0#32) / 2 ^ (8 * (3 - i % 4))) = n8 (wb ws i) := by
  unfold n32 n8 wb
  rw [natPow, ← Int.natCast_ediv, wrap_u8_nat]; simp

/-- The words of a block, one after another. -/
def schW (blk : List UInt8) (j : Nat) : BitVec 32 := (sched blk 64).getD j 0#32
theorem sched_prefix (blk : List UInt8) (t d : Nat) (j : Nat) (h : j < t) : (sched blk (t + d)).getD j 0#32 = (sched blk t).getD j 0#32 := by
  induction d with
  | zero => rfl
  | succ d ih =>
    rw [← ih, ← Nat.add_assoc, sched]
    simp only [List.getD_eq_getElem?_getD]
    rw [List.getElem?_append_left (by rw [sched_len]; omega)]
theorem schW_eq (blk : List UInt8) (t : Nat) (ht : t ≤ 64) (j : Nat) (h : j < t) : (sched blk t).getD j 0#32 = schW blk j := by
  unfold schW
  have := sched_prefix blk t (64 - t) j h
  rw [show t + (64 - t) = 64 by omega] at this
  exact this.symm
theorem schW_first (blk : List UInt8) (t : Nat) (h : t < 16) : schW blk t = wordAt blk t := by
  rw [← schW_eq blk (t + 1) (by omega) t (by omega), sched]
  simp [List.getD, sched_len, h]
theorem schW_next (blk : List UInt8) (t : Nat) (h : 16 ≤ t) (h2 : t < 64) : schW blk t = sg1 (schW blk (t - 2)) + schW blk (t - 7) + sg0 (schW blk (t - 15)) + schW blk (t - 16) := by
  rw [← schW_eq blk (t + 1) (by omega) t (by omega), sched]
  simp only [List.getD_eq_getElem?_getD]
  rw [List.getElem?_append_right (by rw [sched_len]; omega), sched_len]
  simp only [Nat.sub_self, List.getElem?_cons_zero, Option.getD_some, show ¬ t < 16 by omega, if_false, schNext]
  rw [schW_eq blk t (by omega) _ (by omega), schW_eq blk t (by omega) _ (by omega), schW_eq blk t (by omega) _ (by omega), schW_eq blk t (by omega) _ (by omega)]
theorem word_form (blk : List UInt8) (t : Nat) : IntKind.u32.wrap (beNat ((blk.drop (4 * t)).take 4) : Int) = n32 (wordAt blk t) := by
  rw [wrap_u32_nat]; simp [n32, wordAt]

/-- The eight bytes of a number, the highest first. -/
def be8at (n i : Nat) : UInt8 := UInt8.ofNat (n / 2 ^ (8 * (7 - i)))
def be8 (n : Nat) : List UInt8 := (List.range 8).map (be8at n)
theorem be8_len (n : Nat) : (be8 n).length = 8 := by simp [be8]
theorem be8_form (n i : Nat) : IntKind.u8.wrap ((n : Int) / 2 ^ (8 * (7 - i))) = n8 (be8at n i) := by
  unfold n8 be8at
  rw [natPow, ← Int.natCast_ediv, wrap_u8_nat]; simp
theorem be8_low (n k : Nat) (h : k < 8) : IntKind.u8.wrap ((n / 256 ^ k : Nat) % 256 : Int) = n8 (be8at n (7 - k)) := by
  unfold n8 be8at
  rw [show ((n / 256 ^ k : Nat) % 256 : Int) = ((n / 256 ^ k % 256 : Nat) : Int) by simp, wrap_u8_nat, show 8 * (7 - (7 - k)) = 8 * k by omega, Nat.pow_mul]; simp
theorem be8_take_succ (n k : Nat) (h : k < 8) : (be8 n).take (k + 1) = (be8 n).take k ++ [be8at n k] := by
  rw [List.take_succ_eq_append_getElem (by simpa [be8_len] using h)]; simp [be8]

/-- An array of n cells that is filled from its end: the last k hold f, the others z. -/
def dnTo (n k : Nat) (f : Nat → Value) (z : Value) : Array Value := ((List.range n).map fun i => if n - k ≤ i then f i else z).toArray
theorem dnTo_size (n k : Nat) (f : Nat → Value) (z : Value) : (dnTo n k f z).size = n := by simp [dnTo]
theorem dnTo_at (n k : Nat) (f : Nat → Value) (z : Value) (j : Nat) (h : j < n) : (dnTo n k f z)[j]? = some (if n - k ≤ j then f j else z) := by
  simp [dnTo, h]
theorem dnTo_set (n k : Nat) (f : Nat → Value) (z : Value) (hk : k < n) : (dnTo n k f z).setIfInBounds (n - 1 - k) (f (n - 1 - k)) = dnTo n (k + 1) f z := by
  apply Array.ext
  · simp [dnTo]
  · intro i h1 h2
    simp only [Array.size_setIfInBounds, dnTo_size] at h1
    rw [Array.getElem_setIfInBounds (by simpa [dnTo_size] using h1)]
    simp only [dnTo, List.getElem_toArray, List.getElem_map, List.getElem_range]
    by_cases he : n - 1 - k = i
    · subst he; simp [show n - (k + 1) ≤ n - 1 - k by omega]
    · by_cases hl : n - k ≤ i
      · simp [he, hl, show n - (k + 1) ≤ i by omega]
      · simp [he, hl, show ¬ n - (k + 1) ≤ i by omega]
theorem dnTo_full (n : Nat) (f : Nat → Value) (z : Value) : dnTo n n f z = ((List.range n).map f).toArray := by
  unfold dnTo; congr 1; apply List.map_congr_left; intro i hi; simp

/-- Cells that lie in a block from its beginning on. -/
def Tab (w : World) (g : Nat) (vs : List Value) : Prop := ∀ (j : Nat) v, vs[j]? = some v → w.cell? ⟨g, j, none⟩ = some v
theorem Tab.below {w w' : World} {g B : Nat} {vs : List Value} (h : Tab w g vs) (hb : Below B w w') (hg : g < B) : Tab w' g vs := fun j v hv => by
  rw [hb.cell (p := ⟨g, j, none⟩) hg]; exact h j v hv
/-- Bytes that lie in a block, from a place on. -/
def Row (w : World) (b off : Nat) (bs : List UInt8) : Prop := ∀ j (h : j < bs.length), w.cell? ⟨b, off + j, none⟩ = some (.int .u8 (n8 bs[j]))
theorem Row.below {w w' : World} {b off B : Nat} {bs : List UInt8} (h : Row w b off bs) (hb : Below B w w') (hg : b < B) : Row w' b off bs := fun j hj => by
  rw [hb.cell (p := ⟨b, off + j, none⟩) hg]; exact h j hj
theorem Row.grown {w w' : World} {b off : Nat} {bs : List UInt8} {row : Option Nat} (h : Row w b off bs) (hb : w.grownBy w' row) (hg : some b ≠ row) : Row w' b off bs := fun j hj =>
  hb.cell (h j hj) hg
theorem Row.at {w : World} {b off : Nat} {bs : List UInt8} (h : Row w b off bs) : ∀ (j : Nat) u, (bs.map v8)[j]? = some u → w.cell? ((⟨b, off, none⟩ : Addr).add j) = some u := fun j u hu => by
  have hj : j < bs.length := by
    rcases Nat.lt_or_ge j bs.length with h | h
    · exact h
    · rw [List.getElem?_eq_none (by simpa using h)] at hu; cases hu
  rw [Addr.add_mid, h j hj, ← hu]; simp [hj]
theorem Row.drop {w : World} {b off : Nat} {bs : List UInt8} (h : Row w b off bs) (k : Nat) : Row w b (off + k) (bs.drop k) := fun j hj => by
  have := h (k + j) (by simp at hj; omega)
  rw [Nat.add_assoc, this]; simp
theorem Row.take {w : World} {b off : Nat} {bs : List UInt8} (h : Row w b off bs) (k : Nat) : Row w b off (bs.take k) := fun j hj => by
  have := h j (by simp at hj; omega)
  rw [this]; simp
theorem Blk.row {w : World} {g : Nat} {t : TypeId} {bs : List UInt8} (h : Blk w g t (bs.map v8).toArray) : Row w g 0 bs := fun j hj => by
  rw [Nat.zero_add, h.cell (v := v8 bs[j]) (by simp [hj])]
theorem one8l (l : List UInt8) : ∀ u ∈ l.map v8, u.oneCell' = true := fun u hu => by
  obtain ⟨b, _, rfl⟩ := List.mem_map.1 hu; rfl

end Go.Proofs.Ythlohlomefiebaa
