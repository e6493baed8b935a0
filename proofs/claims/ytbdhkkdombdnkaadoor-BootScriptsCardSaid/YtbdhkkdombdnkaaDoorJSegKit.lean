/-
  What is proved here: plain facts on slices of bytes: as a text, of how many bytes, their beginnings and their rests. plain facts on worlds in which, of the blocks that were there, only such of a kind have changed. bytes of numbers and of single values as cells of memory; an index into bytes. plain facts on what a flash does: its bytes, how often each block was erased, when the power goes.
  Conditions: those that each fact names.
-/
import Derived.Test.YtbdhkkdombdnkaaDoorJShaPure
import Derived.Test.YtbdhkkdombdnkaaDoorJDiskPure
namespace Go.Proofs.YtbdhkkdombdnkaaDoor
open Go.RowKit

theorem own_emptyD (w : World) (base n : Nat) (hn : n = w.heap.size) (hb : base ≤ w.heap.size) : Own (w.alloc (.cells #[] 5)) base (.slice (some ⟨n, 0, none⟩) 0 0) [] := by
  subst hn
  exact ⟨rfl, .inr ⟨w.heap.size, 0, #[], rfl, hb, heap_alloc_new w _, Nat.le_refl _, Nat.zero_le _, rfl, rfl⟩⟩
theorem seg_stringD {w : World} {v : Value} {bs : List UInt8} (h : Seg w v bs) (t : TypeId) (ht : Tryd.prog.underlying t = some .string) : (convert 41 t v).run Tryd.prog w = .ok (.string ⟨bs.toArray⟩) w := by
  rcases h with ⟨rfl, ao, c, rfl, _⟩ | ⟨b, off, c, rfl, _, hr, _⟩
  · rw [run_convert_bytes_string w 41 t 5 _ 0 c Tryd.underlying41 Tryd.underlying5 ht]
    cases ao <;> simp [Conv.bytesToString, loadCells]
    all_goals rfl
  · exact run_convert_bytes_back w 41 t 5 ⟨b, off, none⟩ c bs Tryd.underlying41 Tryd.underlying5 ht (fun j hj => by rw [Addr.add_mid]; exact hr j hj)
theorem Seg.shapeD {w : World} {v : Value} {bs : List UInt8} (h : Seg w v bs) : ∃ ao c, v = .slice ao bs.length c := by
  rcases h with ⟨rfl, ao', c', h, _⟩ | ⟨b, off, c', h, _⟩
  · exact ⟨_, _, h⟩
  · exact ⟨_, _, h⟩
theorem Seg.formD {w : World} {ao : Option Addr} {n c : Nat} {bs : List UInt8} (h : Seg w (.slice ao n c) bs) (hn : 0 < n) : ∃ b off, ao = some ⟨b, off, none⟩ ∧ n ≤ c ∧ Row w b off bs ∧ b < w.heap.size := by
  rcases h with ⟨rfl, ao', c', h, _⟩ | ⟨b, off, c', h, h2, h3, h4⟩
  · cases h; omega
  · cases h; exact ⟨b, off, rfl, h2, h3, h4⟩
theorem elem_bytesD : Tryd.prog.elem 41 = 5 := by kernel_rfl
theorem size_byteD (w : World) : (sizeOf 5).run Tryd.prog w = .ok 1 w := by kernel_rfl
theorem add_zero_addrD (ao : Option Addr) : ao.map (·.add 0) = ao := by
  cases ao with
  | none => rfl
  | some a => obtain ⟨b, o, s⟩ := a; simp [Addr.add]
theorem slice_toD (ao : Option Addr) (len c n : Nat) (h : n ≤ c) (w : World) : (Instr.slice 41 (.slice ao len c) none (some (.int .i64 (n : Int))) none).run Tryd.prog w = .ok (.slice ao n c) w := by
  rw [run_slice_h w 41 ao len c (by rw [elem_bytesD]; exact Tryd.underlying41) .i64 n (by omega) (by omega), elem_bytesD, size_byteD]
  simp only [Result.andThen_ok, sliced, Int.toNat_natCast, Nat.zero_mul, add_zero_addrD, Nat.sub_zero, ite_self]
/-- Where the rest of a slice begins. -/
def restD (ao : Option Addr) (c lo : Nat) : Option Addr := if c = lo then ao else ao.map (·.add (lo * 1))
theorem slice_restD (ao : Option Addr) (len c lo : Nat) (h : lo ≤ len) (w : World) : (Instr.slice 41 (.slice ao len c) (some (.int .i64 (lo : Int))) none none).run Tryd.prog w = .ok (.slice (restD ao c lo) (len - lo) (c - lo)) w := by
  rw [run_slice_l w 41 ao len c (by rw [elem_bytesD]; exact Tryd.underlying41) .i64 lo (by omega) (by omega), elem_bytesD, size_byteD]
  simp only [Result.andThen_ok, sliced, Int.toNat_natCast, restD]
theorem Seg.takesD {w : World} {ao : Option Addr} {len c : Nat} {bs : List UInt8} (h : Seg w (.slice ao len c) bs) (n : Nat) (hn : n ≤ len) : Seg w (.slice ao n c) (bs.take n) ∧ n ≤ c := by
  rcases h with ⟨rfl, ao', c', h, h2⟩ | ⟨b, off, c', h, h2, h3, h4⟩
  · cases h
    obtain rfl : n = 0 := by omega
    exact ⟨.inl ⟨rfl, _, _, rfl, h2⟩, Nat.zero_le _⟩
  · cases h
    exact ⟨Seg.of_row (h3.take n) (by simp; omega) (by omega) h4, by omega⟩
theorem Seg.dropsD {w : World} {ao : Option Addr} {len c : Nat} {bs : List UInt8} (h : Seg w (.slice ao len c) bs) (n : Nat) (hn : n ≤ len) : Seg w (.slice (restD ao c n) (len - n) (c - n)) (bs.drop n) := by
  rcases h with ⟨rfl, ao', c', h, h2⟩ | ⟨b, off, c', h, h2, h3, h4⟩
  · cases h
    obtain rfl : n = 0 := by omega
    refine .inl ⟨rfl, _, _, rfl, fun e => ?_⟩
    unfold restD at e
    split at e
    · omega
    · rw [Option.map_eq_none_iff] at e
      have := h2 e
      omega
  · cases h
    by_cases hc : c = n
    · have e : restD (some ⟨b, off, none⟩) c n = some ⟨b, off, none⟩ := by unfold restD; rw [if_pos hc]
      rw [e]
      have hb : bs.drop n = [] := List.drop_eq_nil_of_le (by omega)
      rw [hb]
      exact .inl ⟨rfl, _, c - n, by congr 1; omega, fun e => by cases e⟩
    · have e : restD (some ⟨b, off, none⟩) c n = some ⟨b, off + n, none⟩ := by unfold restD; rw [if_neg hc, Option.map_some, Addr.add_mid, Nat.mul_one]
      rw [e]
      exact Seg.of_row (h3.drop n) (by simp) (by omega) h4
theorem rest_block (ao : Option Addr) (c n l' c' len : Nat) (q : Nat) (h : (Value.slice (restD ao c n) l' c').ownBlock = some q) : (Value.slice ao len c).ownBlock = some q := by
  cases ao with
  | none =>
    unfold restD at h
    split at h
    · simp [Value.ownBlock] at h
    · simp [Value.ownBlock] at h
  | some a =>
    unfold restD at h
    split at h
    · simpa [Value.ownBlock] using h
    · by_cases h0 : n = 0 <;> simpa [Value.ownBlock, Addr.add, h0] using h
end Go.Proofs.YtbdhkkdombdnkaaDoor
namespace Go.Proofs.YtbdhkkdombdnkaaDoor
open Go.RowKit

/-- Of the blocks that were there, none but such have changed. -/
def Chg (S : Nat → Prop) (w w' : World) : Prop := Below 0 w w' ∧ ∀ k, k < w.heap.size → ¬ S k → w'.heap[k]? = w.heap[k]?
theorem Chg.size {S : Nat → Prop} {w w' : World} (h : Chg S w w') : w.heap.size ≤ w'.heap.size := h.1.size
theorem Chg.refl (S : Nat → Prop) (w : World) : Chg S w w := ⟨Below.refl _ _, fun _ _ _ => rfl⟩
theorem Chg.trans {S S' : Nat → Prop} {w w' w'' : World} (h : Chg S w w') (h' : Chg S' w' w'') (hS : ∀ k, k < w.heap.size → S' k → S k) : Chg S w w'' :=
  ⟨h.1.trans h'.1, fun k hk hn => (h'.2 k (Nat.lt_of_lt_of_le hk h.size) (fun e => hn (hS k hk e))).trans (h.2 k hk hn)⟩
theorem Chg.of_below {S : Nat → Prop} {B : Nat} {w w' : World} (h : Below B w w') (hB : w.heap.size ≤ B) : Chg S w w' :=
  ⟨h.mono (Nat.zero_le _), fun k hk _ => h.block k (Nat.lt_of_lt_of_le hk hB)⟩
theorem Chg.of_grown {S : Nat → Prop} {w w' : World} {row : Option Nat} (h : w.grownBy w' row) (hS : ∀ k, row = some k → S k) : Chg S w w' :=
  ⟨below_grown (Below.refl 0 w) h (Nat.zero_le _) (fun _ _ => Nat.zero_le _), fun k hk hn => h.block k hk (fun e => hn (hS k e.symm))⟩
theorem Chg.alloc {S : Nat → Prop} {w w' : World} (h : Chg S w w') (o : Obj) : Chg S w (w'.alloc o) :=
  h.trans (S' := S) (Chg.of_below ((Below.refl w'.heap.size w').alloc (Nat.le_refl _) o) (Nat.le_refl _)) (fun _ _ h => h)
theorem Chg.setCell {S : Nat → Prop} {w w' : World} (h : Chg S w w') (g i : Nat) (v : Value) (hS : g < w.heap.size → S g) : Chg S w (w'.setCell ⟨g, i, none⟩ v) :=
  h.trans (S' := fun k => k = g) ⟨(Below.refl 0 w').setCell (p := ⟨g, i, none⟩) (Nat.zero_le _) v, fun k _ hn => Below.heap_setCell w' ⟨g, i, none⟩ v k hn⟩ (fun k hk e => by subst e; exact hS hk)
theorem Chg.below {S : Nat → Prop} {B : Nat} {w w' : World} (h : Chg S w w') (hS : ∀ k, S k → B ≤ k) (hB : B ≤ w.heap.size) : Below B w w' :=
  ⟨h.1.os, h.1.tape, h.1.output, h.1.size, fun k hk => h.2 k (Nat.lt_of_lt_of_le hk hB) (fun e => by have := hS k e; omega)⟩
theorem Own.chg {S : Nat → Prop} {w w' : World} {lo : Nat} {v : Value} {bs : List UInt8} (h : Own w lo v bs) (hc : Chg S w w') (hv : ∀ k, v.ownBlock = some k → ¬ S k) : Own w' lo v bs := by
  refine ⟨h.1, ?_⟩
  rcases h.2 with h2 | ⟨g, cap, cur, h1, h2, h3, h4⟩
  · exact .inl h2
  · exact .inr ⟨g, cap, cur, h1, h2, by rw [hc.2 g (Array.getElem?_eq_some_iff.1 h3).1 (hv g (by rw [h1]; rfl))]; exact h3, h4⟩
theorem Seg.chg {S : Nat → Prop} {w w' : World} {v : Value} {bs : List UInt8} (h : Seg w v bs) (hc : Chg S w w') (hv : 0 < bs.length → ∀ k, v.ownBlock = some k → ¬ S k) : Seg w' v bs := by
  rcases h with h | ⟨b, off, c, h1, h2, h3, h4⟩
  · exact .inl h
  · refine .inr ⟨b, off, c, h1, h2, fun j hj => ?_, Nat.lt_of_lt_of_le h4 hc.size⟩
    rw [World.cell?_of_block (w := w) (a := ⟨b, off + j, none⟩) (hc.2 b h4 (hv (by omega) b (by rw [h1]; rfl)))]
    exact h3 j hj
theorem Blk.chg {S : Nat → Prop} {w w' : World} {g : Nat} {t : TypeId} {arr : Array Value} (h : Blk w g t arr) (hc : Chg S w w') (hg : ¬ S g) : Blk w' g t arr := by
  unfold Blk; rw [hc.2 g h.lt hg]; exact h
theorem Tab.chg {S : Nat → Prop} {w w' : World} {g : Nat} {vs : List Value} (h : Tab w g vs) (hc : Chg S w w') (hl : g < w.heap.size) (hg : ¬ S g) : Tab w' g vs := fun j v hv => by
  rw [World.cell?_of_block (w := w) (a := ⟨g, j, none⟩) (hc.2 g hl hg)]; exact h j v hv
theorem Chg.weaken {S S' : Nat → Prop} {w w' : World} (h : Chg S w w') (hS : ∀ k, S k → S' k) : Chg S' w w' := ⟨h.1, fun k hk hn => h.2 k hk (fun e => hn (hS k e))⟩
theorem Chg.drew {S : Nat → Prop} {w w' : World} (h : Chg S w w') : Chg S w w'.drew := ⟨h.1.drew, h.2⟩
/-- A table: a block whose first cells are these. -/
def TabB (w : World) (b : Nat) (t : TypeId) (vs : List Value) : Prop := ∃ arr, Blk w b t arr ∧ vs.length ≤ arr.size ∧ ∀ (j : Nat) v, vs[j]? = some v → arr[j]? = some v
theorem TabB.lt {w : World} {b : Nat} {t : TypeId} {vs : List Value} (h : TabB w b t vs) : b < w.heap.size := by obtain ⟨_, h, _⟩ := h; exact h.lt
theorem TabB.cell {w : World} {b : Nat} {t : TypeId} {vs : List Value} (h : TabB w b t vs) {j : Nat} {v : Value} (hv : vs[j]? = some v) : w.cell? ⟨b, j, none⟩ = some v := by
  obtain ⟨_, h, _, h2⟩ := h; exact h.cell (h2 j v hv)
theorem TabB.frozen {w : World} {b : Nat} {t : TypeId} {vs : List Value} (h : TabB w b t vs) (j : Nat) : w.frozen? ⟨b, j, none⟩ = false := by
  obtain ⟨_, h, _⟩ := h; exact h.frozen j
theorem TabB.chg {S : Nat → Prop} {w w' : World} {b : Nat} {t : TypeId} {vs : List Value} (h : TabB w b t vs) (hc : Chg S w w') (hb : ¬ S b) : TabB w' b t vs := by
  obtain ⟨arr, h, h2⟩ := h; exact ⟨arr, h.chg hc hb, h2⟩
theorem TabB.set {w : World} {b : Nat} {t : TypeId} {vs : List Value} (h : TabB w b t vs) (k : Nat) (v : Value) : TabB (w.setCell ⟨b, k, none⟩ v) b t (vs.set k v) := by
  obtain ⟨arr, h, h1, h2⟩ := h
  refine ⟨_, h.set k v, by simpa using h1, fun j u hu => ?_⟩
  by_cases hjk : k = j
  · subst hjk
    rw [List.getElem?_set_self' ] at hu
    cases hv : vs[k]? with
    | none => rw [hv] at hu; cases hu
    | some x =>
      rw [hv] at hu
      have hu' : v = u := by simpa using hu
      subst hu'
      have := h2 k x hv
      rw [Array.getElem?_setIfInBounds_self_of_lt (Array.getElem?_eq_some_iff.1 this).1]
  · rw [List.getElem?_set_ne hjk] at hu
    rw [Array.getElem?_setIfInBounds_ne hjk]
    exact h2 j u hu
/-- Bytes lie here, apart from such blocks. -/
def SegA (w : World) (T : Nat → Prop) (v : Value) (bs : List UInt8) : Prop := Seg w v bs ∧ (0 < bs.length → ∀ q, v.ownBlock = some q → ¬ T q)
theorem SegA.chg {T : Nat → Prop} {w w' : World} {v : Value} {bs : List UInt8} (h : SegA w T v bs) (hc : Chg T w w') : SegA w' T v bs := ⟨h.1.chg hc h.2, h.2⟩
def RowsA (w : World) (T : Nat → Prop) (vs : List Value) (rs : List (List UInt8)) : Prop := vs.length = rs.length ∧ ∀ (i : Nat) v r, vs[i]? = some v → rs[i]? = some r → SegA w T v r
theorem RowsA.chg {T : Nat → Prop} {w w' : World} {vs : List Value} {rs : List (List UInt8)} (h : RowsA w T vs rs) (hc : Chg T w w') : RowsA w' T vs rs := ⟨h.1, fun i v r h1 h2 => (h.2 i v r h1 h2).chg hc⟩
theorem RowsA.set {T : Nat → Prop} {w : World} {vs : List Value} {rs : List (List UInt8)} (h : RowsA w T vs rs) (k : Nat) (v : Value) (r : List UInt8) (hv : SegA w T v r) : RowsA w T (vs.set k v) (rs.set k r) := by
  refine ⟨by rw [List.length_set, List.length_set]; exact h.1, fun i u q h1 h2 => ?_⟩
  by_cases hik : k = i
  · subst hik
    rcases Nat.lt_or_ge k vs.length with hl | hl
    · rw [List.getElem?_set_self hl] at h1
      rw [List.getElem?_set_self (by rw [← h.1]; exact hl)] at h2
      cases h1; cases h2
      exact hv
    · rw [List.getElem?_eq_none (by rw [List.length_set]; exact hl)] at h1
      cases h1
  · rw [List.getElem?_set_ne hik] at h1 h2
    exact h.2 i u q h1 h2
theorem RowsA.at {T : Nat → Prop} {w : World} {vs : List Value} {rs : List (List UInt8)} (h : RowsA w T vs rs) {k : Nat} (hk : k < rs.length) : ∃ v, vs[k]? = some v ∧ SegA w T v (rs.getD k []) := by
  obtain ⟨v, hv⟩ : ∃ v, vs[k]? = some v := ⟨vs[k]'(by rw [h.1]; exact hk), List.getElem?_eq_getElem (by rw [h.1]; exact hk)⟩
  refine ⟨v, hv, h.2 k v _ hv ?_⟩
  rw [List.getD_eq_getElem?_getD, List.getElem?_eq_getElem hk]; rfl
/-- A slice of the call's own lies apart from what was there. -/
theorem Own.segA {w w0 : World} {T : Nat → Prop} {v : Value} {bs : List UInt8} (h : Own w w0.heap.size v bs) (hT : ∀ q, T q → q < w0.heap.size) : SegA w T v bs := ⟨h.seg, fun _ q hq e => by have := (h.blocks q hq).1; have := hT q e; omega⟩
end Go.Proofs.YtbdhkkdombdnkaaDoor
namespace Go.Proofs.YtbdhkkdombdnkaaDoor
open Go.RowKit

theorem own_new7 (w : World) (bs : List UInt8) (hm : bs.length ≤ maxLen) : Own (w.alloc (.cells (bs.map v8).toArray 5)) w.heap.size (.slice (some ⟨w.heap.size, 0, none⟩) bs.length bs.length) bs :=
  ⟨by simp, .inr ⟨w.heap.size, bs.length, (bs.map v8).toArray, rfl, Nat.le_refl _, heap_alloc_new w _, Nat.le_refl _, hm, by simp, by rw [Nat.mul_one]; exact List.take_of_length_le (by simp)⟩⟩
theorem v8_ofNat (k : Nat) (h : k < 256) : v8 (UInt8.ofNat k) = .int .u8 (k : Int) := by
  unfold v8 n8
  rw [UInt8.toNat_ofNat', Nat.mod_eq_of_lt h]
theorem num4_cells (n : Nat) (hn : n < 4294967296) : ((num4 n).map v8).toArray = #[.int .u8 ((n : Int) % 256), .int .u8 ((n : Int) / 256 % 256), .int .u8 ((n : Int) / 65536 % 256), .int .u8 ((n : Int) / 16777216)] := by
  show #[v8 (UInt8.ofNat (n % 256)), v8 (UInt8.ofNat (n / 256 % 256)), v8 (UInt8.ofNat (n / 65536 % 256)), v8 (UInt8.ofNat (n / 16777216 % 256))] = _
  rw [v8_ofNat _ (by omega), v8_ofNat _ (by omega), v8_ofNat _ (by omega), v8_ofNat _ (by omega)]
  have e : n / 16777216 % 256 = n / 16777216 := by omega
  rw [e]
  rfl
theorem index7 (b off len c : Nat) (z : Int) (I : Nat) (hz : z = (I : Int)) (h : I < len) (w : World) : (Instr.indexAt 41 (.slice (some ⟨b, off, none⟩) len c) (.int .i64 z)).run Tryd.prog w = .ok (.pointer (some ⟨b, off + I, none⟩)) w := by
  subst hz
  have hi : (0 : Int) ≤ (I : Int) ∧ (I : Int) < (len : Int) := by omega
  simp [Instr.indexAt, asIntOf, run_underlying Tryd.underlying41, hi, Addr.add_mid]
  intro h2
  omega
end Go.Proofs.YtbdhkkdombdnkaaDoor
namespace Go.Proofs.YtbdhkkdombdnkaaDoor

structure FS where
  b : List UInt8
  worn : List Nat
  most : Nat
  armed : Int
  done : Int
  down : Bool
/-- So many blocks; numbers that may be. -/
structure FS.ok (s : FS) (n : Nat) : Prop where
  b : s.b.length = 1024 * n
  worn : s.worn.length = n
  one : 1 ≤ n
  cap : n ≤ 256
  most : s.most ≤ 10000
  worns : ∀ x ∈ s.worn, x ≤ s.most
  armed : -1 ≤ s.armed ∧ s.armed ≤ 9223372036854775807
  done : 0 ≤ s.done ∧ s.done ≤ 9223372036854775807
def newF (n wear : Nat) : FS := ⟨List.replicate (1024 * n) 255, List.replicate n 0, wear, -1, 0, false⟩
/-- Are all bytes from a place on there? -/
def thereB (s : FS) (at_ n : Int) : Bool := decide (0 ≤ n) && decide (n ≤ 4096) && decide (0 ≤ at_) && decide (at_ ≤ (s.b.length : Int) - n)
def wearF (s : FS) (k : Int) : Nat × Int := if k < 0 ∨ (s.worn.length : Int) ≤ k then (0, 1) else (s.worn.getD k.toNat 0, 0)
def readF (s : FS) (at_ n : Int) : List UInt8 × Int := if s.down then ([], 7) else if thereB s at_ n = false then ([], 1) else ((s.b.drop at_.toNat).take n.toNat, 0)
/-- How many bytes of a change are done, what it answers, what is behind it. -/
def goesF (s : FS) (n : Nat) : Nat × Int × FS := if s.armed < 0 then (n, 0, s) else if 0 < s.armed then (n, 0, { s with armed := s.armed - 1 }) else ((min (n : Int) s.done).toNat, 7, { s with armed := -1, down := true })
/-- The first n of these bytes are programmed from a place on. -/
def progL (l : List UInt8) (a : Nat) (b : List UInt8) (n : Nat) : List UInt8 := (List.range l.length).map fun i => if a ≤ i ∧ i < a + n then l.getD i 0 &&& b.getD (i - a) 0 else l.getD i 0
/-- The first n bytes from a place on are ones. -/
def onesL (l : List UInt8) (a n : Nat) : List UInt8 := (List.range l.length).map fun i => if a ≤ i ∧ i < a + n then 255 else l.getD i 0
def programF (s : FS) (at_ : Int) (b : List UInt8) : Int × FS := if thereB s at_ b.length = false then (1, s) else if s.down then (7, s) else ((goesF s b.length).2.1, { (goesF s b.length).2.2 with b := progL s.b at_.toNat b (goesF s b.length).1 })
def eraseF (s : FS) (k : Int) : Int × FS := if k < 0 ∨ (s.worn.length : Int) ≤ k then (1, s) else if s.down then (7, s) else if s.most ≤ s.worn.getD k.toNat 0 then (8, s) else ((goesF s 1024).2.1, { (goesF s 1024).2.2 with b := onesL s.b (1024 * k.toNat) (goesF s 1024).1, worn := s.worn.set k.toNat (s.worn.getD k.toNat 0 + 1) })
def armF (s : FS) (c d : Int) : FS := { s with armed := max c 0, done := max d 0 }
def powerF (s : FS) : FS := { s with armed := -1, down := false }

theorem progL_len (l : List UInt8) (a : Nat) (b : List UInt8) (n : Nat) : (progL l a b n).length = l.length := by simp [progL]
theorem onesL_len (l : List UInt8) (a n : Nat) : (onesL l a n).length = l.length := by simp [onesL]
theorem progL_at (l : List UInt8) (a : Nat) (b : List UInt8) (n i : Nat) (h : i < l.length) : (progL l a b n).getD i 0 = if a ≤ i ∧ i < a + n then l.getD i 0 &&& b.getD (i - a) 0 else l.getD i 0 := by
  simp [progL, h]
theorem onesL_at (l : List UInt8) (a n i : Nat) (h : i < l.length) : (onesL l a n).getD i 0 = if a ≤ i ∧ i < a + n then 255 else l.getD i 0 := by
  simp [onesL, h]
theorem bytes_ext {l m : List UInt8} (h : l.length = m.length) (hi : ∀ i, i < l.length → l.getD i 0 = m.getD i 0) : l = m := by
  apply List.ext_getElem h
  intro i h1 h2
  have := hi i h1
  simpa [h1, h2] using this
theorem progL_zero (l : List UInt8) (a : Nat) (b : List UInt8) : progL l a b 0 = l :=
  bytes_ext (progL_len ..) fun i h => by rw [progL_at _ _ _ _ _ (by rwa [progL_len] at h), if_neg (by omega)]
theorem onesL_zero (l : List UInt8) (a : Nat) : onesL l a 0 = l :=
  bytes_ext (onesL_len ..) fun i h => by rw [onesL_at _ _ _ _ (by rwa [onesL_len] at h), if_neg (by omega)]
theorem getD_set8 (l : List UInt8) (k j : Nat) (x : UInt8) (hk : k < l.length) : (l.set k x).getD j 0 = if j = k then x else l.getD j 0 := by
  rw [List.getD_eq_getElem?_getD, List.getD_eq_getElem?_getD, List.getElem?_set]
  by_cases h : k = j
  · subst h; simp [hk]
  · simp [h, Ne.symm h]
/-- One byte more. -/
theorem progL_step (l : List UInt8) (a : Nat) (b : List UInt8) (n : Nat) (h : a + n < l.length) : (progL l a b n).set (a + n) ((progL l a b n).getD (a + n) 0 &&& b.getD n 0) = progL l a b (n + 1) := by
  refine bytes_ext (by rw [List.length_set, progL_len, progL_len]) fun i hi => ?_
  rw [List.length_set, progL_len] at hi
  rw [getD_set8 _ _ _ _ (by rw [progL_len]; exact h), progL_at _ _ _ _ _ hi, progL_at _ _ _ _ _ hi, progL_at _ _ _ _ _ h]
  by_cases e : i = a + n
  · subst e
    rw [if_pos rfl, if_neg (by omega), if_pos (by omega), show a + n - a = n by omega]
  · rw [if_neg e]
    by_cases h2 : a ≤ i ∧ i < a + n
    · rw [if_pos h2, if_pos (by omega)]
    · rw [if_neg h2, if_neg (by omega)]
theorem onesL_step (l : List UInt8) (a n : Nat) (h : a + n < l.length) : (onesL l a n).set (a + n) 255 = onesL l a (n + 1) := by
  refine bytes_ext (by rw [List.length_set, onesL_len, onesL_len]) fun i hi => ?_
  rw [List.length_set, onesL_len] at hi
  rw [getD_set8 _ _ _ _ (by rw [onesL_len]; exact h), onesL_at _ _ _ _ hi, onesL_at _ _ _ _ hi]
  by_cases e : i = a + n
  · rw [if_pos e, if_pos (by omega)]
  · rw [if_neg e]
    by_cases h2 : a ≤ i ∧ i < a + n
    · rw [if_pos h2, if_pos (by omega)]
    · rw [if_neg h2, if_neg (by omega)]
theorem newF_ok (n wear : Nat) (h1 : 1 ≤ n) (h2 : n ≤ 256) (h3 : wear ≤ 10000) : (newF n wear).ok n :=
  ⟨List.length_replicate .., List.length_replicate .., h1, h2, h3, fun x hx => by rw [List.eq_of_mem_replicate hx]; exact Nat.zero_le _, by show (-1 : Int) ≤ -1 ∧ (-1 : Int) ≤ _; omega, by show (0 : Int) ≤ 0 ∧ (0 : Int) ≤ _; omega⟩
theorem goesF_ok {s : FS} {n : Nat} (h : s.ok n) (m : Nat) : (goesF s m).2.2.ok n ∧ (goesF s m).1 ≤ m ∧ (goesF s m).2.2.b = s.b ∧ (goesF s m).2.2.worn = s.worn ∧ (goesF s m).2.2.most = s.most := by
  have ha := h.armed
  have hd := h.done
  unfold goesF
  split
  · exact ⟨h, Nat.le_refl _, rfl, rfl, rfl⟩
  · split
    · exact ⟨⟨h.b, h.worn, h.one, h.cap, h.most, h.worns, by show _ ≤ s.armed - 1 ∧ s.armed - 1 ≤ _; omega, h.done⟩, Nat.le_refl _, rfl, rfl, rfl⟩
    · exact ⟨⟨h.b, h.worn, h.one, h.cap, h.most, h.worns, by show (-1 : Int) ≤ -1 ∧ (-1 : Int) ≤ _; omega, h.done⟩, by show (min (m : Int) s.done).toNat ≤ m; omega, rfl, rfl, rfl⟩
theorem FS.ok.program {s : FS} {n : Nat} (h : s.ok n) (a : Int) (b : List UInt8) : (programF s a b).2.ok n := by
  unfold programF
  split
  · exact h
  · split
    · exact h
    · obtain ⟨h1, _, _, _, _⟩ := goesF_ok h b.length
      exact ⟨by show (progL s.b _ _ _).length = _; rw [progL_len]; exact h.b, h1.worn, h1.one, h1.cap, h1.most, h1.worns, h1.armed, h1.done⟩
theorem FS.ok.erase {s : FS} {n : Nat} (h : s.ok n) (k : Int) : (eraseF s k).2.ok n := by
  unfold eraseF
  split
  · exact h
  · split
    · exact h
    · split
      · exact h
      · rename_i hw
        obtain ⟨h1, _, _, _, h5⟩ := goesF_ok h 1024
        refine ⟨by show (onesL s.b _ _).length = _; rw [onesL_len]; exact h.b, by show (s.worn.set _ _).length = n; rw [List.length_set]; exact h.worn, h1.one, h1.cap, h1.most, fun x hx => ?_, h1.armed, h1.done⟩
        show x ≤ (goesF s 1024).2.2.most
        rw [h5]
        rcases List.mem_or_eq_of_mem_set hx with hx | hx
        · exact h.worns x hx
        · rw [hx]; omega
theorem FS.ok.arm {s : FS} {n : Nat} (h : s.ok n) (c d : Int) (hc : c ≤ 9223372036854775807) (hd : d ≤ 9223372036854775807) : (armF s c d).ok n :=
  ⟨h.b, h.worn, h.one, h.cap, h.most, h.worns, by show _ ≤ max c 0 ∧ max c 0 ≤ _; omega, by show _ ≤ max d 0 ∧ max d 0 ≤ _; omega⟩
theorem FS.ok.power {s : FS} {n : Nat} (h : s.ok n) : (powerF s).ok n := ⟨h.b, h.worn, h.one, h.cap, h.most, h.worns, by show (-1 : Int) ≤ -1 ∧ (-1 : Int) ≤ _; omega, h.done⟩
end Go.Proofs.YtbdhkkdombdnkaaDoor
