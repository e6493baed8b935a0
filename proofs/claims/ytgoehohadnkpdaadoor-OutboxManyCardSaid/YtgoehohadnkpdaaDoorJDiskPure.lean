/-
  What is proved here: nothing yet: what a disk does, plain: its sectors as they are and as they are synced, which are dirty, what comes, whether the power is off. append of noughts (append with make behind it) onto a slice of bytes of the call's own.
  Conditions: none. those that each fact names.
-/
import Derived.Test.YtgoehohadnkpdaaDoorJShaPure
import Derived.Test.YtgoehohadnkpdaaDoorJSegKit
import Derived.Lib.AppendZeros
namespace Go.Proofs.YtgoehohadnkpdaaDoor

structure DS where
  now : List (List UInt8)
  sure : List (List UInt8)
  dirt : List Bool
  next : List UInt8
  down : Bool
def noughts (n : Nat) : List UInt8 := List.replicate n 0
def newS (n : Nat) : DS := ⟨List.replicate n (noughts 128), List.replicate n (noughts 128), List.replicate n false, [], false⟩
/-- As many of each, each of 128 bytes. -/
structure DS.ok (s : DS) (n : Nat) : Prop where
  now : s.now.length = n
  sure : s.sure.length = n
  dirt : s.dirt.length = n
  nows : ∀ r ∈ s.now, r.length = 128
  sures : ∀ r ∈ s.sure, r.length = 128
def readS (s : DS) (k : Int) : List UInt8 × Int := if s.down then ([], 7) else if k < 0 ∨ (s.now.length : Int) ≤ k then ([], 1) else (s.now.getD k.toNat [], 0)
/-- What a change meets, and what is behind it. -/
def mayS (s : DS) : Int × DS := if s.down then (7, s) else match s.next with
  | [] => (0, s)
  | c :: t => if c = 1 then (6, { s with next := t }) else if c = 2 then (7, { s with next := t, down := true }) else (0, { s with next := t })
def padS (b : List UInt8) : List UInt8 := b ++ noughts (128 - b.length)
def putS (s : DS) (k : Nat) (b : List UInt8) : DS := { s with now := s.now.set k (padS b), dirt := s.dirt.set k true }
def writeS (s : DS) (k : Int) (b : List UInt8) : Int × DS := if k < 0 ∨ (s.now.length : Int) ≤ k ∨ 128 < b.length then (1, s) else if (mayS s).1 ≠ 0 then mayS s else (0, putS (mayS s).2 k.toNat b)
def syncedS (s : DS) : DS := { s with sure := s.now, dirt := List.replicate s.dirt.length false }
def syncS (s : DS) : Int × DS := if (mayS s).1 ≠ 0 then mayS s else (0, syncedS (mayS s).2)
def dirtyAt : Nat → List Bool → List Nat
  | _, [] => []
  | i, b :: l => if b then i :: dirtyAt (i + 1) l else dirtyAt (i + 1) l
def dirtyS (s : DS) : List Nat := dirtyAt 0 s.dirt
/-- How many bytes of the i-th dirty sector stay as they are. -/
def stayN (stay : List Bool) (torn cut : Int) (i : Nat) : Nat := if (i : Int) = torn then (max 0 (min cut 128)).toNat else if stay[i]? = some true then 128 else 0
def tornRow (s : DS) (k n : Nat) : List UInt8 := (s.now.getD k []).take n ++ (s.sure.getD k []).drop n
def crashOne (s : DS) (k n : Nat) : DS := { s with now := s.now.set k (tornRow s k n), sure := s.sure.set k (tornRow s k n), dirt := s.dirt.set k false }
def crashTo (N : Nat → Nat) : Nat → List Nat → DS → DS
  | _, [], s => s
  | i, k :: l, s => crashTo N (i + 1) l (crashOne s k (N i))
def crashS (s : DS) (stay : List Bool) (torn cut : Int) : DS := { crashTo (stayN stay torn cut) 0 (dirtyS s) s with next := [], down := false }

theorem noughts_length (n : Nat) : (noughts n).length = n := List.length_replicate ..
theorem newS_ok (n : Nat) : (newS n).ok n := ⟨List.length_replicate .., List.length_replicate .., List.length_replicate .., fun r h => by rw [List.eq_of_mem_replicate h]; exact noughts_length _, fun r h => by rw [List.eq_of_mem_replicate h]; exact noughts_length _⟩
theorem DS.ok.may {s : DS} {n : Nat} (h : s.ok n) : (mayS s).2.ok n := by
  unfold mayS
  split
  · exact h
  · split
    · exact h
    · split
      · exact ⟨h.now, h.sure, h.dirt, h.nows, h.sures⟩
      · split
        · exact ⟨h.now, h.sure, h.dirt, h.nows, h.sures⟩
        · exact ⟨h.now, h.sure, h.dirt, h.nows, h.sures⟩
theorem padS_length {b : List UInt8} (h : b.length ≤ 128) : (padS b).length = 128 := by
  unfold padS; rw [List.length_append, noughts_length]; omega
theorem mem_set' {α : Type} {l : List α} {k : Nat} {x y : α} (h : y ∈ l.set k x) : y = x ∨ y ∈ l := (List.mem_or_eq_of_mem_set h).symm
theorem DS.ok.put {s : DS} {n : Nat} (h : s.ok n) (k : Nat) (b : List UInt8) (hb : b.length ≤ 128) : (putS s k b).ok n :=
  ⟨by show (s.now.set _ _).length = n; rw [List.length_set]; exact h.now, h.sure, by show (s.dirt.set _ _).length = n; rw [List.length_set]; exact h.dirt, fun r hr => by rcases mem_set' hr with rfl | h2; exact padS_length hb; exact h.nows r h2, h.sures⟩
theorem DS.ok.synced {s : DS} {n : Nat} (h : s.ok n) : (syncedS s).ok n := ⟨h.now, h.now, by show (List.replicate _ _).length = n; rw [List.length_replicate]; exact h.dirt, h.nows, h.nows⟩
theorem DS.ok.sync {s : DS} {n : Nat} (h : s.ok n) : (syncS s).2.ok n := by
  unfold syncS
  split
  · exact h.may
  · exact h.may.synced
theorem DS.ok.write {s : DS} {n : Nat} (h : s.ok n) (k : Int) (b : List UInt8) : (writeS s k b).2.ok n := by
  unfold writeS
  split
  · exact h
  · split
    · exact h.may
    · exact h.may.put _ _ (by omega)
theorem getD_len {l : List (List UInt8)} (h : ∀ r ∈ l, r.length = 128) {k : Nat} (hk : k < l.length) : (l.getD k []).length = 128 := by
  rw [List.getD_eq_getElem?_getD, List.getElem?_eq_getElem hk]
  exact h _ (List.getElem_mem hk)
theorem tornRow_length {s : DS} {n k m : Nat} (h : s.ok n) (hk : k < n) (hm : m ≤ 128) : (tornRow s k m).length = 128 := by
  unfold tornRow
  have h1 := getD_len h.nows (k := k) (by rw [h.now]; exact hk)
  have h2 := getD_len h.sures (k := k) (by rw [h.sure]; exact hk)
  rw [List.length_append, List.length_take, List.length_drop]; omega
theorem DS.ok.one {s : DS} {n : Nat} (h : s.ok n) {k m : Nat} (hk : k < n) (hm : m ≤ 128) : (crashOne s k m).ok n :=
  ⟨by show (s.now.set _ _).length = n; rw [List.length_set]; exact h.now, by show (s.sure.set _ _).length = n; rw [List.length_set]; exact h.sure, by show (s.dirt.set _ _).length = n; rw [List.length_set]; exact h.dirt, fun r hr => by rcases mem_set' hr with rfl | h2; exact tornRow_length h hk hm; exact h.nows r h2, fun r hr => by rcases mem_set' hr with rfl | h2; exact tornRow_length h hk hm; exact h.sures r h2⟩
theorem stayN_le (stay : List Bool) (torn cut : Int) (i : Nat) : stayN stay torn cut i ≤ 128 := by
  unfold stayN
  split
  · omega
  · split <;> omega
theorem dirtyAt_lt : ∀ (l : List Bool) (i k : Nat), k ∈ dirtyAt i l → k < i + l.length
  | [], _, _, h => by cases h
  | b :: l, i, k, h => by
    unfold dirtyAt at h
    rw [List.length_cons]
    split at h
    · rcases List.mem_cons.1 h with rfl | h
      · omega
      · have := dirtyAt_lt l (i + 1) k h; omega
    · have := dirtyAt_lt l (i + 1) k h; omega
theorem DS.ok.crashTo {n : Nat} (N : Nat → Nat) (hN : ∀ i, N i ≤ 128) : ∀ (l : List Nat) (i : Nat) (s : DS), s.ok n → (∀ k ∈ l, k < n) → (crashTo N i l s).ok n
  | [], _, _, h, _ => h
  | k :: l, i, _, h, hl => DS.ok.crashTo N hN l (i + 1) _ (h.one (hl k List.mem_cons_self) (hN i)) (fun q hq => hl q (List.mem_cons_of_mem _ hq))
theorem DS.ok.crash {s : DS} {n : Nat} (h : s.ok n) (stay : List Bool) (torn cut : Int) : (crashS s stay torn cut).ok n := by
  have := DS.ok.crashTo (stayN stay torn cut) (stayN_le _ _ _) (dirtyS s) 0 s h (fun k hk => by have := dirtyAt_lt _ _ _ hk; have := h.dirt; omega)
  exact ⟨this.now, this.sure, this.dirt, this.nows, this.sures⟩
end Go.Proofs.YtgoehohadnkpdaaDoor
namespace Go.Proofs.YtgoehohadnkpdaaDoor
open Go.RowKit

set_option maxRecDepth 100000 in
theorem zero_cells (m : Nat) : Builtin.zeroCells (Value.int .u8 0).cells m = ((noughts m).map v8).toArray := by
  unfold noughts
  apply Array.ext
  · simp [Builtin.zeroCells, Value.cells]
  · intro i h1 h2
    have : v8 0 = Value.int .u8 0 := rfl
    simp [Builtin.zeroCells, Value.cells, this, Nat.mod_one]
set_option maxRecDepth 100000 in
theorem under_int : Tryd.prog.underlying 3 = some (.int .i64) := by kernel_rfl
set_option maxRecDepth 100000 in
theorem noughts_map_length (m : Nat) : ((noughts m).map v8).length = m := by rw [List.length_map, noughts_length]

set_option maxRecDepth 100000 in
theorem run_zeros_room (w : World) (ty : TypeId) (g sLen sCap m : Nat) (cur : Array Value) (hg : w.heap[g]? = some (.cells cur 5 (0, 0))) (hroom : sLen + m ≤ sCap) (hfit : sLen + m ≤ cur.size) (hm : m ≤ 1000000) :
    (Builtin.append_ #[35, 3] ty #[.slice (some ⟨g, 0, none⟩) sLen sCap, .int .i64 (m : Int)]).run Tryd.prog w =
      .ok (.slice (some ⟨g, 0, none⟩) (sLen + m) sCap) (w.setRow g (cur.toList.take sLen ++ (noughts m).map v8 ++ cur.toList.drop (sLen + m)).toArray) := by
  obtain ⟨i0, hi, hz0, hz1, hz2⟩ := info_parts Tryd.info5
  have hst := run_storeCells_at Tryd.prog g sLen 5 ((noughts m).map v8) 0 cur w hg (by rw [noughts_map_length]; simpa using hfit) (one8l _)
  simp only [Nat.add_zero, noughts_map_length] at hst
  have hw : IntKind.i64.wrap (m : Int) = m := by rw [IntKind.wrap_i64]; omega
  have hneg : ¬ ((m : Int) < 0) := by omega
  have h48 : ¬ (281474976710656 < (m : Int)) := by omega
  have hzc : (Builtin.zeroCells (Value.int .u8 0).cells m).toList = (noughts m).map v8 := by rw [zero_cells]
  by_cases h0 : m = 0
  · subst h0
    have hw0 : IntKind.i64.wrap 0 = 0 := by rw [IntKind.wrap_i64]; omega
    have hn0 : noughts 0 = [] := rfl
    have hr0 : sLen ≤ sCap := by omega
    rw [hn0] at hst ⊢
    simp [storeCells] at hst
    simp [Builtin.append_, run_underlying Tryd.underlying35, run_underlying under_int, sizeOf, typeInfo, hi, hz2, asInt, asIntOf, hw0, hr0, storeCells]
    exact hst
  · simp [Builtin.append_, run_underlying Tryd.underlying35, run_underlying under_int, sizeOf, typeInfo, zeroValue, hi, hz0, hz1, hz2, asInt, asIntOf, hw, hneg, h48, hroom, h0, hzc, Addr.add_lit, hst]

set_option maxRecDepth 100000 in
theorem run_zeros_grow (w : World) (ty : TypeId) (b : Addr) (sLen sCap m : Nat) (olds : List Value) (hlo : olds.length = sLen) (holds : ∀ (j : Nat) v, olds[j]? = some v → w.cell? (b.add j) = some v) (hg : sCap < sLen + m) (h0 : 0 < m) (hm : m ≤ 1000000) (hs : sLen ≤ 1000000000) (hfit : Builtin.nextslicecap (sLen + m) sCap ≤ 281474976710656) :
    (Builtin.append_ #[35, 3] ty #[.slice (some b) sLen sCap, .int .i64 (m : Int)]).run Tryd.prog w =
      .ok (.slice (some ⟨w.heap.size, 0, none⟩) (sLen + m) (grownCap w (sLen + m) sCap 5))
        (w.drew.alloc (.cells (olds.toArray ++ ((noughts m).map v8).toArray ++ Builtin.zeroCells (Value.int .u8 0).cells (grownCap w (sLen + m) sCap 5 - (sLen + m))) 5)) := by
  obtain ⟨i0, hi, hz0, hz1, hz2⟩ := info_parts Tryd.info5
  have hn : ¬ (sLen + m ≤ sCap) := by omega
  have h63' : ¬ (9223372036854775807 < ((sLen : Int) + (m : Int))) := by omega
  have h48' : ¬ (281474976710656 < Builtin.nextslicecap (sLen + m) sCap) := by omega
  have hfo := run_firstCells_some (P := Tryd.prog) w.drew 1 sLen b sLen sCap olds (by simpa using hlo) (by simpa using holds)
  have hw : IntKind.i64.wrap (m : Int) = m := by rw [IntKind.wrap_i64]; omega
  have hneg : ¬ ((m : Int) < 0) := by omega
  have h48 : ¬ (281474976710656 < (m : Int)) := by omega
  have h00 : m ≠ 0 := by omega
  have hzc := zero_cells m
  simp [Builtin.append_, run_underlying Tryd.underlying35, run_underlying under_int, sizeOf, typeInfo, zeroValue, hi, hz0, hz1, hz2, asInt, asIntOf, hw, hneg, h48, h00, hn, h63', h48', Question.forced, hfo, hzc, newRow, grownCap]
  congr 2
  apply Array.ext'
  simp [List.append_assoc]

set_option maxRecDepth 100000 in
/-- What append of so many noughts does to a slice of the call's own. -/
theorem app_zeros (w : World) (base : Nat) (v : Value) (bs : List UInt8) (hown : Own w base v bs) (m : Nat) (hm : m ≤ 1000000) (hs : bs.length ≤ 1000000000) (hbase : base ≤ w.heap.size) :
    ∃ v' w', (∀ ty, (Builtin.append_ #[35, 3] ty #[v, .int .i64 (m : Int)]).run Tryd.prog w = .ok v' w') ∧ Own w' base v' (bs ++ noughts m) ∧ w.grownBy w' v.ownBlock ∧ (v'.ownBlock = v.ownBlock ∨ v'.ownBlock = some w.heap.size) := by
  have hlen : ((bs ++ noughts m).map v8).length = (bs ++ noughts m).length * 1 := by simp
  have hL : (bs ++ noughts m).length = bs.length + m := by rw [List.length_append, noughts_length]
  have grown : ∀ (old : Nat), ∀ (row : Option Nat),
      Own (w.drew.alloc (.cells ((bs.map v8).toArray ++ ((noughts m).map v8).toArray ++ Builtin.zeroCells (Value.int .u8 0).cells (grownCap w (bs.length + m) old 5 - (bs.length + m))) 5)) base
        (.slice (some ⟨w.heap.size, 0, none⟩) (bs.length + m) (grownCap w (bs.length + m) old 5)) (bs ++ noughts m) ∧
      w.grownBy (w.drew.alloc (.cells ((bs.map v8).toArray ++ ((noughts m).map v8).toArray ++ Builtin.zeroCells (Value.int .u8 0).cells (grownCap w (bs.length + m) old 5 - (bs.length + m))) 5)) row := by
    intro old row
    have hge := grownCap_ge w (bs.length + m) old 5
    have hcm : grownCap w (bs.length + m) old 5 ≤ maxLen := grownCap_le_maxLen w (bs.length + m) old 5 (by unfold maxLen; omega)
    refine ⟨⟨hlen, .inr ⟨w.heap.size, _, _, by rw [hL], hbase, heap_alloc_new w.drew _, by rw [hL]; exact hge, hcm, ?_, ?_⟩⟩, ⟨rfl, rfl, rfl, by simp, fun k hk _ => Below.heap_alloc w.drew _ k hk⟩⟩
    · simp only [Array.size_append, List.size_toArray, size_zeroCells, List.length_map, noughts_length]
      have : (Value.int .u8 0).cells.size = 1 := rfl
      rw [this]; omega
    · simp only [Array.toList_append, List.append_assoc]
      rw [← List.append_assoc, ← List.map_append, ← hlen]
      exact List.take_left
  rcases hown.2 with ⟨rfl, h0⟩ | ⟨g, cap, cur, rfl, hbg, hg, hnc, hcm, hcs, htake⟩
  · obtain rfl := List.eq_nil_of_length_eq_zero h0
    by_cases hm0 : m = 0
    · subst hm0
      refine ⟨.slice none 0 0, w, fun ty => ?_, ⟨rfl, .inl ⟨rfl, rfl⟩⟩, ⟨rfl, rfl, rfl, Nat.le_refl _, fun _ _ _ => rfl⟩, .inl rfl⟩
      obtain ⟨i0, hi, hz0, hz1, hz2⟩ := info_parts Tryd.info5
      have hw0 : IntKind.i64.wrap 0 = 0 := by rw [IntKind.wrap_i64]; omega
      simp [Builtin.append_, run_underlying Tryd.underlying35, run_underlying under_int, sizeOf, typeInfo, hi, hz2, asInt, asIntOf, hw0]
    · obtain ⟨i0, hi, hz0, hz1, hz2⟩ := info_parts Tryd.info5
      obtain ⟨h1, h2⟩ := grown 0 (Value.ownBlock (.slice none 0 0))
      simp only [List.length_nil, Nat.zero_add, List.map_nil] at h1 h2
      have e : (#[] : Array Value) ++ ((noughts m).map v8).toArray = Builtin.zeroCells (Value.int .u8 0).cells m := by rw [zero_cells]; simp
      rw [e] at h1 h2
      refine ⟨_, _, fun ty => ?_, h1, h2, .inr rfl⟩
      exact Lib.run_append_nil_zeros w 35 3 ty 5 i0 (.int .u8 0) .i64 .i64 Tryd.underlying35 under_int hi hz0 m (by omega) (by omega) (by omega) (by rw [hz2]; omega)
  · simp only [Nat.mul_one] at hcs htake
    by_cases hroom : bs.length + m ≤ cap
    · refine ⟨_, _, fun ty => run_zeros_room w ty g bs.length cap m cur hg hroom (by omega) hm, ?_, ⟨rfl, rfl, rfl, by simp, fun k _ hk => setRow_other w g k _ (fun e => hk (by simp [Value.ownBlock, e]))⟩, .inl rfl⟩
      refine ⟨hlen, .inr ⟨g, cap, _, by rw [hL], hbg, setRow_heap w g cur _ 5 _ hg, by rw [hL]; exact hroom, hcm, ?_, ?_⟩⟩
      · simp only [List.size_toArray, List.length_append, List.length_take, List.length_drop, Array.length_toList, List.length_map, noughts_length]
        omega
      · rw [htake, ← List.map_append, ← hlen]
        exact List.take_left
    · have holds : ∀ (j : Nat) u, (bs.map v8)[j]? = some u → w.cell? ((⟨g, 0, none⟩ : Addr).add j) = some u := World.ownsRow.cells hown (g := g) rfl
      obtain ⟨h1, h2⟩ := grown cap (Value.ownBlock (.slice (some ⟨g, 0, none⟩) bs.length cap))
      exact ⟨_, _, fun ty => run_zeros_grow w ty ⟨g, 0, none⟩ bs.length cap m (bs.map v8) (by simp) holds (by omega) (by omega) hm hs (by have := growslice_fits (need := bs.length + m) (old := cap) (bytes := 1) (by omega) (by omega); omega), h1, h2, .inr rfl⟩
end Go.Proofs.YtgoehohadnkpdaaDoor
