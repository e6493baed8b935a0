/-
  What is proved here: append of noughts (append with make behind it) onto a slice of bytes of the call's own.
  Conditions: those that each fact names.
-/
import Derived.Test.YtojgeahablphbaaJShaPure
import Derived.Test.YtojgeahablphbaaJDiskPure
import Derived.Lib.AppendZeros
namespace Go.Proofs.Ytojgeahablphbaa
open Go.RowKit

set_option maxRecDepth 100000 in
theorem zero_cells (m : Nat) : Builtin.zeroCells (Value.int .u8 0).cells m = ((noughts m).map v8).toArray := by
  unfold noughts
  apply Array.ext
  · simp [Builtin.zeroCells, Value.cells]
  · intro i h1 h2
    have : v8 0 = Value.int .u8 0 := rfl
    simp [Builtin.zeroCells, Value.cells, this, Nat.mod_one]
set_option maxRecDepth 100000 in
theorem under_int : Try.prog.underlying 3 = some (.int .i64) := by kernel_rfl
set_option maxRecDepth 100000 in
theorem noughts_map_length (m : Nat) : ((noughts m).map v8).length = m := by rw [List.length_map, noughts_length]

set_option maxRecDepth 100000 in
theorem run_zeros_room (w : World) (ty : TypeId) (g sLen sCap m : Nat) (cur : Array Value) (hg : w.heap[g]? = some (.cells cur 5 (0, 0))) (hroom : sLen + m ≤ sCap) (hfit : sLen + m ≤ cur.size) (hm : m ≤ 1000000) :
    (Builtin.append_ #[22, 3] ty #[.slice (some ⟨g, 0, none⟩) sLen sCap, .int .i64 (m : Int)]).run Try.prog w =
      .ok (.slice (some ⟨g, 0, none⟩) (sLen + m) sCap) (w.setRow g (cur.toList.take sLen ++ (noughts m).map v8 ++ cur.toList.drop (sLen + m)).toArray) := by
  obtain ⟨i0, hi, hz0, hz1, hz2⟩ := info_parts Try.info5
  have hst := run_storeCells_at Try.prog g sLen 5 ((noughts m).map v8) 0 cur w hg (by rw [noughts_map_length]; simpa using hfit) (one8l _)
  simp only [Nat.add_zero, noughts_map_length] at hst
  have hw : IntKind.i64.wrap (m : Int) = m := by rw [IntKind.wrap_i64]; omega
  have hneg : ¬ ((m : Int) < 0) := by omega
  have h48 : ¬ (281474976710656 < (m : Int)) := by omega
  have hzc : (Builtin.zeroCells (Value.int .u8 0).cells m).toList = (noughts m).map v8 := by rw [zero_cells]
  by_cases h0 : m = 0
  · subst h0
    have hw0 : IntKind.i64.wrap 0 = 0 := by rw [IntKind.wrap_i64]; omega
    have hn0 : noughts 0 = [] := rfl
    have hr0 : sLen ≤ sCap := by omega
    rw [hn0] at hst ⊢
    simp [storeCells] at hst
    simp [Builtin.append_, run_underlying Try.underlying22, run_underlying under_int, sizeOf, typeInfo, hi, hz2, asInt, asIntOf, hw0, hr0, storeCells]
    exact hst
  · simp [Builtin.append_, run_underlying Try.underlying22, run_underlying under_int, sizeOf, typeInfo, zeroValue, hi, hz0, hz1, hz2, asInt, asIntOf, hw, hneg, h48, hroom, h0, hzc, Addr.add_lit, hst]

set_option maxRecDepth 100000 in
theorem run_zeros_grow (w : World) (ty : TypeId) (b : Addr) (sLen sCap m : Nat) (olds : List Value) (hlo : olds.length = sLen) (holds : ∀ (j : Nat) v, olds[j]? = some v → w.cell? (b.add j) = some v) (hg : sCap < sLen + m) (h0 : 0 < m) (hm : m ≤ 1000000) (hs : sLen ≤ 1000000000) (hfit : Builtin.nextslicecap (sLen + m) sCap ≤ 281474976710656) :
    (Builtin.append_ #[22, 3] ty #[.slice (some b) sLen sCap, .int .i64 (m : Int)]).run Try.prog w =
      .ok (.slice (some ⟨w.heap.size, 0, none⟩) (sLen + m) (grownCap w (sLen + m) sCap 5))
        (w.drew.alloc (.cells (olds.toArray ++ ((noughts m).map v8).toArray ++ Builtin.zeroCells (Value.int .u8 0).cells (grownCap w (sLen + m) sCap 5 - (sLen + m))) 5)) := by
  obtain ⟨i0, hi, hz0, hz1, hz2⟩ := info_parts Try.info5
  have hn : ¬ (sLen + m ≤ sCap) := by omega
  have h63' : ¬ (9223372036854775807 < ((sLen : Int) + (m : Int))) := by omega
  have h48' : ¬ (281474976710656 < Builtin.nextslicecap (sLen + m) sCap) := by omega
  have hfo := run_firstCells_some (P := Try.prog) w.drew 1 sLen b sLen sCap olds (by simpa using hlo) (by simpa using holds)
  have hw : IntKind.i64.wrap (m : Int) = m := by rw [IntKind.wrap_i64]; omega
  have hneg : ¬ ((m : Int) < 0) := by omega
  have h48 : ¬ (281474976710656 < (m : Int)) := by omega
  have h00 : m ≠ 0 := by omega
  have hzc := zero_cells m
  simp [Builtin.append_, run_underlying Try.underlying22, run_underlying under_int, sizeOf, typeInfo, zeroValue, hi, hz0, hz1, hz2, asInt, asIntOf, hw, hneg, h48, h00, hn, h63', h48', Question.forced, hfo, hzc, newRow, grownCap]
  congr 2
  apply Array.ext'
  simp [List.append_assoc]

set_option maxRecDepth 100000 in
/-- What append of so many noughts does to a slice of the call's own. -/
theorem app_zeros (w : World) (base : Nat) (v : Value) (bs : List UInt8) (hown : Own w base v bs) (m : Nat) (hm : m ≤ 1000000) (hs : bs.length ≤ 1000000000) (hbase : base ≤ w.heap.size) :
    ∃ v' w', (∀ ty, (Builtin.append_ #[22, 3] ty #[v, .int .i64 (m : Int)]).run Try.prog w = .ok v' w') ∧ Own w' base v' (bs ++ noughts m) ∧ w.grownBy w' v.ownBlock ∧ (v'.ownBlock = v.ownBlock ∨ v'.ownBlock = some w.heap.size) := by
  have hlen : ((bs ++ noughts m).map v8).length = (bs ++ noughts m).length * 1 := by simp
  have hL : (bs ++ noughts m).length = bs.length + m := by rw [List.length_append, noughts_length]
  have grown : ∀ (old : Nat), ∀ (row : Option Nat),
      Own (w.drew.alloc (.cells ((bs.map v8).toArray ++ ((noughts m).map v8).toArray ++ Builtin.zeroCells (Value.int .u8 0).cells (grownCap w (bs.length + m) old 5 - (bs.length + m))) 5)) base
        (.slice (some ⟨w.heap.size, 0, none⟩) (bs.length + m) (grownCap w (bs.length + m) old 5)) (bs ++ noughts m) ∧
      w.grownBy (w.drew.alloc (.cells ((bs.map v8).toArray ++ ((noughts m).map v8).toArray ++ Builtin.zeroCells (Value.int .u8 0).cells (grownCap w (bs.length + m) old 5 - (bs.length + m))) 5)) row := by
    intro old row
    have hge := grownCap_ge w (bs.length + m) old 5
    have hcm : grownCap w (bs.length + m) old 5 ≤ maxLen := grownCap_le_maxLen w (bs.length + m) old 5 (by unfold maxLen; omega)
    refine ⟨⟨hlen, .inr ⟨w.heap.size, _, _, by rw [hL], hbase, heap_alloc_new w.drew _, by rw [hL]; exact hge, hcm, ?_, ?_⟩⟩, ⟨rfl, rfl, rfl, by simp, fun k hk _ => Below.heap_alloc w.drew _ k hk⟩⟩
    · simp only [Array.size_append, List.size_toArray, size_zeroCells, List.length_map, noughts_length]
      have : (Value.int .u8 0).cells.size = 1 := rfl
      rw [this]; omega
    · simp only [Array.toList_append, List.append_assoc]
      rw [← List.append_assoc, ← List.map_append, ← hlen]
      exact List.take_left
  rcases hown.2 with ⟨rfl, h0⟩ | ⟨g, cap, cur, rfl, hbg, hg, hnc, hcm, hcs, htake⟩
  · obtain rfl := List.eq_nil_of_length_eq_zero h0
    by_cases hm0 : m = 0
    · subst hm0
      refine ⟨.slice none 0 0, w, fun ty => ?_, ⟨rfl, .inl ⟨rfl, rfl⟩⟩, ⟨rfl, rfl, rfl, Nat.le_refl _, fun _ _ _ => rfl⟩, .inl rfl⟩
      obtain ⟨i0, hi, hz0, hz1, hz2⟩ := info_parts Try.info5
      have hw0 : IntKind.i64.wrap 0 = 0 := by rw [IntKind.wrap_i64]; omega
      simp [Builtin.append_, run_underlying Try.underlying22, run_underlying under_int, sizeOf, typeInfo, hi, hz2, asInt, asIntOf, hw0]
    · obtain ⟨i0, hi, hz0, hz1, hz2⟩ := info_parts Try.info5
      obtain ⟨h1, h2⟩ := grown 0 (Value.ownBlock (.slice none 0 0))
      simp only [List.length_nil, Nat.zero_add, List.map_nil] at h1 h2
      have e : (#[] : Array Value) ++ ((noughts m).map v8).toArray = Builtin.zeroCells (Value.int .u8 0).cells m := by rw [zero_cells]; simp
      rw [e] at h1 h2
      refine ⟨_, _, fun ty => ?_, h1, h2, .inr rfl⟩
      exact Lib.run_append_nil_zeros w 22 3 ty 5 i0 (.int .u8 0) .i64 .i64 Try.underlying22 under_int hi hz0 m (by omega) (by omega) (by omega) (by rw [hz2]; omega)
  · simp only [Nat.mul_one] at hcs htake
    by_cases hroom : bs.length + m ≤ cap
    · refine ⟨_, _, fun ty => run_zeros_room w ty g bs.length cap m cur hg hroom (by omega) hm, ?_, ⟨rfl, rfl, rfl, by simp, fun k _ hk => setRow_other w g k _ (fun e => hk (by simp [Value.ownBlock, e]))⟩, .inl rfl⟩
      refine ⟨hlen, .inr ⟨g, cap, _, by rw [hL], hbg, setRow_heap w g cur _ 5 _ hg, by rw [hL]; exact hroom, hcm, ?_, ?_⟩⟩
      · simp only [List.size_toArray, List.length_append, List.length_take, List.length_drop, Array.length_toList, List.length_map, noughts_length]
        omega
      · rw [htake, ← List.map_append, ← hlen]
        exact List.take_left
    · have holds : ∀ (j : Nat) u, (bs.map v8)[j]? = some u → w.cell? ((⟨g, 0, none⟩ : Addr).add j) = some u := World.ownsRow.cells hown (g := g) rfl
      obtain ⟨h1, h2⟩ := grown cap (Value.ownBlock (.slice (some ⟨g, 0, none⟩) bs.length cap))
      exact ⟨_, _, fun ty => run_zeros_grow w ty ⟨g, 0, none⟩ bs.length cap m (bs.map v8) (by simp) holds (by omega) (by omega) hm hs (by have := growslice_fits (need := bs.length + m) (old := cap) (bytes := 1) (by omega) (by omega); omega), h1, h2, .inr rfl⟩
end Go.Proofs.Ytojgeahablphbaa
