/-
  What is proved here: the document's start and k answer the words that SHA-256 begins with and those of its rounds; sha.New is a hash of nothing; Len tells how many bytes were written.
  Conditions: of sha.New, that the variable firstWords holds the first words.
-/
import Derived.Test.YtenolcfmbdndgabDoorProg
import Derived.Test.YtenolcfmbdndgabDoorShaWorld
namespace Go.Proofs.YtenolcfmbdndgabDoor
open Go.RowKit

theorem Tryd.info56s : (Tryd.prog.info? 56).map (·.size) = some 8 := by kernel_rfl
theorem Tryd.info71s : (Tryd.prog.info? 71).map (·.size) = some 64 := by kernel_rfl

/-- The cells of a hash that goes on: its words, what is no whole block yet with noughts behind, how many bytes were written. -/
def hashCells (s : St) (part : List UInt8) (len : Nat) : Array Value := ((s.list.map v32) ++ ((part.map v8) ++ [Value.int .u64 (len : Int)])).toArray

set_option maxRecDepth 100000 in
set_option maxHeartbeats 400000 in
theorem start_any (w : World) :
    Calls Tryd.prog 31 #[] w fun e w' => e = .returned (.agg (St.start.list.map v32).toArray) ∧ Below w.heap.size w w' := by
  go_enter Tryd.func31, Tryd.ntmps31
  go_wp2
  exact bodyPost_ret (v := .agg (St.start.list.map v32).toArray) (results_cell_row Tryd.results31 _ _ w.heap.size 56 _ (0, 0) _ rfl (Blk.new _ _ _) Tryd.underlying56 rfl Tryd.info56s) rfl ⟨rfl, (Below.refl _ _).alloc (Nat.le_refl _) _⟩
set_option maxRecDepth 100000 in
set_option maxHeartbeats 400000 in
theorem k_any (w : World) :
    Calls Tryd.prog 43 #[] w fun e w' => e = .returned (.agg (kWords.map v32).toArray) ∧ Below w.heap.size w w' := by
  go_enter Tryd.func43, Tryd.ntmps43
  go_wp2_with (first | (refine wpList_build rfl 71 _ rfl (by kernel_rfl) ?_) | (refine wpList_store_row rfl 71 _ _ rfl w.heap.size (kWords.map v32).toArray rfl (by kernel_rfl) 71 _ (Blk.new _ _ _) Tryd.info71s (by rfl) (one32 _) ?_))
  exact bodyPost_ret (v := .agg (kWords.map v32).toArray) (results_cell_row Tryd.results43 _ _ w.heap.size 71 _ (0, 0) _ rfl ((Blk.new _ _ _).setRow _) Tryd.underlying71 rfl Tryd.info71s) rfl ⟨rfl, Below.setRow ((Below.refl _ _).alloc (Nat.le_refl _) _) _ _ (Nat.le_refl _)⟩

theorem build_as {w : World} {ops : Array Oper} {rest : List Oper} {o : Oper} {a : Act} {Q : Exit → Act → World → Prop} (hg : o.guard = none) (t : TypeId) (parts : Array (Nat × Operand)) (ho : o.op = .build t parts) (arr : Array Value)
    (hb0 : Tryd.prog.built t (parts.toList.map fun p => (p.1, a.eval p.2)) = some arr) (h : wpList Tryd.prog ops Q rest (a.put o.dst (.agg arr)) w) : wpList Tryd.prog ops Q (o :: rest) a w := by
  have hb : Tryd.prog.built t (parts.map fun (i, x) => (i, a.eval x)).toList = some arr := by rw [Array.toList_map]; exact hb0
  exact wpList_build hg t parts ho (by rw [hb]; rfl) (by rw [hb]; exact h)
theorem built_start : Tryd.prog.built 60 [(0, .agg (St.start.list.map v32).toArray)] = some (hashCells St.start (List.replicate 64 0) 0) := by kernel_rfl
theorem built_len (n : Int) : Tryd.prog.built 60 [(2, .int .u64 n)] = some ((((List.replicate 8 0#32).map v32) ++ (((List.replicate 64 (0 : UInt8)).map v8) ++ [Value.int .u64 n])).toArray) := by kernel_rfl

set_option maxRecDepth 100000 in
set_option maxHeartbeats 400000 in
theorem new_any (w : World) (ht : Tab w 0 (St.start.list.map v32)) :
    Calls Tryd.prog 11 #[] w fun e w' => e = .returned (.pointer (some ⟨w.heap.size, 0, none⟩)) ∧ w' = w.alloc (.cells (hashCells St.start (List.replicate 64 0) 0) 60) := by
  go_enter Tryd.func11, Tryd.ntmps11
  go_wp2_with (first | (refine wpList_load_mid rfl 56 _ rfl 0 0 rfl (St.start.list.map v32) _ (fun j v h => by simpa using ht j v h) Tryd.underlying56 rfl Tryd.info56s ?_) | (refine build_as rfl 60 _ rfl (hashCells St.start (List.replicate 64 0) 0) (by exact built_start) ?_))
  go_ret
  exact ⟨rfl, rfl⟩
end Go.Proofs.YtenolcfmbdndgabDoor
