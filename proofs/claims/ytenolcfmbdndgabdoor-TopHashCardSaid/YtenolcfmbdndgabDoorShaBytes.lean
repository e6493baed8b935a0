/-
  What is proved here: sha.wordBytes and the document's words answer the 32 bytes of eight words, of each the highest first.
  Conditions: none on the words.
-/
import Derived.Test.YtenolcfmbdndgabDoorProg
import Derived.Test.YtenolcfmbdndgabDoorShaWorld
namespace Go.Proofs.YtenolcfmbdndgabDoor
open Go.RowKit

theorem Tryd.info25s : (Tryd.prog.info? 25).map (·.size) = some 32 := by kernel_rfl

set_option maxRecDepth 100000 in
set_option maxHeartbeats 400000 in
theorem wordBytes_any (ws : List (BitVec 32)) (h8 : ws.length = 8) (w : World) :
    Calls Tryd.prog 28 #[.agg (ws.map v32).toArray] w fun e w' => e = .returned (.agg ((wbytes ws).map v8).toArray) ∧ Below w.heap.size w w' := by
  go_enter Tryd.func28, Tryd.ntmps28
  go_wp2
  go_loopw [5] (fun i wr => ∃ k : Nat, k ≤ 32 ∧ i = .int .i64 k ∧ Blk wr w.heap.size 56 (ws.map v32).toArray ∧ Blk wr (w.heap.size + 1) 25 (upTo 32 0 (fun j => v8 (wb ws j)) (.int .u8 0)) ∧ Blk wr (w.heap.size + 1 + 1) 25 (upTo 32 k (fun j => v8 (wb ws j)) (.int .u8 0)) ∧ Below w.heap.size w wr) (fun i _ => 32 - (intOf i).toNat)
  case atStart =>
    exact ⟨0, by omega, rfl, ((Blk.new _ _ _).alloc _).alloc _, ((Blk.newAt _ _ _ _ (by simp)).alloc _).of_eq rfl, (Blk.newAt _ _ _ _ (by simp)).of_eq rfl, (((Below.refl _ _).alloc (Nat.le_refl _) _).alloc (by simp) _).alloc (by simp; omega) _⟩
  case round =>
    obtain ⟨k, hk, rfl, hb0, hb1, hb2, hbl⟩ := hrel
    by_cases hlt : k < 32
    · have hc := hb0.cell (at32 ws (k / 4) (by omega))
      have hf := wb_form ws k
      have hc2 := hb2.cell (j := k) (v := .int .u8 0) (by rw [upTo_at _ _ _ _ _ hlt, if_neg (Nat.lt_irrefl k)])
      have hfr := hb2.frozen k
      generalize ws.getD (k / 4) 0#32 = x at hc hf
      have hset := upTo_set 32 k (fun j => v8 (wb ws j)) (.int .u8 0)
      have R := hset ▸ hb2.set k (v8 (wb ws k))
      clear hset
      go_wp2
      go_roundw
      case rel => exact ⟨k + 1, by omega, by go_num, hb0.setOther _ _ (by simp; omega), hb1.setOther _ _ (by simp), R, hbl.setCell (by simp; omega) _⟩
      case measure => simp [intOf]; omega
    · obtain rfl : k = 32 := by omega
      rw [upTo_full] at hb2
      have e : ((List.range 32).map (fun j => v8 (wb ws j))) = (wbytes ws).map v8 := by simp [wbytes]
      rw [e] at hb2
      have hsz : ((wbytes ws).map v8).toArray.size = 32 := by simp [wbytes_len]
      have hst : (upTo 32 0 (fun j => v8 (wb ws j)) (.int .u8 0)).size = ((wbytes ws).map v8).toArray.size := by rw [upTo_size, hsz]
      have hinfo : (Tryd.prog.info? 25).map (·.size) = some ((wbytes ws).map v8).toArray.size := by rw [hsz]; exact Tryd.info25s
      have hone := one8 (wbytes ws)
      have HB1 := hb1
      have HB2 := hb2
      clear e hb1 hb2
      generalize hz : ((wbytes ws).map v8).toArray = bytes at *
      go_wp2_with (first | (refine wpList_load_row rfl 25 _ rfl (w.heap.size + 1 + 1) rfl 25 _ (0, 0) _ HB2 Tryd.underlying25 rfl hinfo ?_) | (refine wpList_store_row rfl 25 _ _ rfl (w.heap.size + 1) _ rfl rfl 25 _ HB1 hinfo hst hone ?_))
      refine bodyPost_ret (v := .agg bytes) (results_cell_row Tryd.results28 _ _ (w.heap.size + 1) 25 bytes (0, 0) _ rfl (HB1.setRow _) Tryd.underlying25 rfl hinfo) rfl ⟨ret_agg hz.symm, ?_⟩
      exact Below.setRow hbl _ _ (by omega)

set_option maxRecDepth 100000 in
set_option maxHeartbeats 400000 in
theorem words_any (ws : List (BitVec 32)) (h8 : ws.length = 8) (w : World) :
    Calls Tryd.prog 33 #[.agg (ws.map v32).toArray] w fun e w' => e = .returned (.agg ((wbytes ws).map v8).toArray) ∧ Below w.heap.size w w' := by
  go_enter Tryd.func33, Tryd.ntmps33
  go_wp2
  go_loopw [4] (fun i wr => ∃ k : Nat, k ≤ 32 ∧ i = .int .i64 k ∧ Blk wr w.heap.size 56 (ws.map v32).toArray ∧ Blk wr (w.heap.size + 1) 25 (upTo 32 0 (fun j => v8 (wb ws j)) (.int .u8 0)) ∧ Blk wr (w.heap.size + 1 + 1) 25 (upTo 32 k (fun j => v8 (wb ws j)) (.int .u8 0)) ∧ Below w.heap.size w wr) (fun i _ => 32 - (intOf i).toNat)
  case atStart =>
    exact ⟨0, by omega, rfl, ((Blk.new _ _ _).alloc _).alloc _, ((Blk.newAt _ _ _ _ (by simp)).alloc _).of_eq rfl, (Blk.newAt _ _ _ _ (by simp)).of_eq rfl, (((Below.refl _ _).alloc (Nat.le_refl _) _).alloc (by simp) _).alloc (by simp; omega) _⟩
  case round =>
    obtain ⟨k, hk, rfl, hb0, hb1, hb2, hbl⟩ := hrel
    by_cases hlt : k < 32
    · have hc := hb0.cell (at32 ws (k / 4) (by omega))
      have hf := wb_form ws k
      rw [show 8 * (3 - k % 4) = 24 - 8 * (k % 4) by omega] at hf
      have hc2 := hb2.cell (j := k) (v := .int .u8 0) (by rw [upTo_at _ _ _ _ _ hlt, if_neg (Nat.lt_irrefl k)])
      have hfr := hb2.frozen k
      generalize ws.getD (k / 4) 0#32 = x at hc hf
      have hset := upTo_set 32 k (fun j => v8 (wb ws j)) (.int .u8 0)
      have R := hset ▸ hb2.set k (v8 (wb ws k))
      clear hset
      go_wp2
      go_roundw
      case rel => exact ⟨k + 1, by omega, by go_num, hb0.setOther _ _ (by simp; omega), hb1.setOther _ _ (by simp), R, hbl.setCell (by simp; omega) _⟩
      case measure => simp [intOf]; omega
    · obtain rfl : k = 32 := by omega
      rw [upTo_full] at hb2
      have e : ((List.range 32).map (fun j => v8 (wb ws j))) = (wbytes ws).map v8 := by simp [wbytes]
      rw [e] at hb2
      have hsz : ((wbytes ws).map v8).toArray.size = 32 := by simp [wbytes_len]
      have hst : (upTo 32 0 (fun j => v8 (wb ws j)) (.int .u8 0)).size = ((wbytes ws).map v8).toArray.size := by rw [upTo_size, hsz]
      have hinfo : (Tryd.prog.info? 25).map (·.size) = some ((wbytes ws).map v8).toArray.size := by rw [hsz]; exact Tryd.info25s
      have hone := one8 (wbytes ws)
      have HB1 := hb1
      have HB2 := hb2
      clear e hb1 hb2
      generalize hz : ((wbytes ws).map v8).toArray = bytes at *
      go_wp2_with (first | (refine wpList_load_row rfl 25 _ rfl (w.heap.size + 1 + 1) rfl 25 _ (0, 0) _ HB2 Tryd.underlying25 rfl hinfo ?_) | (refine wpList_store_row rfl 25 _ _ rfl (w.heap.size + 1) _ rfl rfl 25 _ HB1 hinfo hst hone ?_))
      refine bodyPost_ret (v := .agg bytes) (results_cell_row Tryd.results33 _ _ (w.heap.size + 1) 25 bytes (0, 0) _ rfl (HB1.setRow _) Tryd.underlying25 rfl hinfo) rfl ⟨ret_agg hz.symm, ?_⟩
      exact Below.setRow hbl _ _ (by omega)

end Go.Proofs.YtenolcfmbdndgabDoor
