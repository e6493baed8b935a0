/-
  What is proved here: a device's lot.
  Conditions: the variable fourBits holds the sixteen words; the campaign and the device are numbers from 0 to 2^30.
-/
import Derived.Test.YtnagdgkkkkpekabDoorWaveArgs
namespace Go.Proofs.YtnagdgkkkkpekabDoor
open Go.RowKit

theorem n8_ofNat (n : Nat) : n8 (UInt8.ofNat n) = (n : Int) % 256 := by
  unfold n8
  have e : (UInt8.ofNat n).toNat = n % 256 := by simp
  rw [e]; omega
theorem lot_cells (c d : Nat) (hc : c ≤ 1073741824) (hd : d ≤ 1073741824) : (#[Value.int IntKind.u8 ((c : Int) % 256), Value.int IntKind.u8 ((c : Int) / 256 % 256), Value.int IntKind.u8 ((c : Int) / 65536 % 256), Value.int IntKind.u8 ((c : Int) / 16777216), Value.int IntKind.u8 ((d : Int) % 256), Value.int IntKind.u8 ((d : Int) / 256 % 256), Value.int IntKind.u8 ((d : Int) / 65536 % 256), Value.int IntKind.u8 ((d : Int) / 16777216)] : Array Value) = ((lotB c d).map v8).toArray := by
  have e : ∀ n : Nat, n ≤ 1073741824 → (b4W n).map v8 = [Value.int IntKind.u8 ((n : Int) % 256), Value.int IntKind.u8 ((n : Int) / 256 % 256), Value.int IntKind.u8 ((n : Int) / 65536 % 256), Value.int IntKind.u8 ((n : Int) / 16777216)] := fun n hn => by
    unfold b4W
    have h1 : (((n / 256 : Nat)) : Int) % 256 = (n : Int) / 256 % 256 := by omega
    have h2 : (((n / 65536 : Nat)) : Int) % 256 = (n : Int) / 65536 % 256 := by omega
    have h3 : (((n / 16777216 : Nat)) : Int) % 256 = (n : Int) / 16777216 := by omega
    simp only [List.map_cons, List.map_nil, v8, n8_ofNat, h1, h2, h3]
  unfold lotB
  rw [List.map_append, Int.toNat_natCast, Int.toNat_natCast, e c hc, e d hd]
  rfl
set_option maxRecDepth 100000 in
set_option maxHeartbeats 1000000 in
theorem lotOf_any (c d : Nat) (w : World) (hgf : 0 < w.heap.size) (hf : Tab w 0 (fours.map v32)) (hc : c ≤ 1073741824) (hd : d ≤ 1073741824) :
    Calls Tryd.prog 19 #[.int .i64 (c : Int), .int .i64 (d : Int)] w fun e w' => e = .returned (v32 (lotW c d)) ∧ Below w.heap.size w w' := by
  have hB : Below w.heap.size w (w.alloc (.cells ((lotB c d).map v8).toArray 54)).drew.drew.drew.drew := Below.drewN ((Below.refl _ _).alloc (Nat.le_refl _) _) 4
  have hrow : Row (w.alloc (.cells ((lotB c d).map v8).toArray 54)).drew.drew.drew.drew w.heap.size 0 (lotB c d) := fun j hj => by
    rw [Nat.zero_add]
    have k : Blk (w.alloc (.cells ((lotB c d).map v8).toArray 54)).drew.drew.drew.drew w.heap.size 54 ((lotB c d).map v8).toArray := (Blk.new w _ _).drewN 4
    rw [k.cell (v := v8 (lotB c d)[j]) (by simp [hj])]
  have HS : Hid (Calls Tryd.prog 27 #[.slice (some ⟨w.heap.size, 0, none⟩) 8 8] (w.alloc (.cells ((lotB c d).map v8).toArray 54)).drew.drew.drew.drew fun e w' => e = .returned (v32 (lotW c d)) ∧ w' = (w.alloc (.cells ((lotB c d).map v8).toArray 54)).drew.drew.drew.drew) := csum_any _ (lotB c d) _ (by show (8 : Nat) ≤ _; omega) (Seg.of_row hrow rfl (Nat.le_refl _) (by show w.heap.size < (w.alloc _).heap.size; simp)) (hf.below hB hgf)
  rw [← lot_cells c d hc hd] at HS hB
  clear hrow hf hgf
  generalize v32 (lotW c d) = R at *
  go_enter Tryd.func19, Tryd.ntmps19
  go_wp2
  refine wp_loop_rounds 5 ?_
  rw [rounds_succ]
  go_wp2
  go_region
  go_wp2
  rw [rounds_succ]
  go_wp2
  go_region
  go_wp2
  rw [rounds_succ]
  go_wp2
  go_region
  go_wp2
  rw [rounds_succ]
  go_wp2
  go_region
  go_wp2
  rw [rounds_succ]
  go_wp2_with fail
  refine HS.out.mono ?_
  rintro e w' ⟨rfl, rfl⟩
  go_wp2
  go_ret
  exact ⟨rfl, hB⟩
end Go.Proofs.YtnagdgkkkkpekabDoor
