/-
  What is proved here: sha.ending answers what stands behind so many bytes up to a whole block: 128, noughts, and the eight bytes of eight times their number.
  Conditions: the number of bytes is below 2^60.
-/
import Derived.Test.YtenolcfmbdndgabDoorProg
import Derived.Test.YtenolcfmbdndgabDoorShaEight
namespace Go.Proofs.YtenolcfmbdndgabDoor
open Go.RowKit

/-- What stands behind n bytes. -/
def endOf (n : Nat) : List UInt8 := 128 :: (List.replicate ((119 - n % 64) % 64) 0 ++ be8 (8 * n))

theorem endOf_len (n : Nat) : (endOf n).length = (119 - n % 64) % 64 + 9 := by simp [endOf, be8_len]

theorem madeZeros (k : Nat) : madeCells #[Value.int .u8 0] k = ((List.replicate k (0 : UInt8)).map v8).toArray := by
  apply Array.ext
  · simp [madeCells]
  · intro i h1 h2
    have : v8 0 = Value.int .u8 0 := rfl
    simp [madeCells, this, Nat.mod_one]
theorem make_zeros (k : Nat) (hk : k ≤ 1000000) (kk : IntKind) (l : Int) (hl : l = (k : Int)) (w : World) :
    (Instr.makeSlice 22 (.int kk l) (.int kk l)).run Tryd.prog w = .ok (.slice (some ⟨w.heap.size, 0, none⟩) k k) (w.alloc (.cells ((List.replicate k (0 : UInt8)).map v8).toArray 5)) := by
  obtain ⟨i0, hi, hz0, hz1, hz2⟩ := info_parts Tryd.info5
  subst hl
  have := run_make (P := Tryd.prog) w 22 5 i0 (.int .u8 0) Tryd.underlying22 hi hz0 kk kk ((k : Nat) : Int) ((k : Nat) : Int) (by omega) (by omega) (by rw [hz2]; omega) (by omega)
  rw [this, hz1, Int.toNat_natCast, Nat.mul_one]
  rw [show (Value.int IntKind.u8 0).cells = #[Value.int .u8 0] from rfl, madeZeros]

set_option maxRecDepth 100000 in
set_option maxHeartbeats 400000 in
theorem ending_any (n : Nat) (hn : n < 1152921504606846976) (w : World) :
    Calls Tryd.prog 34 #[.int .u64 (n : Int)] w fun e w' => ∃ v, e = .returned v ∧ Own w' w.heap.size v (endOf n) ∧ Below w.heap.size w w' := by
  obtain ⟨m, hm⟩ : ∃ m, m = (119 - n % 64) % 64 := ⟨_, rfl⟩
  have hm64 : m < 64 := by omega
  have hmk := fun w => make_zeros (m + 1) (by omega) .u64 (1 + (119 - (n : Int)) % 64) (by omega) w
  have HE : Hid (endOf n = (128 :: List.replicate m 0) ++ be8 (8 * n)) := by show _ = _; rw [hm]; rfl
  have hc : ∀ w : World, (w.alloc (.cells ((List.replicate (m + 1) (0 : UInt8)).map v8).toArray 5)).cell? ⟨w.heap.size, 0, none⟩ = some (.int .u8 0) := fun w => (Blk.new w _ _).cell (by simp [List.replicate_succ]; rfl)
  clear hm
  go_enter Tryd.func34, Tryd.ntmps34
  go_wp2_with fail
  have hW : ∀ w : World, Blk (w.alloc (Obj.cells ((Array.replicate (m + 1) (v8 0)).setIfInBounds 0 (Value.int IntKind.u8 128)) 5)) w.heap.size 5 ((128 :: List.replicate m 0).map v8).toArray := fun w =>
    (Blk.new w _ _).of_eq (by
      apply Array.ext
      · simp
      · intro i h1 h2
        rw [Array.getElem_setIfInBounds (by simpa using h1)]
        cases i with
        | zero => rfl
        | succ i => simp)
  refine (appendNumber_any _ _ _ (128 :: List.replicate m 0) _ (8 * n) _ (by omega) (by simp) (hW w).row (by simp) (by simp; omega)).mono ?_
  rintro e w' ⟨v, rfl, ho, hb⟩
  have hB : Below w.heap.size w w' := ((Below.refl _ _).alloc (Nat.le_refl _) _).trans (hb.mono (by simp))
  clear hmk hc hW hb
  go_wp2
  go_ret
  exact ⟨_, rfl, HE.out ▸ ho.mono (by simp), hB⟩
end Go.Proofs.YtenolcfmbdndgabDoor
