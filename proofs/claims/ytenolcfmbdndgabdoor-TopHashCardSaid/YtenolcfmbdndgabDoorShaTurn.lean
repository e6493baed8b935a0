/-
  What is proved here: of every word of 32 bits, sha.turn, sha.turns, bits.RotateLeft32 and the document's rotr turn it right by so many bits.
  Conditions: the number of bits lies between 1 and 31.
-/
import Derived.Test.YtenolcfmbdndgabDoorProg
import Derived.Test.YtenolcfmbdndgabDoorShaPure
import Derived.WalkKit
import Derived.WalkSpells
import Derived.WalkLawsBesides
namespace Go.Proofs.YtenolcfmbdndgabDoor
open Go.RowKit
attribute [local go_sem] bits_or32 bits_and32 bits_xor32 add32

set_option maxHeartbeats 400000 in
theorem rot_any (x : BitVec 32) (n : Int) (w : World) (hn0 : 0 < n) (hn : n < 32) :
    Calls Tryd.prog 47 #[.int .u32 (n32 x), .int .i64 (-n)] w fun e w' => e = .returned (.int .u32 (n32 (rotr x n.toNat))) ∧ w' = w := by
  obtain ⟨m, rfl⟩ := Int.eq_ofNat_of_zero_le (Int.le_of_lt hn0)
  have h31 := neg_and31 m (by omega) (by omega)
  have hx := lt32 x
  have hx0 := ge32 x
  have hf := rotl_form x m
  have hs : 32 - (32 - m) = m := by omega
  go_enter Tryd.func47, Tryd.ntmps47
  go_wp2
  go_ret
  exact ⟨by simp, rfl⟩
set_option maxHeartbeats 400000 in
theorem turn_any (x : BitVec 32) (n : Int) (w : World) (hn0 : 0 < n) (hn : n < 32) :
    Calls Tryd.prog 46 #[.int .u32 (n32 x), .int .i64 n] w fun e w' => e = .returned (.int .u32 (n32 (rotr x n.toNat))) ∧ w' = w := by
  go_enter Tryd.func46, Tryd.ntmps46
  go_wp2_with (go_at_call 47; refine (rot_any _ _ _ hn0 hn).mono ?_; rintro e w' ⟨rfl, rfl⟩)
  go_ret
  exact ⟨rfl, rfl⟩
set_option maxHeartbeats 400000 in
theorem rotr_any (x : BitVec 32) (n : Int) (w : World) (hn0 : 0 < n) (hn : n < 32) :
    Calls Tryd.prog 42 #[.int .u32 (n32 x), .int .u64 n] w fun e w' => e = .returned (.int .u32 (n32 (rotr x n.toNat))) ∧ w' = w := by
  have hx := lt32 x
  have hx0 := ge32 x
  have hf := rotr_form x n hn0 hn
  go_enter Tryd.func42, Tryd.ntmps42
  go_wp2
  go_ret
  exact ⟨rfl, rfl⟩
set_option maxHeartbeats 400000 in
theorem turns_any (x : BitVec 32) (i j k : Int) (w : World) (hi0 : 0 < i) (hi : i < 32) (hj0 : 0 < j) (hj : j < 32) (hk0 : 0 < k) (hk : k < 32) :
    Calls Tryd.prog 41 #[.int .u32 (n32 x), .int .i64 i, .int .i64 j, .int .i64 k] w fun e w' => e = .returned (.int .u32 (n32 (rotr x i.toNat ^^^ rotr x j.toNat ^^^ rotr x k.toNat))) ∧ w' = w := by
  go_enter Tryd.func41, Tryd.ntmps41
  go_wp2_with (go_at_call 46; refine (turn_any _ _ _ (by assumption) (by assumption)).mono ?_; rintro e w' ⟨rfl, rfl⟩)
  go_ret
  exact ⟨rfl, rfl⟩
end Go.Proofs.YtenolcfmbdndgabDoor
