/-
  What is proved here: sha.number answers the number of at most eight bytes, the highest first.
  Conditions: the slice is not nil and has at most eight bytes.
-/
import Derived.Test.YtenolcfmbdndgabDoorProg
import Derived.Test.YtenolcfmbdndgabDoorShaWorld
namespace Go.Proofs.YtenolcfmbdndgabDoor
open Go.RowKit

set_option maxHeartbeats 400000 in
theorem number_any (b off len cap : Nat) (bs : List UInt8) (w : World) (hr : Row w b off bs) (hlen : bs.length = len) (h8 : len ≤ 8) :
    Calls Tryd.prog 27 #[.slice (some ⟨b, off, none⟩) len cap] w fun e w' => e = .returned (.int .u64 (beNat bs : Int)) ∧ w' = w := by
  subst hlen
  go_enter Tryd.func27, Tryd.ntmps27
  go_wp2
  go_loop [3, 8] (fun n i => ∃ k : Nat, k ≤ bs.length ∧ i = .int .i64 k ∧ n = .int .u64 (beNat (bs.take k) : Int)) (fun _ i => bs.length - (intOf i).toNat)
  case atStart => exact ⟨0, Nat.zero_le _, rfl, rfl⟩
  case round =>
    obtain ⟨k, hk, rfl, rfl⟩ := hrel
    by_cases hlt : k < bs.length
    · have hc := hr k hlt
      have hb := beNat_take_lt bs k hk
      have hb2 : beNat (bs.take k) < 72057594037927936 := Nat.lt_of_lt_of_le hb (Nat.pow_le_pow_right (n := 256) (by omega) (show k ≤ 7 by omega))
      clear hb
      have ho := or_byte (beNat (bs.take k)) bs[k] hb2
      have hx := lt8 bs[k]
      have hx0 := ge8 bs[k]
      have ht := beNat_take_succ bs k hlt
      go_wp2
      go_round
      case rel => exact ⟨k + 1, by omega, by go_num, by rw [ht]; simp⟩
      case measure => simp [intOf]; omega
    · go_wp2
      go_ret
      exact ⟨by rw [List.take_of_length_le (by omega)]; rfl, rfl⟩
end Go.Proofs.YtenolcfmbdndgabDoor
