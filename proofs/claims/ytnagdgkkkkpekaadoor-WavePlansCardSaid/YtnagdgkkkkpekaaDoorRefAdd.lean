/-
  What is proved here: the document's Add is the plain function crc of the lowest 24 bits, its Sum that of B704CE.
  Conditions: at most a thousand million bytes.
-/
import Derived.Test.YtnagdgkkkkpekaaDoorCrcAdd
namespace Go.Proofs.YtnagdgkkkkpekaaDoor
open Go.RowKit

set_option maxRecDepth 100000 in
set_option maxHeartbeats 400000 in
theorem refAdd_any (s : BitVec 32) (x : Value) (bs : List UInt8) (w : World) (hm : bs.length ≤ 1000000000) (hseg : Seg w x bs) :
    Calls Tryd.prog 49 #[v32 s, x] w fun e w' => e = .returned (v32 (crc (low24 s) bs)) ∧ w' = w := by
  have ha := rem24' s
  rcases hseg with ⟨rfl, ao, c, rfl, _⟩ | ⟨b, off, c, rfl, hc, hr, hb⟩
  · go_enter Tryd.func49, Tryd.ntmps49
    go_wp2
    go_loop [5, 6] (fun n i => i = .int .i64 0 ∧ n = v32 (low24 s)) (fun _ _ => 0)
    case atStart => exact ⟨rfl, rfl⟩
    case round =>
      obtain ⟨rfl, rfl⟩ := hrel
      go_wp2
      go_ret
      exact ⟨rfl, rfl⟩
  have hl0 := low24_lt s
  go_enter Tryd.func49, Tryd.ntmps49
  go_wp2
  go_loop [5, 6] (fun n i => ∃ k : Nat, k ≤ bs.length ∧ i = .int .i64 k ∧ n = v32 (crc (low24 s) (bs.take k))) (fun _ i => bs.length - (intOf i).toNat)
  case atStart => exact ⟨0, Nat.zero_le _, rfl, rfl⟩
  case round =>
    obtain ⟨k, hk, rfl, rfl⟩ := hrel
    by_cases hlt : k < bs.length
    · have hc := hr k hlt
      have ht := crc_take_succ bs k hlt (low24 s)
      have hbd := crc_lt (bs.take k) (low24 s) hl0
      generalize crc (low24 s) (bs.take k) = u at ht hbd
      generalize hxk : bs[k] = xk at hc ht
      have hs := shl16_form xk
      have hx := bits_xor32 u (w8 xk <<< 16)
      have hv := xor_lt u _ hbd (shl_lt xk)
      have hst : step u xk = dbls 8 (u ^^^ (w8 xk <<< 16)) := rfl
      have h8 := lt8 xk
      have h80 := ge8 xk
      generalize u ^^^ (w8 xk <<< 16) = v at hx hv hst
      have HH : Hid (crc (low24 s) (bs.take (k + 1)) = dbls 8 v) := ht.trans hst
      clear ht hst hbd hxk
      go_wp2
      have HV : Hid (v.toNat < 16777216) := hv
      clear hs hx h8 h80 hc hv ha hl0
      go_loop [5, 7] (fun n i => ∃ j : Nat, j ≤ 8 ∧ i = .int .i64 j ∧ n = v32 (dbls j v)) (fun _ i => 8 - (intOf i).toNat)
      case atStart => exact ⟨0, Nat.zero_le _, rfl, rfl⟩
      case round =>
        obtain ⟨j, hj, rfl, rfl⟩ := hrel
        by_cases hlj : j < 8
        · have hd := dbls_succ j v
          have hyb := dbls_lt j v HV.out
          generalize dbls j v = y at hd hyb
          have HDH : Hid (8388608 ≤ n32 y → bits .xor .u32 ((2 : Int) * n32 y) 25578747 = n32 (dbls (j + 1) v)) := fun h => by rw [hd]; exact dbl_hi y hyb (by unfold n32 at h; omega)
          have HDL : Hid (n32 y < 8388608 → (2 : Int) * n32 y = n32 (dbls (j + 1) v)) := fun h => by rw [hd]; exact dbl_lo y hyb (by unfold n32 at h; omega)
          have hZ0 := ge32 y
          have hZ1 : n32 y < 16777216 := by unfold n32; omega
          clear hd hyb
          show Code.wp _ _ _ { tmps := #[_, _, _, _, _, .int .u32 (n32 y), _, _, _, _, _, _, _, _, _, _, _, _, _, _, _, _, _, _, _, _, _, _, _, _, _, _, _, _, _], defers := _ } _
          generalize n32 y = Z at *
          by_cases hhi : 8388608 ≤ Z
          · have hD := HDH.out hhi
            clear HDH HDL
            go_wp2
            go_round
            case rel => exact ⟨j + 1, by omega, by go_num, rfl⟩
            case measure => simp [intOf]; omega
          · have hlo : Z < 8388608 := by omega
            have HD : Hid ((2 : Int) * Z = n32 (dbls (j + 1) v)) := HDL.out hlo
            clear HDH HDL hhi
            go_wp2
            go_round
            case rel => exact ⟨j + 1, by omega, by go_num, by unfold v32; rw [← HD.out]⟩
            case measure => simp [intOf]; omega
        · obtain hj8 : j = 8 := by omega
          go_wp2
          go_round
          case rel => exact ⟨k + 1, by omega, by go_num, by rw [HH.out, hj8]⟩
          case measure => simp [intOf]; omega
    · have hk' : bs.length ≤ k := by omega
      go_wp2
      go_ret
      exact ⟨ret_int (by rw [crc_take_all _ _ _ hk']), rfl⟩

set_option maxRecDepth 100000 in
theorem refCsum_any (x : Value) (bs : List UInt8) (w : World) (hm : bs.length ≤ 1000000000) (hseg : Seg w x bs) :
    Calls Tryd.prog 44 #[x] w fun e w' => e = .returned (v32 (crcOf bs)) ∧ w' = w := by
  have h := refAdd_any 0xB704CE#32 x bs w hm hseg
  rw [show v32 0xB704CE#32 = .int .u32 11994318 from rfl, show low24 0xB704CE#32 = 0xB704CE#32 from rfl] at h
  have H : Hid (Calls Tryd.prog 49 #[.int .u32 11994318, x] w fun e w' => e = .returned (v32 (crcOf bs)) ∧ w' = w) := h
  clear h
  go_enter Tryd.func44, Tryd.ntmps44
  go_wp2_with fail
  refine H.out.mono ?_
  rintro e w1 ⟨rfl, rfl⟩
  go_wp2
  go_ret
  exact ⟨rfl, rfl⟩

end Go.Proofs.YtnagdgkkkkpekaaDoor
