/-
  What is proved here: crc.doubleFour doubles a sum four times; crc.Add is the plain function crc of the lowest 24 bits, crc.Sum that of B704CE; the statements' own first look, the sum of nine digits, answers true.
  Conditions: the variable fourBits holds the sixteen words.
-/
import Derived.Test.YtnagdgkkkkpekabDoorProg
import Derived.Test.YtnagdgkkkkpekabDoorCrcPure
import Derived.Test.YtnagdgkkkkpekabDoorShaApp
import Derived.Lib.SlBytesConst
namespace Go.Proofs.YtnagdgkkkkpekabDoor
open Go.RowKit

theorem ret_bool {a b : Bool} (h : a = b) : Ending.returned (.bool a) = .returned (.bool b) := by rw [h]
def low24 (s : BitVec 32) : BitVec 32 := s &&& 0xFFFFFF#32

theorem and24 (s : BitVec 32) : bits .and .u32 (n32 s) 16777215 = n32 (low24 s) := by
  rw [show (16777215 : Int) = n32 0xFFFFFF#32 from rfl, bits_and32]; rfl
theorem low24_toNat (s : BitVec 32) : (low24 s).toNat = s.toNat % 16777216 := by
  unfold low24; rw [BitVec.toNat_and]
  show _ &&& (2 ^ 24 - 1) = _
  rw [Nat.and_two_pow_sub_one_eq_mod]
theorem low24_lt (s : BitVec 32) : (low24 s).toNat < 16777216 := by rw [low24_toNat]; omega
theorem low24_of_lt (s : BitVec 32) (h : s.toNat < 16777216) : low24 s = s := by
  apply BitVec.eq_of_toNat_eq; rw [low24_toNat]; omega
theorem rem24 (s : BitVec 32) : n32 s % 16777216 = n32 (low24 s) := by
  unfold n32; rw [low24_toNat]; simp
theorem shl4_form (s : BitVec 32) (h : s.toNat < 16777216) : n32 s * (16 : Int) = n32 (s <<< 4) := by
  unfold n32; rw [BitVec.toNat_shiftLeft, Nat.shiftLeft_eq, Nat.mod_eq_of_lt (by omega)]; simp
theorem shl16_form (x : UInt8) : n8 x * (65536 : Int) = n32 (w8 x <<< 16) := by
  have := w8_lt x
  unfold n8 n32; rw [BitVec.toNat_shiftLeft, Nat.shiftLeft_eq, Nat.mod_eq_of_lt (by omega), w8_toNat]; simp

set_option maxRecDepth 100000 in
set_option maxHeartbeats 400000 in
theorem four_any (s : BitVec 32) (hs : s.toNat < 16777216) (w : World) (hf : Tab w 0 (fours.map v32)) :
    Calls Tryd.prog 37 #[v32 s] w fun e w' => e = .returned (v32 (dbls 4 s)) ∧ w' = w := by
  have hq : n32 s / 1048576 = ((s.toNat / 1048576 : Nat) : Int) := by unfold n32; simp
  have hql : s.toNat / 1048576 < 16 := by omega
  have hR : ((s <<< 4) &&& 0xFFFFFF#32) ^^^ fours.getD (s.toNat / 1048576) 0#32 = dbls 4 s := four_eq s hs
  have hc : w.cell? ⟨0, s.toNat / 1048576, none⟩ = some (v32 (fours.getD (s.toNat / 1048576) 0#32)) := hf _ _ (by
    have := at32 fours (s.toNat / 1048576) (by exact hql)
    simpa using this)
  have ha := and24 (s <<< 4)
  have HR : Hid (low24 (s <<< 4) ^^^ fours.getD (s.toNat / 1048576) 0#32 = dbls 4 s) := hR
  clear hR
  generalize fours.getD (s.toNat / 1048576) 0#32 = T at hc HR
  have hx := bits_xor32 (low24 (s <<< 4)) T
  generalize low24 (s <<< 4) = L at ha hx HR
  generalize s.toNat / 1048576 = q at hq hql hc
  go_enter Tryd.func37, Tryd.ntmps37
  go_wp2
  go_ret
  exact ⟨ret_int (by rw [shl4_form s hs, ha, hx, HR.out]), rfl⟩

theorem dbls_succ (n : Nat) (s : BitVec 32) : dbls (n + 1) s = dbl (dbls n s) := by rw [dbls_add]; rfl
theorem bit23 (u : BitVec 32) (h : u.toNat < 16777216) : u.getLsbD 23 = decide (8388608 ≤ u.toNat) := by
  rw [BitVec.getLsbD, Nat.testBit_eq_decide_div_mod_eq]
  rcases Nat.lt_or_ge u.toNat 8388608 with h1 | h1
  · have : u.toNat / 2 ^ 23 = 0 := by omega
    rw [this]; simp; omega
  · have : u.toNat / 2 ^ 23 = 1 := by omega
    rw [this]; simp; omega
theorem shl1_form (u : BitVec 32) (h : u.toNat < 16777216) : (2 : Int) * n32 u = n32 (u <<< 1) := by
  unfold n32; rw [BitVec.toNat_shiftLeft, Nat.shiftLeft_eq, Nat.mod_eq_of_lt (by omega)]; simp; omega
theorem dbl_hi (u : BitVec 32) (h : u.toNat < 16777216) (h1 : 8388608 ≤ u.toNat) : bits .xor .u32 ((2 : Int) * n32 u) 25578747 = n32 (dbl u) := by
  rw [shl1_form u h, show (25578747 : Int) = n32 0x1864CFB#32 from rfl, bits_xor32]
  unfold dbl; rw [bit23 u h]; simp [h1]
theorem dbl_lo (u : BitVec 32) (h : u.toNat < 16777216) (h1 : u.toNat < 8388608) : (2 : Int) * n32 u = n32 (dbl u) := by
  rw [shl1_form u h]; unfold dbl; rw [bit23 u h]; simp [Nat.not_le.2 h1]
theorem rem24' (s : BitVec 32) : (n32 s).tmod 16777216 = n32 (low24 s) := by
  rw [Int.tmod_eq_emod_of_nonneg (ge32 s), rem24]
theorem crc_take_all (s : BitVec 32) (bs : List UInt8) (k : Nat) (h : bs.length ≤ k) : crc s (bs.take k) = crc s bs := by rw [List.take_of_length_le h]

set_option maxRecDepth 100000 in
set_option maxHeartbeats 400000 in
theorem add_any (s : BitVec 32) (x : Value) (bs : List UInt8) (w : World) (hm : bs.length ≤ 1000000000) (hseg : Seg w x bs) (hf : Tab w 0 (fours.map v32)) :
    Calls Tryd.prog 33 #[v32 s, x] w fun e w' => e = .returned (v32 (crc (low24 s) bs)) ∧ w' = w := by
  have ha := and24 s
  rcases hseg with ⟨rfl, ao, c, rfl, _⟩ | ⟨b, off, c, rfl, hc, hr, hb⟩
  · go_enter Tryd.func33, Tryd.ntmps33
    go_wp2
    go_loop [0, 11] (fun n i => i = .int .i64 0 ∧ n = v32 (low24 s)) (fun _ _ => 0)
    case atStart => exact ⟨rfl, rfl⟩
    case round =>
      obtain ⟨rfl, rfl⟩ := hrel
      go_wp2
      go_ret
      exact ⟨rfl, rfl⟩
  have hl0 := low24_lt s
  go_enter Tryd.func33, Tryd.ntmps33
  go_wp2
  clear ha
  go_loop [0, 11] (fun n i => ∃ k : Nat, k ≤ bs.length ∧ i = .int .i64 k ∧ n = v32 (crc (low24 s) (bs.take k))) (fun _ i => bs.length - (intOf i).toNat)
  case atStart => exact ⟨0, Nat.zero_le _, rfl, rfl⟩
  case round =>
    obtain ⟨k, hk, rfl, rfl⟩ := hrel
    by_cases hlt : k < bs.length
    · have hc := hr k hlt
      have ht := crc_take_succ bs k hlt (low24 s)
      have hbd := crc_lt (bs.take k) (low24 s) hl0
      generalize crc (low24 s) (bs.take k) = u at ht hbd
      generalize hxk : bs[k] = xk at hc ht
      have hs := shl16_form xk
      have hx := bits_xor32 u (w8 xk <<< 16)
      have hv := xor_lt u _ hbd (shl_lt xk)
      have hst : step u xk = dbls 4 (dbls 4 (u ^^^ (w8 xk <<< 16))) := dbls_add 4 4 _
      have h8 := lt8 xk
      have h80 := ge8 xk
      generalize u ^^^ (w8 xk <<< 16) = v at hx hv hst
      have H4 : Hid (∀ y : BitVec 32, y.toNat < 16777216 → Calls Tryd.prog 37 #[v32 y] w fun e w' => e = .returned (v32 (dbls 4 y)) ∧ w' = w) := fun y hy => four_any y hy w hf
      have HV : Hid (v.toNat < 16777216) := hv
      clear hv
      go_wp2_with fail
      refine (H4.out _ HV.out).mono ?_
      rintro e w1 ⟨rfl, rfl⟩
      go_wp2_with fail
      refine (H4.out _ (dbls_lt 4 _ HV.out)).mono ?_
      rintro e w1 ⟨rfl, rfl⟩
      go_wp2
      go_round
      case rel => exact ⟨k + 1, by omega, by go_num, by rw [ht, hst]⟩
      case measure => simp [intOf]; omega
    · have hk' : bs.length ≤ k := by omega
      go_wp2
      go_ret
      exact ⟨ret_int (by rw [crc_take_all _ _ _ hk']), rfl⟩

set_option maxRecDepth 100000 in
theorem csum_any (x : Value) (bs : List UInt8) (w : World) (hm : bs.length ≤ 1000000000) (hseg : Seg w x bs) (hf : Tab w 0 (fours.map v32)) :
    Calls Tryd.prog 27 #[x] w fun e w' => e = .returned (v32 (crcOf bs)) ∧ w' = w := by
  have h := add_any 0xB704CE#32 x bs w hm hseg hf
  rw [show v32 0xB704CE#32 = .int .u32 11994318 from rfl, show low24 0xB704CE#32 = 0xB704CE#32 from rfl] at h
  have H : Hid (Calls Tryd.prog 33 #[.int .u32 11994318, x] w fun e w' => e = .returned (v32 (crcOf bs)) ∧ w' = w) := h
  clear h
  go_enter Tryd.func27, Tryd.ntmps27
  go_wp2_with fail
  refine H.out.mono ?_
  rintro e w1 ⟨rfl, rfl⟩
  go_wp2
  go_ret
  exact ⟨rfl, rfl⟩

def digits : List UInt8 := [49, 50, 51, 52, 53, 54, 55, 56, 57]

end Go.Proofs.YtnagdgkkkkpekabDoor
