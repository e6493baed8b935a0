/-
  What is proved here: plain facts on numbers of 32 bits, bytes and lists, and the hash function SHA-256 as a plain function on them; no program is spoken of.
  Conditions: those that each fact names.
-/
import Derived.WalkKit
namespace Go.Proofs.Ythlohlomefiebaa
open Go.RowKit

/-- A byte and a word of 32 bits as values of the program. -/
def n8 (b : UInt8) : Int := (b.toNat : Int)
def n32 (x : BitVec 32) : Int := (x.toNat : Int)
abbrev v8 (b : UInt8) : Value := .int .u8 (n8 b)
abbrev v32 (x : BitVec 32) : Value := .int .u32 (n32 x)

/-- Turned right by n bits. -/
def rotr (x : BitVec 32) (n : Nat) : BitVec 32 := (x >>> n) ||| (x <<< (32 - n))
def sg0 (x : BitVec 32) : BitVec 32 := rotr x 7 ^^^ rotr x 18 ^^^ (x >>> 3)
def sg1 (x : BitVec 32) : BitVec 32 := rotr x 17 ^^^ rotr x 19 ^^^ (x >>> 10)
def ep0 (x : BitVec 32) : BitVec 32 := rotr x 2 ^^^ rotr x 13 ^^^ rotr x 22
def ep1 (x : BitVec 32) : BitVec 32 := rotr x 6 ^^^ rotr x 11 ^^^ rotr x 25

/-- The number of some bytes, the highest first. -/
def beNat (l : List UInt8) : Nat := l.foldl (fun n b => n * 256 + b.toNat) 0

/-- The words of the rounds, and the first words. -/
def kWords : List (BitVec 32) := [
  0x428a2f98#32, 0x71374491#32, 0xb5c0fbcf#32, 0xe9b5dba5#32, 0x3956c25b#32, 0x59f111f1#32, 0x923f82a4#32, 0xab1c5ed5#32,
  0xd807aa98#32, 0x12835b01#32, 0x243185be#32, 0x550c7dc3#32, 0x72be5d74#32, 0x80deb1fe#32, 0x9bdc06a7#32, 0xc19bf174#32,
  0xe49b69c1#32, 0xefbe4786#32, 0x0fc19dc6#32, 0x240ca1cc#32, 0x2de92c6f#32, 0x4a7484aa#32, 0x5cb0a9dc#32, 0x76f988da#32,
  0x983e5152#32, 0xa831c66d#32, 0xb00327c8#32, 0xbf597fc7#32, 0xc6e00bf3#32, 0xd5a79147#32, 0x06ca6351#32, 0x14292967#32,
  0x27b70a85#32, 0x2e1b2138#32, 0x4d2c6dfc#32, 0x53380d13#32, 0x650a7354#32, 0x766a0abb#32, 0x81c2c92e#32, 0x92722c85#32,
  0xa2bfe8a1#32, 0xa81a664b#32, 0xc24b8b70#32, 0xc76c51a3#32, 0xd192e819#32, 0xd6990624#32, 0xf40e3585#32, 0x106aa070#32,
  0x19a4c116#32, 0x1e376c08#32, 0x2748774c#32, 0x34b0bcb5#32, 0x391c0cb3#32, 0x4ed8aa4a#32, 0x5b9cca4f#32, 0x682e6ff3#32,
  0x748f82ee#32, 0x78a5636f#32, 0x84c87814#32, 0x8cc70208#32, 0x90befffa#32, 0xa4506ceb#32, 0xbef9a3f7#32, 0xc67178f2#32]
def kAt (t : Nat) : BitVec 32 := kWords.getD t 0#32

/-- Eight words. -/
structure St where
  a : BitVec 32
  b : BitVec 32
  c : BitVec 32
  d : BitVec 32
  e : BitVec 32
  f : BitVec 32
  g : BitVec 32
  h : BitVec 32

def St.list (s : St) : List (BitVec 32) := [s.a, s.b, s.c, s.d, s.e, s.f, s.g, s.h]
def St.start : St := ⟨0x6a09e667#32, 0xbb67ae85#32, 0x3c6ef372#32, 0xa54ff53a#32, 0x510e527f#32, 0x9b05688c#32, 0x1f83d9ab#32, 0x5be0cd19#32⟩
def St.add (s r : St) : St := ⟨s.a + r.a, s.b + r.b, s.c + r.c, s.d + r.d, s.e + r.e, s.f + r.f, s.g + r.g, s.h + r.h⟩

def t1 (s : St) (k w : BitVec 32) : BitVec 32 := s.h + ep1 s.e + ((s.e &&& s.f) ^^^ (~~~s.e &&& s.g)) + k + w
def t2 (s : St) : BitVec 32 := ep0 s.a + ((s.a &&& s.b) ^^^ (s.a &&& s.c) ^^^ (s.b &&& s.c))
def St.round (s : St) (k w : BitVec 32) : St := ⟨t1 s k w + t2 s, s.a, s.b, s.c, s.d + t1 s k w, s.e, s.f, s.g⟩

/-- The first sixteen words of a block; all of them, up to t. -/
def wordAt (blk : List UInt8) (t : Nat) : BitVec 32 := BitVec.ofNat 32 (beNat ((blk.drop (4 * t)).take 4))
def schNext (l : List (BitVec 32)) (t : Nat) : BitVec 32 := sg1 (l.getD (t - 2) 0#32) + l.getD (t - 7) 0#32 + sg0 (l.getD (t - 15) 0#32) + l.getD (t - 16) 0#32
def sched (blk : List UInt8) : Nat → List (BitVec 32)
  | 0 => []
  | t + 1 => sched blk t ++ [if t < 16 then wordAt blk t else schNext (sched blk t) t]
def rounds (ws : List (BitVec 32)) (s : St) : Nat → St
  | 0 => s
  | t + 1 => (rounds ws s t).round (kAt t) (ws.getD t 0#32)
/-- What becomes of the words by a block. -/
def compress (s : St) (blk : List UInt8) : St := s.add (rounds (sched blk 64) s 64)

theorem sched_len (blk : List UInt8) (t : Nat) : (sched blk t).length = t := by
  induction t with
  | zero => rfl
  | succ t ih => simp [sched, ih]

theorem wrap_u32_nat (n : Nat) : IntKind.u32.wrap (n : Int) = ((n % 4294967296 : Nat) : Int) := by
  simp [IntKind.wrap, IntKind.bits, IntKind.signed]
theorem wrap_u64_nat (n : Nat) : IntKind.u64.wrap (n : Int) = ((n % 18446744073709551616 : Nat) : Int) := by
  simp [IntKind.wrap, IntKind.bits, IntKind.signed]
theorem wrap_u8_nat (n : Nat) : IntKind.u8.wrap (n : Int) = ((n % 256 : Nat) : Int) := by
  simp [IntKind.wrap, IntKind.bits, IntKind.signed]
theorem ofInt32 (x : BitVec 32) : BitVec.ofInt 32 (n32 x) = x := by
  unfold n32; rw [BitVec.ofInt_natCast]; simp
theorem wrap32_toNat (x : BitVec 32) : IntKind.u32.wrap (x.toNat : Int) = n32 x := by
  rw [wrap_u32_nat, Nat.mod_eq_of_lt x.isLt]; rfl
theorem bits_or32 (a b : BitVec 32) : bits .or .u32 (n32 a) (n32 b) = n32 (a ||| b) := by
  show IntKind.u32.wrap ((BitVec.ofInt 32 (n32 a) ||| BitVec.ofInt 32 (n32 b)).toNat : Int) = _
  rw [ofInt32, ofInt32, wrap32_toNat]
theorem bits_and32 (a b : BitVec 32) : bits .and .u32 (n32 a) (n32 b) = n32 (a &&& b) := by
  show IntKind.u32.wrap ((BitVec.ofInt 32 (n32 a) &&& BitVec.ofInt 32 (n32 b)).toNat : Int) = _
  rw [ofInt32, ofInt32, wrap32_toNat]
theorem bits_xor32 (a b : BitVec 32) : bits .xor .u32 (n32 a) (n32 b) = n32 (a ^^^ b) := by
  show IntKind.u32.wrap ((BitVec.ofInt 32 (n32 a) ^^^ BitVec.ofInt 32 (n32 b)).toNat : Int) = _
  rw [ofInt32, ofInt32, wrap32_toNat]
theorem not32 (x : BitVec 32) : bits .xor .u32 (if IntKind.u32.signed = true then -1 else IntKind.u32.max) (n32 x) = n32 (~~~x) := by
  show IntKind.u32.wrap ((BitVec.ofInt 32 4294967295 ^^^ BitVec.ofInt 32 (n32 x)).toNat : Int) = _
  rw [ofInt32, wrap32_toNat, show BitVec.ofInt 32 4294967295 = BitVec.allOnes 32 by decide, BitVec.allOnes_xor]
theorem add32 (a b : BitVec 32) : IntKind.u32.wrap (n32 a + n32 b) = n32 (a + b) := by
  unfold n32
  rw [show (a.toNat : Int) + (b.toNat : Int) = ((a.toNat + b.toNat : Nat) : Int) by simp, wrap_u32_nat, BitVec.toNat_add]
theorem shr32 (x : BitVec 32) (n : Nat) : n32 x / ((2 ^ n : Nat) : Int) = n32 (x >>> n) := by
  unfold n32; rw [BitVec.toNat_ushiftRight, Nat.shiftRight_eq_div_pow]; simp
theorem shl32 (x : BitVec 32) (n : Nat) : n32 x * ((2 ^ n : Nat) : Int) % 4294967296 = n32 (x <<< n) := by
  unfold n32; rw [BitVec.toNat_shiftLeft, Nat.shiftLeft_eq]; simp
theorem shr3 (x : BitVec 32) : n32 x / (8 : Int) = n32 (x >>> 3) := by rw [← shr32]; rfl
theorem shr10 (x : BitVec 32) : n32 x / (1024 : Int) = n32 (x >>> 10) := by rw [← shr32]; rfl
theorem lt32 (x : BitVec 32) : n32 x < 4294967296 := by have := x.isLt; unfold n32; omega
theorem ge32 (x : BitVec 32) : 0 ≤ n32 x := by unfold n32; omega
theorem lt8 (x : UInt8) : n8 x < 256 := by have := x.toNat_lt; unfold n8; omega
theorem ge8 (x : UInt8) : 0 ≤ n8 x := by unfold n8; omega
theorem natPow (n : Nat) : (2 : Int) ^ n = ((2 ^ n : Nat) : Int) := by simp

theorem rotr_form (x : BitVec 32) (k : Int) (h0 : 0 < k) (h1 : k < 32) :
    bits .or .u32 (n32 x / 2 ^ k.toNat) (n32 x * 2 ^ (32 - k).toNat % 4294967296) = n32 (rotr x k.toNat) := by
  rw [natPow, natPow, shr32, shl32, bits_or32, show (32 - k).toNat = 32 - k.toNat by omega]; rfl
theorem rotl_form (x : BitVec 32) (m : Nat) :
    bits .or .u32 (n32 x * 2 ^ (32 - m) % 4294967296) (n32 x / 2 ^ m) = n32 (rotr x m) := by
  rw [natPow, natPow, shr32, shl32, bits_or32, BitVec.or_comm]; rfl
theorem neg_and31 (n : Nat) (h0 : 0 < n) (h1 : n < 32) : bits .and .u64 (IntKind.u64.wrap (-(n : Int))) 31 = 32 - (n : Int) := by
  have h : ∀ m : Fin 32, 0 < m.val → bits .and .u64 (IntKind.u64.wrap (-(m.val : Int))) 31 = 32 - (m.val : Int) := by decide
  exact h ⟨n, h1⟩ h0

theorem beNat_snoc (l : List UInt8) (x : UInt8) : beNat (l ++ [x]) = beNat l * 256 + x.toNat := by simp [beNat]
theorem beNat_take_succ (l : List UInt8) (k : Nat) (h : k < l.length) : beNat (l.take (k + 1)) = beNat (l.take k) * 256 + l[k].toNat := by
  rw [List.take_succ_eq_append_getElem h, beNat_snoc]
theorem beNat_take_lt (l : List UInt8) (k : Nat) (h : k ≤ l.length) : beNat (l.take k) < 256 ^ k := by
  induction k with
  | zero => simp [beNat]
  | succ k ih =>
    rw [beNat_take_succ l k (by omega)]
    have := ih (by omega)
    have := (l[k]'(by omega)).toNat_lt
    simp only [Nat.pow_succ]; omega
theorem beNat_lt (l : List UInt8) : beNat l < 256 ^ l.length := by
  have := beNat_take_lt l l.length (Nat.le_refl _)
  rwa [List.take_length] at this
theorem bits_or64 (a b : Nat) (ha : a < 18446744073709551616) (hb : b < 18446744073709551616) : bits .or .u64 (a : Int) (b : Int) = ((a ||| b : Nat) : Int) := by
  show IntKind.u64.wrap ((BitVec.ofInt 64 (a : Int) ||| BitVec.ofInt 64 (b : Int)).toNat : Int) = _
  rw [BitVec.ofInt_natCast, BitVec.ofInt_natCast, BitVec.toNat_or, BitVec.toNat_ofNat, BitVec.toNat_ofNat, Nat.mod_eq_of_lt ha, Nat.mod_eq_of_lt hb, wrap_u64_nat, Nat.mod_eq_of_lt (Nat.or_lt_two_pow (n := 64) ha hb)]
theorem or_byte (n : Nat) (x : UInt8) (h : n < 72057594037927936) : bits .or .u64 ((n : Int) * 256) (n8 x) = ((n * 256 + x.toNat : Nat) : Int) := by
  have hx := x.toNat_lt
  rw [show ((n : Int) * 256) = ((n * 256 : Nat) : Int) by simp, n8, bits_or64 _ _ (by omega) (by omega)]
  have := Nat.shiftLeft_add_eq_or_of_lt (i := 8) (b := x.toNat) hx n
  rw [Nat.shiftLeft_eq] at this
  rw [← this]

end Go.Proofs.Ythlohlomefiebaa
