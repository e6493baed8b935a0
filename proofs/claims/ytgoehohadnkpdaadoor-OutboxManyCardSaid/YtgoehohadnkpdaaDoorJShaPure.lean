/-
  What is proved here: plain facts on numbers of 32 bits, bytes and lists, and the hash function SHA-256 as a plain function on them; no program is spoken of. plain facts on what a flash does: its bytes, how often each block was erased, when the power goes. plain facts on the cyclic sum of 24 bits as a plain function on words of 32 bits and lists of bytes: it is linear, no two sums become one by a text, a text with its sum behind has the sum 0, and a turned bit changes the sum by a doubled 2^23; no program is spoken of. plain facts on blocks of memory: what a block holds behind a store, a new block, a draw; and on arrays that are filled one cell after another. what append does to a slice of bytes of the call's own, and to one that is full, in the words of the other texts.
  Conditions: those that each fact names.
-/
import Derived.WalkKit
import Derived.WalkSpells
import Derived.WalkLawsBesides
import Derived.Laws.CopyOwn
import Derived.Deep.MidRow
import Derived.Deep.AppendLies
import Derived.ArgAppend
import Derived.Deep.Quiet
import Derived.Test.YtgoehohadnkpdaaDoorProg
import Derived.Maps.AppendAt
import Derived.Laws.AppendOwnNone
namespace Go.Proofs.YtgoehohadnkpdaaDoor
open Go.RowKit

/-- A byte and a word of 32 bits as values of the program. -/
def n8 (b : UInt8) : Int := (b.toNat : Int)
def n32 (x : BitVec 32) : Int := (x.toNat : Int)
abbrev v8 (b : UInt8) : Value := .int .u8 (n8 b)
abbrev v32 (x : BitVec 32) : Value := .int .u32 (n32 x)

/-- Turned right by n bits. -/
def rotr (x : BitVec 32) (n : Nat) : BitVec 32 := (x >>> n) ||| (x <<< (32 - n))
def sg0 (x : BitVec 32) : BitVec 32 := rotr x 7 ^^^ rotr x 18 ^^^ (x >>> 3)
def sg1 (x : BitVec 32) : BitVec 32 := rotr x 17 ^^^ rotr x 19 ^^^ (x >>> 10)
def ep0 (x : BitVec 32) : BitVec 32 := rotr x 2 ^^^ rotr x 13 ^^^ rotr x 22
def ep1 (x : BitVec 32) : BitVec 32 := rotr x 6 ^^^ rotr x 11 ^^^ rotr x 25

/-- The number of some bytes, the highest first. -/
def beNat (l : List UInt8) : Nat := l.foldl (fun n b => n * 256 + b.toNat) 0

/-- The words of the rounds, and the first words. -/
def kWords : List (BitVec 32) := [
  0x428a2f98#32, 0x71374491#32, 0xb5c0fbcf#32, 0xe9b5dba5#32, 0x3956c25b#32, 0x59f111f1#32, 0x923f82a4#32, 0xab1c5ed5#32,
  0xd807aa98#32, 0x12835b01#32, 0x243185be#32, 0x550c7dc3#32, 0x72be5d74#32, 0x80deb1fe#32, 0x9bdc06a7#32, 0xc19bf174#32,
  0xe49b69c1#32, 0xefbe4786#32, 0x0fc19dc6#32, 0x240ca1cc#32, 0x2de92c6f#32, 0x4a7484aa#32, 0x5cb0a9dc#32, 0x76f988da#32,
  0x983e5152#32, 0xa831c66d#32, 0xb00327c8#32, 0xbf597fc7#32, 0xc6e00bf3#32, 0xd5a79147#32, 0x06ca6351#32, 0x14292967#32,
  0x27b70a85#32, 0x2e1b2138#32, 0x4d2c6dfc#32, 0x53380d13#32, 0x650a7354#32, 0x766a0abb#32, 0x81c2c92e#32, 0x92722c85#32,
  0xa2bfe8a1#32, 0xa81a664b#32, 0xc24b8b70#32, 0xc76c51a3#32, 0xd192e819#32, 0xd6990624#32, 0xf40e3585#32, 0x106aa070#32,
  0x19a4c116#32, 0x1e376c08#32, 0x2748774c#32, 0x34b0bcb5#32, 0x391c0cb3#32, 0x4ed8aa4a#32, 0x5b9cca4f#32, 0x682e6ff3#32,
  0x748f82ee#32, 0x78a5636f#32, 0x84c87814#32, 0x8cc70208#32, 0x90befffa#32, 0xa4506ceb#32, 0xbef9a3f7#32, 0xc67178f2#32]
def kAt (t : Nat) : BitVec 32 := kWords.getD t 0#32

/-- Eight words. -/
structure St where
  a : BitVec 32
  b : BitVec 32
  c : BitVec 32
  d : BitVec 32
  e : BitVec 32
  f : BitVec 32
  g : BitVec 32
  h : BitVec 32

def St.list (s : St) : List (BitVec 32) := [s.a, s.b, s.c, s.d, s.e, s.f, s.g, s.h]
def St.start : St := ⟨0x6a09e667#32, 0xbb67ae85#32, 0x3c6ef372#32, 0xa54ff53a#32, 0x510e527f#32, 0x9b05688c#32, 0x1f83d9ab#32, 0x5be0cd19#32⟩
def St.add (s r : St) : St := ⟨s.a + r.a, s.b + r.b, s.c + r.c, s.d + r.d, s.e + r.e, s.f + r.f, s.g + r.g, s.h + r.h⟩

def t1 (s : St) (k w : BitVec 32) : BitVec 32 := s.h + ep1 s.e + ((s.e &&& s.f) ^^^ (~~~s.e &&& s.g)) + k + w
def t2 (s : St) : BitVec 32 := ep0 s.a + ((s.a &&& s.b) ^^^ (s.a &&& s.c) ^^^ (s.b &&& s.c))
def St.round (s : St) (k w : BitVec 32) : St := ⟨t1 s k w + t2 s, s.a, s.b, s.c, s.d + t1 s k w, s.e, s.f, s.g⟩

/-- The first sixteen words of a block; all of them, up to t. -/
def wordAt (blk : List UInt8) (t : Nat) : BitVec 32 := BitVec.ofNat 32 (beNat ((blk.drop (4 * t)).take 4))
def schNext (l : List (BitVec 32)) (t : Nat) : BitVec 32 := sg1 (l.getD (t - 2) 0#32) + l.getD (t - 7) 0#32 + sg0 (l.getD (t - 15) 0#32) + l.getD (t - 16) 0#32
def sched (blk : List UInt8) : Nat → List (BitVec 32)
  | 0 => []
  | t + 1 => sched blk t ++ [if t < 16 then wordAt blk t else schNext (sched blk t) t]
def rounds (ws : List (BitVec 32)) (s : St) : Nat → St
  | 0 => s
  | t + 1 => (rounds ws s t).round (kAt t) (ws.getD t 0#32)
/-- What becomes of the words by a block. -/
def compress (s : St) (blk : List UInt8) : St := s.add (rounds (sched blk 64) s 64)

theorem sched_len (blk : List UInt8) (t : Nat) : (sched blk t).length = t := by
  induction t with
  | zero => rfl
  | succ t ih => simp [sched, ih]

theorem wrap_u32_nat (n : Nat) : IntKind.u32.wrap (n : Int) = ((n % 4294967296 : Nat) : Int) := by
  simp [IntKind.wrap, IntKind.bits, IntKind.signed]
theorem wrap_u64_nat (n : Nat) : IntKind.u64.wrap (n : Int) = ((n % 18446744073709551616 : Nat) : Int) := by
  simp [IntKind.wrap, IntKind.bits, IntKind.signed]
theorem wrap_u8_nat (n : Nat) : IntKind.u8.wrap (n : Int) = ((n % 256 : Nat) : Int) := by
  simp [IntKind.wrap, IntKind.bits, IntKind.signed]
theorem ofInt32 (x : BitVec 32) : BitVec.ofInt 32 (n32 x) = x := by
  unfold n32; rw [BitVec.ofInt_natCast]; simp
theorem wrap32_toNat (x : BitVec 32) : IntKind.u32.wrap (x.toNat : Int) = n32 x := by
  rw [wrap_u32_nat, Nat.mod_eq_of_lt x.isLt]; rfl
theorem bits_or32 (a b : BitVec 32) : bits .or .u32 (n32 a) (n32 b) = n32 (a ||| b) := by
  show IntKind.u32.wrap ((BitVec.ofInt 32 (n32 a) ||| BitVec.ofInt 32 (n32 b)).toNat : Int) = _
  rw [ofInt32, ofInt32, wrap32_toNat]
theorem bits_and32 (a b : BitVec 32) : bits .and .u32 (n32 a) (n32 b) = n32 (a &&& b) := by
  show IntKind.u32.wrap ((BitVec.ofInt 32 (n32 a) &&& BitVec.ofInt 32 (n32 b)).toNat : Int) = _
  rw [ofInt32, ofInt32, wrap32_toNat]
theorem bits_xor32 (a b : BitVec 32) : bits .xor .u32 (n32 a) (n32 b) = n32 (a ^^^ b) := by
  show IntKind.u32.wrap ((BitVec.ofInt 32 (n32 a) ^^^ BitVec.ofInt 32 (n32 b)).toNat : Int) = _
  rw [ofInt32, ofInt32, wrap32_toNat]
theorem not32 (x : BitVec 32) : bits .xor .u32 (if IntKind.u32.signed = true then -1 else IntKind.u32.max) (n32 x) = n32 (~~~x) := by
  show IntKind.u32.wrap ((BitVec.ofInt 32 4294967295 ^^^ BitVec.ofInt 32 (n32 x)).toNat : Int) = _
  rw [ofInt32, wrap32_toNat, show BitVec.ofInt 32 4294967295 = BitVec.allOnes 32 by decide, BitVec.allOnes_xor]
theorem add32 (a b : BitVec 32) : IntKind.u32.wrap (n32 a + n32 b) = n32 (a + b) := by
  unfold n32
  rw [show (a.toNat : Int) + (b.toNat : Int) = ((a.toNat + b.toNat : Nat) : Int) by simp, wrap_u32_nat, BitVec.toNat_add]
theorem shr32 (x : BitVec 32) (n : Nat) : n32 x / ((2 ^ n : Nat) : Int) = n32 (x >>> n) := by
  unfold n32; rw [BitVec.toNat_ushiftRight, Nat.shiftRight_eq_div_pow]; simp
theorem shl32 (x : BitVec 32) (n : Nat) : n32 x * ((2 ^ n : Nat) : Int) % 4294967296 = n32 (x <<< n) := by
  unfold n32; rw [BitVec.toNat_shiftLeft, Nat.shiftLeft_eq]; simp
theorem shr3 (x : BitVec 32) : n32 x / (8 : Int) = n32 (x >>> 3) := by rw [← shr32]; rfl
theorem shr10 (x : BitVec 32) : n32 x / (1024 : Int) = n32 (x >>> 10) := by rw [← shr32]; rfl
theorem lt32 (x : BitVec 32) : n32 x < 4294967296 := by have := x.isLt; unfold n32; omega
theorem ge32 (x : BitVec 32) : 0 ≤ n32 x := by unfold n32; omega
theorem lt8 (x : UInt8) : n8 x < 256 := by have := x.toNat_lt; unfold n8; omega
theorem ge8 (x : UInt8) : 0 ≤ n8 x := by unfold n8; omega
theorem natPow (n : Nat) : (2 : Int) ^ n = ((2 ^ n : Nat) : Int) := by simp

theorem rotr_form (x : BitVec 32) (k : Int) (h0 : 0 < k) (h1 : k < 32) :
    bits .or .u32 (n32 x / 2 ^ k.toNat) (n32 x * 2 ^ (32 - k).toNat % 4294967296) = n32 (rotr x k.toNat) := by
  rw [natPow, natPow, shr32, shl32, bits_or32, show (32 - k).toNat = 32 - k.toNat by omega]; rfl
theorem rotl_form (x : BitVec 32) (m : Nat) :
    bits .or .u32 (n32 x * 2 ^ (32 - m) % 4294967296) (n32 x / 2 ^ m) = n32 (rotr x m) := by
  rw [natPow, natPow, shr32, shl32, bits_or32, BitVec.or_comm]; rfl
theorem neg_and31 (n : Nat) (h0 : 0 < n) (h1 : n < 32) : bits .and .u64 (IntKind.u64.wrap (-(n : Int))) 31 = 32 - (n : Int) := by
  have h : ∀ m : Fin 32, 0 < m.val → bits .and .u64 (IntKind.u64.wrap (-(m.val : Int))) 31 = 32 - (m.val : Int) := by decide
  exact h ⟨n, h1⟩ h0

theorem beNat_snoc (l : List UInt8) (x : UInt8) : beNat (l ++ [x]) = beNat l * 256 + x.toNat := by simp [beNat]
theorem beNat_take_succ (l : List UInt8) (k : Nat) (h : k < l.length) : beNat (l.take (k + 1)) = beNat (l.take k) * 256 + l[k].toNat := by
  rw [List.take_succ_eq_append_getElem h, beNat_snoc]
theorem beNat_take_lt (l : List UInt8) (k : Nat) (h : k ≤ l.length) : beNat (l.take k) < 256 ^ k := by
  induction k with
  | zero => simp [beNat]
  | succ k ih =>
    rw [beNat_take_succ l k (by omega)]
    have := ih (by omega)
    have := (l[k]'(by omega)).toNat_lt
    simp only [Nat.pow_succ]; omega
theorem beNat_lt (l : List UInt8) : beNat l < 256 ^ l.length := by
  have := beNat_take_lt l l.length (Nat.le_refl _)
  rwa [List.take_length] at this
theorem bits_or64 (a b : Nat) (ha : a < 18446744073709551616) (hb : b < 18446744073709551616) : bits .or .u64 (a : Int) (b : Int) = ((a ||| b : Nat) : Int) := by
  show IntKind.u64.wrap ((BitVec.ofInt 64 (a : Int) ||| BitVec.ofInt 64 (b : Int)).toNat : Int) = _
  rw [BitVec.ofInt_natCast, BitVec.ofInt_natCast, BitVec.toNat_or, BitVec.toNat_ofNat, BitVec.toNat_ofNat, Nat.mod_eq_of_lt ha, Nat.mod_eq_of_lt hb, wrap_u64_nat, Nat.mod_eq_of_lt (Nat.or_lt_two_pow (n := 64) ha hb)]
theorem or_byte (n : Nat) (x : UInt8) (h : n < 72057594037927936) : bits .or .u64 ((n : Int) * 256) (n8 x) = ((n * 256 + x.toNat : Nat) : Int) := by
  have hx := x.toNat_lt
  rw [show ((n : Int) * 256) = ((n * 256 : Nat) : Int) by simp, n8, bits_or64 _ _ (by omega) (by omega)]
  have := Nat.shiftLeft_add_eq_or_of_lt (i := 8) (b := x.toNat) hx n
  rw [Nat.shiftLeft_eq] at this
  rw [← this]

end Go.Proofs.YtgoehohadnkpdaaDoor
namespace Go.Proofs.YtgoehohadnkpdaaDoor

structure FS where
  b : List UInt8
  worn : List Nat
  most : Nat
  armed : Int
  done : Int
  down : Bool
/-- So many blocks; numbers that may be. -/
structure FS.ok (s : FS) (n : Nat) : Prop where
  b : s.b.length = 1024 * n
  worn : s.worn.length = n
  one : 1 ≤ n
  cap : n ≤ 256
  most : s.most ≤ 10000
  worns : ∀ x ∈ s.worn, x ≤ s.most
  armed : -1 ≤ s.armed ∧ s.armed ≤ 9223372036854775807
  done : 0 ≤ s.done ∧ s.done ≤ 9223372036854775807
def newF (n wear : Nat) : FS := ⟨List.replicate (1024 * n) 255, List.replicate n 0, wear, -1, 0, false⟩
/-- Are all bytes from a place on there? -/
def thereB (s : FS) (at_ n : Int) : Bool := decide (0 ≤ n) && decide (n ≤ 4096) && decide (0 ≤ at_) && decide (at_ ≤ (s.b.length : Int) - n)
def wearF (s : FS) (k : Int) : Nat × Int := if k < 0 ∨ (s.worn.length : Int) ≤ k then (0, 1) else (s.worn.getD k.toNat 0, 0)
def readF (s : FS) (at_ n : Int) : List UInt8 × Int := if s.down then ([], 7) else if thereB s at_ n = false then ([], 1) else ((s.b.drop at_.toNat).take n.toNat, 0)
/-- How many bytes of a change are done, what it answers, what is behind it. -/
def goesF (s : FS) (n : Nat) : Nat × Int × FS := if s.armed < 0 then (n, 0, s) else if 0 < s.armed then (n, 0, { s with armed := s.armed - 1 }) else ((min (n : Int) s.done).toNat, 7, { s with armed := -1, down := true })
/-- The first n of these bytes are programmed from a place on. -/
def progL (l : List UInt8) (a : Nat) (b : List UInt8) (n : Nat) : List UInt8 := (List.range l.length).map fun i => if a ≤ i ∧ i < a + n then l.getD i 0 &&& b.getD (i - a) 0 else l.getD i 0
/-- The first n bytes from a place on are ones. -/
def onesL (l : List UInt8) (a n : Nat) : List UInt8 := (List.range l.length).map fun i => if a ≤ i ∧ i < a + n then 255 else l.getD i 0
def programF (s : FS) (at_ : Int) (b : List UInt8) : Int × FS := if thereB s at_ b.length = false then (1, s) else if s.down then (7, s) else ((goesF s b.length).2.1, { (goesF s b.length).2.2 with b := progL s.b at_.toNat b (goesF s b.length).1 })
def eraseF (s : FS) (k : Int) : Int × FS := if k < 0 ∨ (s.worn.length : Int) ≤ k then (1, s) else if s.down then (7, s) else if s.most ≤ s.worn.getD k.toNat 0 then (8, s) else ((goesF s 1024).2.1, { (goesF s 1024).2.2 with b := onesL s.b (1024 * k.toNat) (goesF s 1024).1, worn := s.worn.set k.toNat (s.worn.getD k.toNat 0 + 1) })
def armF (s : FS) (c d : Int) : FS := { s with armed := max c 0, done := max d 0 }
def powerF (s : FS) : FS := { s with armed := -1, down := false }

theorem progL_len (l : List UInt8) (a : Nat) (b : List UInt8) (n : Nat) : (progL l a b n).length = l.length := by simp [progL]
theorem onesL_len (l : List UInt8) (a n : Nat) : (onesL l a n).length = l.length := by simp [onesL]
theorem progL_at (l : List UInt8) (a : Nat) (b : List UInt8) (n i : Nat) (h : i < l.length) : (progL l a b n).getD i 0 = if a ≤ i ∧ i < a + n then l.getD i 0 &&& b.getD (i - a) 0 else l.getD i 0 := by
  simp [progL, h]
theorem onesL_at (l : List UInt8) (a n i : Nat) (h : i < l.length) : (onesL l a n).getD i 0 = if a ≤ i ∧ i < a + n then 255 else l.getD i 0 := by
  simp [onesL, h]
theorem bytes_ext {l m : List UInt8} (h : l.length = m.length) (hi : ∀ i, i < l.length → l.getD i 0 = m.getD i 0) : l = m := by
  apply List.ext_getElem h
  intro i h1 h2
  have := hi i h1
  simpa [h1, h2] using this
theorem progL_zero (l : List UInt8) (a : Nat) (b : List UInt8) : progL l a b 0 = l :=
  bytes_ext (progL_len ..) fun i h => by rw [progL_at _ _ _ _ _ (by rwa [progL_len] at h), if_neg (by omega)]
theorem onesL_zero (l : List UInt8) (a : Nat) : onesL l a 0 = l :=
  bytes_ext (onesL_len ..) fun i h => by rw [onesL_at _ _ _ _ (by rwa [onesL_len] at h), if_neg (by omega)]
theorem getD_set8 (l : List UInt8) (k j : Nat) (x : UInt8) (hk : k < l.length) : (l.set k x).getD j 0 = if j = k then x else l.getD j 0 := by
  rw [List.getD_eq_getElem?_getD, List.getD_eq_getElem?_getD, List.getElem?_set]
  by_cases h : k = j
  · subst h; simp [hk]
  · simp [h, Ne.symm h]
/-- One byte more. -/
theorem progL_step (l : List UInt8) (a : Nat) (b : List UInt8) (n : Nat) (h : a + n < l.length) : (progL l a b n).set (a + n) ((progL l a b n).getD (a + n) 0 &&& b.getD n 0) = progL l a b (n + 1) := by
  refine bytes_ext (by rw [List.length_set, progL_len, progL_len]) fun i hi => ?_
  rw [List.length_set, progL_len] at hi
  rw [getD_set8 _ _ _ _ (by rw [progL_len]; exact h), progL_at _ _ _ _ _ hi, progL_at _ _ _ _ _ hi, progL_at _ _ _ _ _ h]
  by_cases e : i = a + n
  · subst e
    rw [if_pos rfl, if_neg (by omega), if_pos (by omega), show a + n - a = n by omega]
  · rw [if_neg e]
    by_cases h2 : a ≤ i ∧ i < a + n
    · rw [if_pos h2, if_pos (by omega)]
    · rw [if_neg h2, if_neg (by omega)]
theorem onesL_step (l : List UInt8) (a n : Nat) (h : a + n < l.length) : (onesL l a n).set (a + n) 255 = onesL l a (n + 1) := by
  refine bytes_ext (by rw [List.length_set, onesL_len, onesL_len]) fun i hi => ?_
  rw [List.length_set, onesL_len] at hi
  rw [getD_set8 _ _ _ _ (by rw [onesL_len]; exact h), onesL_at _ _ _ _ hi, onesL_at _ _ _ _ hi]
  by_cases e : i = a + n
  · rw [if_pos e, if_pos (by omega)]
  · rw [if_neg e]
    by_cases h2 : a ≤ i ∧ i < a + n
    · rw [if_pos h2, if_pos (by omega)]
    · rw [if_neg h2, if_neg (by omega)]
theorem newF_ok (n wear : Nat) (h1 : 1 ≤ n) (h2 : n ≤ 256) (h3 : wear ≤ 10000) : (newF n wear).ok n :=
  ⟨List.length_replicate .., List.length_replicate .., h1, h2, h3, fun x hx => by rw [List.eq_of_mem_replicate hx]; exact Nat.zero_le _, by show (-1 : Int) ≤ -1 ∧ (-1 : Int) ≤ _; omega, by show (0 : Int) ≤ 0 ∧ (0 : Int) ≤ _; omega⟩
theorem goesF_ok {s : FS} {n : Nat} (h : s.ok n) (m : Nat) : (goesF s m).2.2.ok n ∧ (goesF s m).1 ≤ m ∧ (goesF s m).2.2.b = s.b ∧ (goesF s m).2.2.worn = s.worn ∧ (goesF s m).2.2.most = s.most := by
  have ha := h.armed
  have hd := h.done
  unfold goesF
  split
  · exact ⟨h, Nat.le_refl _, rfl, rfl, rfl⟩
  · split
    · exact ⟨⟨h.b, h.worn, h.one, h.cap, h.most, h.worns, by show _ ≤ s.armed - 1 ∧ s.armed - 1 ≤ _; omega, h.done⟩, Nat.le_refl _, rfl, rfl, rfl⟩
    · exact ⟨⟨h.b, h.worn, h.one, h.cap, h.most, h.worns, by show (-1 : Int) ≤ -1 ∧ (-1 : Int) ≤ _; omega, h.done⟩, by show (min (m : Int) s.done).toNat ≤ m; omega, rfl, rfl, rfl⟩
theorem FS.ok.program {s : FS} {n : Nat} (h : s.ok n) (a : Int) (b : List UInt8) : (programF s a b).2.ok n := by
  unfold programF
  split
  · exact h
  · split
    · exact h
    · obtain ⟨h1, _, _, _, _⟩ := goesF_ok h b.length
      exact ⟨by show (progL s.b _ _ _).length = _; rw [progL_len]; exact h.b, h1.worn, h1.one, h1.cap, h1.most, h1.worns, h1.armed, h1.done⟩
theorem FS.ok.erase {s : FS} {n : Nat} (h : s.ok n) (k : Int) : (eraseF s k).2.ok n := by
  unfold eraseF
  split
  · exact h
  · split
    · exact h
    · split
      · exact h
      · rename_i hw
        obtain ⟨h1, _, _, _, h5⟩ := goesF_ok h 1024
        refine ⟨by show (onesL s.b _ _).length = _; rw [onesL_len]; exact h.b, by show (s.worn.set _ _).length = n; rw [List.length_set]; exact h.worn, h1.one, h1.cap, h1.most, fun x hx => ?_, h1.armed, h1.done⟩
        show x ≤ (goesF s 1024).2.2.most
        rw [h5]
        rcases List.mem_or_eq_of_mem_set hx with hx | hx
        · exact h.worns x hx
        · rw [hx]; omega
theorem FS.ok.arm {s : FS} {n : Nat} (h : s.ok n) (c d : Int) (hc : c ≤ 9223372036854775807) (hd : d ≤ 9223372036854775807) : (armF s c d).ok n :=
  ⟨h.b, h.worn, h.one, h.cap, h.most, h.worns, by show _ ≤ max c 0 ∧ max c 0 ≤ _; omega, by show _ ≤ max d 0 ∧ max d 0 ≤ _; omega⟩
theorem FS.ok.power {s : FS} {n : Nat} (h : s.ok n) : (powerF s).ok n := ⟨h.b, h.worn, h.one, h.cap, h.most, h.worns, by show (-1 : Int) ≤ -1 ∧ (-1 : Int) ≤ _; omega, h.done⟩
end Go.Proofs.YtgoehohadnkpdaaDoor
namespace Go.Proofs.YtgoehohadnkpdaaDoor
open Go.RowKit

/-- Doubled, and, if the bit 2^24 is set then, XOR 1864CFB. -/
def dbl (s : BitVec 32) : BitVec 32 := (s <<< 1) ^^^ (if s.getLsbD 23 then 0x1864CFB#32 else 0#32)
/-- Doubled n times. -/
def dbls : Nat → BitVec 32 → BitVec 32
  | 0, s => s
  | n + 1, s => dbls n (dbl s)
def w8 (x : UInt8) : BitVec 32 := BitVec.ofNat 32 x.toNat
def step (s : BitVec 32) (x : UInt8) : BitVec 32 := dbls 8 (s ^^^ (w8 x <<< 16))
def crc (s : BitVec 32) (bs : List UInt8) : BitVec 32 := bs.foldl step s
def crcOf (bs : List UInt8) : BitVec 32 := crc 0xB704CE#32 bs

theorem dbl_zero : dbl 0#32 = 0#32 := by decide
theorem dbl_xor (a b : BitVec 32) : dbl (a ^^^ b) = dbl a ^^^ dbl b := by
  unfold dbl
  rw [BitVec.shiftLeft_xor_distrib, BitVec.getLsbD_xor]
  cases a.getLsbD 23 <;> cases b.getLsbD 23 <;> simp <;> ac_nf
  rw [← BitVec.xor_assoc 25578747#32 25578747#32]; simp
theorem dbls_zero (n : Nat) : dbls n 0#32 = 0#32 := by
  induction n with
  | zero => rfl
  | succ n ih => rw [dbls, dbl_zero, ih]
theorem dbls_xor (n : Nat) (a b : BitVec 32) : dbls n (a ^^^ b) = dbls n a ^^^ dbls n b := by
  induction n generalizing a b with
  | zero => rfl
  | succ n ih => rw [dbls, dbl_xor, ih]; rfl
theorem dbls_add (m n : Nat) (a : BitVec 32) : dbls (m + n) a = dbls n (dbls m a) := by
  induction m generalizing a with
  | zero => rw [Nat.zero_add]; rfl
  | succ m ih => rw [show m + 1 + n = (m + n) + 1 by omega, dbls, ih]; rfl
theorem lt24 (s : BitVec 32) : s.toNat < 16777216 ↔ ∀ i, 24 ≤ i → s.getLsbD i = false := by
  constructor
  · intro h i hi
    rw [BitVec.getLsbD]
    exact Nat.testBit_lt_two_pow (Nat.lt_of_lt_of_le h (Nat.pow_le_pow_right (n := 2) (by omega) hi))
  · intro h
    exact Nat.lt_pow_two_of_testBit (n := 24) _ fun i hi => h i hi
theorem dbl_lt (s : BitVec 32) (h : s.toNat < 16777216) : (dbl s).toNat < 16777216 := by
  rw [lt24] at h ⊢
  intro i hi
  unfold dbl
  rw [BitVec.getLsbD_xor, BitVec.getLsbD_shiftLeft]
  by_cases h24 : i = 24
  · subst h24
    cases hs : s.getLsbD 23 <;> simp
  · have h1 := h (i - 1) (by omega)
    by_cases h32 : i < 32
    · have : (0x1864CFB#32).getLsbD i = false := by
        have hh : ∀ j : Fin 32, 24 < j.val → (0x1864CFB#32).getLsbD j.val = false := by decide
        exact hh ⟨i, h32⟩ (by show 24 < i; omega)
      cases hs : s.getLsbD 23 <;> simp [h1, this]
    · cases hs : s.getLsbD 23 <;> simp [h1, h32]
      all_goals exact BitVec.getLsbD_of_ge _ _ (by omega)
theorem dbls_lt (n : Nat) (s : BitVec 32) (h : s.toNat < 16777216) : (dbls n s).toNat < 16777216 := by
  induction n generalizing s with
  | zero => exact h
  | succ n ih => exact ih _ (dbl_lt s h)
theorem dbl_eq_zero (s : BitVec 32) (h : s.toNat < 16777216) (h0 : dbl s = 0#32) : s = 0#32 := by
  have hb : s.getLsbD 23 = false := by
    have := congrArg (fun x => x.getLsbD 0) h0
    unfold dbl at this
    cases hs : s.getLsbD 23
    · rfl
    · rw [hs] at this; simp at this
  unfold dbl at h0
  rw [hb] at h0
  simp only [Bool.false_eq_true, if_false, BitVec.xor_zero] at h0
  apply BitVec.eq_of_toNat_eq
  have := congrArg BitVec.toNat h0
  rw [BitVec.toNat_shiftLeft, Nat.shiftLeft_eq] at this
  simp at this ⊢
  omega
theorem dbls_eq_zero (n : Nat) (s : BitVec 32) (h : s.toNat < 16777216) (h0 : dbls n s = 0#32) : s = 0#32 := by
  induction n generalizing s with
  | zero => exact h0
  | succ n ih => exact dbl_eq_zero s h (ih _ (dbl_lt s h) h0)
theorem dbl_small (s : BitVec 32) (h : s.getLsbD 23 = false) : dbl s = s <<< 1 := by
  unfold dbl; rw [h]; simp
/-- A number of few bits is doubled as it is. -/
theorem dbls_small (n : Nat) (s : BitVec 32) (h : s.toNat * 2 ^ n < 16777216) : dbls n s = s <<< n := by
  induction n generalizing s with
  | zero => simp [dbls]
  | succ n ih =>
    have hp : 0 < 2 ^ n := Nat.pow_pos (by omega)
    rw [Nat.pow_succ] at h
    have h1 : s.toNat * 2 < 16777216 := by
      have := Nat.le_mul_of_pos_right (s.toNat * 2) hp
      rw [Nat.mul_assoc, Nat.mul_comm 2] at this; omega
    have hb : s.getLsbD 23 = false := by
      rw [BitVec.getLsbD]; exact Nat.testBit_lt_two_pow (by omega)
    have h2 : (s <<< 1).toNat = s.toNat * 2 := by
      rw [BitVec.toNat_shiftLeft, Nat.shiftLeft_eq, Nat.mod_eq_of_lt (by omega)]
    rw [dbls, dbl_small s hb, ih _ (by rw [h2, Nat.mul_assoc, Nat.mul_comm 2]; omega), ← BitVec.shiftLeft_add, Nat.add_comm]

theorem w8_lt (x : UInt8) : (w8 x).toNat < 256 := by
  have := x.toNat_lt
  unfold w8; rw [BitVec.toNat_ofNat]; omega
theorem w8_toNat (x : UInt8) : (w8 x).toNat = x.toNat := by
  have := x.toNat_lt
  unfold w8; rw [BitVec.toNat_ofNat]; omega
theorem shl_lt (x : UInt8) : (w8 x <<< 16).toNat < 16777216 := by
  have := w8_lt x
  rw [BitVec.toNat_shiftLeft, Nat.shiftLeft_eq]; omega
theorem xor_lt (a b : BitVec 32) (ha : a.toNat < 16777216) (hb : b.toNat < 16777216) : (a ^^^ b).toNat < 16777216 := by
  rw [BitVec.toNat_xor]; exact Nat.xor_lt_two_pow (n := 24) ha hb
theorem step_lt (s : BitVec 32) (x : UInt8) (h : s.toNat < 16777216) : (step s x).toNat < 16777216 := dbls_lt 8 _ (xor_lt _ _ h (shl_lt x))
theorem crc_lt (bs : List UInt8) (s : BitVec 32) (h : s.toNat < 16777216) : (crc s bs).toNat < 16777216 := by
  induction bs generalizing s with
  | nil => exact h
  | cons x xs ih => exact ih _ (step_lt s x h)
theorem crcOf_lt (bs : List UInt8) : (crcOf bs).toNat < 16777216 := crc_lt bs _ (by decide)
theorem crc_append (a b : List UInt8) (s : BitVec 32) : crc s (a ++ b) = crc (crc s a) b := List.foldl_append
theorem crc_snoc (a : List UInt8) (x : UInt8) (s : BitVec 32) : crc s (a ++ [x]) = step (crc s a) x := by rw [crc_append]; rfl
theorem crc_take_succ (bs : List UInt8) (k : Nat) (h : k < bs.length) (s : BitVec 32) : crc s (bs.take (k + 1)) = step (crc s (bs.take k)) bs[k] := by
  rw [List.take_succ_eq_append_getElem h, crc_snoc]
theorem step_xor (a b : BitVec 32) (x : UInt8) : step (a ^^^ b) x = step a x ^^^ dbls 8 b := by
  unfold step
  rw [← dbls_xor, BitVec.xor_assoc, BitVec.xor_comm b, ← BitVec.xor_assoc]
/-- What is XORed into a sum is doubled by what follows. -/
theorem crc_xor (bs : List UInt8) (a b : BitVec 32) : crc (a ^^^ b) bs = crc a bs ^^^ dbls (8 * bs.length) b := by
  induction bs generalizing a b with
  | nil => rfl
  | cons x xs ih =>
    show crc (step (a ^^^ b) x) xs = crc (step a x) xs ^^^ _
    rw [step_xor, ih, ← dbls_add, List.length_cons, show 8 + 8 * xs.length = 8 * (xs.length + 1) by omega]
/-- By one text, unlike sums stay unlike. -/
theorem crc_apart (bs : List UInt8) (a b : BitVec 32) (ha : a.toNat < 16777216) (hb : b.toNat < 16777216) : crc a bs = crc b bs ↔ a = b := by
  constructor
  · intro h
    have e : crc a bs = crc (b ^^^ (a ^^^ b)) bs := by
      rw [BitVec.xor_comm a b, ← BitVec.xor_assoc, BitVec.xor_self, BitVec.zero_xor]
    rw [crc_xor] at e
    have z : dbls (8 * bs.length) (a ^^^ b) = 0#32 := by
      rw [h] at e
      have := congrArg (fun x => crc b bs ^^^ x) e
      simp only [← BitVec.xor_assoc, BitVec.xor_self, BitVec.zero_xor] at this
      exact this.symm
    have z2 := dbls_eq_zero _ _ (xor_lt a b ha hb) z
    have := congrArg (fun x => x ^^^ b) z2
    rwa [BitVec.xor_assoc, BitVec.xor_self, BitVec.xor_zero, BitVec.zero_xor] at this
  · rintro rfl; rfl

theorem w8_xor (x y : UInt8) : w8 (x ^^^ y) = w8 x ^^^ w8 y := by
  apply BitVec.eq_of_toNat_eq
  rw [BitVec.toNat_xor, w8_toNat, w8_toNat, w8_toNat, UInt8.toNat_xor]
theorem xor_six (a b c x y z : BitVec 32) : a ^^^ b ^^^ c ^^^ (x ^^^ y ^^^ z) = (a ^^^ x) ^^^ (b ^^^ y) ^^^ (c ^^^ z) := by
  apply BitVec.eq_of_getLsbD_eq
  intro i _
  simp only [BitVec.getLsbD_xor]
  cases a.getLsbD i <;> cases b.getLsbD i <;> cases c.getLsbD i <;> cases x.getLsbD i <;> cases y.getLsbD i <;> cases z.getLsbD i <;> rfl
theorem step_three (a b c : BitVec 32) (x y z : UInt8) : step (a ^^^ b ^^^ c) (x ^^^ y ^^^ z) = step a x ^^^ step b y ^^^ step c z := by
  unfold step
  rw [← dbls_xor, ← dbls_xor, w8_xor, w8_xor, BitVec.shiftLeft_xor_distrib, BitVec.shiftLeft_xor_distrib]
  rw [xor_six]
/-- Three texts, XORed. -/
def xor3 (a b c : List UInt8) (n : Nat) : List UInt8 := (List.range n).map fun i => a.getD i 0 ^^^ b.getD i 0 ^^^ c.getD i 0
theorem xor3_succ (a b c : List UInt8) (n : Nat) : xor3 a b c (n + 1) = xor3 a b c n ++ [a.getD n 0 ^^^ b.getD n 0 ^^^ c.getD n 0] := by
  simp [xor3, List.range_succ]
theorem crc_three (a b c : List UInt8) (n : Nat) (ha : n ≤ a.length) (hb : n ≤ b.length) (hc : n ≤ c.length) (s : BitVec 32) : crc s (xor3 a b c n) = crc s (a.take n) ^^^ crc s (b.take n) ^^^ crc s (c.take n) := by
  induction n with
  | zero =>
    show s = s ^^^ s ^^^ s
    rw [BitVec.xor_self, BitVec.zero_xor]
  | succ n ih =>
    have g : ∀ l : List UInt8, (h : n < l.length) → l.getD n 0 = l[n] := fun l h => by simp [List.getD, h]
    rw [xor3_succ, crc_snoc, ih (by omega) (by omega) (by omega), crc_take_succ a n (by omega), crc_take_succ b n (by omega), crc_take_succ c n (by omega), step_three, g a (by omega), g b (by omega), g c (by omega)]

/-- The three bytes of a sum, the highest first. -/
def sumB (s : BitVec 32) : List UInt8 := [UInt8.ofNat (s.toNat / 65536), UInt8.ofNat (s.toNat / 256), UInt8.ofNat s.toNat]
theorem sumB_len (s : BitVec 32) : (sumB s).length = 3 := rfl
theorem sumB_inj (a b : BitVec 32) (ha : a.toNat < 16777216) (hb : b.toNat < 16777216) (h : sumB a = sumB b) : a = b := by
  unfold sumB at h
  simp only [List.cons.injEq, and_true] at h
  obtain ⟨h1, h2, h3⟩ := h
  have k1 := congrArg UInt8.toNat h1
  have k2 := congrArg UInt8.toNat h2
  have k3 := congrArg UInt8.toNat h3
  simp at k1 k2 k3
  apply BitVec.eq_of_toNat_eq; omega
theorem step_small (s : BitVec 32) (h : s.toNat < 16777216) : step s (UInt8.ofNat (s.toNat / 65536)) = BitVec.ofNat 32 (s.toNat % 65536 * 256) := by
  have e : s ^^^ (w8 (UInt8.ofNat (s.toNat / 65536)) <<< 16) = BitVec.ofNat 32 (s.toNat % 65536) := by
    apply BitVec.eq_of_toNat_eq
    rw [BitVec.toNat_xor, BitVec.toNat_shiftLeft, w8_toNat, BitVec.toNat_ofNat, Nat.shiftLeft_eq]
    have h1 : (UInt8.ofNat (s.toNat / 65536)).toNat = s.toNat / 65536 := by simp; omega
    rw [h1, Nat.mod_eq_of_lt (by omega), Nat.mod_eq_of_lt (by omega)]
    have h2 := Nat.shiftLeft_add_eq_or_of_lt (i := 16) (b := s.toNat % 65536) (by omega) (s.toNat / 65536)
    have h3 : s.toNat = (s.toNat / 65536) <<< 16 ^^^ (s.toNat % 65536) := by
      apply Nat.eq_of_testBit_eq
      intro i
      rw [Nat.testBit_xor, Nat.testBit_shiftLeft, show (65536 : Nat) = 2 ^ 16 from rfl, Nat.testBit_div_two_pow, Nat.testBit_mod_two_pow]
      by_cases hi : i < 16
      · simp [hi, show ¬ 16 ≤ i by omega]
      · simp [hi, show 16 ≤ i by omega]
    rw [← Nat.shiftLeft_eq]
    generalize (s.toNat / 65536) <<< 16 = A at h3 ⊢
    generalize s.toNat % 65536 = B at h3 ⊢
    rw [h3, Nat.xor_assoc, Nat.xor_comm B A, ← Nat.xor_assoc, Nat.xor_self, Nat.zero_xor]
  unfold step
  rw [e]
  have hb : (BitVec.ofNat 32 (s.toNat % 65536)).toNat = s.toNat % 65536 := by rw [BitVec.toNat_ofNat]; omega
  rw [dbls_small 8 _ (by rw [hb]; omega)]
  apply BitVec.eq_of_toNat_eq
  rw [BitVec.toNat_shiftLeft, hb, Nat.shiftLeft_eq, BitVec.toNat_ofNat]
/-- A sum that is followed by its own bytes becomes 0. -/
theorem crc_own (s : BitVec 32) (h : s.toNat < 16777216) : crc s (sumB s) = 0#32 := by
  show step (step (step s _) _) _ = _
  rw [step_small s h]
  have t1 : (BitVec.ofNat 32 (s.toNat % 65536 * 256)).toNat = s.toNat % 65536 * 256 := by rw [BitVec.toNat_ofNat]; omega
  have b1 : UInt8.ofNat (s.toNat / 256) = UInt8.ofNat ((BitVec.ofNat 32 (s.toNat % 65536 * 256)).toNat / 65536) := by
    rw [t1]; apply UInt8.toNat_inj.1; simp; omega
  rw [b1, step_small _ (by rw [t1]; omega), t1]
  have t2 : (BitVec.ofNat 32 (s.toNat % 65536 * 256 % 65536 * 256)).toNat = s.toNat % 256 * 65536 := by rw [BitVec.toNat_ofNat]; omega
  have b2 : UInt8.ofNat s.toNat = UInt8.ofNat ((BitVec.ofNat 32 (s.toNat % 65536 * 256 % 65536 * 256)).toNat / 65536) := by
    rw [t2]; apply UInt8.toNat_inj.1; simp
  rw [b2, step_small _ (by rw [t2]; omega), t2]
  apply BitVec.eq_of_toNat_eq
  simp

/-- The literals for four bits. -/
def fours : List (BitVec 32) := [0x000000#32, 0x864CFB#32, 0x8AD50D#32, 0x0C99F6#32, 0x93E6E1#32, 0x15AA1A#32, 0x1933EC#32, 0x9F7F17#32, 0xA18139#32, 0x27CDC2#32, 0x2B5434#32, 0xAD18CF#32, 0x3267D8#32, 0xB42B23#32, 0xB8B2D5#32, 0x3EFE2E#32]
theorem BitVec_and_xor (a b c : BitVec 32) : (a ^^^ b) &&& c = (a &&& c) ^^^ (b &&& c) := by
  apply BitVec.eq_of_getLsbD_eq
  intro i _
  rw [BitVec.getLsbD_and, BitVec.getLsbD_xor, BitVec.getLsbD_xor, BitVec.getLsbD_and, BitVec.getLsbD_and]
  cases a.getLsbD i <;> cases b.getLsbD i <;> cases c.getLsbD i <;> rfl
theorem four_eq (s : BitVec 32) (h : s.toNat < 16777216) : ((s <<< 4) &&& 0xFFFFFF#32) ^^^ fours.getD (s.toNat / 1048576) 0#32 = dbls 4 s := by
  obtain ⟨hi, lo, h1, h2, rfl⟩ : ∃ hi lo : Nat, hi < 16 ∧ lo < 1048576 ∧ s = (BitVec.ofNat 32 (hi * 1048576)) ^^^ BitVec.ofNat 32 lo := by
    refine ⟨s.toNat / 1048576, s.toNat % 1048576, by omega, by omega, ?_⟩
    apply BitVec.eq_of_toNat_eq
    rw [BitVec.toNat_xor, BitVec.toNat_ofNat, BitVec.toNat_ofNat, Nat.mod_eq_of_lt (by omega), Nat.mod_eq_of_lt (by omega)]
    apply Nat.eq_of_testBit_eq
    intro i
    rw [Nat.testBit_xor, show (1048576 : Nat) = 2 ^ 20 from rfl, ← Nat.shiftLeft_eq, Nat.testBit_shiftLeft, Nat.testBit_div_two_pow, Nat.testBit_mod_two_pow]
    by_cases hi : i < 20
    · simp [hi, show ¬ 20 ≤ i by omega]
    · simp [hi, show 20 ≤ i by omega]
  have hd : (BitVec.ofNat 32 (hi * 1048576) ^^^ BitVec.ofNat 32 lo).toNat / 1048576 = hi := by
    rw [BitVec.toNat_xor, BitVec.toNat_ofNat, BitVec.toNat_ofNat, Nat.mod_eq_of_lt (by omega), Nat.mod_eq_of_lt (by omega)]
    apply Nat.eq_of_testBit_eq
    intro i
    rw [show (1048576 : Nat) = 2 ^ 20 from rfl, Nat.testBit_div_two_pow, Nat.testBit_xor, ← Nat.shiftLeft_eq, Nat.testBit_shiftLeft]
    rw [Nat.testBit_lt_two_pow (x := lo) (i := i + 20) (Nat.lt_of_lt_of_le h2 (by rw [show (1048576 : Nat) = 2 ^ 20 from rfl]; exact Nat.pow_le_pow_right (by omega) (by omega)))]
    simp
  rw [hd, dbls_xor, BitVec.shiftLeft_xor_distrib]
  have hl : (BitVec.ofNat 32 lo).toNat = lo := by rw [BitVec.toNat_ofNat]; omega
  rw [dbls_small 4 (BitVec.ofNat 32 lo) (by rw [hl]; omega)]
  have hm : (BitVec.ofNat 32 lo <<< 4) &&& 0xFFFFFF#32 = BitVec.ofNat 32 lo <<< 4 := by
    apply BitVec.eq_of_toNat_eq
    rw [BitVec.toNat_and, BitVec.toNat_shiftLeft, hl, Nat.shiftLeft_eq, Nat.mod_eq_of_lt (by omega)]
    show _ &&& (2 ^ 24 - 1) = _
    rw [Nat.and_two_pow_sub_one_eq_mod]; omega
  have key : ∀ k : Fin 16, ((BitVec.ofNat 32 (k.val * 1048576) <<< 4) &&& 0xFFFFFF#32) ^^^ fours.getD k.val 0#32 = dbls 4 (BitVec.ofNat 32 (k.val * 1048576)) := by decide
  have kk := key ⟨hi, h1⟩
  rw [← kk, BitVec_and_xor, hm, BitVec.xor_assoc, BitVec.xor_assoc, BitVec.xor_comm (BitVec.ofNat 32 lo <<< 4)]

/-- A bit turned, the highest of a byte first. -/
def turned (cs : List UInt8) (p : Nat) : List UInt8 := cs.set (p / 8) (cs.getD (p / 8) 0 ^^^ UInt8.ofNat (128 / 2 ^ (p % 8)))
theorem turned_len (cs : List UInt8) (p : Nat) : (turned cs p).length = cs.length := by simp [turned]
theorem dbls_top (r : Nat) (h : r < 24) : dbls r (1#32 <<< (23 - r)) = 1#32 <<< 23 := by
  have hh : ∀ k : Fin 24, dbls k.val (1#32 <<< (23 - k.val)) = 1#32 <<< 23 := by decide
  exact hh ⟨r, h⟩
theorem crc_turned (cs : List UInt8) (p : Nat) (h : p < 8 * cs.length) (s : BitVec 32) : crc s (turned cs p) = crc s cs ^^^ dbls (8 * cs.length - p) (1#32 <<< 23) := by
  have hq : p / 8 < cs.length := by omega
  obtain ⟨pre, x, post, hcs, hpre⟩ : ∃ pre x post, cs = pre ++ x :: post ∧ pre.length = p / 8 :=
    ⟨cs.take (p / 8), cs[p / 8], cs.drop (p / 8 + 1), by simp, by simp; omega⟩
  have hg : cs.getD (p / 8) 0 = x := by rw [hcs, ← hpre]; simp [List.getD]
  have ht : turned cs p = pre ++ (x ^^^ UInt8.ofNat (128 / 2 ^ (p % 8))) :: post := by
    unfold turned; rw [hg, hcs, ← hpre]; simp
  have hr : p % 8 < 8 := Nat.mod_lt _ (by omega)
  have hw : w8 (UInt8.ofNat (128 / 2 ^ (p % 8))) <<< 16 = 1#32 <<< (23 - p % 8) := by
    have hh : ∀ k : Fin 8, w8 (UInt8.ofNat (128 / 2 ^ k.val)) <<< 16 = 1#32 <<< (23 - k.val) := by decide
    exact hh ⟨p % 8, hr⟩
  rw [ht]
  conv => rhs; rw [hcs]
  rw [crc_append, crc_append]
  show crc (step (crc s pre) _) post = crc (step (crc s pre) x) post ^^^ _
  have e : step (crc s pre) (x ^^^ UInt8.ofNat (128 / 2 ^ (p % 8))) = step (crc s pre) x ^^^ dbls (8 - p % 8) (1#32 <<< 23) := by
    unfold step
    rw [w8_xor, BitVec.shiftLeft_xor_distrib, hw, ← BitVec.xor_assoc, dbls_xor]
    congr 1
    rw [show 8 = p % 8 + (8 - p % 8) by omega, dbls_add, show p % 8 + (8 - p % 8) = 8 by omega, dbls_top _ (by omega)]
  rw [e, crc_xor, ← dbls_add]
  congr 2
  have hl : cs.length = pre.length + (post.length + 1) := by rw [hcs]; simp
  rw [List.length_append, List.length_cons]
  omega

/-- The first n bits of a number, the lowest at the place 23. -/
def revs (t : BitVec 32) : Nat → BitVec 32
  | 0 => 0#32
  | n + 1 => revs t n ^^^ (if t.getLsbD n then 1#32 <<< (23 - n) else 0#32)
theorem revs_lt (t : BitVec 32) (n : Nat) (h : n ≤ 24) : (revs t n).toNat < 16777216 := by
  induction n with
  | zero => exact (by decide : (0#32).toNat < 16777216)
  | succ n ih =>
    rw [revs]
    refine xor_lt _ _ (ih (by omega)) ?_
    split
    · have hh : ∀ k : Fin 24, (1#32 <<< (23 - k.val)).toNat < 16777216 := by decide
      exact hh ⟨n, by omega⟩
    · decide
theorem revs_bit (t : BitVec 32) (n : Nat) (hn : n ≤ 24) (i : Nat) (hi : i < 24) : (revs t n).getLsbD (23 - i) = (decide (i < n) && t.getLsbD i) := by
  induction n with
  | zero => simp [revs]
  | succ n ih =>
    rw [revs, BitVec.getLsbD_xor, ih (by omega)]
    have hb : (if t.getLsbD n then 1#32 <<< (23 - n) else 0#32).getLsbD (23 - i) = (decide (i = n) && t.getLsbD n) := by
      have hh : ∀ (a b : Fin 24), (1#32 <<< (23 - a.val)).getLsbD (23 - b.val) = decide (b.val = a.val) := by decide
      have := hh ⟨n, by omega⟩ ⟨i, hi⟩
      cases t.getLsbD n
      · simp
      · simpa using this
    rw [hb]
    by_cases h1 : i = n
    · subst h1; simp
    · by_cases h2 : i < n
      · simp [h1, h2, show i < n + 1 by omega]
      · simp [h1, h2, show ¬ i < n + 1 by omega]
theorem revs_ne (t : BitVec 32) (h : t.toNat < 16777216) (h0 : t ≠ 0#32) : revs t 24 ≠ 0#32 := by
  intro hz
  apply h0
  apply BitVec.eq_of_getLsbD_eq
  intro i hi
  by_cases h24 : i < 24
  · have := revs_bit t 24 (by omega) i h24
    rw [hz] at this
    simpa [h24] using this.symm
  · rw [(lt24 t).1 h i (by omega)]; simp
/-- The bits of a number, turned in a text one after another from place k on. -/
def burst (b : List UInt8) (k : Nat) (t : BitVec 32) : Nat → List UInt8
  | 0 => b
  | n + 1 => if t.getLsbD n then turned (burst b k t n) (k + n) else burst b k t n
theorem burst_len (b : List UInt8) (k : Nat) (t : BitVec 32) (n : Nat) : (burst b k t n).length = b.length := by
  induction n with
  | zero => rfl
  | succ n ih => rw [burst]; split
                 · rw [turned_len, ih]
                 · exact ih
theorem crc_burst (b : List UInt8) (k : Nat) (t : BitVec 32) (n : Nat) (hn : n ≤ 24) (hk : k + 24 ≤ 8 * b.length) (s : BitVec 32) : crc s (burst b k t n) = crc s b ^^^ dbls (8 * b.length - k) (revs t n) := by
  induction n with
  | zero => rw [burst, revs, dbls_zero, BitVec.xor_zero]
  | succ n ih =>
    rw [burst, revs]
    cases ht : t.getLsbD n
    · simp only [Bool.false_eq_true, if_false, BitVec.xor_zero]
      exact ih (by omega)
    · simp only [if_true]
      rw [crc_turned _ _ (by rw [burst_len]; omega), ih (by omega), burst_len, dbls_xor, ← BitVec.xor_assoc]
      congr 1
      have e : dbls (8 * b.length - k) (1#32 <<< (23 - n)) = dbls (8 * b.length - (k + n)) (dbls n (1#32 <<< (23 - n))) := by
        rw [← dbls_add]; congr 1; omega
      rw [e, dbls_top n (by omega)]
theorem crc_burst_ne (b : List UInt8) (k : Nat) (t : BitVec 32) (hk : k + 24 ≤ 8 * b.length) (h : t.toNat < 16777216) (h0 : t ≠ 0#32) (s : BitVec 32) : crc s (burst b k t 24) ≠ crc s b := by
  intro he
  rw [crc_burst b k t 24 (Nat.le_refl _) hk] at he
  have z : dbls (8 * b.length - k) (revs t 24) = 0#32 := by
    have := congrArg (fun x => crc s b ^^^ x) he
    simp only [← BitVec.xor_assoc, BitVec.xor_self, BitVec.zero_xor] at this
    exact this
  exact revs_ne t h h0 (dbls_eq_zero _ _ (revs_lt t 24 (Nat.le_refl _)) z)

theorem crc_digits : crcOf [49, 50, 51, 52, 53, 54, 55, 56, 57] = 0x21CF02#32 := by decide +kernel

end Go.Proofs.YtgoehohadnkpdaaDoor
namespace Go.Proofs.YtgoehohadnkpdaaDoor
open Go.RowKit

/-- Block g holds these cells, of element type t, none of them frozen. -/
def Blk (w : World) (g : Nat) (t : TypeId) (arr : Array Value) : Prop := w.heap[g]? = some (.cells arr t (0, 0))

theorem Blk.lt {w : World} {g : Nat} {t : TypeId} {arr : Array Value} (h : Blk w g t arr) : g < w.heap.size := (Array.getElem?_eq_some_iff.1 h).1
theorem Blk.cell {w : World} {g : Nat} {t : TypeId} {arr : Array Value} (h : Blk w g t arr) {j : Nat} {v : Value} (hv : arr[j]? = some v) : w.cell? ⟨g, j, none⟩ = some v := by
  rw [cell_of_row w g j arr t (0, 0) h, hv]
theorem Blk.frozen {w : World} {g : Nat} {t : TypeId} {arr : Array Value} (h : Blk w g t arr) (j : Nat) : w.frozen? ⟨g, j, none⟩ = false := frozen_of_row w g j arr t h
theorem Blk.set {w : World} {g : Nat} {t : TypeId} {arr : Array Value} (h : Blk w g t arr) (i : Nat) (v : Value) : Blk (w.setCell ⟨g, i, none⟩ v) g t (arr.setIfInBounds i v) := by
  unfold Blk; rw [setCell_eq_setRow w g i arr t (0, 0) v h]; exact setRow_heap w g arr _ t (0, 0) h
theorem Blk.setOther {w : World} {g : Nat} {t : TypeId} {arr : Array Value} (h : Blk w g t arr) (a : Addr) (v : Value) (hne : g ≠ a.block) : Blk (w.setCell a v) g t arr := by
  unfold Blk; rw [Below.heap_setCell w a v g hne]; exact h
theorem Blk.alloc {w : World} {g : Nat} {t : TypeId} {arr : Array Value} (h : Blk w g t arr) (o : Obj) : Blk (w.alloc o) g t arr := by
  unfold Blk; rw [Below.heap_alloc w o g h.lt]; exact h
theorem Blk.new (w : World) (t : TypeId) (arr : Array Value) : Blk (w.alloc (.cells arr t)) w.heap.size t arr := heap_alloc_new w _
theorem Blk.drew {w : World} {g : Nat} {t : TypeId} {arr : Array Value} (h : Blk w g t arr) : Blk w.drew g t arr := h
theorem Blk.drewN {w : World} {g : Nat} {t : TypeId} {arr : Array Value} (h : Blk w g t arr) (n : Nat) : Blk (w.drewN n) g t arr := h
theorem Below.drewN {B : Nat} {a w : World} (h : Below B a w) (n : Nat) : Below B a (w.drewN n) := ⟨h.os, h.tape, h.output, h.size, h.block⟩
theorem Blk.setRow {w : World} {g : Nat} {t : TypeId} {arr : Array Value} (h : Blk w g t arr) (arr' : Array Value) : Blk (w.setRow g arr') g t arr' := setRow_heap w g arr arr' t (0, 0) h
theorem Blk.setRowOther {w : World} {g : Nat} {t : TypeId} {arr : Array Value} (h : Blk w g t arr) (g' : Nat) (arr' : Array Value) (hne : g ≠ g') : Blk (w.setRow g' arr') g t arr := by
  unfold Blk; rw [setRow_other w g' g arr' hne]; exact h
theorem Blk.below {w w' : World} {g B : Nat} {t : TypeId} {arr : Array Value} (h : Blk w g t arr) (hb : Below B w w') (hg : g < B) : Blk w' g t arr := by
  unfold Blk; rw [hb.block g hg]; exact h
theorem Blk.grown {w w' : World} {g : Nat} {t : TypeId} {arr : Array Value} {row : Option Nat} (h : Blk w g t arr) (hb : w.grownBy w' row) (hg : some g ≠ row) : Blk w' g t arr := by
  unfold Blk; rw [hb.block g h.lt hg]; exact h

theorem Blk.newAt (w : World) (t : TypeId) (arr : Array Value) (n : Nat) (h : n = w.heap.size) : Blk (w.alloc (.cells arr t)) n t arr := by subst h; exact Blk.new w t arr
theorem Blk.of_eq {w : World} {g : Nat} {t : TypeId} {arr arr' : Array Value} (h : Blk w g t arr) (e : arr = arr') : Blk w g t arr' := e ▸ h
theorem at32 (ws : List (BitVec 32)) (j : Nat) (h : j < ws.length) : (ws.map v32).toArray[j]? = some (v32 (ws.getD j 0#32)) := by
  simp [h, List.getD]
theorem at8 (bs : List UInt8) (j : Nat) (h : j < bs.length) : (bs.map v8).toArray[j]? = some (v8 (bs.getD j 0)) := by
  simp [h, List.getD]

theorem Below.setRow {B : Nat} {a w : World} (h : Below B a w) (g : Nat) (cs : Array Value) (hg : B ≤ g) : Below B a (w.setRow g cs) := below_setRow h hg cs
theorem below_grown {B : Nat} {a w w' : World} {row : Option Nat} (h : Below B a w) (hg : w.grownBy w' row) (hB : B ≤ w.heap.size) (hr : ∀ k, row = some k → B ≤ k) : Below B a w' := h.grown hg hB hr
theorem bcell {W w1 : World} (hb : Below W.heap.size W w1) : (∀ b o, b < W.heap.size → w1.cell? ⟨b, o, none⟩ = W.cell? ⟨b, o, none⟩) ∧ (∀ b o, b < W.heap.size → w1.frozen? ⟨b, o, none⟩ = W.frozen? ⟨b, o, none⟩) :=
  ⟨fun b o h => hb.cell (p := ⟨b, o, none⟩) h, fun b o h => hb.frozen (p := ⟨b, o, none⟩) h⟩

/-- A whole array stored into a block: of the world behind it what is wanted, no more. -/
theorem store_blk {P : Program} {w : World} {ops : Array Oper} {rest : List Oper} {o : Oper} {a : Act} {Q : Exit → Act → World → Prop} (hgd : o.guard = none) (ty : TypeId) (x y : Operand) (ho : o.op = .store ty x y) (hd : o.dst = none)
    (g : Nat) (cells : Array Value) (hx : a.eval x = .pointer (some ⟨g, 0, none⟩)) (hy : a.eval y = .agg cells)
    (t : TypeId) (old : Array Value) (hg : Blk w g t old) (hi : (P.info? ty).map (·.size) = some cells.size)
    (hold : old.size = cells.size) (h1 : cells.all (·.oneCell') = true)
    (hK : ∀ w', Blk w' g t cells → w.grownBy w' (some g) → w'.heap.size = w.heap.size → wpList P ops Q rest a w') : wpList P ops Q (o :: rest) a w := by
  refine wpList_store_row hgd ty x y ho g cells hx hy t old hg hi hold h1 ?_
  rw [hd]
  exact hK _ (hg.setRow _) ⟨rfl, rfl, rfl, by simp, fun k _ hk => setRow_other w g k cells (fun e => hk (by rw [e]))⟩ (by simp)

/-- An array of n cells of which the first k are filled by f, the others hold z. -/
def upTo (n k : Nat) (f : Nat → Value) (z : Value) : Array Value := ((List.range n).map fun i => if i < k then f i else z).toArray
theorem upTo_size (n k : Nat) (f : Nat → Value) (z : Value) : (upTo n k f z).size = n := by simp [upTo]
theorem upTo_at (n k : Nat) (f : Nat → Value) (z : Value) (j : Nat) (h : j < n) : (upTo n k f z)[j]? = some (if j < k then f j else z) := by
  simp [upTo, h]
theorem upTo_set (n k : Nat) (f : Nat → Value) (z : Value) : (upTo n k f z).setIfInBounds k (f k) = upTo n (k + 1) f z := by
  apply Array.ext
  · simp [upTo]
  · intro i h1 h2
    simp only [Array.size_setIfInBounds, upTo_size] at h1
    rw [Array.getElem_setIfInBounds (by simpa [upTo_size] using h1)]
    simp only [upTo, List.getElem_toArray, List.getElem_map, List.getElem_range]
    by_cases he : k = i
    · subst he; simp
    · by_cases hl : i < k
      · simp [he, hl, show i < k + 1 by omega]
      · simp [he, hl, show ¬ i < k + 1 by omega]
theorem upTo_full (n : Nat) (f : Nat → Value) (z : Value) : upTo n n f z = ((List.range n).map f).toArray := by
  unfold upTo; congr 1; apply List.map_congr_left; intro i hi; simp at hi; simp [hi]
/-- An array of n cells of which the first k are filled by f, the others by z. -/
def mixTo (n k : Nat) (f z : Nat → Value) : Array Value := ((List.range n).map fun i => if i < k then f i else z i).toArray
theorem mixTo_size (n k : Nat) (f z : Nat → Value) : (mixTo n k f z).size = n := by simp [mixTo]
theorem mixTo_at (n k : Nat) (f z : Nat → Value) (j : Nat) (h : j < n) : (mixTo n k f z)[j]? = some (if j < k then f j else z j) := by
  simp [mixTo, h]
theorem mixTo_set (n k : Nat) (f z : Nat → Value) : (mixTo n k f z).setIfInBounds k (f k) = mixTo n (k + 1) f z := by
  apply Array.ext
  · simp [mixTo]
  · intro i h1 h2
    simp only [Array.size_setIfInBounds, mixTo_size] at h1
    rw [Array.getElem_setIfInBounds (by simpa [mixTo_size] using h1)]
    simp only [mixTo, List.getElem_toArray, List.getElem_map, List.getElem_range]
    by_cases he : k = i
    · subst he; simp
    · by_cases hl : i < k
      · simp [he, hl, show i < k + 1 by omega]
      · simp [he, hl, show ¬ i < k + 1 by omega]
theorem one8 (l : List UInt8) : (l.map v8).toArray.all (·.oneCell') = true := by
  simp [Value.oneCell']
theorem one32 (l : List (BitVec 32)) : (l.map v32).toArray.all (·.oneCell') = true := by
  simp [Value.oneCell']
theorem ret_agg {x y : Array Value} (h : x = y) : Ending.returned (.agg x) = .returned (.agg y) := by rw [h]
theorem ret_int {k : IntKind} {a b : Int} (h : a = b) : Ending.returned (.int k a) = .returned (.int k b) := by rw [h]

/-- The 32 bytes of eight words, of each the highest first. -/
def wb (ws : List (BitVec 32)) (i : Nat) : UInt8 := UInt8.ofNat ((ws.getD (i / 4) 0#32).toNat / 2 ^ (8 * (3 - i % 4)))
def wbytes (ws : List (BitVec 32)) : List UInt8 := (List.range 32).map (wb ws)
theorem wbytes_len (ws : List (BitVec 32)) : (wbytes ws).length = 32 := by simp [wbytes]
theorem wb_form (ws : List (BitVec 32)) (i : Nat) : IntKind.u8.wrap (n32 (ws.getD (i / 4) 0#32) / 2 ^ (8 * (3 - i % 4))) = n8 (wb ws i) := by
  unfold n32 n8 wb
  rw [natPow, ← Int.natCast_ediv, wrap_u8_nat]; simp

/-- The words of a block, one after another. -/
def schW (blk : List UInt8) (j : Nat) : BitVec 32 := (sched blk 64).getD j 0#32
theorem sched_prefix (blk : List UInt8) (t d : Nat) (j : Nat) (h : j < t) : (sched blk (t + d)).getD j 0#32 = (sched blk t).getD j 0#32 := by
  induction d with
  | zero => rfl
  | succ d ih =>
    rw [← ih, ← Nat.add_assoc, sched]
    simp only [List.getD_eq_getElem?_getD]
    rw [List.getElem?_append_left (by rw [sched_len]; omega)]
theorem schW_eq (blk : List UInt8) (t : Nat) (ht : t ≤ 64) (j : Nat) (h : j < t) : (sched blk t).getD j 0#32 = schW blk j := by
  unfold schW
  have := sched_prefix blk t (64 - t) j h
  rw [show t + (64 - t) = 64 by omega] at this
  exact this.symm
theorem schW_first (blk : List UInt8) (t : Nat) (h : t < 16) : schW blk t = wordAt blk t := by
  rw [← schW_eq blk (t + 1) (by omega) t (by omega), sched]
  simp [List.getD, sched_len, h]
theorem schW_next (blk : List UInt8) (t : Nat) (h : 16 ≤ t) (h2 : t < 64) : schW blk t = sg1 (schW blk (t - 2)) + schW blk (t - 7) + sg0 (schW blk (t - 15)) + schW blk (t - 16) := by
  rw [← schW_eq blk (t + 1) (by omega) t (by omega), sched]
  simp only [List.getD_eq_getElem?_getD]
  rw [List.getElem?_append_right (by rw [sched_len]; omega), sched_len]
  simp only [Nat.sub_self, List.getElem?_cons_zero, Option.getD_some, show ¬ t < 16 by omega, if_false, schNext]
  rw [schW_eq blk t (by omega) _ (by omega), schW_eq blk t (by omega) _ (by omega), schW_eq blk t (by omega) _ (by omega), schW_eq blk t (by omega) _ (by omega)]
theorem word_form (blk : List UInt8) (t : Nat) : IntKind.u32.wrap (beNat ((blk.drop (4 * t)).take 4) : Int) = n32 (wordAt blk t) := by
  rw [wrap_u32_nat]; simp [n32, wordAt]

/-- The eight bytes of a number, the highest first. -/
def be8at (n i : Nat) : UInt8 := UInt8.ofNat (n / 2 ^ (8 * (7 - i)))
def be8 (n : Nat) : List UInt8 := (List.range 8).map (be8at n)
theorem be8_len (n : Nat) : (be8 n).length = 8 := by simp [be8]
theorem be8_form (n i : Nat) : IntKind.u8.wrap ((n : Int) / 2 ^ (8 * (7 - i))) = n8 (be8at n i) := by
  unfold n8 be8at
  rw [natPow, ← Int.natCast_ediv, wrap_u8_nat]; simp
theorem be8_low (n k : Nat) (h : k < 8) : IntKind.u8.wrap ((n / 256 ^ k : Nat) % 256 : Int) = n8 (be8at n (7 - k)) := by
  unfold n8 be8at
  rw [show ((n / 256 ^ k : Nat) % 256 : Int) = ((n / 256 ^ k % 256 : Nat) : Int) by simp, wrap_u8_nat, show 8 * (7 - (7 - k)) = 8 * k by omega, Nat.pow_mul]; simp
theorem be8_take_succ (n k : Nat) (h : k < 8) : (be8 n).take (k + 1) = (be8 n).take k ++ [be8at n k] := by
  rw [List.take_succ_eq_append_getElem (by simpa [be8_len] using h)]; simp [be8]

/-- An array of n cells that is filled from its end: the last k hold f, the others z. -/
def dnTo (n k : Nat) (f : Nat → Value) (z : Value) : Array Value := ((List.range n).map fun i => if n - k ≤ i then f i else z).toArray
theorem dnTo_size (n k : Nat) (f : Nat → Value) (z : Value) : (dnTo n k f z).size = n := by simp [dnTo]
theorem dnTo_at (n k : Nat) (f : Nat → Value) (z : Value) (j : Nat) (h : j < n) : (dnTo n k f z)[j]? = some (if n - k ≤ j then f j else z) := by
  simp [dnTo, h]
theorem dnTo_set (n k : Nat) (f : Nat → Value) (z : Value) (hk : k < n) : (dnTo n k f z).setIfInBounds (n - 1 - k) (f (n - 1 - k)) = dnTo n (k + 1) f z := by
  apply Array.ext
  · simp [dnTo]
  · intro i h1 h2
    simp only [Array.size_setIfInBounds, dnTo_size] at h1
    rw [Array.getElem_setIfInBounds (by simpa [dnTo_size] using h1)]
    simp only [dnTo, List.getElem_toArray, List.getElem_map, List.getElem_range]
    by_cases he : n - 1 - k = i
    · subst he; simp [show n - (k + 1) ≤ n - 1 - k by omega]
    · by_cases hl : n - k ≤ i
      · simp [he, hl, show n - (k + 1) ≤ i by omega]
      · simp [he, hl, show ¬ n - (k + 1) ≤ i by omega]
theorem dnTo_full (n : Nat) (f : Nat → Value) (z : Value) : dnTo n n f z = ((List.range n).map f).toArray := by
  unfold dnTo; congr 1; apply List.map_congr_left; intro i hi; simp

/-- Cells that lie in a block from its beginning on. -/
def Tab (w : World) (g : Nat) (vs : List Value) : Prop := ∀ (j : Nat) v, vs[j]? = some v → w.cell? ⟨g, j, none⟩ = some v
theorem Tab.below {w w' : World} {g B : Nat} {vs : List Value} (h : Tab w g vs) (hb : Below B w w') (hg : g < B) : Tab w' g vs := fun j v hv => by
  rw [hb.cell (p := ⟨g, j, none⟩) hg]; exact h j v hv
/-- Bytes that lie in a block, from a place on. -/
def Row (w : World) (b off : Nat) (bs : List UInt8) : Prop := ∀ j (h : j < bs.length), w.cell? ⟨b, off + j, none⟩ = some (.int .u8 (n8 bs[j]))
theorem Row.below {w w' : World} {b off B : Nat} {bs : List UInt8} (h : Row w b off bs) (hb : Below B w w') (hg : b < B) : Row w' b off bs := fun j hj => by
  rw [hb.cell (p := ⟨b, off + j, none⟩) hg]; exact h j hj
theorem Row.grown {w w' : World} {b off : Nat} {bs : List UInt8} {row : Option Nat} (h : Row w b off bs) (hb : w.grownBy w' row) (hg : some b ≠ row) : Row w' b off bs := fun j hj =>
  hb.cell (h j hj) hg
theorem Row.at {w : World} {b off : Nat} {bs : List UInt8} (h : Row w b off bs) : ∀ (j : Nat) u, (bs.map v8)[j]? = some u → w.cell? ((⟨b, off, none⟩ : Addr).add j) = some u := fun j u hu => by
  have hj : j < bs.length := by
    rcases Nat.lt_or_ge j bs.length with h | h
    · exact h
    · rw [List.getElem?_eq_none (by simpa using h)] at hu; cases hu
  rw [Addr.add_mid, h j hj, ← hu]; simp [hj]
theorem Row.drop {w : World} {b off : Nat} {bs : List UInt8} (h : Row w b off bs) (k : Nat) : Row w b (off + k) (bs.drop k) := fun j hj => by
  have := h (k + j) (by simp at hj; omega)
  rw [Nat.add_assoc, this]; simp
theorem Row.take {w : World} {b off : Nat} {bs : List UInt8} (h : Row w b off bs) (k : Nat) : Row w b off (bs.take k) := fun j hj => by
  have := h j (by simp at hj; omega)
  rw [this]; simp
theorem Blk.row {w : World} {g : Nat} {t : TypeId} {bs : List UInt8} (h : Blk w g t (bs.map v8).toArray) : Row w g 0 bs := fun j hj => by
  rw [Nat.zero_add, h.cell (v := v8 bs[j]) (by simp [hj])]
theorem one8l (l : List UInt8) : ∀ u ∈ l.map v8, u.oneCell' = true := fun u hu => by
  obtain ⟨b, _, rfl⟩ := List.mem_map.1 hu; rfl

end Go.Proofs.YtgoehohadnkpdaaDoor
namespace Go.Proofs.YtgoehohadnkpdaaDoor
open Go.RowKit

theorem Tryd.info5 : (Tryd.prog.info? 5).map (fun i => (i.zero, i.size, i.bytes)) = some (some (.int .u8 0), 1, 1) := by kernel_rfl

/-- The value v is a slice of the call's own (its block is base or higher) that holds these bytes. -/
def Own (w : World) (base : Nat) (v : Value) (bs : List UInt8) : Prop := w.ownsRow base 5 1 v bs.length (bs.map v8)
/-- The value x is a slice that holds these bytes. -/
def Seg (w : World) (x : Value) (bs : List UInt8) : Prop := (bs = [] ∧ ∃ ao c, x = .slice ao 0 c ∧ (ao = none → c = 0)) ∨ ∃ b off c, x = .slice (some ⟨b, off, none⟩) bs.length c ∧ bs.length ≤ c ∧ Row w b off bs ∧ b < w.heap.size

theorem Own.alloc {w : World} {base : Nat} {v : Value} {bs : List UInt8} (h : Own w base v bs) (o : Obj) : Own (w.alloc o) base v bs := World.ownsRow.alloc h o
theorem Own.mono {w : World} {base base' : Nat} {v : Value} {bs : List UInt8} (h : Own w base v bs) (hb : base' ≤ base) : Own w base' v bs := by
  refine ⟨h.1, ?_⟩
  rcases h.2 with h2 | ⟨g, cap, cur, h1, h2, h3⟩
  · exact .inl h2
  · exact .inr ⟨g, cap, cur, h1, Nat.le_trans hb h2, h3⟩
theorem Own.form {w : World} {base : Nat} {v : Value} {bs : List UInt8} (h : Own w base v bs) (hn : 0 < bs.length) : ∃ g cap, v = .slice (some ⟨g, 0, none⟩) bs.length cap ∧ base ≤ g ∧ g < w.heap.size ∧ bs.length ≤ cap ∧ Row w g 0 bs := by
  obtain ⟨g, cap, hv, hb, hl⟩ := World.ownsRow.form h hn
  refine ⟨g, cap, hv, hb, hl, ?_, fun j hj => ?_⟩
  · subst hv
    rcases h.2 with ⟨h0, _⟩ | ⟨g', cap', cur, h1, _, _, h4, _⟩
    · cases h0
    · cases h1; exact h4
  · have := World.ownsRow.cells h (g := g) (by rw [hv]; rfl) j (v8 bs[j]) (by simp [hj])
    rwa [Addr.add_mid] at this
theorem Own.seg {w : World} {base : Nat} {v : Value} {bs : List UInt8} (h : Own w base v bs) : Seg w v bs := by
  rcases Nat.eq_zero_or_pos bs.length with h0 | h0
  · obtain rfl := List.eq_nil_of_length_eq_zero h0
    rcases h.2 with ⟨h1, _⟩ | ⟨g, cap, cur, h1, _⟩
    · exact .inl ⟨rfl, none, 0, h1, fun _ => rfl⟩
    · exact .inl ⟨rfl, _, cap, h1, fun h => by cases h⟩
  · obtain ⟨g, cap, hv, _, hl, hc, hr⟩ := h.form h0
    exact .inr ⟨g, 0, cap, hv, hc, hr, hl⟩
theorem Own.drew {w : World} {base : Nat} {v : Value} {bs : List UInt8} (h : Own w base v bs) : Own w.drew base v bs := h
theorem Own.below {w w' : World} {base B : Nat} {v : Value} {bs : List UInt8} (h : Own w base v bs) (hb : Below B w w') (hB : w.heap.size ≤ B) : Own w' base v bs := by
  refine ⟨h.1, ?_⟩
  rcases h.2 with h2 | ⟨g, cap, cur, h1, h2, h3, h4⟩
  · exact .inl h2
  · exact .inr ⟨g, cap, cur, h1, h2, by rw [hb.block g (Nat.lt_of_lt_of_le (Array.getElem?_eq_some_iff.1 h3).1 hB)]; exact h3, h4⟩
theorem Own.grown {w w' : World} {base : Nat} {v : Value} {bs : List UInt8} {row : Option Nat} (h : Own w base v bs) (hg : w.grownBy w' row) (hne : v.ownBlock = none ∨ v.ownBlock ≠ row) : Own w' base v bs := World.ownsRow.kept h hg hne
theorem Seg.below {w w' : World} {B : Nat} {x : Value} {bs : List UInt8} (h : Seg w x bs) (hb : Below B w w') (hB : w.heap.size ≤ B) : Seg w' x bs := by
  rcases h with h | ⟨b, off, c, h1, h2, h3, h4⟩
  · exact .inl h
  · exact .inr ⟨b, off, c, h1, h2, h3.below hb (Nat.lt_of_lt_of_le h4 hB), Nat.lt_of_lt_of_le h4 hb.size⟩
theorem Seg.alloc {w : World} {x : Value} {bs : List UInt8} (h : Seg w x bs) (o : Obj) : Seg (w.alloc o) x bs :=
  h.below ((Below.refl w.heap.size w).alloc (Nat.le_refl _) o) (Nat.le_refl _)
theorem Seg.drew {w : World} {x : Value} {bs : List UInt8} (h : Seg w x bs) : Seg w.drew x bs := h
theorem Seg.of_row {w : World} {b off c n : Nat} {bs : List UInt8} (hr : Row w b off bs) (hn : bs.length = n) (hc : n ≤ c) (hb : b < w.heap.size) : Seg w (.slice (some ⟨b, off, none⟩) n c) bs := by
  subst hn; exact .inr ⟨b, off, c, rfl, hc, hr, hb⟩

/-- append onto a slice of the call's own. -/
theorem app_own (w : World) {ops : Array Oper} {rest : List Oper} {o : Oper} {a : Act} {Q : Exit → Act → World → Prop} (hgd : o.guard = none) (s x : Operand)
    (ho : o.op = .call { callee := .builtin .append, args := #[s, x], argTypes := #[35, 35] })
    (base : Nat) (v : Value) (bs : List UInt8) (hs : a.eval s = v) (hown : Own w base v bs) (xv : Value) (nw : List UInt8) (hx : a.eval x = xv) (hseg : Seg w xv nw)
    (hlen : bs.length + nw.length ≤ 1000000000) (hbase : base ≤ w.heap.size)
    (hK : ∀ v' w', Own w' base v' (bs ++ nw) → w.grownBy w' v.ownBlock → (v'.ownBlock = v.ownBlock ∨ v'.ownBlock = some w.heap.size) → wpList Tryd.prog ops Q rest (a.put o.dst v') w') :
    wpList Tryd.prog ops Q (o :: rest) a w := by
  obtain ⟨i0, hi, hz0, hz1, hz2⟩ := info_parts Tryd.info5
  have key : ∀ ad c m, xv = .slice (some ad) m c → m = nw.length → (∀ j u, (nw.map v8)[j]? = some u → w.cell? (ad.add j) = some u) → wpList Tryd.prog ops Q (o :: rest) a w := by
    intro ad c m hxv hm hc
    subst hm
    refine wpList_append_own_at w hgd s x 35 ho base 5 i0 (.int .u8 0) 1 1 Tryd.underlying35 hi hz0 hz1 hz2 rfl (by decide) v bs.length (bs.map v8) hs hown ad nw.length c (nw.map v8) (hx.trans hxv) (by simp) hc (one8l nw) (by unfold maxLen; omega) (by omega) hbase ?_
    intro v' w' h1 h2 _ h4
    refine hK v' w' ?_ h2 h4
    unfold Own; rw [List.length_append, List.map_append]; exact h1
  rcases hseg with ⟨rfl, ao, c, rfl, hn⟩ | ⟨b, off, c, rfl, _, hr, _⟩
  · cases ao with
    | none =>
      obtain rfl := hn rfl
      refine wpList_append_own_none hgd s x 35 ho base 5 i0 1 Tryd.underlying35 hi v bs.length (bs.map v8) hs hown hx ?_
      exact hK v w (by rw [List.append_nil]; exact hown) ⟨rfl, rfl, rfl, Nat.le_refl _, fun _ _ _ => rfl⟩ (.inl rfl)
    | some ad => exact key ad c 0 rfl rfl (fun j u h => by simp at h)
  · exact key ⟨b, off, none⟩ c _ rfl rfl hr.at

/-- append onto a slice that is full. -/
theorem app_grow (w : World) {ops : Array Oper} {rest : List Oper} {o : Oper} {a : Act} {Q : Exit → Act → World → Prop} (hgd : o.guard = none) (s x : Operand)
    (ho : o.op = .call { callee := .builtin .append, args := #[s, x], argTypes := #[35, 35] })
    (b off : Nat) (bs : List UInt8) (hs : a.eval s = .slice (some ⟨b, off, none⟩) bs.length bs.length) (hr : Row w b off bs) (b' off' c : Nat) (nw : List UInt8) (hx : a.eval x = .slice (some ⟨b', off', none⟩) nw.length c) (hr' : Row w b' off' nw)
    (hm : 0 < nw.length) (hlen : bs.length + nw.length ≤ 1000000000)
    (hK : ∀ v' w', Own w' w.heap.size v' (bs ++ nw) → w.grownBy w' none → wpList Tryd.prog ops Q rest (a.put o.dst v') w') :
    wpList Tryd.prog ops Q (o :: rest) a w := by
  obtain ⟨i0, hi, hz0, hz1, hz2⟩ := info_parts Tryd.info5
  refine wpList_append_grows w hgd s x 35 ho 5 i0 (.int .u8 0) 1 1 Tryd.underlying35 hi hz0 hz1 hz2 rfl (by decide) (some ⟨b, off, none⟩) bs.length bs.length (bs.map v8) hs (fun h => by cases h) (by simp) (fun a h => by cases h; exact hr.at) ⟨b', off', none⟩ nw.length c (nw.map v8) hx (by simp) hr'.at (one8l nw) (by omega) (by unfold maxLen; omega) (by omega) ?_
  intro v' w' h1 h2
  refine hK v' w' ?_ h2
  unfold Own; rw [List.length_append, List.map_append]; exact h1

theorem Own.blocks {w : World} {base : Nat} {v : Value} {bs : List UInt8} (h : Own w base v bs) : ∀ k, v.ownBlock = some k → base ≤ k ∧ k < w.heap.size := World.ownsRow.lt h
theorem row_one (w : World) (x : UInt8) (t : TypeId) : Row (w.alloc (.cells #[v8 x] t)) w.heap.size 0 [x] := fun j hj => by
  obtain rfl : j = 0 := by simp at hj; omega
  simp

end Go.Proofs.YtgoehohadnkpdaaDoor
