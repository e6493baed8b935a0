/-
  What is proved here: plain facts on the cyclic sum of 24 bits as a plain function on words of 32 bits and lists of bytes: it is linear, no two sums become one by a text, a text with its sum behind has the sum 0, and a turned bit changes the sum by a doubled 2^23; no program is spoken of. crc.doubleFour doubles a sum four times; crc.Add is the plain function crc of the lowest 24 bits, crc.Sum that of B704CE; the statements' own first look, the sum of nine digits, answers true. small facts on slices of bytes that several texts share: the empty one of the call's own, a slice's form, its beginning. small facts on slices of bytes: the empty one of the call's own, what becomes of any of them as a string; and on words that are held against one another.
  Conditions: those that each fact names. the variable fourBits holds the sixteen words.
-/
import Derived.Test.YtgfcindkfnjeoaaJShaPure
import Derived.Test.YtgfcindkfnjeoaaProg
import Derived.Lib.SlBytesConst
import Derived.Laws.IdiomStrings
import Derived.Laws.OwnMore
namespace Go.Proofs.Ytgfcindkfnjeoaa
open Go.RowKit

/-- Doubled, and, if the bit 2^24 is set then, XOR 1864CFB. -/
def dbl (s : BitVec 32) : BitVec 32 := (s <<< 1) ^^^ (if s.getLsbD 23 then 0x1864CFB#32 else 0#32)
/-- Doubled n times. -/
def dbls : Nat → BitVec 32 → BitVec 32
  | 0, s => s
  | n + 1, s => dbls n (dbl s)
def w8 (x : UInt8) : BitVec 32 := BitVec.ofNat 32 x.toNat
def step (s : BitVec 32) (x : UInt8) : BitVec 32 := dbls 8 (s ^^^ (w8 x <<< 16))
def crc (s : BitVec 32) (bs : List UInt8) : BitVec 32 := bs.foldl step s
def crcOf (bs : List UInt8) : BitVec 32 := crc 0xB704CE#32 bs

theorem dbl_zero : dbl 0#32 = 0#32 := by decide
theorem dbl_xor (a b : BitVec 32) : dbl (a ^^^ b) = dbl a ^^^ dbl b := by
  unfold dbl
  rw [BitVec.shiftLeft_xor_distrib, BitVec.getLsbD_xor]
  cases a.getLsbD 23 <;> cases b.getLsbD 23 <;> simp <;> ac_nf
  rw [← BitVec.xor_assoc 25578747#32 25578747#32]; simp
theorem dbls_zero (n : Nat) : dbls n 0#32 = 0#32 := by
  induction n with
  | zero => rfl
  | succ n ih => rw [dbls, dbl_zero, ih]
theorem dbls_xor (n : Nat) (a b : BitVec 32) : dbls n (a ^^^ b) = dbls n a ^^^ dbls n b := by
  induction n generalizing a b with
  | zero => rfl
  | succ n ih => rw [dbls, dbl_xor, ih]; rfl
theorem dbls_add (m n : Nat) (a : BitVec 32) : dbls (m + n) a = dbls n (dbls m a) := by
  induction m generalizing a with
  | zero => rw [Nat.zero_add]; rfl
  | succ m ih => rw [show m + 1 + n = (m + n) + 1 by omega, dbls, ih]; rfl
theorem lt24 (s : BitVec 32) : s.toNat < 16777216 ↔ ∀ i, 24 ≤ i → s.getLsbD i = false := by
  constructor
  · intro h i hi
    rw [BitVec.getLsbD]
    exact Nat.testBit_lt_two_pow (Nat.lt_of_lt_of_le h (Nat.pow_le_pow_right (n := 2) (by omega) hi))
  · intro h
    exact Nat.lt_pow_two_of_testBit (n := 24) _ fun i hi => h i hi
theorem dbl_lt (s : BitVec 32) (h : s.toNat < 16777216) : (dbl s).toNat < 16777216 := by
  rw [lt24] at h ⊢
  intro i hi
  unfold dbl
  rw [BitVec.getLsbD_xor, BitVec.getLsbD_shiftLeft]
  by_cases h24 : i = 24
  · subst h24
    cases hs : s.getLsbD 23 <;> simp
  · have h1 := h (i - 1) (by omega)
    by_cases h32 : i < 32
    · have : (0x1864CFB#32).getLsbD i = false := by
        have hh : ∀ j : Fin 32, 24 < j.val → (0x1864CFB#32).getLsbD j.val = false := by decide
        exact hh ⟨i, h32⟩ (by show 24 < i; omega)
      cases hs : s.getLsbD 23 <;> simp [h1, this]
    · cases hs : s.getLsbD 23 <;> simp [h1, h32]
      all_goals exact BitVec.getLsbD_of_ge _ _ (by omega)
theorem dbls_lt (n : Nat) (s : BitVec 32) (h : s.toNat < 16777216) : (dbls n s).toNat < 16777216 := by
  induction n generalizing s with
  | zero => exact h
  | succ n ih => exact ih _ (dbl_lt s h)
theorem dbl_eq_zero (s : BitVec 32) (h : s.toNat < 16777216) (h0 : dbl s = 0#32) : s = 0#32 := by
  have hb : s.getLsbD 23 = false := by
    have := congrArg (fun x => x.getLsbD 0) h0
    unfold dbl at this
    cases hs : s.getLsbD 23
    · rfl
    · rw [hs] at this; simp at this
  unfold dbl at h0
  rw [hb] at h0
  simp only [Bool.false_eq_true, if_false, BitVec.xor_zero] at h0
  apply BitVec.eq_of_toNat_eq
  have := congrArg BitVec.toNat h0
  rw [BitVec.toNat_shiftLeft, Nat.shiftLeft_eq] at this
  simp at this ⊢
  omega
theorem dbls_eq_zero (n : Nat) (s : BitVec 32) (h : s.toNat < 16777216) (h0 : dbls n s = 0#32) : s = 0#32 := by
  induction n generalizing s with
  | zero => exact h0
  | succ n ih => exact dbl_eq_zero s h (ih _ (dbl_lt s h) h0)
theorem dbl_small (s : BitVec 32) (h : s.getLsbD 23 = false) : dbl s = s <<< 1 := by
  unfold dbl; rw [h]; simp
/-- A number of few bits is doubled as it is. -/
theorem dbls_small (n : Nat) (s : BitVec 32) (h : s.toNat * 2 ^ n < 16777216) : dbls n s = s <<< n := by
  induction n generalizing s with
  | zero => simp [dbls]
  | succ n ih =>
    have hp : 0 < 2 ^ n := Nat.pow_pos (by omega)
    rw [Nat.pow_succ] at h
    have h1 : s.toNat * 2 < 16777216 := by
      have := Nat.le_mul_of_pos_right (s.toNat * 2) hp
      rw [Nat.mul_assoc, Nat.mul_comm 2] at this; omega
    have hb : s.getLsbD 23 = false := by
      rw [BitVec.getLsbD]; exact Nat.testBit_lt_two_pow (by omega)
    have h2 : (s <<< 1).toNat = s.toNat * 2 := by
      rw [BitVec.toNat_shiftLeft, Nat.shiftLeft_eq, Nat.mod_eq_of_lt (by omega)]
    rw [dbls, dbl_small s hb, ih _ (by rw [h2, Nat.mul_assoc, Nat.mul_comm 2]; omega), ← BitVec.shiftLeft_add, Nat.add_comm]

theorem w8_lt (x : UInt8) : (w8 x).toNat < 256 := by
  have := x.toNat_lt
  unfold w8; rw [BitVec.toNat_ofNat]; omega
theorem w8_toNat (x : UInt8) : (w8 x).toNat = x.toNat := by
  have := x.toNat_lt
  unfold w8; rw [BitVec.toNat_ofNat]; omega
theorem shl_lt (x : UInt8) : (w8 x <<< 16).toNat < 16777216 := by
  have := w8_lt x
  rw [BitVec.toNat_shiftLeft, Nat.shiftLeft_eq]; omega
theorem xor_lt (a b : BitVec 32) (ha : a.toNat < 16777216) (hb : b.toNat < 16777216) : (a ^^^ b).toNat < 16777216 := by
  rw [BitVec.toNat_xor]; exact Nat.xor_lt_two_pow (n := 24) ha hb
theorem step_lt (s : BitVec 32) (x : UInt8) (h : s.toNat < 16777216) : (step s x).toNat < 16777216 := dbls_lt 8 _ (xor_lt _ _ h (shl_lt x))
theorem crc_lt (bs : List UInt8) (s : BitVec 32) (h : s.toNat < 16777216) : (crc s bs).toNat < 16777216 := by
  induction bs generalizing s with
  | nil => exact h
  | cons x xs ih => exact ih _ (step_lt s x h)
theorem crcOf_lt (bs : List UInt8) : (crcOf bs).toNat < 16777216 := crc_lt bs _ (by decide)
theorem crc_append (a b : List UInt8) (s : BitVec 32) : crc s (a ++ b) = crc (crc s a) b := List.foldl_append
theorem crc_snoc (a : List UInt8) (x : UInt8) (s : BitVec 32) : crc s (a ++ [x]) = step (crc s a) x := by rw [crc_append]; rfl
theorem crc_take_succ (bs : List UInt8) (k : Nat) (h : k < bs.length) (s : BitVec 32) : crc s (bs.take (k + 1)) = step (crc s (bs.take k)) bs[k] := by
  rw [List.take_succ_eq_append_getElem h, crc_snoc]
theorem step_xor (a b : BitVec 32) (x : UInt8) : step (a ^^^ b) x = step a x ^^^ dbls 8 b := by
  unfold step
  rw [← dbls_xor, BitVec.xor_assoc, BitVec.xor_comm b, ← BitVec.xor_assoc]
/-- What is XORed into a sum is doubled by what follows. -/
theorem crc_xor (bs : List UInt8) (a b : BitVec 32) : crc (a ^^^ b) bs = crc a bs ^^^ dbls (8 * bs.length) b := by
  induction bs generalizing a b with
  | nil => rfl
  | cons x xs ih =>
    show crc (step (a ^^^ b) x) xs = crc (step a x) xs ^^^ _
    rw [step_xor, ih, ← dbls_add, List.length_cons, show 8 + 8 * xs.length = 8 * (xs.length + 1) by omega]
/-- By one text, unlike sums stay unlike. -/
theorem crc_apart (bs : List UInt8) (a b : BitVec 32) (ha : a.toNat < 16777216) (hb : b.toNat < 16777216) : crc a bs = crc b bs ↔ a = b := by
  constructor
  · intro h
    have e : crc a bs = crc (b ^^^ (a ^^^ b)) bs := by
      rw [BitVec.xor_comm a b, ← BitVec.xor_assoc, BitVec.xor_self, BitVec.zero_xor]
    rw [crc_xor] at e
    have z : dbls (8 * bs.length) (a ^^^ b) = 0#32 := by
      rw [h] at e
      have := congrArg (fun x => crc b bs ^^^ x) e
      simp only [← BitVec.xor_assoc, BitVec.xor_self, BitVec.zero_xor] at this
      exact this.symm
    have z2 := dbls_eq_zero _ _ (xor_lt a b ha hb) z
    have := congrArg (fun x => x ^^^ b) z2
    rwa [BitVec.xor_assoc, BitVec.xor_self, BitVec.xor_zero, BitVec.zero_xor] at this
  · rintro rfl; rfl

theorem w8_xor (x y : UInt8) : w8 (x ^^^ y) = w8 x ^^^ w8 y := by
  apply BitVec.eq_of_toNat_eq
  rw [BitVec.toNat_xor, w8_toNat, w8_toNat, w8_toNat, UInt8.toNat_xor]
theorem xor_six (a b c x y z : BitVec 32) : a ^^^ b ^^^ c ^^^ (x ^^^ y ^^^ z) = (a ^^^ x) ^^^ (b ^^^ y) ^^^ (c ^^^ z) := by
  apply BitVec.eq_of_getLsbD_eq
  intro i _
  simp only [BitVec.getLsbD_xor]
  cases a.getLsbD i <;> cases b.getLsbD i <;> cases c.getLsbD i <;> cases x.getLsbD i <;> cases y.getLsbD i <;> cases z.getLsbD i <;> rfl
theorem step_three (a b c : BitVec 32) (x y z : UInt8) : step (a ^^^ b ^^^ c) (x ^^^ y ^^^ z) = step a x ^^^ step b y ^^^ step c z := by
  unfold step
  rw [← dbls_xor, ← dbls_xor, w8_xor, w8_xor, BitVec.shiftLeft_xor_distrib, BitVec.shiftLeft_xor_distrib]
  rw [xor_six]
/-- Three texts, XORed. -/
def xor3 (a b c : List UInt8) (n : Nat) : List UInt8 := (List.range n).map fun i => a.getD i 0 ^^^ b.getD i 0 ^^^ c.getD i 0
theorem xor3_succ (a b c : List UInt8) (n : Nat) : xor3 a b c (n + 1) = xor3 a b c n ++ [a.getD n 0 ^^^ b.getD n 0 ^^^ c.getD n 0] := by
  simp [xor3, List.range_succ]
theorem crc_three (a b c : List UInt8) (n : Nat) (ha : n ≤ a.length) (hb : n ≤ b.length) (hc : n ≤ c.length) (s : BitVec 32) : crc s (xor3 a b c n) = crc s (a.take n) ^^^ crc s (b.take n) ^^^ crc s (c.take n) := by
  induction n with
  | zero =>
    show s = s ^^^ s ^^^ s
    rw [BitVec.xor_self, BitVec.zero_xor]
  | succ n ih =>
    have g : ∀ l : List UInt8, (h : n < l.length) → l.getD n 0 = l[n] := fun l h => by simp [List.getD, h]
    rw [xor3_succ, crc_snoc, ih (by omega) (by omega) (by omega), crc_take_succ a n (by omega), crc_take_succ b n (by omega), crc_take_succ c n (by omega), step_three, g a (by omega), g b (by omega), g c (by omega)]

/-- The three bytes of a sum, the highest first. -/
def sumB (s : BitVec 32) : List UInt8 := [UInt8.ofNat (s.toNat / 65536), UInt8.ofNat (s.toNat / 256), UInt8.ofNat s.toNat]
theorem sumB_len (s : BitVec 32) : (sumB s).length = 3 := rfl
theorem sumB_inj (a b : BitVec 32) (ha : a.toNat < 16777216) (hb : b.toNat < 16777216) (h : sumB a = sumB b) : a = b := by
  unfold sumB at h
  simp only [List.cons.injEq, and_true] at h
  obtain ⟨h1, h2, h3⟩ := h
  have k1 := congrArg UInt8.toNat h1
  have k2 := congrArg UInt8.toNat h2
  have k3 := congrArg UInt8.toNat h3
  simp at k1 k2 k3
  apply BitVec.eq_of_toNat_eq; omega
theorem step_small (s : BitVec 32) (h : s.toNat < 16777216) : step s (UInt8.ofNat (s.toNat / 65536)) = BitVec.ofNat 32 (s.toNat % 65536 * 256) := by
  have e : s ^^^ (w8 (UInt8.ofNat (s.toNat / 65536)) <<< 16) = BitVec.ofNat 32 (s.toNat % 65536) := by
    apply BitVec.eq_of_toNat_eq
    rw [BitVec.toNat_xor, BitVec.toNat_shiftLeft, w8_toNat, BitVec.toNat_ofNat, Nat.shiftLeft_eq]
    have h1 : (UInt8.ofNat (s.toNat / 65536)).toNat = s.toNat / 65536 := by simp; omega
    rw [h1, Nat.mod_eq_of_lt (by omega), Nat.mod_eq_of_lt (by omega)]
    have h2 := Nat.shiftLeft_add_eq_or_of_lt (i := 16) (b := s.toNat % 65536) (by omega) (s.toNat / 65536)
    have h3 : s.toNat = (s.toNat / 65536) <<< 16 ^^^ (s.toNat % 65536) := by
      apply Nat.eq_of_testBit_eq
      intro i
      rw [Nat.testBit_xor, Nat.testBit_shiftLeft, show (65536 : Nat) = 2 ^ 16 from rfl, Nat.testBit_div_two_pow, Nat.testBit_mod_two_pow]
      by_cases hi : i < 16
      · simp [hi, show ¬ 16 ≤ i by omega]
      · simp [hi, show 16 ≤ i by omega]
    rw [← Nat.shiftLeft_eq]
    generalize (s.toNat / 65536) <<< 16 = A at h3 ⊢
    generalize s.toNat % 65536 = B at h3 ⊢
    rw [h3, Nat.xor_assoc, Nat.xor_comm B A, ← Nat.xor_assoc, Nat.xor_self, Nat.zero_xor]
  unfold step
  rw [e]
  have hb : (BitVec.ofNat 32 (s.toNat % 65536)).toNat = s.toNat % 65536 := by rw [BitVec.toNat_ofNat]; omega
  rw [dbls_small 8 _ (by rw [hb]; omega)]
  apply BitVec.eq_of_toNat_eq
  rw [BitVec.toNat_shiftLeft, hb, Nat.shiftLeft_eq, BitVec.toNat_ofNat]
/-- A sum that is followed by its own bytes becomes 0. -/
theorem crc_own (s : BitVec 32) (h : s.toNat < 16777216) : crc s (sumB s) = 0#32 := by
  show step (step (step s _) _) _ = _
  rw [step_small s h]
  have t1 : (BitVec.ofNat 32 (s.toNat % 65536 * 256)).toNat = s.toNat % 65536 * 256 := by rw [BitVec.toNat_ofNat]; omega
  have b1 : UInt8.ofNat (s.toNat / 256) = UInt8.ofNat ((BitVec.ofNat 32 (s.toNat % 65536 * 256)).toNat / 65536) := by
    rw [t1]; apply UInt8.toNat_inj.1; simp; omega
  rw [b1, step_small _ (by rw [t1]; omega), t1]
  have t2 : (BitVec.ofNat 32 (s.toNat % 65536 * 256 % 65536 * 256)).toNat = s.toNat % 256 * 65536 := by rw [BitVec.toNat_ofNat]; omega
  have b2 : UInt8.ofNat s.toNat = UInt8.ofNat ((BitVec.ofNat 32 (s.toNat % 65536 * 256 % 65536 * 256)).toNat / 65536) := by
    rw [t2]; apply UInt8.toNat_inj.1; simp
  rw [b2, step_small _ (by rw [t2]; omega), t2]
  apply BitVec.eq_of_toNat_eq
  simp

/-- The literals for four bits. -/
def fours : List (BitVec 32) := [0x000000#32, 0x864CFB#32, 0x8AD50D#32, 0x0C99F6#32, 0x93E6E1#32, 0x15AA1A#32, 0x1933EC#32, 0x9F7F17#32, 0xA18139#32, 0x27CDC2#32, 0x2B5434#32, 0xAD18CF#32, 0x3267D8#32, 0xB42B23#32, 0xB8B2D5#32, 0x3EFE2E#32]
theorem BitVec_and_xor (a b c : BitVec 32) : (a ^^^ b) &&& c = (a &&& c) ^^^ (b &&& c) := by
  apply BitVec.eq_of_getLsbD_eq
  intro i _
  rw [BitVec.getLsbD_and, BitVec.getLsbD_xor, BitVec.getLsbD_xor, BitVec.getLsbD_and, BitVec.getLsbD_and]
  cases a.getLsbD i <;> cases b.getLsbD i <;> cases c.getLsbD i <;> rfl
theorem four_eq (s : BitVec 32) (h : s.toNat < 16777216) : ((s <<< 4) &&& 0xFFFFFF#32) ^^^ fours.getD (s.toNat / 1048576) 0#32 = dbls 4 s := by
  obtain ⟨hi, lo, h1, h2, rfl⟩ : ∃ hi lo : Nat, hi < 16 ∧ lo < 1048576 ∧ s = (BitVec.ofNat 32 (hi * 1048576)) ^^^ BitVec.ofNat 32 lo := by
    refine ⟨s.toNat / 1048576, s.toNat % 1048576, by omega, by omega, ?_⟩
    apply BitVec.eq_of_toNat_eq
    rw [BitVec.toNat_xor, BitVec.toNat_ofNat, BitVec.toNat_ofNat, Nat.mod_eq_of_lt (by omega), Nat.mod_eq_of_lt (by omega)]
    apply Nat.eq_of_testBit_eq
    intro i
    rw [Nat.testBit_xor, show (1048576 : Nat) = 2 ^ 20 from rfl, ← Nat.shiftLeft_eq, Nat.testBit_shiftLeft, Nat.testBit_div_two_pow, Nat.testBit_mod_two_pow]
    by_cases hi : i < 20
    · simp [hi, show ¬ 20 ≤ i by omega]
    · simp [hi, show 20 ≤ i by omega]
  have hd : (BitVec.ofNat 32 (hi * 1048576) ^^^ BitVec.ofNat 32 lo).toNat / 1048576 = hi := by
    rw [BitVec.toNat_xor, BitVec.toNat_ofNat, BitVec.toNat_ofNat, Nat.mod_eq_of_lt (by omega), Nat.mod_eq_of_lt (by omega)]
    apply Nat.eq_of_testBit_eq
    intro i
    rw [show (1048576 : Nat) = 2 ^ 20 from rfl, Nat.testBit_div_two_pow, Nat.testBit_xor, ← Nat.shiftLeft_eq, Nat.testBit_shiftLeft]
    rw [Nat.testBit_lt_two_pow (x := lo) (i := i + 20) (Nat.lt_of_lt_of_le h2 (by rw [show (1048576 : Nat) = 2 ^ 20 from rfl]; exact Nat.pow_le_pow_right (by omega) (by omega)))]
    simp
  rw [hd, dbls_xor, BitVec.shiftLeft_xor_distrib]
  have hl : (BitVec.ofNat 32 lo).toNat = lo := by rw [BitVec.toNat_ofNat]; omega
  rw [dbls_small 4 (BitVec.ofNat 32 lo) (by rw [hl]; omega)]
  have hm : (BitVec.ofNat 32 lo <<< 4) &&& 0xFFFFFF#32 = BitVec.ofNat 32 lo <<< 4 := by
    apply BitVec.eq_of_toNat_eq
    rw [BitVec.toNat_and, BitVec.toNat_shiftLeft, hl, Nat.shiftLeft_eq, Nat.mod_eq_of_lt (by omega)]
    show _ &&& (2 ^ 24 - 1) = _
    rw [Nat.and_two_pow_sub_one_eq_mod]; omega
  have key : ∀ k : Fin 16, ((BitVec.ofNat 32 (k.val * 1048576) <<< 4) &&& 0xFFFFFF#32) ^^^ fours.getD k.val 0#32 = dbls 4 (BitVec.ofNat 32 (k.val * 1048576)) := by decide
  have kk := key ⟨hi, h1⟩
  rw [← kk, BitVec_and_xor, hm, BitVec.xor_assoc, BitVec.xor_assoc, BitVec.xor_comm (BitVec.ofNat 32 lo <<< 4)]

/-- A bit turned, the highest of a byte first. -/
def turned (cs : List UInt8) (p : Nat) : List UInt8 := cs.set (p / 8) (cs.getD (p / 8) 0 ^^^ UInt8.ofNat (128 / 2 ^ (p % 8)))
theorem turned_len (cs : List UInt8) (p : Nat) : (turned cs p).length = cs.length := by simp [turned]
theorem dbls_top (r : Nat) (h : r < 24) : dbls r (1#32 <<< (23 - r)) = 1#32 <<< 23 := by
  have hh : ∀ k : Fin 24, dbls k.val (1#32 <<< (23 - k.val)) = 1#32 <<< 23 := by decide
  exact hh ⟨r, h⟩
theorem crc_turned (cs : List UInt8) (p : Nat) (h : p < 8 * cs.length) (s : BitVec 32) : crc s (turned cs p) = crc s cs ^^^ dbls (8 * cs.length - p) (1#32 <<< 23) := by
  have hq : p / 8 < cs.length := by omega
  obtain ⟨pre, x, post, hcs, hpre⟩ : ∃ pre x post, cs = pre ++ x :: post ∧ pre.length = p / 8 :=
    ⟨cs.take (p / 8), cs[p / 8], cs.drop (p / 8 + 1), by simp, by simp; omega⟩
  have hg : cs.getD (p / 8) 0 = x := by rw [hcs, ← hpre]; simp [List.getD]
  have ht : turned cs p = pre ++ (x ^^^ UInt8.ofNat (128 / 2 ^ (p % 8))) :: post := by
    unfold turned; rw [hg, hcs, ← hpre]; simp
  have hr : p % 8 < 8 := Nat.mod_lt _ (by omega)
  have hw : w8 (UInt8.ofNat (128 / 2 ^ (p % 8))) <<< 16 = 1#32 <<< (23 - p % 8) := by
    have hh : ∀ k : Fin 8, w8 (UInt8.ofNat (128 / 2 ^ k.val)) <<< 16 = 1#32 <<< (23 - k.val) := by decide
    exact hh ⟨p % 8, hr⟩
  rw [ht]
  conv => rhs; rw [hcs]
  rw [crc_append, crc_append]
  show crc (step (crc s pre) _) post = crc (step (crc s pre) x) post ^^^ _
  have e : step (crc s pre) (x ^^^ UInt8.ofNat (128 / 2 ^ (p % 8))) = step (crc s pre) x ^^^ dbls (8 - p % 8) (1#32 <<< 23) := by
    unfold step
    rw [w8_xor, BitVec.shiftLeft_xor_distrib, hw, ← BitVec.xor_assoc, dbls_xor]
    congr 1
    rw [show 8 = p % 8 + (8 - p % 8) by omega, dbls_add, show p % 8 + (8 - p % 8) = 8 by omega, dbls_top _ (by omega)]
  rw [e, crc_xor, ← dbls_add]
  congr 2
  have hl : cs.length = pre.length + (post.length + 1) := by rw [hcs]; simp
  rw [List.length_append, List.length_cons]
  omega

/-- The first n bits of a number, the lowest at the place 23. -/
def revs (t : BitVec 32) : Nat → BitVec 32
  | 0 => 0#32
  | n + 1 => revs t n ^^^ (if t.getLsbD n then 1#32 <<< (23 - n) else 0#32)
theorem revs_lt (t : BitVec 32) (n : Nat) (h : n ≤ 24) : (revs t n).toNat < 16777216 := by
  induction n with
  | zero => exact (by decide : (0#32).toNat < 16777216)
  | succ n ih =>
    rw [revs]
    refine xor_lt _ _ (ih (by omega)) ?_
    split
    · have hh : ∀ k : Fin 24, (1#32 <<< (23 - k.val)).toNat < 16777216 := by decide
      exact hh ⟨n, by omega⟩
    · decide
theorem revs_bit (t : BitVec 32) (n : Nat) (hn : n ≤ 24) (i : Nat) (hi : i < 24) : (revs t n).getLsbD (23 - i) = (decide (i < n) && t.getLsbD i) := by
  induction n with
  | zero => simp [revs]
  | succ n ih =>
    rw [revs, BitVec.getLsbD_xor, ih (by omega)]
    have hb : (if t.getLsbD n then 1#32 <<< (23 - n) else 0#32).getLsbD (23 - i) = (decide (i = n) && t.getLsbD n) := by
      have hh : ∀ (a b : Fin 24), (1#32 <<< (23 - a.val)).getLsbD (23 - b.val) = decide (b.val = a.val) := by decide
      have := hh ⟨n, by omega⟩ ⟨i, hi⟩
      cases t.getLsbD n
      · simp
      · simpa using this
    rw [hb]
    by_cases h1 : i = n
    · subst h1; simp
    · by_cases h2 : i < n
      · simp [h1, h2, show i < n + 1 by omega]
      · simp [h1, h2, show ¬ i < n + 1 by omega]
theorem revs_ne (t : BitVec 32) (h : t.toNat < 16777216) (h0 : t ≠ 0#32) : revs t 24 ≠ 0#32 := by
  intro hz
  apply h0
  apply BitVec.eq_of_getLsbD_eq
  intro i hi
  by_cases h24 : i < 24
  · have := revs_bit t 24 (by omega) i h24
    rw [hz] at this
    simpa [h24] using this.symm
  · rw [(lt24 t).1 h i (by omega)]; simp
/-- The bits of a number, turned in a text one after another from place k on. -/
def burst (b : List UInt8) (k : Nat) (t : BitVec 32) : Nat → List UInt8
  | 0 => b
  | n + 1 => if t.getLsbD n then turned (burst b k t n) (k + n) else burst b k t n
theorem burst_len (b : List UInt8) (k : Nat) (t : BitVec 32) (n : Nat) : (burst b k t n).length = b.length := by
  induction n with
  | zero => rfl
  | succ n ih => rw [burst]; split
                 · rw [turned_len, ih]
                 · exact ih
theorem crc_burst (b : List UInt8) (k : Nat) (t : BitVec 32) (n : Nat) (hn : n ≤ 24) (hk : k + 24 ≤ 8 * b.length) (s : BitVec 32) : crc s (burst b k t n) = crc s b ^^^ dbls (8 * b.length - k) (revs t n) := by
  induction n with
  | zero => rw [burst, revs, dbls_zero, BitVec.xor_zero]
  | succ n ih =>
    rw [burst, revs]
    cases ht : t.getLsbD n
    · simp only [Bool.false_eq_true, if_false, BitVec.xor_zero]
      exact ih (by omega)
    · simp only [if_true]
      rw [crc_turned _ _ (by rw [burst_len]; omega), ih (by omega), burst_len, dbls_xor, ← BitVec.xor_assoc]
      congr 1
      have e : dbls (8 * b.length - k) (1#32 <<< (23 - n)) = dbls (8 * b.length - (k + n)) (dbls n (1#32 <<< (23 - n))) := by
        rw [← dbls_add]; congr 1; omega
      rw [e, dbls_top n (by omega)]
theorem crc_burst_ne (b : List UInt8) (k : Nat) (t : BitVec 32) (hk : k + 24 ≤ 8 * b.length) (h : t.toNat < 16777216) (h0 : t ≠ 0#32) (s : BitVec 32) : crc s (burst b k t 24) ≠ crc s b := by
  intro he
  rw [crc_burst b k t 24 (Nat.le_refl _) hk] at he
  have z : dbls (8 * b.length - k) (revs t 24) = 0#32 := by
    have := congrArg (fun x => crc s b ^^^ x) he
    simp only [← BitVec.xor_assoc, BitVec.xor_self, BitVec.zero_xor] at this
    exact this
  exact revs_ne t h h0 (dbls_eq_zero _ _ (revs_lt t 24 (Nat.le_refl _)) z)

theorem crc_digits : crcOf [49, 50, 51, 52, 53, 54, 55, 56, 57] = 0x21CF02#32 := by decide +kernel

end Go.Proofs.Ytgfcindkfnjeoaa
namespace Go.Proofs.Ytgfcindkfnjeoaa
open Go.RowKit

theorem ret_bool {a b : Bool} (h : a = b) : Ending.returned (.bool a) = .returned (.bool b) := by rw [h]
def low24 (s : BitVec 32) : BitVec 32 := s &&& 0xFFFFFF#32

theorem and24 (s : BitVec 32) : bits .and .u32 (n32 s) 16777215 = n32 (low24 s) := by
  rw [show (16777215 : Int) = n32 0xFFFFFF#32 from rfl, bits_and32]; rfl
theorem low24_toNat (s : BitVec 32) : (low24 s).toNat = s.toNat % 16777216 := by
  unfold low24; rw [BitVec.toNat_and]
  show _ &&& (2 ^ 24 - 1) = _
  rw [Nat.and_two_pow_sub_one_eq_mod]
theorem low24_lt (s : BitVec 32) : (low24 s).toNat < 16777216 := by rw [low24_toNat]; omega
theorem low24_of_lt (s : BitVec 32) (h : s.toNat < 16777216) : low24 s = s := by
  apply BitVec.eq_of_toNat_eq; rw [low24_toNat]; omega
theorem rem24 (s : BitVec 32) : n32 s % 16777216 = n32 (low24 s) := by
  unfold n32; rw [low24_toNat]; simp
theorem shl4_form (s : BitVec 32) (h : s.toNat < 16777216) : n32 s * (16 : Int) = n32 (s <<< 4) := by
  unfold n32; rw [BitVec.toNat_shiftLeft, Nat.shiftLeft_eq, Nat.mod_eq_of_lt (by omega)]; simp
theorem shl16_form (x : UInt8) : n8 x * (65536 : Int) = n32 (w8 x <<< 16) := by
  have := w8_lt x
  unfold n8 n32; rw [BitVec.toNat_shiftLeft, Nat.shiftLeft_eq, Nat.mod_eq_of_lt (by omega), w8_toNat]; simp



theorem dbls_succ (n : Nat) (s : BitVec 32) : dbls (n + 1) s = dbl (dbls n s) := by rw [dbls_add]; rfl
theorem bit23 (u : BitVec 32) (h : u.toNat < 16777216) : u.getLsbD 23 = decide (8388608 ≤ u.toNat) := by
  rw [BitVec.getLsbD, Nat.testBit_eq_decide_div_mod_eq]
  rcases Nat.lt_or_ge u.toNat 8388608 with h1 | h1
  · have : u.toNat / 2 ^ 23 = 0 := by omega
    rw [this]; simp; omega
  · have : u.toNat / 2 ^ 23 = 1 := by omega
    rw [this]; simp; omega
theorem shl1_form (u : BitVec 32) (h : u.toNat < 16777216) : (2 : Int) * n32 u = n32 (u <<< 1) := by
  unfold n32; rw [BitVec.toNat_shiftLeft, Nat.shiftLeft_eq, Nat.mod_eq_of_lt (by omega)]; simp; omega
theorem dbl_hi (u : BitVec 32) (h : u.toNat < 16777216) (h1 : 8388608 ≤ u.toNat) : bits .xor .u32 ((2 : Int) * n32 u) 25578747 = n32 (dbl u) := by
  rw [shl1_form u h, show (25578747 : Int) = n32 0x1864CFB#32 from rfl, bits_xor32]
  unfold dbl; rw [bit23 u h]; simp [h1]
theorem dbl_lo (u : BitVec 32) (h : u.toNat < 16777216) (h1 : u.toNat < 8388608) : (2 : Int) * n32 u = n32 (dbl u) := by
  rw [shl1_form u h]; unfold dbl; rw [bit23 u h]; simp [Nat.not_le.2 h1]
theorem rem24' (s : BitVec 32) : (n32 s).tmod 16777216 = n32 (low24 s) := by
  rw [Int.tmod_eq_emod_of_nonneg (ge32 s), rem24]
theorem crc_take_all (s : BitVec 32) (bs : List UInt8) (k : Nat) (h : bs.length ≤ k) : crc s (bs.take k) = crc s bs := by rw [List.take_of_length_le h]





def digits : List UInt8 := [49, 50, 51, 52, 53, 54, 55, 56, 57]

end Go.Proofs.Ytgfcindkfnjeoaa
namespace Go.Proofs.Ytgfcindkfnjeoaa
open Go.RowKit

theorem own_empty (w : World) (base n : Nat) (hn : n = w.heap.size) (hb : base ≤ w.heap.size) : Own (w.alloc (.cells #[] 5)) base (.slice (some ⟨n, 0, none⟩) 0 0) [] := by
  subst hn
  exact ⟨rfl, .inr ⟨w.heap.size, 0, #[], rfl, hb, heap_alloc_new w _, Nat.le_refl _, Nat.zero_le _, rfl, rfl⟩⟩
theorem Seg.shape {w : World} {v : Value} {bs : List UInt8} (h : Seg w v bs) : ∃ ao c, v = .slice ao bs.length c := by
  rcases h with ⟨rfl, ao', c', h, _⟩ | ⟨b, off, c', h, _⟩
  · exact ⟨_, _, h⟩
  · exact ⟨_, _, h⟩
theorem elem_bytes : Try.prog.elem 26 = 5 := by kernel_rfl
theorem size_byte (w : World) : (sizeOf 5).run Try.prog w = .ok 1 w := by kernel_rfl
theorem add_zero_addr (ao : Option Addr) : ao.map (·.add 0) = ao := by
  cases ao with
  | none => rfl
  | some a => obtain ⟨b, o, s⟩ := a; simp [Addr.add]
theorem slice_to (ao : Option Addr) (len c n : Nat) (h : n ≤ c) (w : World) : (Instr.slice 26 (.slice ao len c) none (some (.int .i64 (n : Int))) none).run Try.prog w = .ok (.slice ao n c) w := by
  rw [run_slice_h w 26 ao len c (by rw [elem_bytes]; exact Try.underlying26) .i64 n (by omega) (by omega), elem_bytes, size_byte]
  simp only [Result.andThen_ok, sliced, Int.toNat_natCast, Nat.zero_mul, add_zero_addr, Nat.sub_zero, ite_self]
theorem Seg.takes {w : World} {ao : Option Addr} {len c : Nat} {bs : List UInt8} (h : Seg w (.slice ao len c) bs) (n : Nat) (hn : n ≤ len) : Seg w (.slice ao n c) (bs.take n) ∧ n ≤ c := by
  rcases h with ⟨rfl, ao', c', h, h2⟩ | ⟨b, off, c', h, h2, h3, h4⟩
  · cases h
    obtain rfl : n = 0 := by omega
    exact ⟨.inl ⟨rfl, _, _, rfl, h2⟩, Nat.zero_le _⟩
  · cases h
    exact ⟨Seg.of_row (h3.take n) (by simp; omega) (by omega) h4, by omega⟩
theorem grown_transB {a b c : World} {row : Option Nat} (h : a.grownBy b row) (k : b.grownBy c row) : a.grownBy c row := World.grownBy.trans h k
end Go.Proofs.Ytgfcindkfnjeoaa
namespace Go.Proofs.Ytgfcindkfnjeoaa
open Go.RowKit

theorem seg_string {w : World} {v : Value} {bs : List UInt8} (h : Seg w v bs) (t : TypeId) (ht : Try.prog.underlying t = some .string) : (convert 26 t v).run Try.prog w = .ok (.string ⟨bs.toArray⟩) w := by
  rcases h with ⟨rfl, ao, c, rfl, _⟩ | ⟨b, off, c, rfl, _, hr, _⟩
  · rw [run_convert_bytes_string w 26 t 5 _ 0 c Try.underlying26 Try.underlying5 ht]
    cases ao <;> simp [Conv.bytesToString, loadCells]
    all_goals rfl
  · exact run_convert_bytes_back w 26 t 5 ⟨b, off, none⟩ c bs Try.underlying26 Try.underlying5 ht (fun j hj => by rw [Addr.add_mid]; exact hr j hj)
theorem xor8 (a b : UInt8) : bits .xor .u8 (n8 a) (n8 b) = n8 (a ^^^ b) := by
  show IntKind.u8.wrap ((BitVec.ofInt 8 (a.toNat : Int) ^^^ BitVec.ofInt 8 (b.toNat : Int)).toNat : Int) = _
  have h : ∀ x : UInt8, BitVec.ofInt 8 (x.toNat : Int) = x.toBitVec := fun x => by
    rw [BitVec.ofInt_natCast]; exact BitVec.eq_of_toNat_eq (by simp)
  rw [h, h, wrap_u8_nat]
  show _ = (((a ^^^ b).toNat : Nat) : Int)
  rw [UInt8.toNat_xor, BitVec.toNat_xor]
  have h1 := a.toNat_lt
  have h2 := b.toNat_lt
  exact congrArg (fun n : Nat => (n : Int)) (Nat.mod_eq_of_lt (Nat.xor_lt_two_pow (n := 8) h1 h2))
theorem Own.set {w : World} {base g n c : Nat} {bs : List UInt8} (h : Own w base (.slice (some ⟨g, 0, none⟩) n c) bs) (i : Nat) (y : UInt8) :
    Row (w.setCell ⟨g, i, none⟩ (v8 y)) g 0 (bs.set i y) ∧ w.frozen? ⟨g, i, none⟩ = false := by
  rcases h.2 with ⟨h1, _⟩ | ⟨g', cap, cur, h1, h2, h3, h4, h5, h6, h7⟩
  · cases h1
  · cases h1
    have hb : Blk w g 5 cur := h3
    refine ⟨fun j hj => ?_, hb.frozen i⟩
    have hj' : j < bs.length := by simpa using hj
    have hcur : cur[j]? = some (v8 bs[j]) := by
      have := congrArg (fun l => l[j]?) h7
      simp [hj'] at this
      simpa using this
    rw [Nat.zero_add, (hb.set i (v8 y)).cell (v := v8 ((bs.set i y)[j])) ?_]
    rw [Array.getElem?_setIfInBounds, List.getElem_set]
    by_cases he : i = j
    · subst he
      have : i < cur.size := (Array.getElem?_eq_some_iff.1 hcur).1
      simp [this]
    · simp [he, hcur]
theorem n32_beq (a b : BitVec 32) : (n32 a == n32 b) = decide (a = b) := by
  unfold n32
  by_cases h : a = b
  · simp [h]
  · have : ¬ a.toNat = b.toNat := fun e => h (BitVec.eq_of_toNat_eq e)
    simp [h]; omega
theorem seg_nil (w : World) : Seg w (.slice none 0 0) [] := .inl ⟨rfl, none, 0, rfl, fun _ => rfl⟩
theorem Seg.len {w : World} {ao : Option Addr} {n c : Nat} {bs : List UInt8} (h : Seg w (.slice ao n c) bs) : bs.length = n := by
  rcases h with ⟨rfl, ao', c', h, _⟩ | ⟨b, off, c', h, _⟩
  · cases h; rfl
  · cases h; rfl

theorem Seg.form {w : World} {ao : Option Addr} {n c : Nat} {bs : List UInt8} (h : Seg w (.slice ao n c) bs) (hn : 0 < n) : ∃ b off, ao = some ⟨b, off, none⟩ ∧ n ≤ c ∧ Row w b off bs ∧ b < w.heap.size := by
  rcases h with ⟨rfl, ao', c', h, _⟩ | ⟨b, off, c', h, h2, h3, h4⟩
  · cases h; omega
  · cases h; exact ⟨b, off, rfl, h2, h3, h4⟩

theorem slice_from (b off len c lo : Nat) (h : lo ≤ len) (hc : lo < c) (w : World) : (Instr.slice 26 (.slice (some ⟨b, off, none⟩) len c) (some (.int .i64 (lo : Int))) none none).run Try.prog w = .ok (.slice (some ⟨b, off + lo, none⟩) (len - lo) (c - lo)) w := by
  rw [run_slice_l w 26 (some ⟨b, off, none⟩) len c (by rw [elem_bytes]; exact Try.underlying26) .i64 lo (by omega) (by omega), elem_bytes, size_byte]
  simp only [Result.andThen_ok, sliced, Int.toNat_natCast, Nat.mul_one]
  rw [if_neg (by omega), Option.map_some, Addr.add_mid]

theorem mk_bytes (n : Nat) (h : n ≤ 1000000000) (f : Nat → Value) (w : World) : (Instr.makeSlice 26 (.int .i64 (n : Int)) (.int .i64 (n : Int))).run Try.prog w = .ok (.slice (some ⟨w.heap.size, 0, none⟩) n n) (w.alloc (.cells (upTo n 0 f (.int .u8 0)) 5)) := by
  obtain ⟨i0, hi, hz0, hz1, hz2⟩ := info_parts Try.info5
  rw [run_make w 26 5 i0 (.int .u8 0) Try.underlying26 hi hz0 .i64 .i64 n n (by omega) (by omega) (by rw [hz2]; omega) (by omega)]
  rw [hz1, Int.toNat_natCast, Nat.mul_one]
  have e : madeCells (Value.int .u8 0).cells n = upTo n 0 f (.int .u8 0) := by
    apply Array.ext
    · rw [size_madeCells, upTo_size]
    · intro i h1 h2
      rw [size_madeCells] at h1
      have := upTo_at n 0 f (.int .u8 0) i h1
      rw [Array.getElem?_eq_getElem h2] at this
      rw [Option.some.inj this]
      simp [madeCells, Value.cells, Nat.mod_one]
  rw [e]
end Go.Proofs.Ytgfcindkfnjeoaa
