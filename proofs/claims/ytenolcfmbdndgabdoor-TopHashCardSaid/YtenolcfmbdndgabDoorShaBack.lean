/-
  What is proved here: what sha.Load makes of the bytes of a saved state is that state again; with a byte more or less they are no saved state.
  Conditions: at most 2 to the 40 bytes were written.
-/
import Derived.Test.YtenolcfmbdndgabDoorShaLoadOk
namespace Go.Proofs.YtenolcfmbdndgabDoor
open Go.RowKit

theorem ofNat8 (n : Nat) : (UInt8.ofNat n).toNat = n % 256 := by simp
theorem be8_back (n : Nat) (h : n < 18446744073709551616) : beNat (be8 n) = n := by
  show (((((((0 * 256 + (be8at n 0).toNat) * 256 + (be8at n 1).toNat) * 256 + (be8at n 2).toNat) * 256 + (be8at n 3).toNat) * 256 + (be8at n 4).toNat) * 256 + (be8at n 5).toNat) * 256 + (be8at n 6).toNat) * 256 + (be8at n 7).toNat = n
  unfold be8at
  rw [ofNat8, ofNat8, ofNat8, ofNat8, ofNat8, ofNat8, ofNat8, ofNat8]
  simp only [Nat.sub_zero, Nat.sub_self, Nat.mul_zero, Nat.pow_zero, Nat.div_one, Nat.zero_mul, Nat.zero_add, Nat.reduceSub, Nat.reduceMul, Nat.reducePow]
  omega
theorem be4_back (x : BitVec 32) : BitVec.ofNat 32 (beNat [UInt8.ofNat (x.toNat / 2 ^ (8 * 3)), UInt8.ofNat (x.toNat / 2 ^ (8 * 2)), UInt8.ofNat (x.toNat / 2 ^ (8 * 1)), UInt8.ofNat (x.toNat / 2 ^ (8 * 0))]) = x := by
  have hx := x.isLt
  have e : beNat [UInt8.ofNat (x.toNat / 2 ^ (8 * 3)), UInt8.ofNat (x.toNat / 2 ^ (8 * 2)), UInt8.ofNat (x.toNat / 2 ^ (8 * 1)), UInt8.ofNat (x.toNat / 2 ^ (8 * 0))] = x.toNat := by
    show (((0 * 256 + _) * 256 + _) * 256 + _) * 256 + _ = _
    rw [ofNat8, ofNat8, ofNat8, ofNat8]
    simp only [Nat.mul_zero, Nat.pow_zero, Nat.div_one, Nat.zero_mul, Nat.zero_add, Nat.reduceMul, Nat.reducePow]
    omega
  rw [e]
  apply BitVec.eq_of_toNat_eq
  rw [BitVec.toNat_ofNat]; omega
theorem stIn_save (s : St) (r : List UInt8) : stIn (wbytes s.list ++ r) = s := by
  have h : ∀ (k : Nat) (x : BitVec 32), ((wbytes s.list ++ r).drop (4 * k)).take 4 = [UInt8.ofNat (x.toNat / 2 ^ (8 * 3)), UInt8.ofNat (x.toNat / 2 ^ (8 * 2)), UInt8.ofNat (x.toNat / 2 ^ (8 * 1)), UInt8.ofNat (x.toNat / 2 ^ (8 * 0))] → wordAt (wbytes s.list ++ r) k = x := fun k x hk => by
    unfold wordAt; rw [hk, be4_back]
  unfold stIn
  rw [h 0 s.a rfl, h 1 s.b rfl, h 2 s.c rfl, h 3 s.d rfl, h 4 s.e rfl, h 5 s.f rfl, h 6 s.g rfl, h 7 s.h rfl]
theorem save_len (s : St) (d : List UInt8) (n : Nat) : (saveOf s d n).length = 40 + d.length % 64 := by
  simp [saveOf, wbytes_len, be8_len, restOf_len]; omega
theorem save_stIn (s : St) (d : List UInt8) (n : Nat) (r : List UInt8) : stIn (saveOf s d n ++ r) = wordsOf s d := by
  unfold saveOf
  rw [List.append_assoc, List.append_assoc]
  exact stIn_save _ _
theorem save_lenIn (s : St) (d : List UInt8) (n : Nat) (r : List UInt8) (h : n < 18446744073709551616) : lenIn (saveOf s d n ++ r) = n := by
  unfold lenIn saveOf
  rw [List.append_assoc, List.append_assoc, List.drop_left' (wbytes_len _), List.take_left' (be8_len n), be8_back n h]
theorem save_rest (s : St) (d : List UInt8) (n : Nat) : (saveOf s d n).drop 40 = restOf d := by
  unfold saveOf
  exact List.drop_left' (by simp [wbytes_len, be8_len])
theorem save_ok (s : St) (d : List UInt8) (n : Nat) (h : n ≤ 1099511627776) (hm : n % 64 = d.length % 64) : saveOk (saveOf s d n) := by
  have h1 := save_lenIn s d n [] (by omega)
  rw [List.append_nil] at h1
  refine ⟨by rw [save_len]; omega, by rw [h1]; exact h, by rw [h1, save_len]; omega⟩
/-- sha.Load of a saved state. -/
theorem load_save (x : Value) (s : St) (d : List UInt8) (n : Nat) (w : World) (hseg : Seg w x (saveOf s d n)) (h : n ≤ 1099511627776) (hm : n % 64 = d.length % 64) :
    Calls Tryd.prog 14 #[x] w fun e w' => ∃ g, e = .returned (.tuple #[.pointer (some ⟨g, 0, none⟩), .int .i64 0]) ∧ w.heap.size ≤ g ∧ HashAt w' g s d n ∧ Below w.heap.size w w' := by
  have h1 := save_lenIn s d n [] (by omega)
  have h2 := save_stIn s d n []
  rw [List.append_nil] at h1 h2
  refine (load_ok x _ w (by rw [save_len]; omega) hseg (save_ok s d n h hm)).mono ?_
  rintro e w' ⟨g, rfl, hg, hb, hbl⟩
  rw [h1, h2, save_rest] at hb
  exact ⟨g, rfl, hg, hb, hbl⟩
/-- One byte more, or one less. -/
theorem save_more (s : St) (d : List UInt8) (n : Nat) (y : UInt8) (h : n ≤ 1099511627776) (hm : n % 64 = d.length % 64) : ¬ saveOk (saveOf s d n ++ [y]) := by
  rintro ⟨_, _, h3⟩
  rw [save_lenIn s d n [y] (by omega), List.length_append, save_len] at h3
  simp at h3
  omega
theorem save_less (s : St) (d : List UInt8) (n : Nat) (h : n ≤ 1099511627776) (hm : n % 64 = d.length % 64) : ¬ saveOk ((saveOf s d n).take ((saveOf s d n).length - 1)) := by
  rintro ⟨h1, _, h3⟩
  have hl := save_len s d n
  have hL : lenIn ((saveOf s d n).take ((saveOf s d n).length - 1)) = n := by
    have h0 := save_lenIn s d n [] (by omega)
    rw [List.append_nil] at h0
    rw [List.length_take] at h1
    refine Eq.trans ?_ h0
    unfold lenIn
    rw [List.drop_take, List.take_take, Nat.min_eq_left (by omega)]
  rw [hL, List.length_take] at h3
  rw [List.length_take] at h1
  omega
end Go.Proofs.YtenolcfmbdndgabDoor
