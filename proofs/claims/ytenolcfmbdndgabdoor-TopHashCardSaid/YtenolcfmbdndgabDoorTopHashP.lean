/-
  What is proved here: plain facts on an image of which one byte of one chunk is turned.
  Conditions: those that each fact names.
-/
import Derived.Test.YtenolcfmbdndgabDoorManMore
namespace Go.Proofs.YtenolcfmbdndgabDoor
open Go.RowKit

/-- An image with one byte turned, if there is such a chunk. -/
def topT (bs : List UInt8) (C N : Nat) (x0 x1 : Int) (t : UInt8) : List UInt8 :=
  if 0 ≤ x0 ∧ x0 < N ∧ 0 ≤ x1 then bs.set (C * x0.toNat + x1.toNat % (chunkB bs C x0.toNat).length) (bs.getD (C * x0.toNat + x1.toNat % (chunkB bs C x0.toNat).length) 0 ^^^ t) else bs
theorem topT_len (bs : List UInt8) (C N : Nat) (x0 x1 : Int) (t : UInt8) : (topT bs C N x0 x1 t).length = bs.length := by
  unfold topT
  split <;> simp
theorem chunk_len (bs ts : List UInt8) (C I : Nat) (h : ts.length = bs.length) : (chunkB ts C I).length = (chunkB bs C I).length := by simp [chunkB, h]
theorem take_chunk (ts : List UInt8) (C I : Nat) : ts.take (C * (I + 1)) = ts.take (C * I) ++ chunkB ts C I := by
  unfold chunkB
  rw [Nat.mul_add, Nat.mul_one, List.take_add]
theorem topT_in {v : Int} {bs : List UInt8} {C N : Nat} (h : numsOk (numsM v bs C)) (hN : (N : Int) = countM (numsM v bs C)) (x0 x1 : Int) (t : UInt8) (I : Nat) (hI : I < N) (h0 : x0 = I) (h1 : 0 ≤ x1) :
    chunkB (topT bs C N x0 x1 t) C I = (chunkB bs C I).set (x1.toNat % (chunkB bs C I).length) ((chunkB bs C I).getD (x1.toNat % (chunkB bs C I).length) 0 ^^^ t) ∧ x1.toNat % (chunkB bs C I).length < (chunkB bs C I).length := by
  have hs := make_span h I (by omega)
  simp only [Int.toNat_natCast] at hs
  have hk := Nat.mod_lt x1.toNat hs.2.2.1
  refine ⟨?_, hk⟩
  unfold topT
  subst h0
  rw [if_pos ⟨by omega, by omega, h1⟩, Int.toNat_natCast]
  rw [chunk_set_in bs C I _ _ (by omega) (by omega)]
  have e : C * I + x1.toNat % (chunkB bs C I).length - C * I = x1.toNat % (chunkB bs C I).length := by omega
  rw [e]
  congr 2
  have h2 : (chunkB bs C I).length = min C (bs.length - C * I) := by simp [chunkB]
  generalize x1.toNat % (chunkB bs C I).length = k at *
  simp only [List.getD_eq_getElem?_getD]
  congr 1
  unfold chunkB
  rw [List.getElem?_take, if_pos (by omega), List.getElem?_drop]
theorem topT_out {v : Int} {bs : List UInt8} {C N : Nat} (h : numsOk (numsM v bs C)) (hN : (N : Int) = countM (numsM v bs C)) (x0 x1 : Int) (t : UInt8) (I : Nat) (h0 : ¬ (x0 = I ∧ 0 ≤ x1)) :
    chunkB (topT bs C N x0 x1 t) C I = chunkB bs C I := by
  unfold topT
  split
  · rename_i hc
    obtain ⟨J, rfl⟩ := Int.eq_ofNat_of_zero_le hc.1
    have hs := make_span h J (by omega)
    simp only [Int.toNat_natCast] at hs ⊢
    have hk := Nat.mod_lt x1.toNat hs.2.2.1
    have hJ : J ≠ I := fun e => h0 ⟨by rw [e], hc.2.2⟩
    have hl : (chunkB bs C J).length ≤ C := by simp [chunkB]; omega
    have hlI : (chunkB bs C I).length ≤ C := by simp [chunkB]; omega
    refine chunk_set_out bs C I _ _ ?_
    rcases Nat.lt_or_gt_of_ne hJ with hlt | hgt
    · left
      have := Nat.mul_le_mul_left C (show J + 1 ≤ I by omega)
      rw [Nat.mul_add] at this
      omega
    · right
      have := Nat.mul_le_mul_left C (show I + 1 ≤ J by omega)
      rw [Nat.mul_add] at this
      omega
  · rfl
theorem topT_is {v : Int} {bs : List UInt8} {C N : Nat} (h : numsOk (numsM v bs C)) (hN : (N : Int) = countM (numsM v bs C)) (x0 x1 : Int) (t : UInt8) (I : Nat) (hI : I < N) :
    isChunk (makeM v bs C) I (chunkB (topT bs C N x0 x1 t) C I) = decide (chunkB (topT bs C N x0 x1 t) C I = chunkB bs C I) := by
  have hs := make_span h I (by omega)
  have hu := make_sum h I (by omega)
  have hl := chunk_len bs (topT bs C N x0 x1 t) C I (topT_len bs C N x0 x1 t)
  simp only [Int.toNat_natCast] at hs hu
  unfold isChunk
  rw [hs.1, Int.toNat_natCast, hu]
  refine decide_eq_decide.2 ⟨fun hh => ?_, fun hh => ⟨rfl, by rw [hl], by rw [hh]⟩⟩
  have h3 := (Option.some.inj hh.2.2).symm
  by_cases hc : x0 = I ∧ 0 ≤ x1
  · obtain ⟨e1, hk⟩ := topT_in h hN x0 x1 t I hI hc.1 hc.2
    rw [e1] at h3 ⊢
    have h4 := crc_set_apart (chunkB bs C I) _ hk _ h3
    rw [h4]
    exact List.set_getElem_self hk
  · exact topT_out h hN x0 x1 t I hc
end Go.Proofs.YtenolcfmbdndgabDoor
