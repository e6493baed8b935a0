/-
  What is proved here: plain facts on the places of a flash's blocks: what is programmed or erased elsewhere leaves them as they are.
  Conditions: those that each fact names.
-/
import Derived.Test.YtgoehohadnkpdaaDoorJBootPure
namespace Go.Proofs.YtgoehohadnkpdaaDoor

/-- A place's bytes in a flash. -/
def plB (s : FS) (q i : Nat) : List UInt8 := cellB (blkB s q) i
theorem pl_at (s : FS) (q i : Nat) (hi : i < 32) : plB s q i = (s.b.drop (1024 * q + 32 * i)).take 32 := by
  unfold plB cellB blkB
  rw [List.drop_take, List.take_take, List.drop_drop]
  congr 1
  omega
theorem part_getD (l : List UInt8) (a n i : Nat) (hi : i < n) : ((l.drop a).take n).getD i 0 = l.getD (a + i) 0 := by
  rw [List.getD_eq_getElem?_getD, List.getElem?_take_of_lt hi, List.getElem?_drop, ← List.getD_eq_getElem?_getD]
theorem part_len (l : List UInt8) (a n : Nat) (h : a + n ≤ l.length) : ((l.drop a).take n).length = n := by
  rw [List.length_take, List.length_drop]
  omega
theorem rep_getD (n i : Nat) (h : i < n) : (List.replicate n (255 : UInt8)).getD i 0 = 255 := by
  rw [List.getD_eq_getElem?_getD, List.getElem?_replicate, if_pos h]
  rfl
/-- Programmed elsewhere: as it was. -/
theorem prog_else (l bs : List UInt8) (a c : Nat) (hc : c + 32 ≤ l.length) (hd : c + 32 ≤ a ∨ a + 32 ≤ c) : ((progL l a bs 32).drop c).take 32 = (l.drop c).take 32 := by
  refine bytes_ext (by rw [part_len _ _ _ (by rw [progL_len]; exact hc), part_len _ _ _ hc]) fun i hi => ?_
  rw [part_len _ _ _ (by rw [progL_len]; exact hc)] at hi
  rw [part_getD _ _ _ _ hi, part_getD _ _ _ _ hi, progL_at _ _ _ _ _ (by omega), if_neg (by omega)]
theorem and_255 (x : UInt8) : 255 &&& x = x := by
  apply UInt8.eq_of_toBitVec_eq
  have : (255 &&& x).toBitVec = 255#8 &&& x.toBitVec := rfl
  rw [this]
  exact BitVec.allOnes_and
/-- Programmed where all is ones: what was programmed. -/
theorem prog_here (l bs : List UInt8) (a : Nat) (hc : a + 32 ≤ l.length) (hb : bs.length = 32) (ho : (l.drop a).take 32 = List.replicate 32 255) : ((progL l a bs 32).drop a).take 32 = bs := by
  refine bytes_ext (by rw [part_len _ _ _ (by rw [progL_len]; exact hc), hb]) fun i hi => ?_
  rw [part_len _ _ _ (by rw [progL_len]; exact hc)] at hi
  have h1 := part_getD l a 32 i hi
  rw [ho] at h1
  have h2 := rep_getD 32 i hi
  rw [part_getD _ _ _ _ hi, progL_at _ _ _ _ _ (by omega), if_pos (by omega), ← h1, h2, show a + i - a = i by omega, and_255]
theorem ones_else (l : List UInt8) (a c : Nat) (hc : c + 32 ≤ l.length) (hd : c + 32 ≤ a ∨ a + 1024 ≤ c) : ((onesL l a 1024).drop c).take 32 = (l.drop c).take 32 := by
  refine bytes_ext (by rw [part_len _ _ _ (by rw [onesL_len]; exact hc), part_len _ _ _ hc]) fun i hi => ?_
  rw [part_len _ _ _ (by rw [onesL_len]; exact hc)] at hi
  rw [part_getD _ _ _ _ hi, part_getD _ _ _ _ hi, onesL_at _ _ _ _ (by omega), if_neg (by omega)]
theorem ones_here (l : List UInt8) (a c : Nat) (hc : c + 32 ≤ l.length) (h1 : a ≤ c) (h2 : c + 32 ≤ a + 1024) : ((onesL l a 1024).drop c).take 32 = List.replicate 32 255 := by
  refine bytes_ext (by rw [part_len _ _ _ (by rw [onesL_len]; exact hc), List.length_replicate]) fun i hi => ?_
  rw [part_len _ _ _ (by rw [onesL_len]; exact hc)] at hi
  rw [part_getD _ _ _ _ hi, onesL_at _ _ _ _ (by omega), if_pos (by omega), rep_getD 32 i hi]
theorem blk_new (n wear j : Nat) (h : j < n) : blkB (newF n wear) j = List.replicate 1024 255 := by
  unfold blkB newF
  rw [List.drop_replicate, List.take_replicate]
  congr 1
  omega
theorem cell_ones (i : Nat) (h : i < 32) : cellB (List.replicate 1024 255) i = List.replicate 32 255 := by
  unfold cellB
  rw [List.drop_replicate, List.take_replicate]
  congr 1
  omega
theorem all_ones {l : List UInt8} {n : Nat} (hl : l.length = n) (h : l.all (· == 255) = true) : l = List.replicate n 255 := by
  rw [List.eq_replicate_iff]
  refine ⟨hl, fun b hb => ?_⟩
  have := List.all_eq_true.1 h b hb
  simpa using this
theorem pl_len {s : FS} {n : Nat} (h : s.ok n) (q i : Nat) (hq : q < n) (hi : i < 32) : (plB s q i).length = 32 := by
  rw [pl_at s q i hi, part_len _ _ _ (by rw [h.b]; omega)]
/-- Programmed elsewhere, so many bytes: as it was. -/
theorem prog_elseN (l bs : List UInt8) (a m c : Nat) (hc : c + 32 ≤ l.length) (hd : c + 32 ≤ a ∨ a + m ≤ c) : ((progL l a bs m).drop c).take 32 = (l.drop c).take 32 := by
  refine bytes_ext (by rw [part_len _ _ _ (by rw [progL_len]; exact hc), part_len _ _ _ hc]) fun i hi => ?_
  rw [part_len _ _ _ (by rw [progL_len]; exact hc)] at hi
  rw [part_getD _ _ _ _ hi, part_getD _ _ _ _ hi, progL_at _ _ _ _ _ (by omega), if_neg (by omega)]
end Go.Proofs.YtgoehohadnkpdaaDoor
