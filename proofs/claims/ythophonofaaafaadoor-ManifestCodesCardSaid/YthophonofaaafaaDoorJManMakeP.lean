/-
  What is proved here: an image's manifest as plain data: its chunks, that it may be, that it tells of the image, and what a turned byte does.
  Conditions: those that each fact names.
-/
import Derived.Test.YthophonofaaafaaDoorJManPure
import Derived.Test.YthophonofaaafaaDoorJShaEight
namespace Go.Proofs.YthophonofaaafaaDoor
open Go.RowKit

/-- The chunk i of an image. -/
def chunkB (bs : List UInt8) (c i : Nat) : List UInt8 := (bs.drop (c * i)).take c
def sumsM (bs : List UInt8) (c n : Nat) : List (BitVec 32) := (List.range n).map fun i => crcOf (chunkB bs c i)
theorem sumsM_len (bs : List UInt8) (c n : Nat) : (sumsM bs c n).length = n := by simp [sumsM]
theorem sumsM_succ (bs : List UInt8) (c n : Nat) : sumsM bs c (n + 1) = sumsM bs c n ++ [crcOf (chunkB bs c n)] := by simp [sumsM, List.range_succ]
theorem sumsM_at (bs : List UInt8) (c n i : Nat) (h : i < n) : (sumsM bs c n)[i]? = some (crcOf (chunkB bs c i)) := by simp [sumsM, h]
/-- An image's numbers, and its manifest. -/
def numsM (v : Int) (bs : List UInt8) (c : Int) : MM := ⟨v, bs.length, c, List.replicate 32 0, []⟩
def makeM (v : Int) (bs : List UInt8) (c : Int) : MM := ⟨v, bs.length, c, shaOf bs, sumsM bs c.toNat (countM (numsM v bs c)).toNat⟩
def zeroM : MM := ⟨0, 0, 0, List.replicate 32 0, []⟩
theorem zeroM_not : ¬ numsOk zeroM := fun h => by have := h.1.1; simp [zeroM] at this
theorem makeM_nums (v : Int) (bs : List UInt8) (c : Int) : numsOk (makeM v bs c) ↔ numsOk (numsM v bs c) := Iff.rfl
theorem makeM_count (v : Int) (bs : List UInt8) (c : Int) : countM (makeM v bs c) = countM (numsM v bs c) := rfl
theorem makeM_hash (v : Int) (bs : List UInt8) (c : Int) : (makeM v bs c).h.length = 32 := wbytes_len _
theorem makeM_ok {v : Int} {bs : List UInt8} {c : Int} (h : numsOk (numsM v bs c)) : okM (makeM v bs c) := by
  have h1 := countM_pos h
  refine ⟨h, ?_, fun x hx => ?_⟩
  · show ((sumsM bs c.toNat (countM (numsM v bs c)).toNat).length : Int) = countM (numsM v bs c)
    rw [sumsM_len]; omega
  · obtain ⟨i, _, rfl⟩ := List.mem_map.1 (show x ∈ (List.range _).map _ from hx)
    exact crcOf_lt _
/-- What Span tells. -/
def spanE (m : MM) (i : Int) : Int × Int × Int := if 0 ≤ i ∧ okM m ∧ i < countM m then (atM m i, lenM m i, 0) else (0, 0, 1)
def countE (m : MM) : Int := if okM m then countM m else 0
/-- Whether bytes may be a chunk; whether they are the image. -/
def isChunk (m : MM) (i : Int) (bs : List UInt8) : Bool := decide ((spanE m i).2.2 = 0 ∧ (bs.length : Int) = (spanE m i).2.1 ∧ m.u[i.toNat]? = some (crcOf bs))
def isWhole (m : MM) (bs : List UInt8) : Bool := decide (okM m ∧ (bs.length : Int) = m.s ∧ shaOf bs = m.h)
theorem countE_le (m : MM) : 0 ≤ countE m ∧ countE m ≤ 128 := by
  unfold countE
  split
  · rename_i h
    have h1 := countM_pos h.1
    have h2 := h.1.2.2.2
    omega
  · omega
theorem spanE_yes {m : MM} {i : Int} (h0 : 0 ≤ i) (h1 : okM m) (h2 : i < countM m) : spanE m i = (atM m i, lenM m i, 0) := if_pos ⟨h0, h1, h2⟩
theorem spanE_no {m : MM} {i : Int} (h : ¬ (0 ≤ i ∧ i < countE m)) : spanE m i = (0, 0, 1) := by
  refine if_neg fun ⟨h0, h1, h2⟩ => h ⟨h0, ?_⟩
  unfold countE; rw [if_pos h1]; exact h2
theorem chunkB_take (bs : List UInt8) (c i : Nat) : chunkB bs c i = (bs.drop (c * i)).take (chunkB bs c i).length := by
  have hl : (chunkB bs c i).length = min c (bs.length - c * i) := by simp [chunkB]
  rw [hl]
  unfold chunkB
  rw [List.take_eq_take_iff]; simp
/-- A chunk's place as natural numbers. -/
theorem make_span {v : Int} {bs : List UInt8} {c : Int} (h : numsOk (numsM v bs c)) (i : Nat) (hi : (i : Int) < countM (numsM v bs c)) :
    spanE (makeM v bs c) i = (((c.toNat * i : Nat) : Int), ((chunkB bs c.toNat i).length : Int), 0) ∧ c.toNat * i + (chunkB bs c.toNat i).length ≤ bs.length ∧ 0 < (chunkB bs c.toNat i).length ∧ (chunkB bs c.toNat i).length ≤ 1024 ∧ chunkB bs c.toNat i = (bs.drop (c.toNat * i)).take (chunkB bs c.toNat i).length := by
  have hb := span_bounds h (by omega) hi
  have hs := spanE_yes (m := makeM v bs c) (i := i) (by omega) (makeM_ok h) hi
  obtain ⟨_, ⟨s1, s2⟩, ⟨d1, d2⟩, _⟩ := h
  have hl : (chunkB bs c.toNat i).length = min c.toNat (bs.length - c.toNat * i) := by simp [chunkB]
  obtain ⟨C, rfl⟩ : ∃ C : Nat, c = C := ⟨c.toNat, (Int.toNat_of_nonneg (show 0 ≤ c by have : 16 ≤ c := d1; omega)).symm⟩
  have e1 : atM (numsM v bs C) i = ((C * i : Nat) : Int) := by simp [atM, numsM]
  have e2 : lenM (numsM v bs C) i = min (C : Int) ((bs.length : Int) - ((C * i : Nat) : Int)) := by simp [lenM, numsM]
  have e3 : (numsM v bs (C : Int)).s = (bs.length : Int) := rfl
  rw [e1, e2, e3] at hb
  have e4 : spanE (makeM v bs C) i = (atM (numsM v bs C) i, lenM (numsM v bs C) i, 0) := hs
  simp only [Int.toNat_natCast] at hl ⊢
  have ht := chunkB_take bs C i
  generalize C * i = A at *
  refine ⟨?_, by omega, by omega, by have : (C : Int) ≤ 1024 := d2; omega, ?_⟩
  · rw [e4, e1, e2, hl]
    refine Prod.ext rfl (Prod.ext ?_ rfl)
    show min (C : Int) ((bs.length : Int) - (A : Int)) = ((min C (bs.length - A) : Nat) : Int)
    omega
  · exact ht
theorem make_sum {v : Int} {bs : List UInt8} {c : Int} (h : numsOk (numsM v bs c)) (i : Nat) (hi : (i : Int) < countM (numsM v bs c)) : (makeM v bs c).u[i]? = some (crcOf (chunkB bs c.toNat i)) :=
  sumsM_at bs c.toNat _ i (by have := countM_pos h; omega)
/-- One byte that is unlike makes another sum. -/
theorem step_apart (s : BitVec 32) (x y : UInt8) (hs : s.toNat < 16777216) (h : step s x = step s y) : x = y := by
  have e1 : dbls 8 (s ^^^ (w8 x <<< 16)) ^^^ dbls 8 (s ^^^ (w8 y <<< 16)) = 0#32 := by
    have h2 : dbls 8 (s ^^^ (w8 x <<< 16)) = dbls 8 (s ^^^ (w8 y <<< 16)) := h
    rw [h2, BitVec.xor_self]
  rw [← dbls_xor] at e1
  have e2 := dbls_eq_zero 8 _ (xor_lt _ _ (xor_lt _ _ hs (shl_lt x)) (xor_lt _ _ hs (shl_lt y))) e1
  have e3 : s ^^^ (w8 x <<< 16) ^^^ (s ^^^ (w8 y <<< 16)) = (w8 x <<< 16) ^^^ (w8 y <<< 16) := by
    rw [BitVec.xor_comm s, BitVec.xor_assoc, ← BitVec.xor_assoc s s, BitVec.xor_self, BitVec.zero_xor]
  rw [e3] at e2
  have e4 : w8 x <<< 16 = w8 y <<< 16 := by
    have := congrArg (fun z => z ^^^ (w8 y <<< 16)) e2
    simpa [BitVec.xor_assoc] using this
  have e5 := congrArg BitVec.toNat e4
  rw [BitVec.toNat_shiftLeft, BitVec.toNat_shiftLeft, Nat.shiftLeft_eq, Nat.shiftLeft_eq, w8_toNat, w8_toNat] at e5
  have h1 := x.toNat_lt
  have h2 := y.toNat_lt
  exact UInt8.toNat_inj.1 (by omega)
theorem crc_one_apart (a t : List UInt8) (x y : UInt8) (h : crcOf (a ++ x :: t) = crcOf (a ++ y :: t)) : x = y := by
  unfold crcOf at h
  rw [crc_append, crc_append] at h
  have hs : (crc 0xB704CE#32 a).toNat < 16777216 := crc_lt a _ (by decide)
  exact step_apart _ x y hs ((crc_apart t _ _ (step_lt _ _ hs) (step_lt _ _ hs)).1 h)
theorem crc_set_apart (bs : List UInt8) (k : Nat) (hk : k < bs.length) (y : UInt8) (h : crcOf (bs.set k y) = crcOf bs) : y = bs[k] := by
  have e1 : bs = bs.take k ++ bs[k] :: bs.drop (k + 1) := by simp
  have e2 : bs.set k y = bs.take k ++ y :: bs.drop (k + 1) := by rw [List.set_eq_take_append_cons_drop, if_pos hk]
  rw [e2] at h
  have h' : crcOf (bs.take k ++ y :: bs.drop (k + 1)) = crcOf (bs.take k ++ bs[k] :: bs.drop (k + 1)) := by rw [h]; exact congrArg crcOf e1
  exact crc_one_apart _ _ _ _ h'
theorem chunk_set_out (bs : List UInt8) (c i k : Nat) (y : UInt8) (h : k < c * i ∨ c * i + (chunkB bs c i).length ≤ k) : chunkB (bs.set k y) c i = chunkB bs c i := by
  have hl : (chunkB bs c i).length = min c (bs.length - c * i) := by simp [chunkB]
  rw [hl] at h
  apply List.ext_getElem?
  intro j
  simp only [chunkB, List.getElem?_take, List.getElem?_drop, List.getElem?_set]
  by_cases hj : j < c
  · simp only [hj, if_true]
    by_cases he : k = c * i + j
    · have h2 : bs.length ≤ c * i + j := by omega
      rw [if_pos he, List.getElem?_eq_none (l := bs) h2]
      split
      · omega
      · rfl
    · simp [he]
  · simp [hj]
theorem chunk_set_in (bs : List UInt8) (c i k : Nat) (y : UInt8) (h1 : c * i ≤ k) (h2 : k < c * i + (chunkB bs c i).length) : chunkB (bs.set k y) c i = (chunkB bs c i).set (k - c * i) y := by
  have hl : (chunkB bs c i).length = min c (bs.length - c * i) := by simp [chunkB]
  rw [hl] at h2
  unfold chunkB
  rw [List.drop_set, if_neg (by omega)]
  apply List.ext_getElem?
  intro j
  simp only [List.getElem?_take, List.getElem?_set, List.length_take]
  by_cases hj : j < c
  · simp only [hj, if_true]
    by_cases he : k - c * i = j
    · have e1 : j < bs.length - c * i := by omega
      have e2 : j < min c (bs.length - c * i) := by omega
      simp [he, e1, e2]
    · simp [he]
  · have hne : ¬ k - c * i = j := by omega
    simp [hj, hne]
end Go.Proofs.YthophonofaaafaaDoor
