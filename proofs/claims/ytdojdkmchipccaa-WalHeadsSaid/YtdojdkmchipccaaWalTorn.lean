/-
  What is proved here: bytes that were written by halves over others: both copies are the same only where all is the one or the other.
  Conditions: those that each fact names.
-/
import Derived.Test.YtdojdkmchipccaaWalPut
namespace Go.Proofs.Ytdojdkmchipccaa
open Go.RowKit

theorem torn_stand {A B : List UInt8} (hA : A.length = 24) (hB : B.length = 24) (hA2 : A.take 12 = A.drop 12) (hB2 : B.take 12 = B.drop 12) {k : Nat} (hk : k ≤ 24) (Z : List UInt8) (h : ((A.take k ++ B.drop k) ++ Z).take 12 = (((A.take k ++ B.drop k) ++ Z).drop 12).take 12) : A.take k ++ B.drop k = A ∨ A.take k ++ B.drop k = B := by
  have hk1 : (A.take k).length = k := by rw [List.length_take]; omega
  have hT : (A.take k ++ B.drop k).length = 24 := by rw [List.length_append, hk1, List.length_drop]; omega
  have key : ∀ T : List UInt8, T.length = 24 → (T ++ Z).take 12 = ((T ++ Z).drop 12).take 12 → T.take 12 = T.drop 12 := fun T hT h => by
    rw [List.take_append_of_le_length (by omega), List.drop_append_of_le_length (by omega), List.take_append_of_le_length (by rw [List.length_drop]; omega)] at h
    rwa [List.take_of_length_le (l := T.drop 12) (by rw [List.length_drop]; omega)] at h
  have h1 := key _ hT h
  have h2 : A.take k ++ B.drop k = (A.take k ++ B.drop k).take 12 ++ (A.take k ++ B.drop k).drop 12 := (List.take_append_drop 12 _).symm
  rcases Nat.lt_or_ge 12 k with hc | hc
  · left
    have h3 : (A.take k ++ B.drop k).take 12 = A.take 12 := by
      rw [List.take_append_of_le_length (by omega), List.take_take, Nat.min_eq_left (by omega)]
    rw [h2, ← h1, h3]
    conv => rhs; rw [← List.take_append_drop 12 A, ← hA2]
  · right
    have h3 : (A.take k ++ B.drop k).drop 12 = B.drop 12 := by
      rw [List.drop_append, List.drop_of_length_le (by omega), List.nil_append, List.drop_drop, hk1]
      congr 1
      omega
    rw [h2, h1, h3]
    conv => rhs; rw [← List.take_append_drop 12 B, hB2]
/-- A sector of bytes H at p, a piece in each bank. -/
def threeS (p : Nat) (H : List UInt8) (q : Nat) (P : List UInt8) (r : Nat) (R : List UInt8) : DS := syncedS (putS (putS (putS (newS 20) p H) q P) r R)
theorem three_write {p q r : Nat} {H P R : List UInt8} (hp : p < 20) (hq : q < 20) (hr : r < 20) (hH : H.length ≤ 128) (hP : P.length ≤ 128) (hR : R.length ≤ 128) : writeS (newS 20) (p : Int) H = (0, putS (newS 20) p H) ∧ writeS (putS (newS 20) p H) (q : Int) P = (0, putS (putS (newS 20) p H) q P) ∧ writeS (putS (putS (newS 20) p H) q P) (r : Int) R = (0, putS (putS (putS (newS 20) p H) q P) r R) ∧ syncS (putS (putS (putS (newS 20) p H) q P) r R) = (0, threeS p H q P r R) :=
  ⟨(two_write hp hq hH hP).1, (two_write hp hq hH hP).2.1, writeS_calm (s := putS (putS (newS 20) p H) q P) ⟨rfl, rfl⟩ (by show _ < (((List.replicate 20 (noughts 128)).set _ _).set _ _).length; rw [List.length_set, List.length_set, List.length_replicate]; exact hr) hR, syncS_calm (s := putS (putS (putS (newS 20) p H) q P) r R) ⟨rfl, rfl⟩⟩
theorem three_now (p : Nat) (H : List UInt8) (q : Nat) (P : List UInt8) (r : Nat) (R : List UInt8) : (threeS p H q P r R).now = (((List.replicate 20 (noughts 128)).set p (padS H)).set q (padS P)).set r (padS R) := rfl
theorem three_len (p : Nat) (H : List UInt8) (q : Nat) (P : List UInt8) (r : Nat) (R : List UInt8) : (threeS p H q P r R).now.length = 20 := by rw [three_now, List.length_set, List.length_set, List.length_set, List.length_replicate]
theorem three_half (p : Nat) (H : List UInt8) (q : Nat) (P : List UInt8) (r : Nat) (R : List UInt8) : halfS (threeS p H q P r R) = 9 := by unfold halfS; rw [three_len]
theorem three_size (p : Nat) (H : List UInt8) (q : Nat) (P : List UInt8) (r : Nat) (R : List UInt8) : sizeS (threeS p H q P r R) = 1152 := by unfold sizeS; rw [three_half]
theorem three_ok {p : Nat} {H : List UInt8} {q : Nat} {P : List UInt8} {r : Nat} {R : List UInt8} (hH : H.length ≤ 128) (hP : P.length ≤ 128) (hR : R.length ≤ 128) : (threeS p H q P r R).ok 20 := ((((newS_ok 20).put p H hH).put q P hP).put r R hR).synced
theorem three_p {p : Nat} (H : List UInt8) {q : Nat} (P : List UInt8) {r : Nat} (R : List UInt8) (hp : p < 2) (hq : 2 ≤ q) (hr : 2 ≤ r) : (threeS p H q P r R).now.getD p [] = padS H := by
  rw [three_now, getD_set_ne _ _ _ _ _ (by omega), getD_set_ne _ _ _ _ _ (by omega), getD_set_self _ _ _ _ (by rw [List.length_replicate]; omega)]
theorem three_o {p : Nat} (H : List UInt8) {q : Nat} (P : List UInt8) {r : Nat} (R : List UInt8) (hp : p < 2) (hq : 2 ≤ q) (hr : 2 ≤ r) : (threeS p H q P r R).now.getD (1 - p) [] = noughts 128 := by
  rw [three_now, getD_set_ne _ _ _ _ _ (by omega), getD_set_ne _ _ _ _ _ (by omega), getD_set_ne _ _ _ _ _ (by omega), List.getD_eq_getElem?_getD, List.getElem?_replicate, if_pos (by omega)]
  rfl
theorem three_q {p : Nat} (H : List UInt8) {q : Nat} (P : List UInt8) {r : Nat} (R : List UInt8) (hq : q < 20) (hqr : r ≠ q) : (threeS p H q P r R).now.getD q [] = padS P := by
  rw [three_now, getD_set_ne _ _ _ _ _ hqr, getD_set_self _ _ _ _ (by rw [List.length_set, List.length_replicate]; omega)]
theorem three_r {p : Nat} (H : List UInt8) {q : Nat} (P : List UInt8) {r : Nat} (R : List UInt8) (hr : r < 20) : (threeS p H q P r R).now.getD r [] = padS R := by
  rw [three_now, getD_set_self _ _ _ _ (by rw [List.length_set, List.length_set, List.length_replicate]; omega)]
theorem openE_three (p : Nat) (H : List UInt8) (q : Nat) (P : List UInt8) (r : Nat) (R : List UInt8) : openE (threeS p H q P r R) = 0 := by
  unfold openE
  rw [three_size, if_neg (by decide)]
  rfl
/-- A head that stands on such a disk, and the piece of its bank: what is found. -/
theorem found_bank {s : DS} {n g : Nat} {st : List UInt8} (hst : st.length ≤ 100) (hok : s.ok 20) (hh : halfS s = 9) (hb : s.now.getD (2 + 9 * (g % 2)) [] = padS (pieceB 2 st)) (h : thereS s = (n, g, (pieceB 2 st).length)) (hn : 1 ≤ n) : foundS s = (st, []) := by
  have hPl : (pieceB 2 st).length ≤ 128 := by rw [pieceB_len]; omega
  have hbk := bank_is (k := g % 2) (b := pieceB 2 st) hok (Nat.mod_lt _ (by decide)) (fun j hj => by
    have hj0 : j = 0 := by omega
    subst hj0
    rw [hh, show 2 + g % 2 * 9 + 0 = 2 + 9 * (g % 2) by omega, hb]
    unfold rowB
    rw [Nat.zero_mul, List.drop_zero, List.take_of_length_le hPl]) (by unfold sizeS; rw [hh]; omega)
  unfold foundS
  rw [h]
  show (if n = 0 then _ else toldB ((bankS _ (g % 2)).take (pieceB 2 st).length)) = _
  rw [if_neg (by omega), hbk, ← state_one (by omega)]
  exact told_state st
theorem there_head {s : DS} {n g m : Nat} (hz : sizeS s = 1152) (hp : s.now.getD (n % 2) [] = padS (headB n g m)) (ho : s.now.getD (1 - n % 2) [] = noughts 128) (hn1 : 1 ≤ n) (hn : n ≤ 1073741824) (hg1 : 1 ≤ g) (hg : g ≤ 1048576) (hm : m ≤ 1152) : thereS s = (n, g, m) := by
  rw [there_one (Nat.mod_lt n (by decide)) ho]
  unfold nextH
  obtain ⟨h1, h2, h3, h4⟩ := head_of n g m (by omega) (by omega) (by omega)
  rw [hp, h1, h2, h3, if_pos]
  exact ⟨by show 0 < n; omega, stands_head rfl hn hg1 hg (by rw [hz]; exact hm) (by omega)⟩
theorem there_not {s : DS} {p : Nat} {H : List UInt8} (hp2 : p < 2) (hp : s.now.getD p [] = H) (ho : s.now.getD (1 - p) [] = noughts 128) (hH : H.take 12 ≠ (H.drop 12).take 12) : thereS s = (0, 0, 0) := by
  rw [there_one hp2 ho]
  unfold nextH
  rw [if_neg]
  rintro ⟨_, hs⟩
  rw [hp] at hs
  unfold standsB at hs
  simp only [Bool.and_eq_true, decide_eq_true_eq] at hs
  exact hH hs.2
end Go.Proofs.Ytdojdkmchipccaa
