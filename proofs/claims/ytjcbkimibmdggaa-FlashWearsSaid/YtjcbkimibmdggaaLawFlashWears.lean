/-
  What is proved here: of all numbers and bytes, the statement FlashWears answers true: a block is erased as often as it may be, and then no more; each time it is all ones.
  Conditions: the program's flash keeps to what is asked of it.
-/
import Derived.Test.YtjcbkimibmdggaaFlashCalm
import Derived.Test.YtjcbkimibmdggaaFlashIWear
namespace Go.Proofs.Ytjcbkimibmdggaa
open Go.RowKit

/-- Ones alone. -/
def Ones6 (l : List UInt8) (n : Nat) : Prop := l.length = n ∧ ∀ i, i < n → l.getD i 0 = 255
theorem ones6_rep (n : Nat) : Ones6 (List.replicate n 255) n := ⟨List.length_replicate .., fun i h => by rw [List.getD_eq_getElem?_getD, List.getElem?_replicate, if_pos h]; rfl⟩
theorem ones6_cut {Z : List UInt8} (h : Ones6 Z 2048) : Ones6 ((Z.drop 1024).take 1024) 1024 := by
  refine ⟨by rw [List.length_take, List.length_drop, h.1]; rfl, fun i hi => ?_⟩
  rw [List.getD_eq_getElem?_getD, List.getElem?_take_of_lt hi, List.getElem?_drop, ← List.getD_eq_getElem?_getD]
  exact h.2 _ (by omega)
theorem ones6_at {l : List UInt8} {n i : Nat} (h : Ones6 l n) (hi : i < n) : l[i]? = some 255 := by
  have := h.2 i hi
  rw [List.getD_eq_getElem?_getD, List.getElem?_eq_getElem (by rw [h.1]; exact hi), Option.getD_some] at this
  rw [List.getElem?_eq_getElem (by rw [h.1]; exact hi), this]
theorem and_ff (x : UInt8) : 255 &&& x = x := by
  apply UInt8.toNat_inj.1
  rw [UInt8.toNat_and, show (255 : UInt8).toNat = 2 ^ 8 - 1 from rfl, Nat.and_comm, Nat.and_two_pow_sub_one_eq_mod]
  exact Nat.mod_eq_of_lt x.toNat_lt
/-- Two blocks of ones, the second one erased so often. -/
def wornS (Z : List UInt8) (wear i : Nat) : FS := ⟨Z, [0, i], wear, -1, 0, false⟩
theorem wornS_calm (Z : List UInt8) (wear i : Nat) : calm6 (wornS Z wear i) := ⟨rfl, rfl⟩
theorem wornS_new (wear : Nat) : newF 2 wear = wornS (List.replicate 2048 255) wear 0 := rfl
/-- And bytes in it. -/
def fullS (Z : List UInt8) (wear i : Nat) (bs : List UInt8) : FS := { wornS Z wear i with b := progL Z 1024 bs bs.length }
theorem fullS_calm (Z : List UInt8) (wear i : Nat) (bs : List UInt8) : calm6 (fullS Z wear i bs) := ⟨rfl, rfl⟩
theorem wears_program {Z : List UInt8} (hZ : Ones6 Z 2048) (wear i : Nat) (bs : List UInt8) (h : bs.length ≤ 1024) : programF (wornS Z wear i) 1024 bs = (0, fullS Z wear i bs) := by
  rw [programF_calm (wornS_calm Z wear i), there_true (by omega) (by omega) (by decide) (by show (1024 : Int) ≤ (Z.length : Int) - _; rw [hZ.1]; omega), if_neg (by decide)]
  rfl
theorem wears_erase {Z : List UInt8} (hZ : Ones6 Z 2048) (wear i : Nat) (bs : List UInt8) (h : i < wear) : eraseF (fullS Z wear i bs) 1 = (0, wornS Z wear (i + 1)) := by
  rw [eraseF_calm (fullS_calm Z wear i bs), if_neg (by show ¬ ((1 : Int) < 0 ∨ ((([0, i] : List Nat).length : Nat) : Int) ≤ 1); simp), if_neg (by show ¬ wear ≤ i; omega)]
  have e : onesL (progL Z 1024 bs bs.length) 1024 1024 = Z := by
    refine bytes_ext (by rw [onesL_len, progL_len]) fun j hj => ?_
    rw [onesL_len, progL_len, hZ.1] at hj
    rw [onesL_at _ _ _ _ (by rw [progL_len, hZ.1]; exact hj), hZ.2 j hj]
    split
    · rfl
    · rw [progL_at _ _ _ _ _ (by rw [hZ.1]; exact hj), hZ.2 j hj, if_neg (by omega)]
  show ((0 : Int), ({ fullS Z wear i bs with b := onesL (progL Z 1024 bs bs.length) 1024 1024, worn := [0, i + 1] } : FS)) = _
  rw [e]
  rfl
theorem wears_worn (Z : List UInt8) (wear : Nat) (bs : List UInt8) : eraseF (fullS Z wear wear bs) 1 = (8, fullS Z wear wear bs) := by
  rw [eraseF_calm (fullS_calm Z wear wear bs), if_neg (by show ¬ ((1 : Int) < 0 ∨ ((([0, wear] : List Nat).length : Nat) : Int) ≤ 1); simp), if_pos (by show wear ≤ wear; omega)]
theorem wears_read {Z : List UInt8} (hZ : Ones6 Z 2048) (wear i : Nat) : readF (wornS Z wear i) 1024 1024 = ((Z.drop 1024).take 1024, 0) := by
  rw [readF_calm (show (wornS Z wear i).down = false from rfl), there_true (by decide) (by decide) (by decide) (by show (1024 : Int) ≤ (Z.length : Int) - _; rw [hZ.1]; decide), if_neg (by decide)]
  rfl
theorem wears_back {Z : List UInt8} (hZ : Ones6 Z 2048) (wear i : Nat) (bs : List UInt8) (h : bs.length ≤ 1024) : readF (fullS Z wear i bs) 1024 bs.length = (bs, 0) := by
  have hl : (progL Z 1024 bs bs.length).length = 2048 := by rw [progL_len, hZ.1]
  rw [readF_calm (show (fullS Z wear i bs).down = false from rfl), there_true (by omega) (by omega) (by decide) (by show (1024 : Int) ≤ ((progL Z 1024 bs bs.length).length : Int) - _; rw [hl]; omega), if_neg (by decide)]
  have e : ((progL Z 1024 bs bs.length).drop 1024).take bs.length = bs := by
    refine bytes_ext (by rw [List.length_take, List.length_drop, hl]; omega) fun j hj => ?_
    rw [List.length_take, List.length_drop, hl] at hj
    rw [List.getD_eq_getElem?_getD, List.getElem?_take_of_lt (by omega), List.getElem?_drop, ← List.getD_eq_getElem?_getD, progL_at _ _ _ _ _ (by rw [hZ.1]; omega), if_pos (by omega), hZ.2 _ (by omega), and_ff, Nat.add_sub_cancel_left]
  show (((progL Z 1024 bs bs.length).drop 1024).take (bs.length : Int).toNat, (0 : Int)) = _
  rw [Int.toNat_natCast, e]
theorem wears_wear (Z : List UInt8) (wear i : Nat) : wearF (wornS Z wear i) 1 = (i, 0) := by
  unfold wearF
  rw [if_neg (by show ¬ ((1 : Int) < 0 ∨ ((([0, i] : List Nat).length : Nat) : Int) ≤ 1); simp)]
  rfl

set_option maxRecDepth 100000 in
set_option maxHeartbeats 4000000 in
theorem flashWears_any (P : PF) (hW : HasWear P) (z : Int) (x : Value) (bs : List UInt8) (w : World) (hS : Seg w x bs) (hm : bs.length ≤ maxLen) :
    Calls Try.prog 7 #[.int .i64 z, x] w fun e w' => e = .returned (.bool true) ∧ Below w.heap.size w w' := by
  obtain ⟨ab, cb, rfl⟩ := Seg.shapeD hS
  go_enter Try.func7, Try.ntmps7
  go_wp2_with fail
  refine (awake6_any P _).mono ?_
  rintro e w1 ⟨rfl, hB1⟩
  by_cases hz1 : z < 1
  · go_wp2
    go_ret
    exact ⟨rfl, hB1⟩
  by_cases hz2 : 200 < z
  · go_wp2
    go_ret
    exact ⟨rfl, hB1⟩
  by_cases hb1 : 1024 < bs.length
  · have j1 : (1024 : Int) < (bs.length : Int) := by omega
    go_wp2
    go_ret
    exact ⟨rfl, hB1⟩
  have j1 : ¬ (1024 : Int) < (bs.length : Int) := by omega
  obtain ⟨u, rfl⟩ : ∃ u : Nat, z = (u : Int) := ⟨z.toNat, by omega⟩
  have hu : u ≤ 200 := by omega
  have hbl : bs.length ≤ 1024 := by omega
  go_wp2_with fail
  have HN : Hid (Calls Try.prog 10 #[.int .i64 2, .int .i64 (u : Int)] w1 fun e w' => ∃ L : P.Lay, e = .returned (.tuple #[.pointer (some ⟨P.g L, 0, none⟩), .int .i64 0]) ∧ P.n L = 2 ∧ P.Rel w' L (newF 2 u) ∧ Below w1.heap.size w1 w' ∧ (∀ q, P.T L q → w1.heap.size ≤ q)) := P.new_any 2 u w1 (by decide) (by decide) (by omega) (by omega)
  refine HN.out.mono ?_
  rintro e w3 ⟨L, rfl, -, hD3, hb3, hT3⟩
  rw [wornS_new] at hD3
  have hZ := ones6_rep 2048
  generalize List.replicate 2048 (255 : UInt8) = Z at *
  have hB3 : Below w.heap.size w w3 := hB1.trans (hb3.mono hB1.size)
  have hTL : ∀ q, P.T L q → w.heap.size ≤ q := fun q h => Nat.le_trans hB1.size (hT3 q h)
  clear HN hb3 hT3 hB1
  go_wp2_with fail
  go_loopw [8] (fun i wr => ∃ I : Nat, i = .int .i64 (I : Int) ∧ I ≤ u ∧ P.Rel wr L (wornS Z u I) ∧ Below w.heap.size w wr) (fun i _ => u - (intOf i).toNat)
  case atStart => exact ⟨0, rfl, Nat.zero_le _, hD3, hB3⟩
  case round =>
    obtain ⟨I, rfl, hI, hD, hB⟩ := hrel
    clear hD3 hB3
    by_cases hlt : I < u
    · have i1 : (I : Int) < (u : Int) := by omega
      go_wp2_with fail
      refine (P.program L _ 1024 _ bs _ hD (r64_small _ (by omega) (by omega)) (hS.below hB (Nat.le_refl _)) hm (hS.apart6 hTL)).mono ?_
      rw [wears_program hZ u I bs hbl]
      rintro e w4 ⟨rfl, hD4, hc4⟩
      have hB4 : Below w.heap.size w w4 := hB.trans (hc4.below hTL hB.size)
      go_wp2_with fail
      refine (P.erase L _ 1 _ hD4 (r64_small _ (by omega) (by omega))).mono ?_
      rw [wears_erase hZ u I bs hlt]
      rintro e w5 ⟨rfl, hD5, hc5⟩
      have hB5 : Below w.heap.size w w5 := hB4.trans (hc5.below hTL hB4.size)
      go_wp2_with fail
      refine (P.read L _ 1024 1024 _ hD5 (r64_small _ (by omega) (by omega)) (r64_small _ (by omega) (by omega))).mono ?_
      rw [wears_read hZ]
      rintro e w6 ⟨v6, rfl, ho6, hb6⟩
      have hB6 : Below w.heap.size w w6 := hB5.trans (hb6.mono hB5.size)
      have hD6 := P.after hD5 hb6
      go_wp2_with fail
      refine (hW L _ 1 _ hD6 (r64_small _ (by omega) (by omega))).mono ?_
      rw [wears_wear]
      rintro e w7 ⟨rfl, hb7⟩
      have hB7 : Below w.heap.size w w7 := hB6.trans (hb7.mono hB6.size)
      have hD7 := P.after hD6 hb7
      have hs7 := (ho6.below hb7 (Nat.le_refl _)).seg
      obtain ⟨a6, c6, rfl⟩ := Seg.shapeD ho6.seg
      have hY := ones6_cut hZ
      generalize (Z.drop 1024).take 1024 = Y at *
      rw [hY.1] at hs7 ⊢
      obtain ⟨qb, qo, rfl, hqc, hrow, _⟩ := hs7.formD (by decide)
      have d0 : w7.cell? ⟨qb, qo, none⟩ = some (.int .u8 255) := by
        have h0 : 0 < Y.length := by rw [hY.1]; decide
        have e0 : Y[0] = 255 := by have := ones6_at hY (i := 0) (by decide); rw [List.getElem?_eq_getElem h0] at this; exact Option.some.inj this
        have := hrow 0 h0
        rw [e0] at this
        exact this
      have d1 : w7.cell? ⟨qb, qo + 1023, none⟩ = some (.int .u8 255) := by
        have h0 : 1023 < Y.length := by rw [hY.1]; decide
        have e0 : Y[1023] = 255 := by have := ones6_at hY (i := 1023) (by decide); rw [List.getElem?_eq_getElem h0] at this; exact Option.some.inj this
        have := hrow 1023 h0
        rw [e0] at this
        exact this
      clear ho6 hrow hs7 hD4 hD5 hD6 hB4 hB5 hB6
      go_wp2_with fail
      go_roundw
      case rel => exact ⟨I + 1, by go_num, hlt, hD7, hB7⟩
      case measure => simp [intOf]; omega
    · have i1 : ¬ (I : Int) < (u : Int) := by omega
      obtain rfl : I = u := by omega
      go_wp2_with fail
      refine (P.program L _ 1024 _ bs _ hD (r64_small _ (by omega) (by omega)) (hS.below hB (Nat.le_refl _)) hm (hS.apart6 hTL)).mono ?_
      rw [wears_program hZ I I bs hbl]
      rintro e w4 ⟨rfl, hD4, hc4⟩
      have hB4 : Below w.heap.size w w4 := hB.trans (hc4.below hTL hB.size)
      go_wp2_with fail
      refine (P.erase L _ 1 _ hD4 (r64_small _ (by omega) (by omega))).mono ?_
      rw [wears_worn]
      rintro e w5 ⟨rfl, hD5, hc5⟩
      have hB5 : Below w.heap.size w w5 := hB4.trans (hc5.below hTL hB4.size)
      go_wp2_with fail
      refine (P.read L _ 1024 bs.length _ hD5 (r64_small _ (by omega) (by omega)) (r64_small _ (by omega) (by omega))).mono ?_
      rw [wears_back hZ I I bs hbl]
      rintro e w6 ⟨v6, rfl, ho6, hb6⟩
      have hB6 : Below w.heap.size w w6 := hB5.trans (hb6.mono hB5.size)
      have k1 := seg_stringD ho6.seg 9 Try.underlying9
      have k2 := seg_stringD (hS.below hB6 (Nat.le_refl _)) 9 Try.underlying9
      obtain ⟨a6, c6, rfl⟩ := Seg.shapeD ho6.seg
      clear ho6
      generalize (⟨bs.toArray⟩ : ByteArray) = X at k1 k2
      go_wp2
      go_ret
      exact ⟨rfl, hB6⟩
end Go.Proofs.Ytjcbkimibmdggaa
