/-
  What is proved here: of all numbers and bytes, the statement FlashWears answers true: a block is erased as often as it may be, and then no more; each time it is all ones.
  Conditions: the program's flash keeps to what is asked of it.
-/
import Derived.Test.YtjcbkimibmdggaaFlashCalm
import Derived.Test.YtjcbkimibmdggaaFlashIWear
namespace Go.Proofs.Ytjcbkimibmdggaa
open Go.RowKit

/-- So many ones. -/
def ffs (n : Nat) : List UInt8 := List.replicate n 255
theorem ffs_len (n : Nat) : (ffs n).length = n := List.length_replicate ..
theorem ffs_at {n i : Nat} (h : i < n) : (ffs n).getD i 0 = 255 := by unfold ffs; rw [List.getD_eq_getElem?_getD, List.getElem?_replicate, if_pos h]; rfl
theorem ffs_cut : ((ffs 2048).drop 1024).take 1024 = ffs 1024 := by unfold ffs; rw [List.drop_replicate, List.take_replicate, show min 1024 (2048 - 1024) = 1024 from rfl]
theorem ffs_new (wear : Nat) : newF 2 wear = ⟨ffs 2048, [0, 0], wear, -1, 0, false⟩ := by unfold newF ffs; rfl
attribute [irreducible] ffs
attribute [local irreducible] progL onesL
theorem and_ff (x : UInt8) : 255 &&& x = x := by
  apply UInt8.toNat_inj.1
  rw [UInt8.toNat_and, show (255 : UInt8).toNat = 2 ^ 8 - 1 from rfl, Nat.and_comm, Nat.and_two_pow_sub_one_eq_mod]
  exact Nat.mod_eq_of_lt x.toNat_lt
/-- Two blocks of ones, the second one erased so often. -/
def wornS (wear i : Nat) : FS := ⟨ffs 2048, [0, i], wear, -1, 0, false⟩
theorem wornS_calm (wear i : Nat) : calm6 (wornS wear i) := ⟨rfl, rfl⟩
theorem wornS_new (wear : Nat) : newF 2 wear = wornS wear 0 := ffs_new wear
/-- And bytes in it. -/
def fullS (wear i : Nat) (bs : List UInt8) : FS := { wornS wear i with b := progL (ffs 2048) 1024 bs bs.length }
theorem fullS_calm (wear i : Nat) (bs : List UInt8) : calm6 (fullS wear i bs) := ⟨rfl, rfl⟩
theorem wears_program (wear i : Nat) (bs : List UInt8) (h : bs.length ≤ 1024) : programF (wornS wear i) 1024 bs = (0, fullS wear i bs) := by
  rw [programF_calm (wornS_calm wear i), there_true (by omega) (by omega) (by decide) (by show (1024 : Int) ≤ ((ffs 2048).length : Int) - _; rw [ffs_len]; omega), if_neg (by decide)]
  rfl
theorem wears_erase (wear i : Nat) (bs : List UInt8) (h : i < wear) : eraseF (fullS wear i bs) 1 = (0, wornS wear (i + 1)) := by
  rw [eraseF_calm (fullS_calm wear i bs), if_neg (by show ¬ ((1 : Int) < 0 ∨ ((([0, i] : List Nat).length : Nat) : Int) ≤ 1); simp), if_neg (by show ¬ wear ≤ i; omega)]
  have e : onesL (progL (ffs 2048) 1024 bs bs.length) 1024 1024 = ffs 2048 := by
    refine bytes_ext (by rw [onesL_len, progL_len]) fun j hj => ?_
    rw [onesL_len, progL_len, ffs_len] at hj
    rw [onesL_at _ _ _ _ (by rw [progL_len, ffs_len]; exact hj), ffs_at hj]
    split
    · rfl
    · rw [progL_at _ _ _ _ _ (by rw [ffs_len]; exact hj), ffs_at hj, if_neg (by omega)]
  show ((0 : Int), ({ fullS wear i bs with b := onesL (progL (ffs 2048) 1024 bs bs.length) 1024 1024, worn := [0, i + 1] } : FS)) = _
  rw [e]
  rfl
theorem wears_worn (wear : Nat) (bs : List UInt8) : eraseF (fullS wear wear bs) 1 = (8, fullS wear wear bs) := by
  rw [eraseF_calm (fullS_calm wear wear bs), if_neg (by show ¬ ((1 : Int) < 0 ∨ ((([0, wear] : List Nat).length : Nat) : Int) ≤ 1); simp), if_pos (by show wear ≤ wear; omega)]
theorem wears_read (wear i : Nat) : readF (wornS wear i) 1024 1024 = (ffs 1024, 0) := by
  rw [readF_calm (show (wornS wear i).down = false from rfl), there_true (by decide) (by decide) (by decide) (by show (1024 : Int) ≤ ((ffs 2048).length : Int) - _; rw [ffs_len]; decide), if_neg (by decide)]
  show (((ffs 2048).drop 1024).take 1024, (0 : Int)) = _
  rw [ffs_cut]
theorem wears_back (wear i : Nat) (bs : List UInt8) (h : bs.length ≤ 1024) : readF (fullS wear i bs) 1024 bs.length = (bs, 0) := by
  have hl : (progL (ffs 2048) 1024 bs bs.length).length = 2048 := by rw [progL_len, ffs_len]
  rw [readF_calm (show (fullS wear i bs).down = false from rfl), there_true (by omega) (by omega) (by decide) (by show (1024 : Int) ≤ ((progL (ffs 2048) 1024 bs bs.length).length : Int) - _; rw [hl]; omega), if_neg (by decide)]
  have e : ((progL (ffs 2048) 1024 bs bs.length).drop 1024).take bs.length = bs := by
    refine bytes_ext (by rw [List.length_take, List.length_drop, hl]; omega) fun j hj => ?_
    rw [List.length_take, List.length_drop, hl] at hj
    rw [List.getD_eq_getElem?_getD, List.getElem?_take_of_lt (by omega), List.getElem?_drop, ← List.getD_eq_getElem?_getD, progL_at _ _ _ _ _ (by rw [ffs_len]; omega), if_pos (by omega), ffs_at (by omega), and_ff, Nat.add_sub_cancel_left]
  show (((progL (ffs 2048) 1024 bs bs.length).drop 1024).take (bs.length : Int).toNat, (0 : Int)) = _
  rw [Int.toNat_natCast, e]
theorem wears_wear (wear i : Nat) : wearF (wornS wear i) 1 = (i, 0) := by
  unfold wearF
  rw [if_neg (by show ¬ ((1 : Int) < 0 ∨ ((([0, i] : List Nat).length : Nat) : Int) ≤ 1); simp)]
  rfl

set_option maxRecDepth 100000 in
set_option maxHeartbeats 4000000 in
theorem flashWears_any (P : PF) (hW : HasWear P) (z : Int) (x : Value) (bs : List UInt8) (w : World) (hS : Seg w x bs) (hm : bs.length ≤ maxLen) :
    Calls Try.prog 7 #[.int .i64 z, x] w fun e w' => e = .returned (.bool true) ∧ Below w.heap.size w w' := by
  obtain ⟨ab, cb, rfl⟩ := Seg.shapeD hS
  go_enter Try.func7, Try.ntmps7
  go_wp2_with fail
  refine (awake6_any P _).mono ?_
  rintro e w1 ⟨rfl, hB1⟩
  by_cases hz1 : z < 1
  · go_wp2
    go_ret
    exact ⟨rfl, hB1⟩
  by_cases hz2 : 200 < z
  · go_wp2
    go_ret
    exact ⟨rfl, hB1⟩
  by_cases hb1 : 1024 < bs.length
  · have j1 : (1024 : Int) < (bs.length : Int) := by omega
    go_wp2
    go_ret
    exact ⟨rfl, hB1⟩
  have j1 : ¬ (1024 : Int) < (bs.length : Int) := by omega
  obtain ⟨u, rfl⟩ : ∃ u : Nat, z = (u : Int) := ⟨z.toNat, by omega⟩
  have hu : u ≤ 200 := by omega
  have hbl : bs.length ≤ 1024 := by omega
  go_wp2_with fail
  have HN : Hid (Calls Try.prog 10 #[.int .i64 2, .int .i64 (u : Int)] w1 fun e w' => ∃ L : P.Lay, e = .returned (.tuple #[.pointer (some ⟨P.g L, 0, none⟩), .int .i64 0]) ∧ P.n L = 2 ∧ P.Rel w' L (newF 2 u) ∧ Below w1.heap.size w1 w' ∧ (∀ q, P.T L q → w1.heap.size ≤ q)) := P.new_any 2 u w1 (by decide) (by decide) (by omega) (by omega)
  refine HN.out.mono ?_
  rintro e w3 ⟨L, rfl, -, hD3, hb3, hT3⟩
  rw [wornS_new] at hD3
  have hB3 : Below w.heap.size w w3 := hB1.trans (hb3.mono hB1.size)
  have hTL : ∀ q, P.T L q → w.heap.size ≤ q := fun q h => Nat.le_trans hB1.size (hT3 q h)
  clear HN hb3 hT3 hB1
  go_wp2_with fail
  go_loopw [8] (fun i wr => ∃ I : Nat, i = .int .i64 (I : Int) ∧ I ≤ u ∧ P.Rel wr L (wornS u I) ∧ Below w.heap.size w wr) (fun i _ => u - (intOf i).toNat)
  case atStart => exact ⟨0, rfl, Nat.zero_le _, hD3, hB3⟩
  case round =>
    obtain ⟨I, rfl, hI, hD, hB⟩ := hrel
    clear hD3 hB3
    by_cases hlt : I < u
    · have i1 : (I : Int) < (u : Int) := by omega
      go_wp2_with fail
      refine (P.program L _ 1024 _ bs _ hD (r64_small _ (by omega) (by omega)) (hS.below hB (Nat.le_refl _)) hm (hS.apart6 hTL)).mono ?_
      rw [wears_program u I bs hbl]
      rintro e w4 ⟨rfl, hD4, hc4⟩
      have hB4 : Below w.heap.size w w4 := hB.trans (hc4.below hTL hB.size)
      go_wp2_with fail
      refine (P.erase L _ 1 _ hD4 (r64_small _ (by omega) (by omega))).mono ?_
      rw [wears_erase u I bs hlt]
      rintro e w5 ⟨rfl, hD5, hc5⟩
      have hB5 : Below w.heap.size w w5 := hB4.trans (hc5.below hTL hB4.size)
      go_wp2_with fail
      refine (P.read L _ 1024 1024 _ hD5 (r64_small _ (by omega) (by omega)) (r64_small _ (by omega) (by omega))).mono ?_
      rw [wears_read]
      rintro e w6 ⟨v6, rfl, ho6, hb6⟩
      have hB6 : Below w.heap.size w w6 := hB5.trans (hb6.mono hB5.size)
      have hD6 := P.after hD5 hb6
      go_wp2_with fail
      refine (hW L _ 1 _ hD6 (r64_small _ (by omega) (by omega))).mono ?_
      rw [wears_wear]
      rintro e w7 ⟨rfl, hb7⟩
      have hB7 : Below w.heap.size w w7 := hB6.trans (hb7.mono hB6.size)
      have hD7 := P.after hD6 hb7
      have hs7 := (ho6.below hb7 (Nat.le_refl _)).seg
      obtain ⟨a6, c6, rfl⟩ := Seg.shapeD ho6.seg
      rw [ffs_len] at hs7 ⊢
      obtain ⟨qb, qo, rfl, hqc, hrow, _⟩ := hs7.formD (by decide)
      have d0 : w7.cell? ⟨qb, qo, none⟩ = some (.int .u8 255) := by
        have := hrow 0 (by rw [ffs_len]; decide)
        rw [show (ffs 1024)[0]'(by rw [ffs_len]; decide) = 255 from by unfold ffs; exact List.getElem_replicate ..] at this
        exact this
      have d1 : w7.cell? ⟨qb, qo + 1023, none⟩ = some (.int .u8 255) := by
        have := hrow 1023 (by rw [ffs_len]; decide)
        rw [show (ffs 1024)[1023]'(by rw [ffs_len]; decide) = 255 from by unfold ffs; exact List.getElem_replicate ..] at this
        exact this
      clear ho6 hrow hs7 hD4 hD5 hD6 hB4 hB5 hB6
      go_wp2_with fail
      go_roundw
      case rel => exact ⟨I + 1, by go_num, hlt, hD7, hB7⟩
      case measure => simp [intOf]; omega
    · have i1 : ¬ (I : Int) < (u : Int) := by omega
      obtain rfl : I = u := by omega
      go_wp2_with fail
      refine (P.program L _ 1024 _ bs _ hD (r64_small _ (by omega) (by omega)) (hS.below hB (Nat.le_refl _)) hm (hS.apart6 hTL)).mono ?_
      rw [wears_program I I bs hbl]
      rintro e w4 ⟨rfl, hD4, hc4⟩
      have hB4 : Below w.heap.size w w4 := hB.trans (hc4.below hTL hB.size)
      go_wp2_with fail
      refine (P.erase L _ 1 _ hD4 (r64_small _ (by omega) (by omega))).mono ?_
      rw [wears_worn]
      rintro e w5 ⟨rfl, hD5, hc5⟩
      have hB5 : Below w.heap.size w w5 := hB4.trans (hc5.below hTL hB4.size)
      go_wp2_with fail
      refine (P.read L _ 1024 bs.length _ hD5 (r64_small _ (by omega) (by omega)) (r64_small _ (by omega) (by omega))).mono ?_
      rw [wears_back I I bs hbl]
      rintro e w6 ⟨v6, rfl, ho6, hb6⟩
      have hB6 : Below w.heap.size w w6 := hB5.trans (hb6.mono hB5.size)
      have k1 := seg_stringD ho6.seg 9 Try.underlying9
      have k2 := seg_stringD (hS.below hB6 (Nat.le_refl _)) 9 Try.underlying9
      obtain ⟨a6, c6, rfl⟩ := Seg.shapeD ho6.seg
      clear ho6
      generalize (⟨bs.toArray⟩ : ByteArray) = X at k1 k2
      go_wp2
      go_ret
      exact ⟨rfl, hB6⟩
end Go.Proofs.Ytjcbkimibmdggaa
