/-
  What is proved here: of all bounds and numbers, the statement PackNumbers answers true: a record of one number has as many bytes as its span needs, the lowest first; numbers beyond the span are refused.
  Conditions: none.
-/
import Derived.Test.YtogpanedenpbjabPackAwake
import Derived.Test.YtogpanedenpbjabPackFew
namespace Go.Proofs.Ytogpanedenpbjab
open Go.RowKit

theorem one_most (low high : Nat) (h : low ≤ high) : mostL 4 [.mk 1 low high []] = some (wid (high - low)) := by
  have h1 : mostOne (mostL 3) (.mk 1 low high []) = some (wid (high - low)) := by
    rw [mostOne_1 (f := .mk 1 low high []) (by show ¬ high < low; omega) rfl]; rfl
  have hw := wid_le (high - low)
  unfold mostL
  rw [if_neg (by simp)]
  simp only [mostSum, h1, Option.map_some]
  rw [if_neg (by omega), Nat.add_zero]
theorem one_enc (low high n : Nat) (h : low ≤ high) : encTop [.mk 1 low high []] [.mk n [] []] = if n < low ∨ high < n then none else some (leN (n - low) (wid (high - low))) := by
  unfold encTop
  rw [one_most low high h]
  simp only [Option.isSome_some, if_true]
  unfold encL
  rw [if_pos (show [Fld.mk 1 low high []].length = [Val.mk n [] []].length from rfl)]
  have h1 : amountOf (.mk 1 low high []) (.mk n [] []) = some n := by
    unfold amountOf
    simp [Fld.kind, Val.b, Val.l, Val.n]
  have h2 : encOne (encL 3) (.mk 1 low high []) (.mk n [] []) = if n < low ∨ high < n then none else some (leN (n - low) (wid (high - low))) := by
    unfold encOne
    rw [h1]
    show (if n < low ∨ high < n then none else _) = _
    split
    · rfl
    · simp [Val.l, Val.b, catO, Fld.max, Fld.min]
  simp only [List.zipWith_cons_cons, List.zipWith_nil_left, h2]
  split
  · rfl
  · simp [catO]
theorem wid_lt' (n : Nat) (h : n < 18446744073709551616) : n < 256 ^ wid n := by
  unfold wid
  split
  · omega
  split
  · omega
  split
  · omega
  split
  · omega
  split
  · omega
  split
  · omega
  split
  · omega
  · omega
theorem leN_at : ∀ (k n i : Nat), i < k → (leN n k)[i]? = some (UInt8.ofNat (n / 256 ^ i % 256))
  | 0, _, _, h => by omega
  | k + 1, n, 0, _ => by simp [leN]
  | k + 1, n, i + 1, h => by
    simp only [leN, List.getElem?_cons_succ]
    rw [leN_at k (n / 256) i (by omega), Nat.div_div_eq_div_mul, Nat.pow_succ, Nat.mul_comm 256]

set_option maxRecDepth 100000 in
set_option maxHeartbeats 2000000 in
theorem packNumbers_any (low high n : Nat) (w : World) (hl : low < 18446744073709551616) (hh : high < 18446744073709551616) (hn : n < 18446744073709551616) :
    Calls Try.prog 3 #[.int .u64 (low : Int), .int .u64 (high : Int), .int .u64 (n : Int)] w fun e w' => e = .returned (.bool true) ∧ Below w.heap.size w w' := by
  by_cases hlh : high < low
  · have i1 : (high : Int) < (low : Int) := by omega
    go_enter Try.func3, Try.ntmps3
    go_wp2_with (go_at_call 5; refine (pawake_any _).mono ?_; rintro e w1 ⟨rfl, hb1⟩)
    go_ret
    exact ⟨rfl, hb1⟩
  have i1 : ¬ (high : Int) < (low : Int) := by omega
  go_enter Try.func3, Try.ntmps3
  go_wp2_with (go_at_call 5; refine (pawake_any _).mono ?_; rintro e w1 ⟨rfl, hb1⟩)
  have hA1 : Below w1.heap.size w1 (w1.alloc (.cells #[.int .i64 1, .int .u64 (low : Int), .int .u64 (high : Int), .slice none 0 0] 26)) := (Below.refl _ _).alloc (Nat.le_refl _) _
  obtain ⟨w2, hw2⟩ : ∃ w2, w2 = (w1.alloc (.cells #[.int .i64 1, .int .u64 (low : Int), .int .u64 (high : Int), .slice none 0 0] 26)).alloc (.cells #[.int .u64 (n : Int), .slice none 0 0, .slice none 0 0] 33) := ⟨_, rfl⟩
  rw [← hw2]
  have hA2 : Below w1.heap.size w1 w2 := by rw [hw2]; exact hA1.alloc (by simp) _
  have hB2 : Below w.heap.size w w2 := hb1.trans (hA2.mono hb1.size)
  have hs2 : w2.heap.size = w1.heap.size + 1 + 1 := by rw [hw2]; simp
  have hF2 : Blk w2 w1.heap.size 26 #[.int .i64 1, .int .u64 (low : Int), .int .u64 (high : Int), .slice none 0 0] := by rw [hw2]; exact (Blk.new w1 _ _).alloc _
  have hV2 : Blk w2 (w1.heap.size + 1) 33 #[.int .u64 (n : Int), .slice none 0 0, .slice none 0 0] := by rw [hw2]; exact Blk.newAt _ _ _ _ (by simp)
  have hF : Flds w2 1 (.slice (some ⟨w1.heap.size, 0, none⟩) 1 1) [.mk 1 low high []] := by
    refine ⟨_, 1, rfl, (by show 1 ≤ maxLen; decide), fun _ => ⟨w1.heap.size, 0, rfl, by omega, Nat.le_refl 1, fun i f hf => ?_⟩⟩
    match i, hf with
    | 0, hf =>
      cases hf
      exact ⟨hF2.cell rfl, hF2.cell rfl, hF2.cell rfl, ⟨_, hF2.cell rfl, rfl, rfl⟩, hl, hh⟩
    | (i + 1), hf => cases hf
  have hV : Vals w2 1 (.slice (some ⟨w1.heap.size + 1, 0, none⟩) 1 1) [.mk n [] []] := by
    refine ⟨_, 1, rfl, (by show 1 ≤ maxLen; decide), fun _ => ⟨w1.heap.size + 1, 0, rfl, by omega, Nat.le_refl 1, fun i x hx => ?_⟩⟩
    match i, hx with
    | 0, hx =>
      cases hx
      exact ⟨hV2.cell rfl, ⟨_, hV2.cell rfl, .inl ⟨rfl, none, 0, rfl, fun _ => rfl⟩, Nat.zero_le _⟩, ⟨none, 0, hV2.cell rfl, Nat.zero_le _, fun h => by cases h⟩, hn⟩
    | (i + 1), hx => cases hx
  have HE : Hid (Calls Try.prog 6 #[.slice (some ⟨w1.heap.size, 0, none⟩) 1 1, .slice (some ⟨w1.heap.size + 1, 0, none⟩) 1 1] w2 fun e w' => encodePost w2 (encTop [.mk 1 low high []] [.mk n [] []]) e w') := encode_any 1 _ _ 1 _ _ w2 hF hV
  have HM : Hid (∀ W, Below w2.heap.size w2 W → Calls Try.prog 7 #[.slice (some ⟨w1.heap.size, 0, none⟩) 1 1] W fun e w' => e = .returned (.int .i64 (wid (high - low) : Int)) ∧ Below W.heap.size W w') := fun W hW => by
    have := most_any 1 _ _ W (Flds.keeps (Keeps.of_below hW (Nat.le_refl _)) _ _ _ hF)
    rw [one_most low high (by omega)] at this
    exact this
  rw [one_enc low high n (by omega)] at HE
  have s2 := hB2.size
  clear hw2 hA1 hA2 hF2 hV2 hF hV
  generalize w1.heap.size = g1 at *
  by_cases hr : n < low ∨ high < n
  · rw [if_pos hr] at HE
    by_cases hlo : n < low
    · have i2 : (n : Int) < (low : Int) := by omega
      refine HE.out.mono ?_
      rintro e w3 ⟨rfl, hb3⟩
      go_wp2
      go_ret
      exact ⟨rfl, hB2.trans (hb3.mono s2)⟩
    · have i2 : ¬ (n : Int) < (low : Int) := by omega
      have i3 : (high : Int) < (n : Int) := by omega
      refine HE.out.mono ?_
      rintro e w3 ⟨rfl, hb3⟩
      go_wp2
      go_ret
      exact ⟨rfl, hB2.trans (hb3.mono s2)⟩
  · rw [if_neg hr] at HE
    have i2 : ¬ (n : Int) < (low : Int) := by omega
    have i3 : ¬ (high : Int) < (n : Int) := by omega
    have hwb := wid_le (high - low)
    have hwp := wid_pos (high - low)
    have HLT : Hid (n - low < 256 ^ wid (high - low)) := Nat.lt_of_le_of_lt (show n - low ≤ high - low by omega) (wid_lt' (high - low) (by omega))
    refine HE.out.mono ?_
    rintro e w3 ⟨⟨b3, rfl, ho3⟩, hb3⟩
    have hB3 : Below w.heap.size w w3 := hB2.trans (hb3.mono s2)
    have s3 := hB3.size
    obtain ⟨g3, c3, hv3, _, hg3, hc3, hr3⟩ := ho3.form (by rw [leN_len]; omega)
    subst hv3
    have hsub : (high : Int) - (low : Int) = ((high - low : Nat) : Int) := by omega
    have hsub2 : (n : Int) - (low : Int) = ((n - low : Nat) : Int) := by omega
    have hdb : high - low < 18446744073709551616 := by omega
    rw [leN_len] at hc3 ⊢
    have HST : Hid (∀ m, 256 ≤ m → m < 18446744073709551616 → wid m = wid (m / 256) + 1) := fun m h1 h2 => wid_step m h1 h2
    have HCE : Hid (∀ W, Below w3.heap.size w3 W → ∀ i, i < wid (high - low) → W.cell? ⟨g3, i, none⟩ = some (.int .u8 ((n - low) / 256 ^ i % 256 : Nat))) := fun W hW i hi => by
      have h1 := hr3 i (by rw [leN_len]; exact hi)
      have h2 := leN_at _ (n - low) i hi
      rw [List.getElem?_eq_getElem (by rw [leN_len]; exact hi)] at h2
      rw [Nat.zero_add, Option.some.inj h2] at h1
      have h3 := (Keeps.of_below hW (Nat.le_refl _)).cell h1
      rw [h3]
      have e1 : (UInt8.ofNat ((n - low) / 256 ^ i % 256)).toNat = (n - low) / 256 ^ i % 256 % 256 := by simp
      show some (Value.int .u8 (((UInt8.ofNat ((n - low) / 256 ^ i % 256)).toNat : Nat) : Int)) = _
      rw [e1, Nat.mod_mod]
    clear ho3 hr3 hb1
    obtain ⟨SP, hSP⟩ : ∃ SP, SP = high - low := ⟨_, rfl⟩
    obtain ⟨N, hN⟩ : ∃ N, N = n - low := ⟨_, rfl⟩
    rw [← hSP] at hwb hwp HLT hsub hdb hc3 HCE HM ⊢
    rw [← hN] at HLT hsub2 HCE
    have hNb : N < 18446744073709551616 := by omega
    obtain ⟨WD, hWD⟩ : ∃ WD, WD = wid SP := ⟨_, rfl⟩
    rw [← hWD] at hwb hwp HLT hc3 HCE HM ⊢
    have HWD : Hid (WD = wid SP) := hWD
    clear hSP hN hWD
    go_wp2
    go_loopw [11, 12] (fun x k wr => ∃ m j : Nat, x = .int .i64 (j : Int) ∧ k = .int .u64 (m : Int) ∧ m < 18446744073709551616 ∧ j ≤ 8 ∧ (m = 0 → j = WD) ∧ (0 < m → j + wid m = WD) ∧ wr = w3) (fun _ k _ => (intOf k).toNat)
    case atStart =>
      refine ⟨SP / 256, 1, rfl, by go_num, by omega, by omega, fun h => ?_, fun h => ?_, rfl⟩
      · rw [HWD.out, wid_small SP (by omega)]
      · rw [HWD.out, HST.out SP (by omega) hdb, Nat.add_comm]
    case round =>
      obtain ⟨m, j, rfl, rfl, hm, hj, hm0, hm1, hwr⟩ := hrel
      subst hwr
      by_cases hpos : 0 < m
      · have i4 : (0 : Int) < (m : Int) := by omega
        have hw1 := hm1 hpos
        have hwm := wid_pos m
        have HX : Hid ((m / 256 = 0 → j + 1 = WD) ∧ (0 < m / 256 → j + 1 + wid (m / 256) = WD)) := by
          refine ⟨fun h => ?_, fun h => ?_⟩
          · rw [wid_small m (by omega)] at hw1; exact hw1
          · rw [HST.out m (by omega) hm] at hw1; omega
        have hj8 : j + 1 ≤ 8 := by omega
        clear hw1 hm0 hm1
        go_wp2
        go_roundw
        case rel => exact ⟨m / 256, j + 1, by go_num, by go_num, by omega, by omega, HX.out.1, HX.out.2, by trivial⟩
        case measure => simp [intOf]; omega
      · obtain rfl : m = 0 := by omega
        obtain rfl : j = WD := hm0 rfl
        clear hm0 hm1
        go_wp2
        go_loopw [13, 14] (fun k i wq => ∃ t : Nat, t ≤ j ∧ i = .int .i64 ((t : Int) - 1) ∧ k = .int .u64 ((N / 256 ^ t : Nat) : Int) ∧ wq = wr) (fun _ i _ => (intOf i + 1).toNat)
        case atStart =>
          refine ⟨j, Nat.le_refl _, rfl, ?_, rfl⟩
          rw [Nat.div_eq_of_lt HLT.out]; rfl
        case round =>
          obtain ⟨t, ht, rfl, rfl, hwq⟩ := hrel
          subst hwq
          by_cases hpos : 0 < t
          · have i4 : (0 : Int) ≤ (t : Int) - 1 := by omega
            have hce := HCE.out _ (Below.refl _ _) (t - 1) (by omega)
            have hti : (t : Int) - 1 = ((t - 1 : Nat) : Int) := by omega
            have hdd : N / 256 ^ t = N / 256 ^ (t - 1) / 256 := by
              rw [Nat.div_div_eq_div_mul, ← Nat.pow_succ]
              congr 2
              omega
            have hCb : N / 256 ^ (t - 1) < 18446744073709551616 := Nat.lt_of_le_of_lt (Nat.div_le_self _ _) hNb
            rw [hdd]
            have HC2 : Hid (N / 256 ^ (t - 1) = N / 256 ^ (t - 1) / 256 * 256 + N / 256 ^ (t - 1) % 256) := by show _ = _; omega
            obtain ⟨C, hC⟩ : ∃ C, C = N / 256 ^ (t - 1) := ⟨_, rfl⟩
            rw [← hC] at hce hCb HC2 ⊢
            have HC : Hid (C = N / 256 ^ (t - 1)) := hC
            clear hC hdd
            obtain ⟨t', rfl⟩ : ∃ t', t = t' + 1 := ⟨t - 1, by omega⟩
            have e1 : ((t' + 1 : Nat) : Int) - 1 = (t' : Int) := by omega
            rw [Nat.add_sub_cancel] at *
            rw [e1]
            have ht8 : t' < 8 := by omega
            clear hti i4
            go_wp2
            go_roundw
            case rel =>
              refine ⟨t', by omega, rfl, ?_, trivial⟩
              rw [← HC.out]
              congr 1
              omega
            case measure => simp [intOf]
          · obtain rfl : t = 0 := by omega
            rw [Nat.pow_zero, Nat.div_one]
            clear HCE HST HLT
            go_wp2_with (go_at_call 7; refine (HM.out _ (by exact hb3)).mono ?_; rintro e w4 ⟨rfl, hb4⟩)
            go_ret
            exact ⟨rfl, hB3.trans (hb4.mono s3)⟩
end Go.Proofs.Ytogpanedenpbjab
