/-
  What is proved here: the document's eight and sha.appendNumber lay the eight bytes of a number, the highest first.
  Conditions: the number has 64 bits; sha.appendNumber's slice is not nil and has no spare capacity, and with eight bytes more it fits.
-/
import Derived.Test.YtenolcfmbdndgabDoorProg
import Derived.Test.YtenolcfmbdndgabDoorShaApp
namespace Go.Proofs.YtenolcfmbdndgabDoor
open Go.RowKit

set_option maxRecDepth 100000 in
set_option maxHeartbeats 400000 in
theorem eight_any (N : Int) (n : Nat) (hN : N = (n : Int)) (hn : n < 18446744073709551616) (w : World) :
    Calls Tryd.prog 30 #[.int .u64 N] w fun e w' => e = .returned (.slice (some ⟨w.heap.size, 0, none⟩) 8 8) ∧ Blk w' w.heap.size 5 ((be8 n).map v8).toArray ∧ Below w.heap.size w w' := by
  subst hN
  have hmk : ∀ w : World, (Instr.makeSlice 22 (.int .i64 8) (.int .i64 8)).run Tryd.prog w = .ok (.slice (some ⟨w.heap.size, 0, none⟩) 8 8) (w.alloc (.cells #[.int .u8 0, .int .u8 0, .int .u8 0, .int .u8 0, .int .u8 0, .int .u8 0, .int .u8 0, .int .u8 0] 5)) := fun _ => by kernel_rfl
  go_enter Tryd.func30, Tryd.ntmps30
  go_wp2
  clear hmk
  go_loopw [0, 4] (fun m i wr => ∃ k : Nat, k ≤ 8 ∧ i = .int .i64 (7 - (k : Int)) ∧ m = .int .u64 ((n / 256 ^ k : Nat) : Int) ∧ Blk wr w.heap.size 5 (dnTo 8 k (fun j => v8 (be8at n j)) (.int .u8 0)) ∧ Below w.heap.size w wr) (fun _ i _ => (intOf i + 1).toNat)
  case atStart => exact ⟨0, by omega, by simp, by simp, (Blk.new _ _ _).of_eq rfl, (Below.refl _ _).alloc (Nat.le_refl _) _⟩
  case round =>
    obtain ⟨k, hk, rfl, rfl, hb, hbl⟩ := hrel
    by_cases hlt : k < 8
    · have hc := hb.cell (j := 7 - k) (v := .int .u8 0) (by rw [dnTo_at _ _ _ _ _ (by omega), if_neg (by omega)])
      have hfr := hb.frozen (7 - k)
      have hf := be8_low n k hlt
      have hset := dnTo_set 8 k (fun j => v8 (be8at n j)) (.int .u8 0) hlt
      have R := hset ▸ hb.set (7 - k) (v8 (be8at n (7 - k)))
      have hdiv : n / 256 ^ (k + 1) = n / 256 ^ k / 256 := by rw [Nat.div_div_eq_div_mul, Nat.pow_succ]
      have hm : n / 256 ^ k < 18446744073709551616 := Nat.lt_of_le_of_lt (Nat.div_le_self _ _) hn
      have HD : Hid (n / 256 ^ (k + 1) = n / 256 ^ k / 256) := hdiv
      clear hset hdiv
      generalize n / 256 ^ k = q at hf hm HD
      go_wp2
      go_roundw
      case rel => exact ⟨k + 1, by omega, by go_num, by rw [HD.out]; simp, R, hbl.setCell (by simp) _⟩
      case measure => simp [intOf]; omega
    · obtain rfl : k = 8 := by omega
      go_wp2
      go_ret
      exact ⟨rfl, hb.of_eq (by rw [dnTo_full]; simp [be8]), hbl⟩

set_option maxRecDepth 100000 in
set_option maxHeartbeats 400000 in
theorem appendNumber_any (b off len : Nat) (bs : List UInt8) (N : Int) (n : Nat) (w : World) (hN : N = (n : Int)) (hlen : bs.length = len) (hr : Row w b off bs) (hb : b < w.heap.size) (hl : bs.length ≤ 1000000) :
    Calls Tryd.prog 29 #[.slice (some ⟨b, off, none⟩) len len, .int .u64 N] w fun e w' => ∃ v, e = .returned v ∧ Own w' w.heap.size v (bs ++ be8 n) ∧ Below w.heap.size w w' := by
  subst hN; subst hlen
  go_enter Tryd.func29, Tryd.ntmps29
  go_wp2
  go_loopw [0, 6] (fun v i wr => ∃ k : Nat, k ≤ 8 ∧ i = .int .i64 k ∧ Below w.heap.size w wr ∧ ((k = 0 ∧ v = .slice (some ⟨b, off, none⟩) bs.length bs.length) ∨ (0 < k ∧ Own wr w.heap.size v (bs ++ (be8 n).take k)))) (fun _ i _ => 8 - (intOf i).toNat)
  case atStart => exact ⟨0, by omega, rfl, Below.refl _ _, .inl ⟨rfl, rfl⟩⟩
  case round =>
    obtain ⟨k, hk, rfl, hbl, hv⟩ := hrel
    by_cases hlt : k < 8
    · have hf := be8_form n k
      have HT : Hid ((be8 n).take (k + 1) = (be8 n).take k ++ [be8at n k]) := be8_take_succ n k hlt
      have hsz := hbl.size
      have hlk : ((be8 n).take k).length ≤ 8 := by simp [be8_len]; omega
      rcases hv with ⟨hz, rfl⟩ | ⟨hk0, hown⟩
      · have HZ : Hid (k = 0) := hz
        clear hz
        go_wp2_with (at_builtin; refine app_grow _ rfl (.tmp 9) (.tmp 16) rfl b off bs rfl ((hr.below hbl hb).below ((Below.refl wr.heap.size wr).alloc (Nat.le_refl _) _) (by omega)) wr.heap.size 0 1 [be8at n k] rfl (row_one _ _ _) (by simp) (by simp; omega) ?_)
        intro v' w' ho hg
        have hb1 := below_grown (hbl.alloc hsz (.cells #[v8 (be8at n k)] 5)) hg (by simp; omega) (fun _ h => by cases h)
        go_wp2
        go_roundw
        case rel =>
          refine ⟨k + 1, by omega, by go_num, hb1, .inr ⟨by omega, ?_⟩⟩
          rw [HT.out, HZ.out]
          rw [HZ.out] at ho
          exact ho.mono (by omega)
        case measure => simp [intOf]; omega
      · go_wp2_with (at_builtin; refine app_own _ rfl (.tmp 9) (.tmp 16) rfl w.heap.size _ (bs ++ (be8 n).take k) rfl (hown.alloc _) _ [be8at n k] rfl (Seg.of_row (row_one _ _ _) rfl (by simp) (by simp)) (by simp; omega) (by simp; omega) ?_)
        intro v' w' ho hg _
        have hb1 := below_grown (hbl.alloc hsz (.cells #[v8 (be8at n k)] 5)) hg (by simp; omega) (fun q h => (hown.blocks q h).1)
        go_wp2
        go_roundw
        case rel =>
          refine ⟨k + 1, by omega, by go_num, hb1, .inr ⟨by omega, ?_⟩⟩
          rw [HT.out]
          exact ho
        case measure => simp [intOf]; omega
    · obtain rfl : k = 8 := by omega
      rcases hv with ⟨h, _⟩ | ⟨hk0, hown⟩
      · omega
      · go_wp2
        go_ret
        rw [List.take_of_length_le (by simp [be8_len])] at hown
        exact ⟨_, rfl, hown, hbl⟩

end Go.Proofs.YtenolcfmbdndgabDoor
