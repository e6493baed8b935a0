/-
  What is proved here: of all three texts, the statement CrcThree answers true: of three texts of one length, XORed, the sum is the XOR of the sums.
  Conditions: the variable fourBits holds the sixteen words.
-/
import Derived.Test.YtbjiohglcmpdmaaDoorCrcOwn
import Derived.BigQuiet
import Derived.Deep.QuietTactic
namespace Go.Proofs.YtbjiohglcmpdmaaDoor
open Go.RowKit

theorem min_if (a b : Nat) : (if b < a then (b : Int) else (a : Int)) = ((min a b : Nat) : Int) := by split <;> omega
theorem min_if' (a b : Nat) : (if (b : Int) < (a : Int) then (b : Int) else (a : Int)) = ((min a b : Nat) : Int) := by split <;> omega
attribute [local go_sem] min_if min_if'

set_option maxRecDepth 100000 in
set_option maxHeartbeats 1000000 in
theorem crcThree_any (x0 : Value) (bs0 : List UInt8) (ao0 : Option Addr) (len0 c0 : Nat) (x1 : Value) (bs1 : List UInt8) (ao1 : Option Addr) (len1 c1 : Nat) (x2 : Value) (bs2 : List UInt8) (ao2 : Option Addr) (len2 c2 : Nat) (w : World) (hx0 : x0 = .slice ao0 len0 c0) (hl0 : bs0.length = len0) (hm0 : len0 ≤ maxLen) (hseg0 : Seg w x0 bs0) (hx1 : x1 = .slice ao1 len1 c1) (hl1 : bs1.length = len1) (hm1 : len1 ≤ maxLen) (hseg1 : Seg w x1 bs1) (hx2 : x2 = .slice ao2 len2 c2) (hl2 : bs2.length = len2) (hm2 : len2 ≤ maxLen) (hseg2 : Seg w x2 bs2) (hgf : 0 < w.heap.size) (hf : Tab w 0 (fours.map v32)) :
    Calls Tryd.prog 7 #[x0, x1, x2] w fun e w' => e = .returned (.bool true) ∧ Below w.heap.size w w' := by
  subst hx0; subst hx1; subst hx2
  unfold maxLen at hm0 hm1 hm2
  obtain ⟨n, hn⟩ : ∃ n : Nat, n = min len0 (min len1 len2) := ⟨_, rfl⟩
  have h0 : n ≤ len0 := by omega
  have h1 : n ≤ len1 := by omega
  have h2 : n ≤ len2 := by omega
  have hN : min len0 (min len1 len2) = n := hn.symm
  clear hn
  by_cases hbig : 10000 < n
  · go_enter Tryd.func7, Tryd.ntmps7
    go_wp2_with (go_at_call 9; refine (cawake_any _ hgf hf).mono ?_; rintro e w1 ⟨rfl, hb1⟩)
    go_ret
    exact ⟨rfl, hb1⟩
  go_enter Tryd.func7, Tryd.ntmps7
  go_wp2_with fail
  refine (cawake_any _ hgf hf).mono ?_
  rintro e w1 ⟨rfl, hb1⟩
  have s1 := hb1.size
  obtain ⟨X, hX⟩ : ∃ X : Nat → UInt8, ∀ j, X j = bs0.getD j 0 ^^^ bs1.getD j 0 ^^^ bs2.getD j 0 := ⟨_, fun _ => rfl⟩
  have HX : Hid (∀ j, X j = bs0.getD j 0 ^^^ bs1.getD j 0 ^^^ bs2.getD j 0) := hX
  clear hX
  have hmk := mk_bytes n (by omega) (fun j => v8 (X j))
  go_wp2_with fail
  clear hmk
  go_loopw [10] (fun i wr => ∃ k : Nat, k ≤ n ∧ i = .int .i64 k ∧ Blk wr w1.heap.size 5 (upTo n k (fun j => v8 (X j)) (.int .u8 0)) ∧ Below w1.heap.size w1 wr) (fun i _ => n - (intOf i).toNat)
  case atStart => exact ⟨0, by omega, rfl, Blk.new _ _ _, (Below.refl _ _).alloc (Nat.le_refl _) _⟩
  case round =>
    obtain ⟨k, hk, rfl, hb, hbl⟩ := hrel
    have hB : Below w.heap.size w wr := hb1.trans (hbl.mono s1)
    by_cases hlt : k < n
    · obtain ⟨b0, o0, rfl, hc0, hr0, hw0⟩ := hseg0.form (by omega)
      obtain ⟨b1, o1, rfl, hc1, hr1, hw1⟩ := hseg1.form (by omega)
      obtain ⟨b2, o2, rfl, hc2, hr2, hw2⟩ := hseg2.form (by omega)
      have hgd : ∀ l : List UInt8, (h : k < l.length) → l[k] = l.getD k 0 := fun l h => by simp [List.getD, h]
      have e0 := hr0.below hB hw0 k (by omega)
      have e1 := hr1.below hB hw1 k (by omega)
      have e2 := hr2.below hB hw2 k (by omega)
      rw [hgd] at e0 e1 e2
      have hx := HX.out k
      generalize bs0.getD k 0 = y0 at e0 hx
      generalize bs1.getD k 0 = y1 at e1 hx
      generalize bs2.getD k 0 = y2 at e2 hx
      have hx1 := xor8 y0 y1
      have hx2 := xor8 (y0 ^^^ y1) y2
      rw [← hx] at hx2
      clear hx hgd
      generalize y0 ^^^ y1 = y01 at hx1 hx2
      have hc := hb.cell (j := k) (v := .int .u8 0) (by rw [upTo_at _ _ _ _ _ hlt, if_neg (Nat.lt_irrefl k)])
      have hfr := hb.frozen k
      have hset := upTo_set n k (fun j => v8 (X j)) (.int .u8 0)
      have R := hset ▸ hb.set k (v8 (X k))
      clear hset
      go_wp2
      go_region
      go_wp2
      go_roundw
      case rel => exact ⟨k + 1, by omega, by go_num, R.drew, (hbl.setCell (by simp) _).drew⟩
      case measure => simp [intOf]; omega
    · obtain hkn : k = n := by omega
      have hsX : Seg wr (.slice (some ⟨w1.heap.size, 0, none⟩) n n) (xor3 bs0 bs1 bs2 n) := by
        refine Seg.of_row (bs := xor3 bs0 bs1 bs2 n) (Blk.row (t := 5) (hb.of_eq ?_)) (by simp [xor3]) (Nat.le_refl _) hb.lt
        rw [hkn, upTo_full]
        congr 1
        simp [xor3, HX.out]
      have hfw := hf.below hB hgf
      have q0 := (hseg0.below hB (Nat.le_refl _)).takes n h0
      have q1 := (hseg1.below hB (Nat.le_refl _)).takes n h1
      have q2 := (hseg2.below hB (Nat.le_refl _)).takes n h2
      have l0 := slice_to ao0 len0 c0 n q0.2
      have l1 := slice_to ao1 len1 c1 n q1.2
      have l2 := slice_to ao2 len2 c2 n q2.2
      have HE : Hid ((n32 (crcOf (xor3 bs0 bs1 bs2 n)) == n32 (crcOf (bs0.take n) ^^^ crcOf (bs1.take n) ^^^ crcOf (bs2.take n))) = true) := by
        show _ = _
        unfold crcOf
        rw [crc_three _ _ _ n (by omega) (by omega) (by omega)]; simp
      have HC : Hid (∀ (m : Nat) v bs, Seg wr v bs → bs.length ≤ 1000000000 → Calls Tryd.prog 10 #[v] (wr.drewN m) fun e w' => e = .returned (v32 (crcOf bs)) ∧ w' = wr.drewN m) := fun m v bs h2 h3 => csum_any v bs _ h3 h2 hfw
      have z3 : (xor3 bs0 bs1 bs2 n).length ≤ 1000000000 := by simp [xor3]; omega
      have z0 : (bs0.take n).length ≤ 1000000000 := by simp; omega
      have z1 : (bs1.take n).length ≤ 1000000000 := by simp; omega
      have z2 : (bs2.take n).length ≤ 1000000000 := by simp; omega
      have K3 := fun m => HC.out m _ _ hsX z3
      have K0 := fun m => HC.out m _ _ q0.1 z0
      have K1 := fun m => HC.out m _ _ q1.1 z1
      have K2 := fun m => HC.out m _ _ q2.1 z2
      go_wp2_with fail
      go_quiet (first | (go_at_call 10; refine Calls.quiet_of_same (K3 _)) | (go_at_call 10; refine Calls.quiet_of_same (K0 _)) | (go_at_call 10; refine Calls.quiet_of_same (K1 _)) | (go_at_call 10; refine Calls.quiet_of_same (K2 _)))
      rw [bits_xor32, bits_xor32, HE.out]
      clear K0 K1 K2 K3 HE
      go_wp2
      go_ret
      exact ⟨rfl, Below.drewN hB _⟩
end Go.Proofs.YtbjiohglcmpdmaaDoor
