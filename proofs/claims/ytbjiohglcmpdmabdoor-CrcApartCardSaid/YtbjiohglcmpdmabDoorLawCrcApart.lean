/-
  What is proved here: of all sums and bytes, the statement CrcApart answers true: by one text, sums that are unlike in their lowest 24 bits stay unlike, and alike ones alike.
  Conditions: the variable fourBits holds the sixteen words.
-/
import Derived.Test.YtbjiohglcmpdmabDoorCrcAdd
namespace Go.Proofs.YtbjiohglcmpdmabDoor
open Go.RowKit

theorem n32_beq (a b : BitVec 32) : (n32 a == n32 b) = decide (a = b) := by
  unfold n32
  by_cases h : a = b
  · simp [h]
  · have : ¬ a.toNat = b.toNat := fun e => h (BitVec.eq_of_toNat_eq e)
    simp [h]; omega
set_option maxRecDepth 100000 in
set_option maxHeartbeats 1000000 in
theorem crcApart_any (s t : BitVec 32) (x : Value) (bs : List UInt8) (ao : Option Addr) (len c : Nat) (w : World) (hx : x = .slice ao len c) (hl : bs.length = len) (hm : len ≤ maxLen) (hseg : Seg w x bs) (hgf : 0 < w.heap.size) (hf : Tab w 0 (fours.map v32)) :
    Calls Tryd.prog 3 #[v32 s, v32 t, x] w fun e w' => e = .returned (.bool true) ∧ Below w.heap.size w w' := by
  subst hx
  unfold maxLen at hm
  by_cases hbig : 10000 < len
  · go_enter Tryd.func3, Tryd.ntmps3
    go_wp2_with (go_at_call 4; refine (cawake_any _ hgf hf).mono ?_; rintro e w1 ⟨rfl, hb1⟩)
    go_ret
    exact ⟨rfl, hb1⟩
  · go_enter Tryd.func3, Tryd.ntmps3
    go_wp2_with fail
    refine (cawake_any _ hgf hf).mono ?_
    rintro e w1 ⟨rfl, hb1⟩
    have hs1 := hseg.below hb1 (Nat.le_refl _)
    have hf1 := hf.below hb1 hgf
    go_wp2_with fail
    refine (add_any s _ bs _ (by omega) hs1 hf1).mono ?_
    rintro e w2 ⟨rfl, rfl⟩
    go_wp2_with fail
    refine (add_any t _ bs _ (by omega) hs1 hf1).mono ?_
    rintro e w3 ⟨rfl, rfl⟩
    have ha := and24 s
    have hb := and24 t
    have HE : Hid (((n32 (crc (low24 s) bs) == n32 (crc (low24 t) bs)) == (n32 (low24 s) == n32 (low24 t))) = true) := by
      show _ = _
      rw [n32_beq, n32_beq]
      have := crc_apart bs _ _ (low24_lt s) (low24_lt t)
      simp [this]
    generalize crc (low24 s) bs = S1 at *
    generalize crc (low24 t) bs = S2 at *
    go_wp2
    go_ret
    exact ⟨ret_bool HE.out, hb1⟩
end Go.Proofs.YtbjiohglcmpdmabDoor
