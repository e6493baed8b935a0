/-
  What is proved here: of all sums and bytes, the statement CrcSums answers true: crc.Sum and crc.Add are the document's.
  Conditions: the variable fourBits holds the sixteen words.
-/
import Derived.Test.YtbjiohglcmpdmaaDoorRefAdd
namespace Go.Proofs.YtbjiohglcmpdmaaDoor
open Go.RowKit

set_option maxRecDepth 100000 in
set_option maxHeartbeats 1000000 in
theorem crcSums_any (s : BitVec 32) (x : Value) (bs : List UInt8) (ao : Option Addr) (len c : Nat) (w : World) (hx : x = .slice ao len c) (hl : bs.length = len) (hm : len ≤ maxLen) (hseg : Seg w x bs) (hgf : 0 < w.heap.size) (hf : Tab w 0 (fours.map v32)) :
    Calls Tryd.prog 3 #[v32 s, x] w fun e w' => e = .returned (.bool true) ∧ Below w.heap.size w w' := by
  subst hx
  unfold maxLen at hm
  by_cases hbig : 200000 < len
  · go_enter Tryd.func3, Tryd.ntmps3
    go_wp2_with (go_at_call 9; refine (cawake_any _ hgf hf).mono ?_; rintro e w1 ⟨rfl, hb1⟩)
    go_ret
    exact ⟨rfl, hb1⟩
  · go_enter Tryd.func3, Tryd.ntmps3
    go_wp2_with fail
    refine (cawake_any _ hgf hf).mono ?_
    rintro e w1 ⟨rfl, hb1⟩
    have hs1 := hseg.below hb1 (Nat.le_refl _)
    have hf1 := hf.below hb1 hgf
    go_wp2_with fail
    refine (csum_any _ bs _ (by omega) hs1 hf1).mono ?_
    rintro e w2 ⟨rfl, rfl⟩
    go_wp2_with fail
    refine (refCsum_any _ bs _ (by omega) hs1).mono ?_
    rintro e w3 ⟨rfl, rfl⟩
    generalize crcOf bs = S1
    go_wp2_with fail
    refine (add_any s _ bs _ (by omega) hs1 hf1).mono ?_
    rintro e w4 ⟨rfl, rfl⟩
    go_wp2_with fail
    refine (refAdd_any s _ bs _ (by omega) hs1).mono ?_
    rintro e w5 ⟨rfl, rfl⟩
    generalize crc (low24 s) bs = S2
    go_wp2
    go_ret
    exact ⟨rfl, hb1⟩
end Go.Proofs.YtbjiohglcmpdmaaDoor
