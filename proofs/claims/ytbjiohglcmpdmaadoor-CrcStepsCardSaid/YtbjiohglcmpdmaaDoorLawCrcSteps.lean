/-
  What is proved here: of all sums and bytes, the statement CrcSteps answers true: crc.Add of a text in parts is that at once, has 24 bits, and of no bytes is the lowest 24 bits.
  Conditions: the variable fourBits holds the sixteen words.
-/
import Derived.Test.YtbjiohglcmpdmaaDoorCrcOwn
namespace Go.Proofs.YtbjiohglcmpdmaaDoor
open Go.RowKit

set_option maxRecDepth 100000 in
set_option maxHeartbeats 1000000 in
theorem crcSteps_any (s : BitVec 32) (x : Value) (bs : List UInt8) (ao : Option Addr) (len c : Nat) (x' : Value) (bs' : List UInt8) (ao' : Option Addr) (len' c' : Nat) (w : World) (hx : x = .slice ao len c) (hl : bs.length = len) (hm : len ≤ maxLen) (hseg : Seg w x bs) (hx' : x' = .slice ao' len' c') (hl' : bs'.length = len') (hm' : len' ≤ maxLen) (hseg' : Seg w x' bs') (hgf : 0 < w.heap.size) (hf : Tab w 0 (fours.map v32)) :
    Calls Tryd.prog 8 #[v32 s, x, x'] w fun e w' => e = .returned (.bool true) ∧ Below w.heap.size w w' := by
  subst hx; subst hx'
  unfold maxLen at hm hm'
  by_cases hbig : 10000 < len
  · go_enter Tryd.func8, Tryd.ntmps8
    go_wp2_with (go_at_call 9; refine (cawake_any _ hgf hf).mono ?_; rintro e w1 ⟨rfl, hb1⟩)
    go_ret
    exact ⟨rfl, hb1⟩
  by_cases hbig' : 10000 < len'
  · go_enter Tryd.func8, Tryd.ntmps8
    go_wp2_with (go_at_call 9; refine (cawake_any _ hgf hf).mono ?_; rintro e w1 ⟨rfl, hb1⟩)
    go_ret
    exact ⟨rfl, hb1⟩
  go_enter Tryd.func8, Tryd.ntmps8
  go_wp2_with fail
  refine (cawake_any _ hgf hf).mono ?_
  rintro e w1 ⟨rfl, hb1⟩
  have s1 := hb1.size
  have hs1 := hseg.below hb1 (Nat.le_refl _)
  have hs1' := hseg'.below hb1 (Nat.le_refl _)
  have hf1 := hf.below hb1 hgf
  go_wp2_with (first | (at_builtin; refine app_own _ rfl (.tmp 24) (.tmp 25) rfl w1.heap.size _ [] rfl (by exact own_empty _ _ _ rfl (Nat.le_refl _)) _ bs rfl (by exact hs1.alloc _) (by simp; omega) (by simp) ?_; intro v2 w2 ho2 hg2 hv2; rw [List.nil_append] at ho2; have hB2 := below_grown ((Below.refl w1.heap.size w1).alloc (Nat.le_refl _) _) hg2 (by simp) (fun q hq => by have h2 : w1.heap.size = q := Option.some.inj hq; omega); have s2 := hB2.size; clear hg2 hv2) | (at_builtin; refine app_own _ rfl (.tmp 26) (.tmp 27) rfl w1.heap.size _ bs rfl ho2 _ bs' rfl (by exact hs1'.below hB2 (Nat.le_refl _)) (by omega) s2 ?_; intro v3 w3 ho3 hg3 hv3; have hB3 := below_grown hB2 hg3 s2 (fun q hq => (ho2.blocks q hq).1); clear hg3 hv3) | fail)
  have hB3' : Below w.heap.size w w3 := hb1.trans (hB3.mono s1)
  have sg3 := ho3.seg
  have sa3 := hseg.below hB3' (Nat.le_refl _)
  have sb3 := hseg'.below hB3' (Nat.le_refl _)
  have hf3 := hf.below hB3' hgf
  clear hB2 ho2 ho3 hs1 hs1' hB3 hf1
  refine (add_any s _ (bs ++ bs') _ (by simp; omega) sg3 hf3).mono ?_
  rintro e w4 ⟨rfl, rfl⟩
  go_wp2_with fail
  refine (add_any s _ bs _ (by omega) sa3 hf3).mono ?_
  rintro e w4 ⟨rfl, rfl⟩
  go_wp2_with fail
  refine (add_any (crc (low24 s) bs) _ bs' _ (by omega) sb3 hf3).mono ?_
  rintro e w4 ⟨rfl, rfl⟩
  have hlt := crc_lt (bs ++ bs') (low24 s) (low24_lt s)
  rw [low24_of_lt _ (crc_lt bs _ (low24_lt s)), ← crc_append]
  have hlt' : n32 (crc (low24 s) (bs ++ bs')) < 16777216 := by unfold n32; omega
  clear hlt
  generalize crc (low24 s) (bs ++ bs') = X at hlt' ⊢
  generalize crc (low24 s) bs = Y
  go_wp2_with fail
  refine (add_any s _ [] _ (by simp) (seg_nil _) hf3).mono ?_
  rintro e w4 ⟨rfl, rfl⟩
  rw [show crc (low24 s) [] = low24 s from rfl]
  have ha := and24 s
  go_wp2
  go_ret
  exact ⟨rfl, hB3'⟩
end Go.Proofs.YtbjiohglcmpdmaaDoor
