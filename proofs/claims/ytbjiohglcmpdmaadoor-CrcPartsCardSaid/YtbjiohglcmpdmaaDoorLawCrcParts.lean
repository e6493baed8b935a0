/-
  What is proved here: of all two texts, the statement CrcParts answers true: the sum of a text is Add of a beginning's and the rest, that of its Seal is 0, and Open opens it as it was.
  Conditions: the variable fourBits holds the sixteen words.
-/
import Derived.Test.YtbjiohglcmpdmaaDoorCrcOpen
namespace Go.Proofs.YtbjiohglcmpdmaaDoor
open Go.RowKit

theorem open_seal (T : List UInt8) : openOf (T ++ sumB (crcOf T)) = some T := by
  have h3 : (sumB (crcOf T)).length = 3 := rfl
  have hl : (T ++ sumB (crcOf T)).length - 3 = T.length := by simp [h3]
  have hT : (T ++ sumB (crcOf T)).take T.length = T := by simp
  unfold openOf
  rw [hl, hT, if_neg (by simp [h3]), if_pos rfl]
theorem crc_seal (T : List UInt8) : crcOf (T ++ sumB (crcOf T)) = 0#32 := by
  show crc _ _ = _
  rw [crc_append]
  exact crc_own _ (crcOf_lt T)

set_option maxRecDepth 100000 in
set_option maxHeartbeats 1000000 in
theorem crcParts_any (x : Value) (bs : List UInt8) (ao : Option Addr) (len c : Nat) (x' : Value) (bs' : List UInt8) (ao' : Option Addr) (len' c' : Nat) (w : World) (hx : x = .slice ao len c) (hl : bs.length = len) (hm : len ≤ maxLen) (hseg : Seg w x bs) (hx' : x' = .slice ao' len' c') (hl' : bs'.length = len') (hm' : len' ≤ maxLen) (hseg' : Seg w x' bs') (hgf : 0 < w.heap.size) (hf : Tab w 0 (fours.map v32)) :
    Calls Tryd.prog 5 #[x, x'] w fun e w' => e = .returned (.bool true) ∧ Below w.heap.size w w' := by
  subst hx; subst hx'
  unfold maxLen at hm hm'
  by_cases hbig : 100000 < len
  · go_enter Tryd.func5, Tryd.ntmps5
    go_wp2_with (go_at_call 9; refine (cawake_any _ hgf hf).mono ?_; rintro e w1 ⟨rfl, hb1⟩)
    go_ret
    exact ⟨rfl, hb1⟩
  by_cases hbig' : 100000 < len'
  · go_enter Tryd.func5, Tryd.ntmps5
    go_wp2_with (go_at_call 9; refine (cawake_any _ hgf hf).mono ?_; rintro e w1 ⟨rfl, hb1⟩)
    go_ret
    exact ⟨rfl, hb1⟩
  go_enter Tryd.func5, Tryd.ntmps5
  go_wp2_with fail
  refine (cawake_any _ hgf hf).mono ?_
  rintro e w1 ⟨rfl, hb1⟩
  have s1 := hb1.size
  have hs1 := hseg.below hb1 (Nat.le_refl _)
  have hs1' := hseg'.below hb1 (Nat.le_refl _)
  go_wp2_with (first | (at_builtin; refine app_own _ rfl (.tmp 20) (.tmp 21) rfl w1.heap.size _ [] rfl (by exact own_empty _ _ _ rfl (Nat.le_refl _)) _ bs rfl (by exact hs1.alloc _) (by simp; omega) (by simp) ?_; intro v2 w2 ho2 hg2 hv2; rw [List.nil_append] at ho2; have hB2 := below_grown ((Below.refl w1.heap.size w1).alloc (Nat.le_refl _) _) hg2 (by simp) (fun q hq => by have h2 : w1.heap.size = q := Option.some.inj hq; omega); have s2 := hB2.size; clear hg2 hv2) | (at_builtin; refine app_own _ rfl (.tmp 22) (.tmp 23) rfl w1.heap.size _ bs rfl ho2 _ bs' rfl (by exact hs1'.below hB2 (Nat.le_refl _)) (by omega) s2 ?_; intro v3 w3 ho3 hg3 hv3; have hB3 := below_grown hB2 hg3 s2 (fun q hq => (ho2.blocks q hq).1); clear hg3 hv3) | fail)
  have hB3' : Below w.heap.size w w3 := hb1.trans (hB3.mono s1)
  have s3 := hB3'.size
  have sg3 := ho3.seg
  have hf3 := hf.below hB3' hgf
  clear hB2 ho2 ho3 hs1 hs1' hB3
  have HA : Hid (crcOf (bs ++ bs') = crc (crcOf bs) bs') := crc_append bs bs' _
  have hlA : (bs ++ bs').length ≤ 200000 := by simp; omega
  refine (seal_any _ (bs ++ bs') _ (by omega) sg3 (by omega) hf3).mono ?_
  rintro e w4 ⟨v4, rfl, ho4, hb4⟩
  have sg4 := ho4.seg
  have hB4 : Below w.heap.size w w4 := hB3'.trans (hb4.mono s3)
  have s4 := hB4.size
  have hf4 := hf.below hB4 hgf
  have sa4 := sg3.below hb4 (Nat.le_refl _)
  have HO : Hid (openOf (bs ++ bs' ++ sumB (crcOf (bs ++ bs'))) = some (bs ++ bs')) := open_seal _
  have HZ : Hid (crcOf (bs ++ bs' ++ sumB (crcOf (bs ++ bs'))) = 0#32) := crc_seal _
  have hl4 : (bs ++ bs' ++ sumB (crcOf (bs ++ bs'))).length ≤ 200003 := by rw [List.length_append, sumB_len]; omega
  generalize bs ++ bs' ++ sumB (crcOf (bs ++ bs')) = SL at *
  generalize bs ++ bs' = AL at *
  go_wp2_with fail
  refine (open_any _ SL _ (by omega) sg4 (by omega) hf4).mono ?_
  rintro e w5 ⟨v5, rfl, ho5, hb5⟩
  rw [HO.out] at ho5 ⊢
  have ho5' : Own w5 w4.heap.size v5 AL := ho5
  have hB5 : Below w.heap.size w w5 := hB4.trans (hb5.mono s4)
  have s5 := hB5.size
  have hf5 := hf.below hB5 hgf
  have sA5 := sa4.below hb5 (Nat.le_refl _)
  have sS5 := sg4.below hb5 (Nat.le_refl _)
  have sa5 := hseg.below hB5 (Nat.le_refl _)
  have sb5 := hseg'.below hB5 (Nat.le_refl _)
  have sx5 := ho5'.seg
  clear ho5 ho5' ho4 sg3 sg4 sa4 hB3' hB4 hb4 hb5 hf3 hf4 HO hb1
  go_wp2_with fail
  refine (csum_any _ AL _ (by omega) sA5 hf5).mono ?_
  rintro e w6 ⟨rfl, rfl⟩
  rw [HA.out]
  go_wp2_with fail
  refine (csum_any _ bs _ (by omega) sa5 hf5).mono ?_
  rintro e w7 ⟨rfl, rfl⟩
  go_wp2_with fail
  refine (add_any (crcOf bs) _ bs' _ (by omega) sb5 hf5).mono ?_
  rintro e w8 ⟨rfl, rfl⟩
  rw [low24_of_lt _ (crcOf_lt bs)]
  generalize crc (crcOf bs) bs' = S1
  generalize crcOf bs = S0
  go_wp2_with fail
  refine (csum_any _ SL _ (by omega) sS5 hf5).mono ?_
  rintro e w9 ⟨rfl, rfl⟩
  rw [HZ.out, show v32 0#32 = Value.int .u32 0 from rfl]
  have c1 := seg_string sx5 9 Tryd.underlying9
  have c2 := seg_string sA5 9 Tryd.underlying9
  generalize (⟨AL.toArray⟩ : ByteArray) = BA at c1 c2
  go_wp2
  go_ret
  exact ⟨rfl, hB5⟩
end Go.Proofs.YtbjiohglcmpdmaaDoor
