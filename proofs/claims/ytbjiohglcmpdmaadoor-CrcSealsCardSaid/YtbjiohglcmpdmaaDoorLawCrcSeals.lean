/-
  What is proved here: of all two texts, the statement CrcSeals answers true: crc.Seal and crc.Open are the document's.
  Conditions: the variable fourBits holds the sixteen words.
-/
import Derived.Test.YtbjiohglcmpdmaaDoorRefSeal
namespace Go.Proofs.YtbjiohglcmpdmaaDoor
open Go.RowKit

set_option maxRecDepth 100000 in
set_option maxHeartbeats 1000000 in
theorem crcSeals_any (x : Value) (bs : List UInt8) (ao : Option Addr) (len c : Nat) (x' : Value) (bs' : List UInt8) (ao' : Option Addr) (len' c' : Nat) (w : World) (hx : x = .slice ao len c) (hl : bs.length = len) (hm : len ≤ maxLen) (hseg : Seg w x bs) (hx' : x' = .slice ao' len' c') (hl' : bs'.length = len') (hm' : len' ≤ maxLen) (hseg' : Seg w x' bs') (hgf : 0 < w.heap.size) (hf : Tab w 0 (fours.map v32)) :
    Calls Tryd.prog 4 #[x, x'] w fun e w' => e = .returned (.bool true) ∧ Below w.heap.size w w' := by
  subst hx; subst hx'
  unfold maxLen at hm hm'
  by_cases hbig : 100000 < len
  · go_enter Tryd.func4, Tryd.ntmps4
    go_wp2_with (go_at_call 9; refine (cawake_any _ hgf hf).mono ?_; rintro e w1 ⟨rfl, hb1⟩)
    go_ret
    exact ⟨rfl, hb1⟩
  by_cases hbig' : 100000 < len'
  · go_enter Tryd.func4, Tryd.ntmps4
    go_wp2_with (go_at_call 9; refine (cawake_any _ hgf hf).mono ?_; rintro e w1 ⟨rfl, hb1⟩)
    go_ret
    exact ⟨rfl, hb1⟩
  go_enter Tryd.func4, Tryd.ntmps4
  go_wp2_with fail
  refine (cawake_any _ hgf hf).mono ?_
  rintro e w1 ⟨rfl, hb1⟩
  have s1 := hb1.size
  go_wp2_with fail
  refine (open_any _ bs' _ (by omega) (hseg'.below hb1 (Nat.le_refl _)) (by omega) (hf.below hb1 hgf)).mono ?_
  rintro e w2 ⟨v2, rfl, ho2, hb2⟩
  have hB2 : Below w.heap.size w w2 := hb1.trans (hb2.mono s1)
  have s2 := hB2.size
  go_wp2_with fail
  refine (refOpen_any _ bs' _ (by omega) (hseg'.below hB2 (Nat.le_refl _))).mono ?_
  rintro e w3 ⟨v3, rfl, ho3, hb3⟩
  have hB3 : Below w.heap.size w w3 := hB2.trans (hb3.mono s2)
  have s3 := hB3.size
  have sx := ho2.seg.below hb3 (Nat.le_refl _)
  have sy := ho3.seg
  generalize (openOf bs').isSome = IS at *
  generalize (openOf bs').getD [] = OT at *
  clear ho2 ho3 hb1 hb2 hb3 hB2
  go_wp2_with fail
  have hS0 : Below w.heap.size w w3.drew := hB3.drew
  have hl1 : (bs ++ sumB (crcOf bs)).length ≤ 200000 := by rw [List.length_append, sumB_len]; omega
  refine held_begin (fun W => Below w.heap.size w W) (by kernel_rfl) ?_
  refine held_take 0 30 _ (.bool true) rfl rfl (by kernel_rfl) (by kernel_rfl) (by kernel_rfl) rfl hS0 (fun _ _ => rfl) ?_
  simp only [Act.put, List.setIfInBounds_toArray, List.set_cons_succ, List.set_cons_zero]
  refine held_take 1 31 _ (.bool true) rfl rfl (by kernel_rfl) (by kernel_rfl) (by kernel_rfl) rfl hS0 (fun _ _ => rfl) ?_
  simp only [Act.put, List.setIfInBounds_toArray, List.set_cons_succ, List.set_cons_zero]
  refine held_take 2 32 _ (.slice ao len c) rfl rfl (by kernel_rfl) (by kernel_rfl) (by kernel_rfl) rfl hS0 (fun _ _ => rfl) ?_
  simp only [Act.put, List.setIfInBounds_toArray, List.set_cons_succ, List.set_cons_zero]
  refine held_take 5 35 _ (.slice ao len c) rfl rfl (by kernel_rfl) (by kernel_rfl) (by kernel_rfl) rfl hS0 (fun _ _ => rfl) ?_
  simp only [Act.put, List.setIfInBounds_toArray, List.set_cons_succ, List.set_cons_zero]
  refine held_call 3 33 _ 16 _ rfl rfl (by kernel_rfl) rfl (exec_one 16 _ _ rfl _ rfl Tryd.call16) ?_
  refine (seal_any _ bs _ (by omega) (hseg.below hS0 (Nat.le_refl _)) (by have := hS0.size; omega) (hf.below hS0 hgf)).mono ?_
  rintro e w4 ⟨v4, rfl, ho4, hb4⟩
  have hS4 : Below w.heap.size w w4 := hS0.trans (hb4.mono hS0.size)
  refine ⟨v4, rfl, hS4, ?_⟩
  refine held_weaken (S' := fun W => Below w4.heap.size w4 W) (fun W hW => hS4.trans (hW.mono hS4.size)) _ _ _ _ ?_
  simp only [Act.put, List.setIfInBounds_toArray, List.set_cons_succ, List.set_cons_zero]
  have hT4 : Below w4.heap.size w4 w4 := Below.refl _ _
  refine held_take 4 34 _ (.string ⟨(bs ++ sumB (crcOf bs)).toArray⟩) rfl rfl (by kernel_rfl) (by kernel_rfl) (by kernel_rfl) rfl hT4 (fun W hW => exec_conv _ _ _ rfl _ _ rfl (seg_string (ho4.seg.below hW (Nat.le_refl _)) 9 Tryd.underlying9)) ?_
  simp only [Act.put, List.setIfInBounds_toArray, List.set_cons_succ, List.set_cons_zero]
  refine held_call 6 36 _ 17 _ rfl rfl (by kernel_rfl) rfl (exec_one 17 _ _ rfl _ rfl Tryd.call17) ?_
  refine (refSeal_any _ bs _ (by omega) (hseg.below hS4 (Nat.le_refl _))).mono ?_
  rintro e w5 ⟨v5, rfl, ho5, hb5⟩
  refine ⟨v5, rfl, hb5, ?_⟩
  simp only [Act.put, List.setIfInBounds_toArray, List.set_cons_succ, List.set_cons_zero]
  have hS5 : Below w.heap.size w w5 := hS4.trans (hb5.mono hS4.size)
  have h34 : Below w3.heap.size w3 w4 := (Below.refl _ w3).drew.trans hb4
  have sx4 := sx.below h34 (Nat.le_refl _)
  have sy4 := sy.below h34 (Nat.le_refl _)
  refine held_one 7 37 _ (.string ⟨(bs ++ sumB (crcOf bs)).toArray⟩) rfl rfl (by kernel_rfl) rfl hb5 (exec_conv _ _ _ rfl _ _ rfl (seg_string ho5.seg 9 Tryd.underlying9)) ?_
  simp only [Act.put, List.setIfInBounds_toArray, List.set_cons_succ, List.set_cons_zero]
  refine held_one 8 38 _ (.bool true) rfl rfl (by kernel_rfl) rfl hb5 (exec_cmp _ _ _ _ _ rfl (.inr rfl) _ _ _ rfl rfl rfl (eql_string_self _ _)) ?_
  simp only [Act.put, List.setIfInBounds_toArray, List.set_cons_succ, List.set_cons_zero]
  refine held_one 9 39 _ (.bool true) rfl rfl (by kernel_rfl) rfl hb5 rfl ?_
  simp only [Act.put, List.setIfInBounds_toArray, List.set_cons_succ, List.set_cons_zero]
  refine held_one 10 40 _ (.bool true) rfl rfl (by kernel_rfl) rfl hb5 rfl ?_
  simp only [Act.put, List.setIfInBounds_toArray, List.set_cons_succ, List.set_cons_zero]
  refine held_take 11 41 _ v2 rfl rfl (by kernel_rfl) (by kernel_rfl) (by kernel_rfl) rfl hb5 (fun _ _ => rfl) ?_
  simp only [Act.put, List.setIfInBounds_toArray, List.set_cons_succ, List.set_cons_zero]
  refine held_take 13 43 _ v3 rfl rfl (by kernel_rfl) (by kernel_rfl) (by kernel_rfl) rfl hb5 (fun _ _ => rfl) ?_
  simp only [Act.put, List.setIfInBounds_toArray, List.set_cons_succ, List.set_cons_zero]
  refine held_take 12 42 _ (.string ⟨OT.toArray⟩) rfl rfl (by kernel_rfl) (by kernel_rfl) (by kernel_rfl) rfl hb5 (fun W hW => exec_conv _ _ _ rfl _ _ rfl (seg_string (sx4.below hW (Nat.le_refl _)) 9 Tryd.underlying9)) ?_
  simp only [Act.put, List.setIfInBounds_toArray, List.set_cons_succ, List.set_cons_zero]
  refine held_take 14 44 _ (.string ⟨OT.toArray⟩) rfl rfl (by kernel_rfl) (by kernel_rfl) (by kernel_rfl) rfl hb5 (fun W hW => exec_conv _ _ _ rfl _ _ rfl (seg_string (sy4.below hW (Nat.le_refl _)) 9 Tryd.underlying9)) ?_
  simp only [Act.put, List.setIfInBounds_toArray, List.set_cons_succ, List.set_cons_zero]
  refine held_one 15 45 _ (.bool true) rfl rfl (by kernel_rfl) rfl hb5 (exec_cmp _ _ _ _ _ rfl (.inr rfl) _ _ _ rfl rfl rfl (eql_string_self _ _)) ?_
  simp only [Act.put, List.setIfInBounds_toArray, List.set_cons_succ, List.set_cons_zero]
  refine held_one 16 46 _ (.bool true) rfl rfl (by kernel_rfl) rfl hb5 rfl ?_
  simp only [Act.put, List.setIfInBounds_toArray, List.set_cons_succ, List.set_cons_zero]
  refine held_one 17 47 _ (.bool true) rfl rfl (by kernel_rfl) rfl hb5 rfl ?_
  simp only [Act.put, List.setIfInBounds_toArray, List.set_cons_succ, List.set_cons_zero]
  refine held_take 18 48 _ (.bool IS) rfl rfl (by kernel_rfl) (by kernel_rfl) (by kernel_rfl) rfl hb5 (fun _ _ => rfl) ?_
  simp only [Act.put, List.setIfInBounds_toArray, List.set_cons_succ, List.set_cons_zero]
  refine held_take 19 49 _ (.bool IS) rfl rfl (by kernel_rfl) (by kernel_rfl) (by kernel_rfl) rfl hb5 (fun _ _ => rfl) ?_
  simp only [Act.put, List.setIfInBounds_toArray, List.set_cons_succ, List.set_cons_zero]
  refine held_one 20 50 _ (.bool true) rfl rfl (by kernel_rfl) rfl hb5 (exec_cmp _ _ _ _ _ rfl (.inr rfl) _ _ _ rfl rfl rfl (eql_bool_self _ _)) ?_
  simp only [Act.put, List.setIfInBounds_toArray, List.set_cons_succ, List.set_cons_zero]
  refine held_one 21 51 _ (.bool true) rfl rfl (by kernel_rfl) rfl hb5 rfl ?_
  simp only [Act.put, List.setIfInBounds_toArray, List.set_cons_succ, List.set_cons_zero]
  refine held_one 22 4 _ (.bool true) rfl rfl (by kernel_rfl) rfl hb5 rfl ?_
  simp only [Act.put, List.setIfInBounds_toArray, List.set_cons_succ, List.set_cons_zero]
  refine wpAnyH_done (by kernel_rfl) ?_ _
  refine NoPanic.normal ?_
  go_wp2
  go_ret
  exact ⟨rfl, hS5⟩
end Go.Proofs.YtbjiohglcmpdmaaDoor
