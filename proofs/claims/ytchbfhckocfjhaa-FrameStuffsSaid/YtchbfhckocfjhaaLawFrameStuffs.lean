/-
  What is proved here: of all bytes, the statement FrameStuffs answers true: frame.Stuff and frame.Plain are the document's.
  Conditions: none.
-/
import Derived.Test.YtchbfhckocfjhaaRefPlain
import Derived.Test.YtchbfhckocfjhaaFrameAwake
namespace Go.Proofs.Ytchbfhckocfjhaa
open Go.RowKit

/-- The number that Plain answers. -/
def errOf (r : Option (List UInt8)) : Int := if r.isSome then 0 else 2
theorem plainPost_out {w w' : World} {r : Option (List UInt8)} {e : Ending} (h : plainPost w r e w') : ∃ v, e = .returned (.tuple #[v, .int .i64 (errOf r)]) ∧ Own w' w.heap.size v (r.getD []) ∧ Below w.heap.size w w' := by
  obtain ⟨h1, h2⟩ := h
  cases r with
  | none => exact ⟨_, h1, ⟨rfl, .inl ⟨rfl, rfl⟩⟩, h2⟩
  | some o =>
    obtain ⟨v, hv, ho⟩ := h1
    exact ⟨v, hv, ho, h2⟩
theorem eql_err_self (w : World) (z : Int) : (binOp .eql 24 (.int .i64 z) (.int .i64 z)).run Try.prog w = .ok (.bool true) w := by
  simp [binOp, go_sem]

set_option maxRecDepth 100000 in
set_option maxHeartbeats 4000000 in
theorem frameStuffs_any (x : Value) (bs : List UInt8) (ao : Option Addr) (len c : Nat) (y : Value) (cs : List UInt8) (ao2 : Option Addr) (len2 c2 : Nat) (w : World) (hx : x = .slice ao len c) (hl : bs.length = len) (hm : len ≤ maxLen) (hseg : Seg w x bs) (hy : y = .slice ao2 len2 c2) (hl2 : cs.length = len2) (hm2 : len2 ≤ maxLen) (hseg2 : Seg w y cs) :
    Calls Try.prog 3 #[x, y] w fun e w' => e = .returned (.bool true) ∧ Below w.heap.size w w' := by
  subst hx hy
  unfold maxLen at hm hm2
  go_enter Try.func3, Try.ntmps3
  go_wp2_with fail
  refine (fawake_any _).mono ?_
  rintro e w1 ⟨rfl, hb1⟩
  have hs1 := hseg.below hb1 (Nat.le_refl _)
  have hs2 := hseg2.below hb1 (Nat.le_refl _)
  by_cases hbig : 20000 < len
  · go_wp2
    go_ret
    exact ⟨rfl, hb1⟩
  · by_cases hbig2 : 20000 < len2
    · go_wp2
      go_ret
      exact ⟨rfl, hb1⟩
    · go_wp2_with fail
      refine (plain_any _ cs _ (by omega) hs2).mono ?_
      rintro e w2 hp2
      obtain ⟨v2, rfl, ho2, hb2⟩ := plainPost_out hp2
      have s1 := hb1.size
      have hB2 : Below w.heap.size w w2 := hb1.trans (hb2.mono s1)
      have s2 := hB2.size
      clear hp2
      go_wp2_with fail
      refine (refPlain_any _ cs _ (by omega) (hseg2.below hB2 (Nat.le_refl _))).mono ?_
      rintro e w3 hp3
      obtain ⟨v3, rfl, ho3, hb3⟩ := plainPost_out hp3
      have hB3 : Below w.heap.size w w3 := hB2.trans (hb3.mono s2)
      have s3 := hB3.size
      have sx := ho2.seg.below hb3 (Nat.le_refl _)
      have sy := ho3.seg
      generalize errOf (plainOf cs) = IS at *
      generalize (plainOf cs).getD [] = OT at *
      clear ho2 ho3 hb1 hb2 hb3 hB2 hp3
      go_wp2_with fail
      have hS0 : Below w.heap.size w w3.drew := hB3.drew
      refine held_begin (fun W => Below w.heap.size w W) (by kernel_rfl) ?_
      refine held_take 0 30 _ (.bool true) rfl rfl (by kernel_rfl) (by kernel_rfl) (by kernel_rfl) rfl hS0 (fun _ _ => rfl) ?_
      simp only [Act.put, List.setIfInBounds_toArray, List.set_cons_succ, List.set_cons_zero]
      refine held_take 1 31 _ (.bool true) rfl rfl (by kernel_rfl) (by kernel_rfl) (by kernel_rfl) rfl hS0 (fun _ _ => rfl) ?_
      simp only [Act.put, List.setIfInBounds_toArray, List.set_cons_succ, List.set_cons_zero]
      refine held_take 2 32 _ (.slice ao len c) rfl rfl (by kernel_rfl) (by kernel_rfl) (by kernel_rfl) rfl hS0 (fun _ _ => rfl) ?_
      simp only [Act.put, List.setIfInBounds_toArray, List.set_cons_succ, List.set_cons_zero]
      refine held_take 5 35 _ (.slice ao len c) rfl rfl (by kernel_rfl) (by kernel_rfl) (by kernel_rfl) rfl hS0 (fun _ _ => rfl) ?_
      simp only [Act.put, List.setIfInBounds_toArray, List.set_cons_succ, List.set_cons_zero]
      refine held_call 3 33 _ 8 _ rfl rfl (by kernel_rfl) rfl (exec_one 8 _ _ rfl _ rfl Try.call8) ?_
      refine (stuff_any _ bs _ (by omega) (hseg.below hS0 (Nat.le_refl _))).mono ?_
      rintro e w4 ⟨v4, rfl, ho4, hb4⟩
      have hS4 : Below w.heap.size w w4 := hS0.trans (hb4.mono hS0.size)
      refine ⟨v4, rfl, hS4, ?_⟩
      refine held_weaken (S' := fun W => Below w4.heap.size w4 W) (fun W hW => hS4.trans (hW.mono hS4.size)) _ _ _ _ ?_
      simp only [Act.put, List.setIfInBounds_toArray, List.set_cons_succ, List.set_cons_zero]
      have hT4 : Below w4.heap.size w4 w4 := Below.refl _ _
      refine held_take 4 34 _ (.string ⟨(stuff bs).toArray⟩) rfl rfl (by kernel_rfl) (by kernel_rfl) (by kernel_rfl) rfl hT4 (fun W hW => exec_conv _ _ _ rfl _ _ rfl (seg_stringF (ho4.seg.below hW (Nat.le_refl _)) 9 Try.underlying9)) ?_
      simp only [Act.put, List.setIfInBounds_toArray, List.set_cons_succ, List.set_cons_zero]
      refine held_call 6 36 _ 9 _ rfl rfl (by kernel_rfl) rfl (exec_one 9 _ _ rfl _ rfl Try.call9) ?_
      refine (refStuff_any _ bs _ (by omega) (hseg.below hS4 (Nat.le_refl _))).mono ?_
      rintro e w5 ⟨v5, rfl, ho5, hb5⟩
      refine ⟨v5, rfl, hb5, ?_⟩
      simp only [Act.put, List.setIfInBounds_toArray, List.set_cons_succ, List.set_cons_zero]
      have hS5 : Below w.heap.size w w5 := hS4.trans (hb5.mono hS4.size)
      have h34 : Below w3.heap.size w3 w4 := (Below.refl _ w3).drew.trans hb4
      have sx4 := sx.below h34 (Nat.le_refl _)
      have sy4 := sy.below h34 (Nat.le_refl _)
      refine held_one 7 37 _ (.string ⟨(stuff bs).toArray⟩) rfl rfl (by kernel_rfl) rfl hb5 (exec_conv _ _ _ rfl _ _ rfl (seg_stringF ho5.seg 9 Try.underlying9)) ?_
      simp only [Act.put, List.setIfInBounds_toArray, List.set_cons_succ, List.set_cons_zero]
      refine held_one 8 38 _ (.bool true) rfl rfl (by kernel_rfl) rfl hb5 (exec_cmp _ _ _ _ _ rfl (.inr rfl) _ _ _ rfl rfl rfl (eql_string_self _ _)) ?_
      simp only [Act.put, List.setIfInBounds_toArray, List.set_cons_succ, List.set_cons_zero]
      refine held_one 9 39 _ (.bool true) rfl rfl (by kernel_rfl) rfl hb5 rfl ?_
      simp only [Act.put, List.setIfInBounds_toArray, List.set_cons_succ, List.set_cons_zero]
      refine held_one 10 40 _ (.bool true) rfl rfl (by kernel_rfl) rfl hb5 rfl ?_
      simp only [Act.put, List.setIfInBounds_toArray, List.set_cons_succ, List.set_cons_zero]
      refine held_take 11 41 _ v2 rfl rfl (by kernel_rfl) (by kernel_rfl) (by kernel_rfl) rfl hb5 (fun _ _ => rfl) ?_
      simp only [Act.put, List.setIfInBounds_toArray, List.set_cons_succ, List.set_cons_zero]
      refine held_take 13 43 _ v3 rfl rfl (by kernel_rfl) (by kernel_rfl) (by kernel_rfl) rfl hb5 (fun _ _ => rfl) ?_
      simp only [Act.put, List.setIfInBounds_toArray, List.set_cons_succ, List.set_cons_zero]
      refine held_take 12 42 _ (.string ⟨OT.toArray⟩) rfl rfl (by kernel_rfl) (by kernel_rfl) (by kernel_rfl) rfl hb5 (fun W hW => exec_conv _ _ _ rfl _ _ rfl (seg_stringF (sx4.below hW (Nat.le_refl _)) 9 Try.underlying9)) ?_
      simp only [Act.put, List.setIfInBounds_toArray, List.set_cons_succ, List.set_cons_zero]
      refine held_take 14 44 _ (.string ⟨OT.toArray⟩) rfl rfl (by kernel_rfl) (by kernel_rfl) (by kernel_rfl) rfl hb5 (fun W hW => exec_conv _ _ _ rfl _ _ rfl (seg_stringF (sy4.below hW (Nat.le_refl _)) 9 Try.underlying9)) ?_
      simp only [Act.put, List.setIfInBounds_toArray, List.set_cons_succ, List.set_cons_zero]
      refine held_one 15 45 _ (.bool true) rfl rfl (by kernel_rfl) rfl hb5 (exec_cmp _ _ _ _ _ rfl (.inr rfl) _ _ _ rfl rfl rfl (eql_string_self _ _)) ?_
      simp only [Act.put, List.setIfInBounds_toArray, List.set_cons_succ, List.set_cons_zero]
      refine held_one 16 46 _ (.bool true) rfl rfl (by kernel_rfl) rfl hb5 rfl ?_
      simp only [Act.put, List.setIfInBounds_toArray, List.set_cons_succ, List.set_cons_zero]
      refine held_one 17 47 _ (.bool true) rfl rfl (by kernel_rfl) rfl hb5 rfl ?_
      simp only [Act.put, List.setIfInBounds_toArray, List.set_cons_succ, List.set_cons_zero]
      refine held_take 18 48 _ (.int .i64 IS) rfl rfl (by kernel_rfl) (by kernel_rfl) (by kernel_rfl) rfl hb5 (fun _ _ => rfl) ?_
      simp only [Act.put, List.setIfInBounds_toArray, List.set_cons_succ, List.set_cons_zero]
      refine held_take 19 49 _ (.int .i64 IS) rfl rfl (by kernel_rfl) (by kernel_rfl) (by kernel_rfl) rfl hb5 (fun _ _ => rfl) ?_
      simp only [Act.put, List.setIfInBounds_toArray, List.set_cons_succ, List.set_cons_zero]
      refine held_one 20 50 _ (.bool true) rfl rfl (by kernel_rfl) rfl hb5 (exec_cmp _ _ _ _ _ rfl (.inr rfl) _ _ _ rfl rfl rfl (eql_err_self _ _)) ?_
      simp only [Act.put, List.setIfInBounds_toArray, List.set_cons_succ, List.set_cons_zero]
      refine held_one 21 51 _ (.bool true) rfl rfl (by kernel_rfl) rfl hb5 rfl ?_
      simp only [Act.put, List.setIfInBounds_toArray, List.set_cons_succ, List.set_cons_zero]
      refine held_one 22 4 _ (.bool true) rfl rfl (by kernel_rfl) rfl hb5 rfl ?_
      simp only [Act.put, List.setIfInBounds_toArray, List.set_cons_succ, List.set_cons_zero]
      refine wpAnyH_done (by kernel_rfl) ?_ _
      refine NoPanic.normal ?_
      go_wp2
      go_ret
      exact ⟨rfl, hS5⟩
end Go.Proofs.Ytchbfhckocfjhaa
