/-
  What is proved here: frame.Put answers the frame of at most 2048 bytes, and OK; else none and ErrArg.
  Conditions: at most a million bytes; the variable fourBits holds the sixteen words.
-/
import Derived.Test.YtchbfhckocfjhaaDoorFrameStuff
import Derived.Test.YtchbfhckocfjhaaDoorCrcSeal
namespace Go.Proofs.YtchbfhckocfjhaaDoor
open Go.RowKit

/-- The frame of bytes. -/
def putOf (bs : List UInt8) : Option (List UInt8) := if 2048 < bs.length then none else some (stuff (bs ++ sumB (crcOf bs)) ++ [0])
def putPost (w : World) (r : Option (List UInt8)) (e : Ending) (w' : World) : Prop := (match r with
  | some out => ∃ v, e = .returned (.tuple #[v, .int .i64 0]) ∧ Own w' w.heap.size v out
  | none => e = .returned (.tuple #[.slice none 0 0, .int .i64 1])) ∧ Below w.heap.size w w'

set_option maxRecDepth 100000 in
set_option maxHeartbeats 2000000 in
theorem put_any (x : Value) (bs : List UInt8) (w : World) (hm : bs.length ≤ 1000000) (hseg : Seg w x bs) (hgf : 0 < w.heap.size) (hf : Tab w 0 (fours.map v32)) :
    Calls Tryd.prog 8 #[x] w (putPost w (putOf bs)) := by
  obtain ⟨ao, c, rfl⟩ := hseg.shapeF
  by_cases hbig : 2048 < bs.length
  · have hp : putOf bs = none := by unfold putOf; rw [if_pos hbig]
    rw [hp]
    clear hp
    go_enter Tryd.func8, Tryd.ntmps8
    go_wp2
    go_ret2
    exact ⟨rfl, Below.refl _ _⟩
  · have hp : putOf bs = some (stuff (bs ++ sumB (crcOf bs)) ++ [0]) := by unfold putOf; rw [if_neg hbig]
    rw [hp]
    clear hp
    have hl3 : (bs ++ sumB (crcOf bs)).length ≤ 2051 := by rw [List.length_append, show (sumB (crcOf bs)).length = 3 from rfl]; omega
    have HW : Hid (∀ (W : World) (k : Nat), k = W.heap.size → Row (W.alloc (.cells #[.int .u8 0] 5)) k 0 [0]) := fun W k hk => by subst hk; exact row_one W 0 _
    have hsl := (stuff_len _ (bs ++ sumB (crcOf bs)) (Nat.le_refl _)).2
    have HC := seal_any (.slice ao bs.length c) bs w (by omega) hseg hgf hf
    have HCS : Hid (Calls Tryd.prog 16 #[.slice ao bs.length c] w fun e w' => ∃ v, e = .returned v ∧ Own w' w.heap.size v (bs ++ sumB (crcOf bs)) ∧ Below w.heap.size w w') := HC
    clear HC
    generalize bs ++ sumB (crcOf bs) = SB at *
    go_enter Tryd.func8, Tryd.ntmps8
    go_wp2_with fail
    refine HCS.out.mono ?_
    rintro e w1 ⟨v1, rfl, ho1, hb1⟩
    clear HCS
    have s1 := hb1.size
    obtain ⟨a1, c1, rfl⟩ := ho1.seg.shapeF
    go_wp2_with fail
    refine (stuff_any _ SB _ (by omega) ho1.seg).mono ?_
    rintro e w2 ⟨v2, rfl, ho2, hb2⟩
    have hB2 : Below w.heap.size w w2 := hb1.trans (hb2.mono s1)
    have s2 := hB2.size
    have ho2 := ho2.mono s1
    generalize stuff SB = ST at *
    go_wp2_with (at_builtin; refine app_own _ rfl (.tmp 9) (.tmp 10) rfl w.heap.size _ ST rfl (by exact ho2.alloc _) _ [0] rfl (by exact Seg.of_row (HW.out w2 _ rfl) rfl (Nat.le_refl _) (by simp)) (by simp; omega) (by simp; omega) ?_; intro v3 w3 ho3 hg3 _; have hB3 := below_grown (hB2.alloc s2 _) hg3 (by simp; omega) (fun q hq => (ho2.blocks q hq).1); clear hg3)
    go_ret2
    exact ⟨⟨_, rfl, ho3⟩, hB3⟩
end Go.Proofs.YtchbfhckocfjhaaDoor
