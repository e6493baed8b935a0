/-
  What is proved here: of all bytes, the statement FramePuts answers true: frame.Put is the document's.
  Conditions: the variable fourBits holds the sixteen words.
-/
import Derived.Test.YtchbfhckocfjhaaDoorRefFPut
import Derived.Test.YtchbfhckocfjhaaDoorFrameAwake
namespace Go.Proofs.YtchbfhckocfjhaaDoor
open Go.RowKit

/-- The number that Put answers. -/
def errPut (r : Option (List UInt8)) : Int := if r.isSome then 0 else 1
theorem putPost_out {w w' : World} {r : Option (List UInt8)} {e : Ending} (h : putPost w r e w') : ∃ v, e = .returned (.tuple #[v, .int .i64 (errPut r)]) ∧ Own w' w.heap.size v (r.getD []) ∧ Below w.heap.size w w' := by
  obtain ⟨h1, h2⟩ := h
  cases r with
  | none => exact ⟨_, h1, ⟨rfl, .inl ⟨rfl, rfl⟩⟩, h2⟩
  | some o =>
    obtain ⟨v, hv, ho⟩ := h1
    exact ⟨v, hv, ho, h2⟩

set_option maxRecDepth 100000 in
set_option maxHeartbeats 4000000 in
theorem framePuts_any (x : Value) (bs : List UInt8) (ao : Option Addr) (len c : Nat) (w : World) (hx : x = .slice ao len c) (hl : bs.length = len) (hm : len ≤ maxLen) (hseg : Seg w x bs) (hgf : 0 < w.heap.size) (hf : Tab w 0 (fours.map v32)) :
    Calls Tryd.prog 3 #[x] w fun e w' => e = .returned (.bool true) ∧ Below w.heap.size w w' := by
  subst hx
  unfold maxLen at hm
  go_enter Tryd.func3, Tryd.ntmps3
  go_wp2_with fail
  refine (fawake_any _).mono ?_
  rintro e w1 ⟨rfl, hb1⟩
  have s1 := hb1.size
  by_cases hbig : 10000 < len
  · go_wp2
    go_ret
    exact ⟨rfl, hb1⟩
  have HP := put_any (.slice ao len c) bs w1 (by omega) (hseg.below hb1 (Nat.le_refl _)) (by omega) (hf.below hb1 hgf)
  go_wp2_with fail
  refine HP.mono ?_
  rintro e w2 hp2
  obtain ⟨v2, rfl, ho2, hb2⟩ := putPost_out hp2
  have hB2 : Below w.heap.size w w2 := hb1.trans (hb2.mono s1)
  have s2 := hB2.size
  clear HP hp2
  go_wp2_with fail
  refine (refPut_any _ bs _ (by omega) (hseg.below hB2 (Nat.le_refl _))).mono ?_
  rintro e w3 hp3
  obtain ⟨v3, rfl, ho3, hb3⟩ := putPost_out hp3
  have hB3 : Below w.heap.size w w3 := hB2.trans (hb3.mono s2)
  have sx := ho2.seg.below hb3 (Nat.le_refl _)
  have sy := ho3.seg
  generalize errPut (putOf bs) = IS at *
  generalize (putOf bs).getD [] = OT at *
  clear ho2 ho3 hb1 hb2 hb3 hB2 hp3
  obtain ⟨a2, c2, rfl⟩ := sx.shapeF
  obtain ⟨a3, c3, rfl⟩ := sy.shapeF
  have e1 := seg_stringF sx 9 Tryd.underlying9
  have e2 := seg_stringF sy 9 Tryd.underlying9
  go_wp2
  go_ret
  exact ⟨rfl, hB3⟩
end Go.Proofs.YtchbfhckocfjhaaDoor
