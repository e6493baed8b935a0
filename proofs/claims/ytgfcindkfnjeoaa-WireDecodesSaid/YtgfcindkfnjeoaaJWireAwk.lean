/-
  What is proved here: the small thing that the statements on wire ask first is so.
  Conditions: none.
-/
import Derived.Test.YtgfcindkfnjeoaaJWireEnc
namespace Go.Proofs.Ytgfcindkfnjeoaa
open Go.RowKit

def awkM : MS := ⟨7, 0, 0, 0, 0, 7, 0, 0, ⟨0, 0, 0, List.replicate 32 0, []⟩, []⟩
theorem awk_enc : encW awkM [] = some [7, 6, 0, 0, 0] := by decide +kernel
set_option maxRecDepth 100000 in
set_option maxHeartbeats 4000000 in
theorem awake14_any (w : World) : Calls Try.prog 6 #[] w fun e w' => e = .returned (.bool true) ∧ Below w.heap.size w w' := by
  have H := wencode_any awkM (manL ⟨0, 0, 0, List.replicate 32 0, []⟩ (.slice none 0 0)) none 0 [] w rfl (seg_nil _) (Nat.zero_le _) (fun h => by cases h) (fun V _ => manMay_other awkM none 0 (.slice none 0 0) V rfl (by decide)) (fun h => by cases h)
  rw [awk_enc] at H
  have H : Hid (Calls Try.prog 8 #[.agg #[.int .i64 7, .int .i64 0, .int .i64 0, .int .i64 0, .int .i64 0, .int .i64 7, .int .i64 0, .int .i64 0, .int .i64 0, .int .i64 0, .int .i64 0, .int .u8 0, .int .u8 0, .int .u8 0, .int .u8 0, .int .u8 0, .int .u8 0, .int .u8 0, .int .u8 0, .int .u8 0, .int .u8 0, .int .u8 0, .int .u8 0, .int .u8 0, .int .u8 0, .int .u8 0, .int .u8 0, .int .u8 0, .int .u8 0, .int .u8 0, .int .u8 0, .int .u8 0, .int .u8 0, .int .u8 0, .int .u8 0, .int .u8 0, .int .u8 0, .int .u8 0, .int .u8 0, .int .u8 0, .int .u8 0, .int .u8 0, .int .u8 0, .slice none 0 0, .slice none 0 0]] w fun e w' => (∃ b, e = .returned (.tuple #[b, .int .i64 0]) ∧ Own w' w.heap.size b [7, 6, 0, 0, 0]) ∧ Below w.heap.size w w') := H
  go_enter Try.func6, Try.ntmps6
  go_wp2_with fail
  refine H.out.mono ?_
  rintro e w1 ⟨⟨b, rfl, ho⟩, hb1⟩
  obtain ⟨a1, c1, e1⟩ := ho.seg.shapeD
  subst e1
  have hc : (convert 26 9 (.slice a1 5 c1)).run Try.prog w1 = .ok (.string ⟨#[7, 6, 0, 0, 0]⟩) w1 := seg_stringD ho.seg 9 Try.underlying9
  clear H ho
  go_wp2
  go_ret
  exact ⟨rfl, hb1⟩
end Go.Proofs.Ytgfcindkfnjeoaa
