/-
  What is proved here: the document's Seal answers the bytes with those of their sum behind; its Open the bytes ahead of the last three, and true, if they are the Seal of these; else none and false.
  Conditions: at most a hundred million bytes.
-/
import Derived.Test.YtbdhkkdombdnkaaDoorJCrcAdd
import Derived.Test.YtbdhkkdombdnkaaDoorJCrcSeal
import Derived.Test.YtbdhkkdombdnkaaDoorJAnyHeld
namespace Go.Proofs.YtbdhkkdombdnkaaDoor
open Go.RowKit

theorem sumB_ref (s : BitVec 32) : #[Value.int .u8 ((n32 s).tdiv 65536 % 256), .int .u8 ((n32 s).tdiv 256 % 256), .int .u8 ((n32 s).tmod 256 % 256)] = ((sumB s).map v8).toArray := by
  rw [← sumB_cells, Int.tdiv_eq_ediv_of_nonneg (ge32 s), Int.tdiv_eq_ediv_of_nonneg (ge32 s), Int.tmod_eq_emod_of_nonneg (ge32 s), Int.emod_emod_of_dvd _ (Int.dvd_refl 256)]

set_option maxRecDepth 100000 in
set_option maxHeartbeats 1000000 in
theorem refSeal_any (x : Value) (bs : List UInt8) (w : World) (hm : bs.length ≤ 100000000) (hseg : Seg w x bs) :
    Calls Tryd.prog 55 #[x] w fun e w' => ∃ v, e = .returned v ∧ Own w' w.heap.size v (bs ++ sumB (crcOf bs)) ∧ Below w.heap.size w w' := by
  obtain ⟨ao, c, rfl⟩ := hseg.shape
  go_enter Tryd.func55, Tryd.ntmps55
  go_wp2_with fail
  refine (refCsum_any _ bs _ (by omega) hseg).mono ?_
  rintro e w1 ⟨rfl, rfl⟩
  have hl3 : (sumB (crcOf bs)).length = 3 := rfl
  have HR := sumB_ref (crcOf bs)
  have hrow : ∀ W : World, Row (W.alloc (Obj.cells #[Value.int .u8 ((n32 (crcOf bs)).tdiv 65536 % 256), .int .u8 ((n32 (crcOf bs)).tdiv 256 % 256), .int .u8 ((n32 (crcOf bs)).tmod 256 % 256)] 5)) W.heap.size 0 (sumB (crcOf bs)) := fun W => by
    rw [HR]; exact Blk.row (Blk.new W 5 _)
  have HW : Hid (∀ W : World, Row (W.alloc (Obj.cells #[Value.int .u8 ((n32 (crcOf bs)).tdiv 65536 % 256), .int .u8 ((n32 (crcOf bs)).tdiv 256 % 256), .int .u8 ((n32 (crcOf bs)).tmod 256 % 256)] 5)) W.heap.size 0 (sumB (crcOf bs))) := hrow
  obtain ⟨SB, hSB⟩ : ∃ SB, SB = sumB (crcOf bs) := ⟨_, rfl⟩
  have HSB : Hid (SB = sumB (crcOf bs)) := hSB
  rw [← hSB] at HW hl3
  clear hSB HR hrow
  go_wp2_with (first | (at_builtin; refine app_own _ rfl (.tmp 6) (.tmp 7) rfl w1.heap.size _ [] rfl (by exact own_empty _ _ _ rfl (Nat.le_refl _)) _ bs rfl (by exact hseg.alloc _) (by simp; omega) (by simp) ?_; intro v2 w2 ho2 hg2 hv2; rw [List.nil_append] at ho2; have hB2 := below_grown ((Below.refl w1.heap.size w1).alloc (Nat.le_refl _) _) hg2 (by simp) (fun q hq => by have h2 : w1.heap.size = q := Option.some.inj hq; omega); have s2 := hB2.size; clear hg2 hv2) | (at_builtin; refine app_own _ rfl (.tmp 8) (.tmp 19) rfl w1.heap.size _ bs rfl (by exact ho2.alloc _) _ SB rfl (by exact Seg.of_row (HW.out w2) hl3 (Nat.le_refl _) (by simp)) (by omega) (by simp; omega) ?_; intro v3 w3 ho3 hg3 hv3; have hB3 := below_grown (hB2.alloc s2 _) hg3 (by simp; omega) (fun q hq => (ho2.blocks q hq).1); clear hg3 hv3) | fail)
  go_ret
  exact ⟨_, rfl, by rw [← HSB.out]; exact ho3, hB3⟩


end Go.Proofs.YtbdhkkdombdnkaaDoor
