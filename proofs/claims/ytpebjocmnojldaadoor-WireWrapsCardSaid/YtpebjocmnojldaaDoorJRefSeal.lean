/-
  What is proved here: the document's Seal answers the bytes with those of their sum behind; its Open the bytes ahead of the last three, and true, if they are the Seal of these; else none and false.
  Conditions: at most a hundred million bytes.
-/
import Derived.Test.YtpebjocmnojldaaDoorJRefAdd
import Derived.Test.YtpebjocmnojldaaDoorJCrcOpen
import Derived.Test.YtpebjocmnojldaaDoorJAnyHeld
namespace Go.Proofs.YtpebjocmnojldaaDoor
open Go.RowKit

theorem sumB_ref (s : BitVec 32) : #[Value.int .u8 ((n32 s).tdiv 65536 % 256), .int .u8 ((n32 s).tdiv 256 % 256), .int .u8 ((n32 s).tmod 256 % 256)] = ((sumB s).map v8).toArray := by
  rw [← sumB_cells, Int.tdiv_eq_ediv_of_nonneg (ge32 s), Int.tdiv_eq_ediv_of_nonneg (ge32 s), Int.tmod_eq_emod_of_nonneg (ge32 s), Int.emod_emod_of_dvd _ (Int.dvd_refl 256)]

set_option maxRecDepth 100000 in
set_option maxHeartbeats 1000000 in
theorem refSeal_any (x : Value) (bs : List UInt8) (w : World) (hm : bs.length ≤ 100000000) (hseg : Seg w x bs) :
    Calls Tryd.prog 22 #[x] w fun e w' => ∃ v, e = .returned v ∧ Own w' w.heap.size v (bs ++ sumB (crcOf bs)) ∧ Below w.heap.size w w' := by
  obtain ⟨ao, c, rfl⟩ := hseg.shape
  go_enter Tryd.func22, Tryd.ntmps22
  go_wp2_with fail
  refine (refCsum_any _ bs _ (by omega) hseg).mono ?_
  rintro e w1 ⟨rfl, rfl⟩
  have hl3 : (sumB (crcOf bs)).length = 3 := rfl
  have HR := sumB_ref (crcOf bs)
  have hrow : ∀ W : World, Row (W.alloc (Obj.cells #[Value.int .u8 ((n32 (crcOf bs)).tdiv 65536 % 256), .int .u8 ((n32 (crcOf bs)).tdiv 256 % 256), .int .u8 ((n32 (crcOf bs)).tmod 256 % 256)] 5)) W.heap.size 0 (sumB (crcOf bs)) := fun W => by
    rw [HR]; exact Blk.row (Blk.new W 5 _)
  have HW : Hid (∀ W : World, Row (W.alloc (Obj.cells #[Value.int .u8 ((n32 (crcOf bs)).tdiv 65536 % 256), .int .u8 ((n32 (crcOf bs)).tdiv 256 % 256), .int .u8 ((n32 (crcOf bs)).tmod 256 % 256)] 5)) W.heap.size 0 (sumB (crcOf bs))) := hrow
  obtain ⟨SB, hSB⟩ : ∃ SB, SB = sumB (crcOf bs) := ⟨_, rfl⟩
  have HSB : Hid (SB = sumB (crcOf bs)) := hSB
  rw [← hSB] at HW hl3
  clear hSB HR hrow
  go_wp2_with (first | (at_builtin; refine app_own _ rfl (.tmp 6) (.tmp 7) rfl w1.heap.size _ [] rfl (by exact own_empty _ _ _ rfl (Nat.le_refl _)) _ bs rfl (by exact hseg.alloc _) (by simp; omega) (by simp) ?_; intro v2 w2 ho2 hg2 hv2; rw [List.nil_append] at ho2; have hB2 := below_grown ((Below.refl w1.heap.size w1).alloc (Nat.le_refl _) _) hg2 (by simp) (fun q hq => by have h2 : w1.heap.size = q := Option.some.inj hq; omega); have s2 := hB2.size; clear hg2 hv2) | (at_builtin; refine app_own _ rfl (.tmp 8) (.tmp 19) rfl w1.heap.size _ bs rfl (by exact ho2.alloc _) _ SB rfl (by exact Seg.of_row (HW.out w2) hl3 (Nat.le_refl _) (by simp)) (by omega) (by simp; omega) ?_; intro v3 w3 ho3 hg3 hv3; have hB3 := below_grown (hB2.alloc s2 _) hg3 (by simp; omega) (fun q hq => (ho2.blocks q hq).1); clear hg3 hv3) | fail)
  go_ret
  exact ⟨_, rfl, by rw [← HSB.out]; exact ho3, hB3⟩

set_option maxRecDepth 100000 in
set_option maxHeartbeats 1000000 in
theorem refOpen_any (x : Value) (bs : List UInt8) (w : World) (hm : bs.length ≤ 100000000) (hseg : Seg w x bs) :
    Calls Tryd.prog 26 #[x] w fun e w' => ∃ v, e = .returned (.tuple #[v, .bool (openOf bs).isSome]) ∧ Own w' w.heap.size v ((openOf bs).getD []) ∧ Below w.heap.size w w' := by
  obtain ⟨ao, c, rfl⟩ := hseg.shape
  by_cases h3 : bs.length < 3
  · have hO : openOf bs = none := by unfold openOf; rw [if_pos h3]
    rw [hO]
    go_enter Tryd.func26, Tryd.ntmps26
    go_wp2
    go_ret2
    exact ⟨_, rfl, ⟨rfl, .inl ⟨rfl, rfl⟩⟩, Below.refl _ _⟩
  obtain ⟨b, off, rfl, hc, hr, hb⟩ := hseg.form (by omega)
  have l1 := slice_to (some ⟨b, off, none⟩) bs.length c (bs.length - 3) (by omega)
  have hsub : (bs.length : Int) - 3 = ((bs.length - 3 : Nat) : Int) := by omega
  have hsT := (hseg.takes (bs.length - 3) (by omega)).1
  have hlT : (bs.take (bs.length - 3)).length ≤ 100000000 := by simp; omega
  go_enter Tryd.func26, Tryd.ntmps26
  go_wp2_with fail
  refine held_begin (fun W => Below w.heap.size w W) (by kernel_rfl) ?_
  have hS0 : Below w.heap.size w w.drew := (Below.refl _ _).drew
  refine held_take 0 13 _ _ rfl rfl (by kernel_rfl) (by kernel_rfl) (by kernel_rfl) rfl hS0 (fun _ _ => rfl) ?_
  refine held_take 3 16 _ _ rfl rfl (by kernel_rfl) (by kernel_rfl) (by kernel_rfl) rfl hS0 (fun _ _ => rfl) ?_
  refine held_take 4 17 _ (.string ⟨bs.toArray⟩) rfl rfl (by kernel_rfl) (by kernel_rfl) (by kernel_rfl) rfl hS0 (fun W hW => exec_conv _ _ _ rfl _ _ rfl (seg_string (hseg.below hW (Nat.le_refl _)) 9 Tryd.underlying9)) ?_
  refine held_call 1 14 _ 22 _ rfl rfl (by kernel_rfl) rfl (exec_one 22 _ _ rfl _ rfl Tryd.call22) ?_
  refine (refSeal_any _ (bs.take (bs.length - 3)) _ hlT hsT.drew).mono ?_
  rintro e w1 ⟨v1, rfl, ho1, hb1⟩
  have hS1 : Below w.heap.size w w1 := hS0.trans hb1
  refine ⟨v1, rfl, hS1, ?_⟩
  refine held_one 2 15 _ (.string ⟨(bs.take (bs.length - 3) ++ sumB (crcOf (bs.take (bs.length - 3)))).toArray⟩) rfl rfl (by kernel_rfl) rfl hS1 (exec_conv _ _ _ rfl _ _ rfl (seg_string ho1.seg 9 Tryd.underlying9)) ?_
  refine held_one 5 18 _ (.bool (!decide (bs.take (bs.length - 3) ++ sumB (crcOf (bs.take (bs.length - 3))) = bs))) rfl rfl (by kernel_rfl) rfl hS1 (exec_cmp _ _ _ _ _ rfl (.inl rfl) _ _ _ rfl rfl rfl (neq_string _ _ _)) ?_
  refine wpAnyH_done (by kernel_rfl) ?_ _
  refine NoPanic.normal ?_
  clear l1 hsub
  by_cases hE : bs.take (bs.length - 3) ++ sumB (crcOf (bs.take (bs.length - 3))) = bs
  · have hO : openOf bs = some (bs.take (bs.length - 3)) := by unfold openOf; rw [if_neg h3, if_pos hE]
    rw [show decide (bs.take (bs.length - 3) ++ sumB (crcOf (bs.take (bs.length - 3))) = bs) = true by simp [hE]]
    have sT1 := hsT.below hS1 (Nat.le_refl _)
    generalize bs.take (bs.length - 3) = T at *
    generalize (⟨(T ++ sumB (crcOf T)).toArray⟩ : ByteArray) = B1
    clear hE ho1 hb1
    go_wp2_with (at_builtin; refine app_own _ rfl (.tmp 19) (.tmp 20) rfl w1.heap.size _ [] rfl (by exact own_empty _ _ _ rfl (Nat.le_refl _)) _ T rfl (by exact sT1.alloc _) (by simp; omega) (by simp) ?_; intro v2 w2 ho2 hg2 hv2; rw [List.nil_append] at ho2; have hB2 := below_grown (hS1.alloc hS1.size _) hg2 (by simp; have := hS1.size; omega) (fun q hq => by have h2 : w1.heap.size = q := Option.some.inj hq; have := hS1.size; omega); clear hg2 hv2)
    go_ret2
    rw [hO]
    exact ⟨_, rfl, ho2.mono hS1.size, hB2⟩
  · have hO : openOf bs = none := by unfold openOf; rw [if_neg h3, if_neg hE]
    rw [show decide (bs.take (bs.length - 3) ++ sumB (crcOf (bs.take (bs.length - 3))) = bs) = false by simp [hE]]
    generalize (⟨(bs.take (bs.length - 3) ++ sumB (crcOf (bs.take (bs.length - 3)))).toArray⟩ : ByteArray) = B1
    clear ho1
    go_wp2
    go_ret2
    rw [hO]
    exact ⟨_, rfl, ⟨rfl, .inl ⟨rfl, rfl⟩⟩, hS1⟩
end Go.Proofs.YtpebjocmnojldaaDoor
