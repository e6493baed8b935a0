/-
  What is proved here: pennantlaw01.ShaTurned answers true for every slice of bytes, every place and every byte to turn by, and leaves the slice as it was: two texts that are unlike in one place have unlike hashes by sha.Sum just where they have by the document.
  Conditions: the package variables firstWords and roundWords hold at the call what the program's text lays in them (the card ties that to the text of the pruned copy of the project).
-/
import Derived.Test.YthipmajgmneopaaDoorShaLaid
import Derived.Test.YthipmajgmneopaaDoorLawTurned
import Derived.Test.YthipmajgmneopaaDoorTie
import Derived.Test.YthipmajgmneopaaDoorCards
import Derived.SevenTiedAt
namespace Go.Proofs.YthipmajgmneopaaDoor
open Go.ChangeShapes Go.WideShapes Go.ChangeAt Go.RowKit

theorem byte_of (z : Int) (h : (Lit.int .u8 z).wf = true) : ∃ t : UInt8, z = n8 t := by
  obtain ⟨l, hl⟩ := bytes_of [z] (fun n hn => by simp at hn; rw [hn]; exact h)
  match l, hl with
  | [t], hl => exact ⟨t, by simpa using hl⟩

set_option maxRecDepth 100000 in
theorem shaTurned_lifted (os : Os) (started : os.Started) (H : Type) (enc : TypeId × Value → H) :
    ReturnsInHanded {} Tryd.checked os 6 .any (fun w args => (Rows.shaTurnedSpec.pre enc Tryd.prog Tryd.f6 [] false w args ∧ laidMetH Tryd.prog laid2 w) ∧ sizedMet enc Tryd.prog Tryd.f6 (OpenSpec.ofChange Rows.shaTurnedSpec) false w args)
      (Rows.shaTurnedSpec.post enc Tryd.prog Tryd.f6 false true false false) := by
  refine returnsInHanded_of_change_and (C := Tryd.checked) (X := fun w _ => laidMetH Tryd.prog laid2 w) (fun _ _ _ hh h => h.of_heap hh) own started (by kernel_rfl) Tryd.func6
    (ChangeSpec.witness_shaped (enc := enc) (C := Tryd.checked) (os := os) (X := fun w _ => laidMetH Tryd.prog laid2 w) false (World.doorLaid Tryd.prog 400 os) #[.slice none 0 0, .int .i64 0, .int .u8 0] 8 rfl (World.shaped_of_RefB (by kernel_rfl) (by kernel_rfl)) (by kernel_rfl) (by kernel_rfl) (by kernel_rfl) (door_met os _)) ?_
  intro W base args ds gs before hval0 hW _ _ hL _
  have hval : ∀ (j : Nat) t v, Tryd.f6.params[j]? = some t → args[j]? = some v → Value.okWide Tryd.prog W .any base t v := hval0
  have hW' := hW
  obtain ⟨p, q, hA0, hV, rfl, hfz, hnd⟩ := hW
  have hA : DataW.TrodAll enc Tryd.prog W 0 (fun _ => true) true Tryd.f6.params.toList args.toList ds p := hA0
  rw [Tryd.params6] at hA hval
  obtain ⟨v0, v1, v2, d0, d1, d2, p0, p1, p2, rfl, rfl, rfl, h0, h1, h2⟩ := trodAll_three hA
  obtain ⟨rfl, rfl⟩ := trodVars_none hV
  obtain ⟨a0, len0, cap0, rfl⟩ := okWide_slice Tryd.underlying22 (hval 0 22 v0 rfl rfl)
  have k0 := h0
  have lt0 : ∀ x ∈ p0, x.block < W.heap.size := by obtain ⟨m, hm⟩ := k0; exact DataW.trod_lt m _ _ _ hm
  obtain ⟨bs, hbl, hmx, hseg⟩ : ∃ bs : List UInt8, bs.length = len0 ∧ len0 ≤ maxLen ∧ Seg W (.slice a0 len0 cap0) bs := by
    obtain ⟨fuel, hf⟩ := h0
    exact seg_of hf
  obtain ⟨at_, rfl, rfl, rfl, w1⟩ := open_int Tryd.underlying3 (hval 1 3 v1 rfl rfl) h1
  obtain ⟨z, rfl, rfl, rfl, w2⟩ := open_int Tryd.underlying5 (hval 2 5 v2 rfl rfl) h2
  obtain ⟨tb, rfl⟩ := byte_of z w2
  obtain ⟨T0, T1, G0, G1⟩ := of_laid hL
  clear hA0 hval0
  refine (shaTurned_any _ bs a0 len0 cap0 at_ tb W rfl hbl hmx (bounds_i64 w1).2 hseg G0 T0 G1 T1).mono fun e W' ⟨he, bel⟩ => ?_
  subst he
  exact ⟨_, rfl, _, _, _, [], _, [], hW', trodAll_mk1 (shut_bool Tryd.underlying4 _), trodAll_mk3 (Below.trod laidOut (by kernel_rfl) (of_decide_eq_true (by kernel_rfl)) k0 bel lt0) (shut_int Tryd.underlying3 w1) (shut_int Tryd.underlying5 w2), rfl, bel.frame _, fun h => by cases h⟩

theorem shaTurned_holds : Rows.ShaTurnedSaid :=
  OpenClaim.holds_of_wide 6 Tryd.f6 rfl rfl rfl rfl rfl rfl rfl ⟨rfl, rfl, rfl, rfl, rfl⟩ rfl rfl rfl rfl rfl (by kernel_rfl) Tryd.func6 (by kernel_rfl)
    (of_decide_eq_true (by kernel_rfl)) (by unfold Func.isWrapper; first | (rw [if_pos (by decide +kernel)]; kernel_rfl) | (rw [if_neg (by decide +kernel)]; exact ⟨rfl, rfl⟩))
    (fun os started H enc _ => shaTurned_lifted os started H enc)

theorem shaTurned_card : Rows.ShaTurnedCardSaid :=
  Claim7.holds_tied_plain_at .later [] [.data, .data] true Rows.shaTurnedCard.stood.harness false
    shaTurned_holds (fun _ h => by cases h) (by kernel_rfl) (fun _ h => by cases h) shaTurned_row_tie rfl ⟨rfl, rfl⟩ (by kernel_rfl) rfl
    (fun f fn hf hfn => by
      obtain rfl : f = 6 := Option.some.inj ((show Tryd.prog.funcNamed Rows.shaTurnedRow.func = some 6 by kernel_rfl).symm.trans hf) |>.symm
      obtain rfl : fn = Tryd.f6 := (Option.some.inj (Tryd.func6.symm.trans hfn)).symm
      exact ⟨by kernel_rfl, fun j t ht => by
        rw [Tryd.params6] at ht
        have hm : t ∈ [22, 3, 5] := by simpa using Array.mem_of_getElem? ht
        have hall : ([22, 3, 5].all fun u => !Tryd.prog.wantsStandIn u) = true := by kernel_rfl
        exact (show Tryd.prog.wantsStandIn t = false by simpa using List.all_eq_true.1 hall t hm)⟩)
    (by kernel_rfl)

#print axioms shaTurned_card
end Go.Proofs.YthipmajgmneopaaDoor
