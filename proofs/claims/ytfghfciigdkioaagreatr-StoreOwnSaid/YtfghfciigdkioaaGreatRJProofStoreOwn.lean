/-
  What is proved here: for every op the statement StoreOwn answers true and leaves the op as it was: on a new disk of 100 sectors the op is committed, or refused as wrong or as too much; what was given in is the caller's own, and what Get gives out, too: changed, they change nothing of the store (of keys of more than 1000 and of values of more than 5000 bytes the statement asks less).
  Conditions: none.
-/
import Derived.Test.YtfghfciigdkioaaGreatRJDiskLaid
import Derived.Test.YtfghfciigdkioaaGreatRJLawStoreOwn
import Derived.Test.YtfghfciigdkioaaGreatRJStoreLaid
import Derived.SevenTiedAt
namespace Go.Proofs.YtfghfciigdkioaaGreatR
open Go.ChangeShapes Go.WideShapes Go.ChangeAt Go.RowKit

set_option maxRecDepth 100000 in
theorem storeOwn_lifted (os : Os) (started : os.Started) (H : Type) (enc : TypeId × Value → H) :
    ReturnsInHanded {} Tryz.checked os 7 .any (Rows.storeOwnSpec.pre6 enc Tryz.prog Tryz.f7 Rows.storeOwnRow.domain false) (Rows.storeOwnSpec.post enc Tryz.prog Tryz.f7 false true false false) := by
  refine returnsInHanded_of_change (C := Tryz.checked) own started (by kernel_rfl) Tryz.func7
    (ChangeSpec.witness6 (enc := enc) (C := Tryz.checked) false ⟨#[], #[.agg #[.slice none 0 0, .bool false, .slice none 0 0]], []⟩ 8 (by kernel_rfl) (by kernel_rfl) (by kernel_rfl) (by kernel_rfl)) ?_
  intro W base args ds gs before hval0 hW _ _
  have hval : ∀ (j : Nat) t v, Tryz.f7.params[j]? = some t → args[j]? = some v → Value.okWide Tryz.prog W .any base t v := hval0
  have hW' := hW
  obtain ⟨p, q, hA0, hV, rfl, hfz, hnd⟩ := hW
  have hA : DataW.TrodAll enc Tryz.prog W 0 (fun _ => true) true Tryz.f7.params.toList args.toList ds p := hA0
  rw [Tryz.params7] at hA hval
  obtain ⟨v0, d0, rfl, rfl, h0⟩ := trodAll_one hA
  obtain ⟨rfl, rfl⟩ := trodVars_none hV
  have k0 := h0
  have lt0 : ∀ x ∈ p, x.block < W.heap.size := by obtain ⟨m, hm⟩ := k0; exact DataW.trod_lt m _ _ _ hm
  obtain ⟨o0, ka0, va0, kc0, vc0, rfl, ks0, vs0, kl0, vl0⟩ := op8_of (hval 0 59 v0 rfl rfl) h0
  clear hA0 hval0
  refine (storeOwn_any o0 ka0 va0 kc0 vc0 W ks0 vs0 kl0 vl0 ).mono fun e W' ⟨he, bel⟩ => ?_
  subst he
  exact ⟨_, rfl, _, _, _, [], _, [], hW', trodAll_mk1 (shut_bool Tryz.underlying4 _), trodAll_mk1 (Below.trod laidOut (by kernel_rfl) (of_decide_eq_true (by kernel_rfl)) k0 bel lt0), rfl, bel.frame _, fun h => by cases h⟩

theorem storeOwn_holds : Rows.StoreOwnSaid :=
  OpenClaim.holds_of_wide 7 Tryz.f7 rfl rfl rfl rfl rfl rfl rfl ⟨rfl, rfl, rfl, rfl, rfl⟩ rfl rfl rfl rfl rfl (by kernel_rfl) Tryz.func7 (by kernel_rfl)
    (of_decide_eq_true (by kernel_rfl)) (by unfold Func.isWrapper; first | (rw [if_pos (by decide +kernel)]; kernel_rfl) | (rw [if_neg (by decide +kernel)]; exact ⟨rfl, rfl⟩))
    (fun os started H enc _ => storeOwn_lifted os started H enc)

#print axioms storeOwn_holds
end Go.Proofs.YtfghfciigdkioaaGreatR
