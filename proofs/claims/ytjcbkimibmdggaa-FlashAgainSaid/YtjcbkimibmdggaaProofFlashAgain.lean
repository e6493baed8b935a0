/-
  What is proved here: for all acts, one act more and all numbers the statement FlashAgain answers true and leaves the acts as they were: a change in which the power went, done again, leaves what it would have left at once (of acts of too many bytes the statement asks only that one byte is programmed twice and read).
  Conditions: none (each slice that comes in is of a size that the statement's own form allows).
-/
import Derived.Test.YtjcbkimibmdggaaFlashLaidA
import Derived.Test.YtjcbkimibmdggaaLawFlashAgain
import Derived.Test.YtjcbkimibmdggaaPFlashIs
import Derived.SevenTiedAt
import Derived.SizedLaws
namespace Go.Proofs.Ytjcbkimibmdggaa
open Go.ChangeShapes Go.WideShapes Go.ChangeAt Go.RowKit

theorem acts6_shape {H : Type} {enc : TypeId × Value → H} {W : World} {base : Nat} {held : Bool} {fuel len cap : Nat} {a : Option Addr} {d : DataW H} {ps : List MemPlace} (h : DataW.trod enc Try.prog W base (fun _ => true) held fuel 32 (Value.slice a len cap).cells.toList = some (d, ps)) :
    (a = none ∧ len = 0 ∧ cap = 0) ∨ ∃ elems spare, d = .slice elems spare ∧ elems.length = len ∧ a ≠ none := by
  rcases DataW.trod_slice Try.underlying32 h with ⟨hcs, _⟩ | ⟨ad, len', cap', elems, rest, n, _, hcs, hx, _, _, _, hlen, _⟩
  · simp [Value.cells] at hcs
    exact .inl hcs
  · simp [Value.cells] at hcs
    obtain ⟨rfl, rfl, rfl⟩ := hcs
    exact .inr ⟨_, _, congrArg Prod.fst hx, by rw [List.length_map]; exact hlen, by simp⟩
set_option maxRecDepth 100000 in
theorem flashAgain_lifted (os : Os) (started : os.Started) (H : Type) (enc : TypeId × Value → H) :
    ReturnsInHanded {} Try.checked os 5 .any (Rows.flashAgainSpec.pre6 enc Try.prog Try.f5 Rows.flashAgainRow.domain false) (Rows.flashAgainSpec.post enc Try.prog Try.f5 false true false false) := by
  refine returnsInHanded_of_change_sized (C := Try.checked) own started (by kernel_rfl) Try.func5
    (ChangeSpec.witness6 (enc := enc) (C := Try.checked) false ⟨#[], #[.slice none 0 0, .agg #[.int .i64 0, .int .i64 0, .int .i64 0, .slice none 0 0], .int .i64 0], []⟩ 8 (by kernel_rfl) (by kernel_rfl) (by kernel_rfl) (by kernel_rfl)) ?_
  intro W base args ds gs before hval0 hW _ hsz _
  have hval : ∀ (j : Nat) t v, Try.f5.params[j]? = some t → args[j]? = some v → Value.okWide Try.prog W .any base t v := hval0
  have hW' := hW
  obtain ⟨p, q, hA0, hV, rfl, hfz, hnd⟩ := hW
  have hA : DataW.TrodAll enc Try.prog W 0 (fun _ => true) true Try.f5.params.toList args.toList ds p := hA0
  rw [Try.params5] at hA hval
  obtain ⟨v0, v1, v2, d0, d1, d2, p0, p1, p2, rfl, rfl, rfl, h0, h1, h2⟩ := trodAll_three hA
  obtain ⟨rfl, rfl⟩ := trodVars_none hV
  obtain ⟨a0, len0, cap0, rfl⟩ := okWide_slice Try.underlying32 (hval 0 32 v0 rfl rfl)
  have k0 := h0
  have lt0 : ∀ x ∈ p0, x.block < W.heap.size := by obtain ⟨m, hm⟩ := k0; exact DataW.trod_lt m _ _ _ hm
  obtain ⟨L0, hL0⟩ : ∃ L, Acts6 W (.slice a0 len0 cap0) L := by
    obtain ⟨fuel, hf⟩ := h0
    exact acts6_of hf
  have k1 := h1
  have lt1 : ∀ x ∈ p1, x.block < W.heap.size := by obtain ⟨m, hm⟩ := k1; exact DataW.trod_lt m _ _ _ hm
  obtain ⟨y1, bv1, rfl, hy1⟩ := act6_of (hval 1 37 v1 rfl rfl) h1
  obtain ⟨z2, rfl, rfl, rfl, w2⟩ := open_int Try.underlying3 (hval 2 3 v2 rfl rfl) h2
  obtain ⟨hnil, hroom⟩ : (∀ n c, Value.slice a0 len0 cap0 = .slice none n c → c = 0) ∧ L0.length * 48 ≤ 140737488351232 := by
    have hlen : L0.length = len0 := by obtain ⟨ao, c, e, _⟩ := hL0; injection e with _ e2 _; exact e2.symm
    rw [hlen]
    obtain ⟨fuel, hf⟩ := k0
    rcases acts6_shape hf with ⟨rfl, rfl, rfl⟩ | ⟨elems, spare, rfl, hel, hne⟩
    · exact ⟨fun n c e => by injection e with _ _ e3; exact e3.symm, by omega⟩
    · refine ⟨fun n c e => by injection e with e1 _ _; exact absurd e1 hne, ?_⟩
      have h48 : Try.prog.bytesOf 37 = 48 := by kernel_rfl
      have : (elems.length + spare.length) * Try.prog.bytesOf 37 ≤ reachBytes := sized_slice hsz (j := 0) (t := 32) (e := 37) (by kernel_rfl) rfl Try.underlying32
      rw [h48, hel] at this
      unfold reachBytes at this
      omega
  clear hA0 hval0
  refine (flashAgain_any thePF _ L0 y1 bv1 z2 W hL0 hnil hy1 (bounds_i64 w2) hroom).mono fun e W' ⟨he, bel⟩ => ?_
  subst he
  exact ⟨_, rfl, _, _, _, [], _, [], hW', trodAll_mk1 (shut_bool Try.underlying4 _), trodAll_mk3 (Below.trod laidOut (by kernel_rfl) (of_decide_eq_true (by kernel_rfl)) k0 bel lt0) (Below.trod laidOut (by kernel_rfl) (of_decide_eq_true (by kernel_rfl)) k1 bel lt1) (shut_int Try.underlying3 w2), rfl, bel.frame _, fun h => by cases h⟩

theorem flashAgain_holds : Rows.FlashAgainSaid :=
  OpenClaim.holds_of_wide 5 Try.f5 rfl rfl rfl rfl rfl rfl rfl ⟨rfl, rfl, rfl, rfl, rfl⟩ rfl rfl rfl rfl rfl (by kernel_rfl) Try.func5 (by kernel_rfl)
    (of_decide_eq_true (by kernel_rfl)) (by unfold Func.isWrapper; first | (rw [if_pos (by decide +kernel)]; kernel_rfl) | (rw [if_neg (by decide +kernel)]; exact ⟨rfl, rfl⟩))
    (fun os started H enc _ => flashAgain_lifted os started H enc)

#print axioms flashAgain_holds
end Go.Proofs.Ytjcbkimibmdggaa
