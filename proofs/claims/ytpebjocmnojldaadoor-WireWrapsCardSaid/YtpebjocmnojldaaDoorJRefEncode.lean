/-
  What is proved here: the document's Encode answers the bytes of a record, or that it does not fit.
  Conditions: fields and record lie in memory as slices.
-/
import Derived.Test.YtpebjocmnojldaaDoorJRefFits
import Derived.Test.YtpebjocmnojldaaDoorJRefPackTop
namespace Go.Proofs.YtpebjocmnojldaaDoor
open Go.RowKit

set_option maxRecDepth 100000 in
set_option maxHeartbeats 1000000 in
theorem refEncode_any (n : Nat) (lv : Value) (l : List Fld) (m : Nat) (vv : Value) (v : List Val) (w : World) (hF : Flds w n lv l) (hV : Vals w m vv v) :
    Calls Tryd.prog 20 #[lv, vv] w fun e w' => encodePost w (encTop l v) e w' := by
  have KF := fun W (hW : Below w.heap.size w W) => Flds.keeps (Keeps.of_below hW (Nat.le_refl _)) _ _ _ hF
  have KV := fun W (hW : Below w.heap.size w W) => Vals.keeps (Keeps.of_below hW (Nat.le_refl _)) _ _ _ hV
  have HR : Hid (Calls Tryd.prog 40 #[lv] w fun e w' => e = .returned (.bool (mostL 4 l).isSome) ∧ Below w.heap.size w w') := refRight_any n lv l w hF
  obtain ⟨ao, c, hlv, _, _⟩ := hF.form
  obtain ⟨av, cv, hvv, _, _⟩ := hV.form
  cases hm : mostL 4 l with
  | none =>
    have hres : Hid (encTop l v = none) := by show _ = _; unfold encTop; rw [hm]; rfl
    rw [hm] at HR
    subst hlv
    subst hvv
    go_enter Tryd.func20, Tryd.ntmps20
    go_wp2_with (go_at_call 40; refine HR.out.mono ?_; rintro e w1 ⟨rfl, hb1⟩)
    go_ret2
    show encodePost w (encTop l v) _ _
    rw [hres.out]
    exact ⟨rfl, hb1⟩
  | some M =>
    have hres : Hid (encTop l v = encL 4 l v) := by show _ = _; unfold encTop; rw [hm]; rfl
    rw [hm] at HR
    have HFi : Hid (∀ W, Below w.heap.size w W → Calls Tryd.prog 41 #[lv, vv] W fun e w' => e = .returned (.bool (encL 4 l v).isSome) ∧ Below W.heap.size W w') := fun W hW => refFits_any 4 n lv l m vv v M W hm (KF W hW) (KV W hW)
    cases hen : encL 4 l v with
    | none =>
      rw [hen] at HFi
      subst hlv
      subst hvv
      go_enter Tryd.func20, Tryd.ntmps20
      go_wp2_with (first | (go_at_call 40; refine HR.out.mono ?_; rintro e w1 ⟨rfl, hb1⟩) | (go_at_call 41; refine (HFi.out _ (by exact hb1)).mono ?_; rintro e w2 ⟨rfl, hb2⟩))
      go_ret2
      show encodePost w (encTop l v) _ _
      rw [hres.out, hen]
      exact ⟨rfl, hb1.trans (hb2.mono hb1.size)⟩
    | some nb =>
      rw [hen] at HFi
      have HP : Hid (∀ W, Below w.heap.size w W → Calls Tryd.prog 42 #[lv, vv] W fun e w' => ∃ b, e = .returned b ∧ Own w' W.heap.size b nb ∧ Below W.heap.size W w') := fun W hW => refPut_any 4 n lv l m vv v M nb W hm hen (KF W hW) (KV W hW)
      subst hlv
      subst hvv
      go_enter Tryd.func20, Tryd.ntmps20
      go_wp2_with (first | (go_at_call 40; refine HR.out.mono ?_; rintro e w1 ⟨rfl, hb1⟩) | (go_at_call 41; refine (HFi.out _ (by exact hb1)).mono ?_; rintro e w2 ⟨rfl, hb2⟩; have hB2 : Below w.heap.size w w2 := hb1.trans (hb2.mono hb1.size)) | (go_at_call 42; refine (HP.out _ (by exact hB2)).mono ?_; rintro e w3 ⟨b3, rfl, ho3, hb3⟩))
      go_ret2
      show encodePost w (encTop l v) _ _
      rw [hres.out, hen]
      exact ⟨⟨_, rfl, ho3.mono hB2.size⟩, hB2.trans (hb3.mono hB2.size)⟩
end Go.Proofs.YtpebjocmnojldaaDoor
