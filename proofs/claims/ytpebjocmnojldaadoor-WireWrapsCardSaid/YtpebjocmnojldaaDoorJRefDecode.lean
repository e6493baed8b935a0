/-
  What is proved here: the document's own Decode answers the record that was read off all the bytes, or why there is none.
  Conditions: fields and bytes lie in memory.
-/
import Derived.Test.YtpebjocmnojldaaDoorJRefCut
import Derived.Test.YtpebjocmnojldaaDoorJPackReader
namespace Go.Proofs.YtpebjocmnojldaaDoor
open Go.RowKit

theorem refRec_all : ∀ r, refRecSaid r
  | 0 => fun n lv l M s g w0 w hM => by simp [mostL] at hM
  | r + 1 => refRec_any r (refRec_all r)

set_option maxRecDepth 100000 in
set_option maxHeartbeats 1000000 in
theorem refDecode_any (n : Nat) (lv : Value) (l : List Fld) (bv : Value) (s : List UInt8) (w : World) (hF : Flds w n lv l) (hS : Seg w bv s) (hm : s.length ≤ maxLen) :
    Calls Tryd.prog 27 #[lv, bv] w fun e w' => decodePost w (decTop l s) e w' := by
  obtain ⟨ao, c, hlv, _, _⟩ := hF.form
  obtain ⟨ab, cb, hbv⟩ := hS.shape
  have HR : Hid (Calls Tryd.prog 40 #[lv] w fun e w' => e = .returned (.bool (mostL 4 l).isSome) ∧ Below w.heap.size w w') := refRight_any n lv l w hF
  cases hmo : mostL 4 l with
  | none =>
    have hres : Hid (decTop l s = .error 1) := by show _ = _; unfold decTop; rw [hmo]; rfl
    rw [hmo] at HR
    subst hlv
    subst hbv
    go_enter Tryd.func27, Tryd.ntmps27
    go_wp2_with (go_at_call 40; refine HR.out.mono ?_; rintro e w1 ⟨rfl, hb1⟩)
    go_ret2
    show decodePost w (decTop l s) _ _
    rw [hres.out]
    exact ⟨rfl, hb1⟩
  | some M =>
    have hres : Hid (decTop l s = match decL 4 l s with
      | some (v, []) => .ok v
      | _ => .error 2) := by show _ = _; unfold decTop; rw [hmo]; rfl
    rw [hmo] at HR
    have HT : Hid (∀ w1, Below w.heap.size w w1 → Calls Tryd.prog 48 #[.pointer (some ⟨w1.heap.size, 0, none⟩), lv] (w1.alloc (.cells #[bv, .bool false] 93)) fun e w' => cutPost w1 (w1.alloc (.cells #[bv, .bool false] 93)) w1.heap.size (decL 4 l s) (fun v val w' => ValsK w' (fun b => (w1.alloc (.cells #[bv, .bool false] 93)).heap.size ≤ b) 4 val v) (fun val w' => ∃ v, ValsK w' (fun b => (w1.alloc (.cells #[bv, .bool false] 93)).heap.size ≤ b) 4 val v) e w') := fun w1 hb => refRec_all 4 n lv l M s w1.heap.size w1 _ hmo (Flds.keeps (Keeps.of_below hb (Nat.le_refl _)) _ _ _ hF) ⟨Nat.le_refl _, (Below.refl _ _).alloc (Nat.le_refl _) _, hm, bv, Blk.new _ _ _, hS.below hb (Nat.le_refl _)⟩
    subst hlv
    subst hbv
    cases hd : decL 4 l s with
    | none =>
      rw [hd] at HT hres
      go_enter Tryd.func27, Tryd.ntmps27
      go_wp2_with (first | (go_at_call 40; refine HR.out.mono ?_; rintro e w1 ⟨rfl, hb1⟩) | (go_at_call 48; refine (HT.out _ (by exact hb1)).mono ?_; rintro e w2 ⟨⟨v2, s2, rfl, ⟨x2, hv2⟩, hR2⟩, hg2⟩; obtain ⟨a2, n2, c2, rfl⟩ := vals_form (hv2 _ (Agree.refl _ _)); obtain ⟨_, hB2, _, lv2, hk2, hs2⟩ := hR2; obtain ⟨a3, c3, rfl⟩ := hs2.shape; have d1 := hk2.cell (j := 1) rfl) | fail)
      go_ret2
      show decodePost w (decTop l s) _ _
      rw [hres.out]
      exact ⟨rfl, hb1.trans (hB2.mono hb1.size)⟩
    | some q =>
      obtain ⟨v, s'⟩ := q
      rw [hd] at HT hres
      have hs' : Hid (s'.length = 0 → decTop l s = .ok v) := fun h => by rw [hres.out, nil_of h]
      have hs'' : Hid (0 < s'.length → decTop l s = .error 2) := fun h => by
        rw [hres.out]
        cases s' with
        | nil => cases h
        | cons _ _ => rfl
      clear hres hd
      by_cases h0 : 0 < s'.length
      · have i0 : (0 : Int) < (s'.length : Int) := by omega
        go_enter Tryd.func27, Tryd.ntmps27
        go_wp2_with (first | (go_at_call 40; refine HR.out.mono ?_; rintro e w1 ⟨rfl, hb1⟩) | (go_at_call 48; refine (HT.out _ (by exact hb1)).mono ?_; rintro e w2 ⟨⟨v2, rfl, hv2, hR2⟩, hg2⟩; obtain ⟨a2, n2, c2, rfl⟩ := vals_form (hv2 _ (Agree.refl _ _)); obtain ⟨_, hB2, _, lv2, hk2, hs2⟩ := hR2; obtain ⟨a3, c3, rfl⟩ := hs2.shape; have d0 := hk2.cell (j := 0) rfl; have d1 := hk2.cell (j := 1) rfl) | fail)
        go_ret2
        show decodePost w (decTop l s) _ _
        rw [hs''.out h0]
        exact ⟨rfl, hb1.trans (hB2.mono hb1.size)⟩
      · have HZ : Hid (s'.length = 0) := by show _ = _; omega
        have i0 : ¬ (0 : Int) < (s'.length : Int) := by omega
        go_enter Tryd.func27, Tryd.ntmps27
        go_wp2_with (first | (go_at_call 40; refine HR.out.mono ?_; rintro e w1 ⟨rfl, hb1⟩) | (go_at_call 48; refine (HT.out _ (by exact hb1)).mono ?_; rintro e w2 ⟨⟨v2, rfl, hv2, hR2⟩, hg2⟩; obtain ⟨a2, n2, c2, rfl⟩ := vals_form (hv2 _ (Agree.refl _ _)); obtain ⟨_, hB2, _, lv2, hk2, hs2⟩ := hR2; obtain ⟨a3, c3, rfl⟩ := hs2.shape; have d0 := hk2.cell (j := 0) rfl; have d1 := hk2.cell (j := 1) rfl) | fail)
        go_ret2
        show decodePost w (decTop l s) _ _
        rw [hs'.out HZ.out]
        have hsz : (w1.alloc (.cells #[.slice ab s.length cb, .bool false] 93)).heap.size = w1.heap.size + 1 := by simp
        have := hb1.size
        exact ⟨⟨_, rfl, hv2.mono (fun b hb => by rw [hsz] at hb; omega)⟩, hb1.trans (hB2.mono hb1.size)⟩
end Go.Proofs.YtpebjocmnojldaaDoor
