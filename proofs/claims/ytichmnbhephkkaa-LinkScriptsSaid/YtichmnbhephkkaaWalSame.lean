/-
  What is proved here: whether rows of bytes are the same.
  Conditions: the rows lie in memory.
-/
import Derived.Test.YtichmnbhephkkaaSegKit
import Derived.Deep.Slices
import Derived.Test.YtichmnbhephkkaaAnyHeld
namespace Go.Proofs.Ytichmnbhephkkaa
open Go.RowKit

/-- Rows of bytes in a slice. -/
def RowsV (w : World) (v : Value) (rs : List (List UInt8)) : Prop := ∃ ao c, v = .slice ao rs.length c ∧ rs.length ≤ maxLen ∧ ∀ (i : Nat) r, rs[i]? = some r → ∃ b off, ao = some ⟨b, off, none⟩ ∧ b < w.heap.size ∧ ∃ u, w.cell? ⟨b, off + i, none⟩ = some u ∧ Seg w u r
set_option maxRecDepth 100000 in
set_option maxHeartbeats 1000000 in
theorem same7_any (x y : Value) (rs1 bs : List (List UInt8)) (w : World) (ha : RowsV w x rs1) (hb : RowsV w y bs) :
    Calls Try.prog 17 #[x, y] w fun e w' => e = .returned (.bool (decide (rs1 = bs))) ∧ Below w.heap.size w w' := by
  obtain ⟨ax, cx, rfl, hal, hax⟩ := ha
  obtain ⟨ay, cy, rfl, hbl, hby⟩ := hb
  by_cases hl : rs1.length = bs.length
  case neg =>
    have j1 : ((rs1.length : Int) == (bs.length : Int)) = false := by rw [beq_eq_false_iff_ne]; omega
    have HE : Hid (decide (rs1 = bs) = false) := by show _ = _; exact decide_eq_false (fun e => hl (by rw [e]))
    clear hl
    go_enter Try.func17, Try.ntmps17
    go_wp2
    go_ret
    rw [HE.out]
    exact ⟨rfl, Below.refl _ _⟩
  have j1 : ((rs1.length : Int) != (bs.length : Int)) = false := by rw [hl]; exact bne_self_eq_false _
  have HL : Hid (rs1.length = bs.length) := hl
  clear hl
  unfold maxLen at hal hbl
  go_enter Try.func17, Try.ntmps17
  go_wp2_with fail
  clear j1
  go_loopw [5] (fun i wr => ∃ I : Nat, i = .int .i64 (I : Int) ∧ I ≤ rs1.length ∧ rs1.take I = bs.take I ∧ Below w.heap.size w wr) (fun i _ => rs1.length - (intOf i).toNat)
  case atStart => exact ⟨0, rfl, Nat.zero_le _, rfl, Below.refl _ _⟩
  case round =>
    obtain ⟨I, rfl, hI, hT, hB⟩ := hrel
    by_cases hlt : I < rs1.length
    · have i1 : (I : Int) < (rs1.length : Int) := by omega
      have hl2 : I < bs.length := by rw [← HL.out]; exact hlt
      have i2 : (I : Int) < (bs.length : Int) := by omega
      have ga : rs1[I]? = some rs1[I] := List.getElem?_eq_getElem hlt
      have gb : bs[I]? = some (bs[I]'hl2) := List.getElem?_eq_getElem hl2
      obtain ⟨ra, hra⟩ : ∃ r, rs1[I] = r := ⟨_, rfl⟩
      obtain ⟨rb, hrb⟩ : ∃ r, bs[I]'hl2 = r := ⟨_, rfl⟩
      rw [hra] at ga
      rw [hrb] at gb
      obtain ⟨p, po, rfl, hp, u, hu, hus⟩ := hax I ra ga
      obtain ⟨q, qo, rfl, hq, v, hv, hvs⟩ := hby I rb gb
      have d1 : wr.cell? ⟨p, po + I, none⟩ = some u := (hB.cell (p := ⟨p, po + I, none⟩) hp).trans hu
      have d2 : wr.cell? ⟨q, qo + I, none⟩ = some v := (hB.cell (p := ⟨q, qo + I, none⟩) hq).trans hv
      have k1 := seg_stringD (hus.below hB.drew (Nat.le_refl _)) 9 Try.underlying9
      have k2 := seg_stringD (hvs.below hB.drew (Nat.le_refl _)) 9 Try.underlying9
      have hst : rs1.take (I + 1) = bs.take (I + 1) ↔ ra = rb := by
        rw [List.take_add_one, List.take_add_one, ga, gb, hT]
        constructor
        · intro h; have := List.append_cancel_left h; simpa using this
        · intro h; rw [h]
      have HA : Hid (ra ≠ rb → rs1 ≠ bs) := fun h e => h (by rw [e] at ga; rw [ga] at gb; exact Option.some.inj gb)
      obtain ⟨au, cu, rfl⟩ := Seg.shapeD hus
      obtain ⟨av, cv, rfl⟩ := Seg.shapeD hvs
      clear ga gb hra hrb hax hby hu hv hus hvs
      by_cases hab : ra = rb
      · subst hab
        have HT2 : Hid (rs1.take (I + 1) = bs.take (I + 1)) := hst.2 rfl
        clear hst HA
        generalize (⟨ra.toArray⟩ : ByteArray) = X at k1 k2
        go_wp2_with fail
        go_still (by kernel_rfl)
        go_wp2
        go_roundw
        case rel => exact ⟨I + 1, by go_num, hlt, HT2.out, hB.drew⟩
        case measure => simp [intOf]; omega
      · have HF : Hid (decide (rs1 = bs) = false) := by show _ = _; exact decide_eq_false (HA.out hab)
        have hX := str_beq ra rb
        rw [decide_eq_false hab] at hX
        clear hst HA hab
        generalize (⟨ra.toArray⟩ : ByteArray) = X at k1 hX
        generalize (⟨rb.toArray⟩ : ByteArray) = Y at k2 hX
        go_wp2_with fail
        go_still (by kernel_rfl)
        go_wp2
        go_ret
        rw [HF.out]
        exact ⟨rfl, hB.drew⟩
    · have i1 : ¬ (I : Int) < (rs1.length : Int) := by omega
      have HT2 : Hid (decide (rs1 = bs) = true) := by
        show _ = _
        rw [List.take_of_length_le (by omega), List.take_of_length_le (by rw [← HL.out]; omega)] at hT
        exact decide_eq_true hT
      go_wp2
      go_ret
      rw [HT2.out]
      exact ⟨rfl, hB⟩
end Go.Proofs.Ytichmnbhephkkaa
