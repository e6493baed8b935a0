/-
  What is proved here: the document's SameInts, and its Same of two plans.
  Conditions: those that each fact names.
-/
import Derived.Test.YtnagdgkkkkpekabDoorWaveCut
import Derived.BigQuiet
import Derived.Deep.QuietTactic
namespace Go.Proofs.YtnagdgkkkkpekabDoor
open Go.RowKit

theorem take_same {α : Type} [DecidableEq α] (a b : List α) (I : Nat) (ha : I < a.length) (hb : I < b.length) (h : a.take I = b.take I) (e : a[I] = b[I]) : a.take (I + 1) = b.take (I + 1) := by
  rw [List.take_add_one, List.take_add_one, List.getElem?_eq_getElem ha, List.getElem?_eq_getElem hb, e, h]
theorem take_unlike {α : Type} (a b : List α) (I : Nat) (ha : I < a.length) (hb : I < b.length) (e : a[I] ≠ b[I]) : a ≠ b := fun h => by subst h; exact e rfl
set_option maxRecDepth 100000 in
set_option maxHeartbeats 2000000 in
theorem sameI_any (x y : Value) (a b : List Int) (w : World) (ha : IntsI w x a) (hb : IntsI w y b) :
    Calls Tryd.prog 6 #[x, y] w fun e w' => e = .returned (.bool (decide (a = b))) ∧ Below w.heap.size w w' := by
  have HX : Hid (0 < a.length → ∃ b off c, x = .slice (some ⟨b, off, none⟩) a.length c ∧ a.length ≤ c ∧ b < w.heap.size ∧ ∀ (j : Nat) z, a[j]? = some z → w.cell? ⟨b, off + j, none⟩ = some (vI z)) := fun h => ha.form h
  have HY : Hid (0 < b.length → ∃ b' off c, y = .slice (some ⟨b', off, none⟩) b.length c ∧ b.length ≤ c ∧ b' < w.heap.size ∧ ∀ (j : Nat) z, b[j]? = some z → w.cell? ⟨b', off + j, none⟩ = some (vI z)) := fun h => hb.form h
  have hm := ha.short
  unfold maxLen at hm
  obtain ⟨ao, ca, rfl⟩ := ha.shape
  obtain ⟨bo, cb, rfl⟩ := hb.shape
  clear ha hb
  obtain ⟨R, hR⟩ : ∃ R, R = decide (a = b) := ⟨_, rfl⟩
  rw [← hR]
  have HR : Hid (R = decide (a = b)) := hR
  clear hR
  by_cases hlen : a.length = b.length
  · have HL : Hid (a.length = b.length) := hlen
    have hl2 : ((a.length : Int) != (b.length : Int)) = false := by rw [hlen]; simp
    clear hlen
    go_enter Tryd.func6, Tryd.ntmps6
    go_wp2
    clear hl2
    go_loopw [5] (fun i wr => ∃ I : Nat, I ≤ a.length ∧ i = .int .i64 (I : Int) ∧ Hid (a.take I = b.take I) ∧ Below w.heap.size w wr) (fun i _ => a.length - (Go.RowKit.intOf i).toNat)
    case atStart => exact ⟨0, Nat.zero_le _, rfl, rfl, Below.refl _ _⟩
    case round =>
      obtain ⟨I, hI, rfl, HT, hB⟩ := hrel
      by_cases hlt : I < a.length
      · have i1 : (I : Int) < (a.length : Int) := by omega
        have hltb : I < b.length := by have := HL.out; omega
        obtain ⟨p, po, cx, hx, _, hp, h1⟩ := HX.out (by omega)
        cases hx
        obtain ⟨q, qo, cy, hy, _, hq, h2⟩ := HY.out (by omega)
        cases hy
        have c1 : wr.cell? ⟨p, po + I, none⟩ = some (vI a[I]) := (hB.cell (p := ⟨p, po + I, none⟩) hp).trans (h1 I _ (List.getElem?_eq_getElem hlt))
        have c2 : wr.cell? ⟨q, qo + I, none⟩ = some (vI b[I]) := (hB.cell (p := ⟨q, qo + I, none⟩) hq).trans (h2 I _ (List.getElem?_eq_getElem hltb))
        have ix1 := fun w => index_intsI p po a.length ca I w hlt
        have ix2 := fun w => index_intsI q qo b.length cb I w hltb
        clear h1 h2
        by_cases he : a[I] = b[I]
        · have HN : Hid (a.take (I + 1) = b.take (I + 1)) := take_same a b I hlt hltb HT.out he
          rw [← he] at c2
          generalize a[I] = X at *
          clear he HT
          go_wp2_with fail
          go_quiet (fail)
          go_wp2
          go_roundw
          case rel => exact ⟨I + 1, hlt, by go_num, HN.out, Below.drewN hB _⟩
          case measure => simp [Go.RowKit.intOf]; omega
        · have HE : Hid (R = false) := by
            show _ = _
            rw [HR.out]
            exact decide_eq_false (take_unlike a b I hlt hltb he)
          have hn : (a[I] != b[I]) = true := by simpa using he
          generalize a[I] = X at *
          generalize b[I] = Y at *
          clear he HT
          go_wp2_with fail
          go_quiet (fail)
          go_wp2
          go_ret
          rw [HE.out]
          exact ⟨rfl, Below.drewN hB _⟩
      · have i1 : ¬ (I : Int) < (a.length : Int) := by omega
        have HE : Hid (R = true) := by
          show _ = _
          rw [HR.out]
          have := HL.out
          have h3 := HT.out
          rw [List.take_of_length_le (by omega), List.take_of_length_le (by omega)] at h3
          exact decide_eq_true h3
        clear HT
        go_wp2
        go_ret
        rw [HE.out]
        exact ⟨rfl, hB⟩
  · have hl : ((a.length : Int) != (b.length : Int)) = true := by simp; omega
    have HE : Hid (R = false) := by show _ = _; rw [HR.out]; exact decide_eq_false (fun h => hlen (by rw [h]))
    clear hlen
    go_enter Tryd.func6, Tryd.ntmps6
    go_wp2
    go_ret
    rw [HE.out]
    exact ⟨rfl, Below.refl _ _⟩
/-- Rows of ints that lie here. -/
def RowsI (w : World) (v : Value) (rs : List (List Int)) : Prop := ∃ ao c, v = .slice ao rs.length c ∧ rs.length ≤ 1000000 ∧ ∀ (i : Nat) r, rs[i]? = some r → ∃ b a cc, ao = some ⟨b, 0, none⟩ ∧ b < w.heap.size ∧ w.cell? ⟨b, i, none⟩ = some (.slice a r.length cc) ∧ IntsI w (.slice a r.length cc) r
theorem RowsI.shape {w : World} {v : Value} {rs : List (List Int)} (h : RowsI w v rs) : ∃ ao c, v = .slice ao rs.length c := by
  obtain ⟨ao, c, h1, _⟩ := h
  exact ⟨ao, c, h1⟩
theorem PlanZ.rows {w : World} {base : Nat} {v : Value} {rs : List (List Int)} (h : PlanZ w base v rs) (hl : rs.length ≤ 1000000) : RowsI w v rs := by
  obtain ⟨ao, c, rfl⟩ := h.shape
  refine ⟨ao, c, rfl, hl, fun i r hr => ?_⟩
  obtain ⟨b, c', a, cc, e, hb, hc, ho⟩ := h.at hr
  cases e
  exact ⟨b, a, cc, rfl, hb, hc, ho.ints⟩
theorem RowsI.below {w w' : World} {B : Nat} {v : Value} {rs : List (List Int)} (h : RowsI w v rs) (hb : Below B w w') (hB : w.heap.size ≤ B) : RowsI w' v rs := by
  obtain ⟨ao, c, h1, h2, h3⟩ := h
  refine ⟨ao, c, h1, h2, fun i r hr => ?_⟩
  obtain ⟨b, a, cc, e1, e2, e3, e4⟩ := h3 i r hr
  exact ⟨b, a, cc, e1, Nat.lt_of_lt_of_le e2 hb.size, (hb.cell (p := ⟨b, i, none⟩) (Nat.lt_of_lt_of_le e2 hB)).trans e3, e4.below hb hB⟩

end Go.Proofs.YtnagdgkkkkpekabDoor
