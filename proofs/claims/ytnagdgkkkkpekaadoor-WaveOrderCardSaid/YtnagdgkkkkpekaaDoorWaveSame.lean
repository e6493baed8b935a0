/-
  What is proved here: the document's SameInts, and its Same of two plans.
  Conditions: those that each fact names.
-/
import Derived.Test.YtnagdgkkkkpekaaDoorWaveCut
import Derived.BigQuiet
import Derived.Deep.QuietTactic
namespace Go.Proofs.YtnagdgkkkkpekaaDoor
open Go.RowKit

theorem take_same {α : Type} [DecidableEq α] (a b : List α) (I : Nat) (ha : I < a.length) (hb : I < b.length) (h : a.take I = b.take I) (e : a[I] = b[I]) : a.take (I + 1) = b.take (I + 1) := by
  rw [List.take_add_one, List.take_add_one, List.getElem?_eq_getElem ha, List.getElem?_eq_getElem hb, e, h]
theorem take_unlike {α : Type} (a b : List α) (I : Nat) (ha : I < a.length) (hb : I < b.length) (e : a[I] ≠ b[I]) : a ≠ b := fun h => by subst h; exact e rfl
set_option maxRecDepth 100000 in
set_option maxHeartbeats 2000000 in
theorem sameI_any (x y : Value) (a b : List Int) (w : World) (ha : IntsI w x a) (hb : IntsI w y b) :
    Calls Tryd.prog 17 #[x, y] w fun e w' => e = .returned (.bool (decide (a = b))) ∧ Below w.heap.size w w' := by
  have HX : Hid (0 < a.length → ∃ b off c, x = .slice (some ⟨b, off, none⟩) a.length c ∧ a.length ≤ c ∧ b < w.heap.size ∧ ∀ (j : Nat) z, a[j]? = some z → w.cell? ⟨b, off + j, none⟩ = some (vI z)) := fun h => ha.form h
  have HY : Hid (0 < b.length → ∃ b' off c, y = .slice (some ⟨b', off, none⟩) b.length c ∧ b.length ≤ c ∧ b' < w.heap.size ∧ ∀ (j : Nat) z, b[j]? = some z → w.cell? ⟨b', off + j, none⟩ = some (vI z)) := fun h => hb.form h
  have hm := ha.short
  unfold maxLen at hm
  obtain ⟨ao, ca, rfl⟩ := ha.shape
  obtain ⟨bo, cb, rfl⟩ := hb.shape
  clear ha hb
  obtain ⟨R, hR⟩ : ∃ R, R = decide (a = b) := ⟨_, rfl⟩
  rw [← hR]
  have HR : Hid (R = decide (a = b)) := hR
  clear hR
  by_cases hlen : a.length = b.length
  · have HL : Hid (a.length = b.length) := hlen
    have hl2 : ((a.length : Int) != (b.length : Int)) = false := by rw [hlen]; simp
    clear hlen
    go_enter Tryd.func17, Tryd.ntmps17
    go_wp2
    clear hl2
    go_loopw [5] (fun i wr => ∃ I : Nat, I ≤ a.length ∧ i = .int .i64 (I : Int) ∧ Hid (a.take I = b.take I) ∧ Below w.heap.size w wr) (fun i _ => a.length - (Go.RowKit.intOf i).toNat)
    case atStart => exact ⟨0, Nat.zero_le _, rfl, rfl, Below.refl _ _⟩
    case round =>
      obtain ⟨I, hI, rfl, HT, hB⟩ := hrel
      by_cases hlt : I < a.length
      · have i1 : (I : Int) < (a.length : Int) := by omega
        have hltb : I < b.length := by have := HL.out; omega
        obtain ⟨p, po, cx, hx, _, hp, h1⟩ := HX.out (by omega)
        cases hx
        obtain ⟨q, qo, cy, hy, _, hq, h2⟩ := HY.out (by omega)
        cases hy
        have c1 : wr.cell? ⟨p, po + I, none⟩ = some (vI a[I]) := (hB.cell (p := ⟨p, po + I, none⟩) hp).trans (h1 I _ (List.getElem?_eq_getElem hlt))
        have c2 : wr.cell? ⟨q, qo + I, none⟩ = some (vI b[I]) := (hB.cell (p := ⟨q, qo + I, none⟩) hq).trans (h2 I _ (List.getElem?_eq_getElem hltb))
        have ix1 := fun w => index_intsI p po a.length ca I w hlt
        have ix2 := fun w => index_intsI q qo b.length cb I w hltb
        clear h1 h2
        by_cases he : a[I] = b[I]
        · have HN : Hid (a.take (I + 1) = b.take (I + 1)) := take_same a b I hlt hltb HT.out he
          rw [← he] at c2
          generalize a[I] = X at *
          clear he HT
          go_wp2_with fail
          go_quiet (fail)
          go_wp2
          go_roundw
          case rel => exact ⟨I + 1, hlt, by go_num, HN.out, Below.drewN hB _⟩
          case measure => simp [Go.RowKit.intOf]; omega
        · have HE : Hid (R = false) := by
            show _ = _
            rw [HR.out]
            exact decide_eq_false (take_unlike a b I hlt hltb he)
          have hn : (a[I] != b[I]) = true := by simpa using he
          generalize a[I] = X at *
          generalize b[I] = Y at *
          clear he HT
          go_wp2_with fail
          go_quiet (fail)
          go_wp2
          go_ret
          rw [HE.out]
          exact ⟨rfl, Below.drewN hB _⟩
      · have i1 : ¬ (I : Int) < (a.length : Int) := by omega
        have HE : Hid (R = true) := by
          show _ = _
          rw [HR.out]
          have := HL.out
          have h3 := HT.out
          rw [List.take_of_length_le (by omega), List.take_of_length_le (by omega)] at h3
          exact decide_eq_true h3
        clear HT
        go_wp2
        go_ret
        rw [HE.out]
        exact ⟨rfl, hB⟩
  · have hl : ((a.length : Int) != (b.length : Int)) = true := by simp; omega
    have HE : Hid (R = false) := by show _ = _; rw [HR.out]; exact decide_eq_false (fun h => hlen (by rw [h]))
    clear hlen
    go_enter Tryd.func17, Tryd.ntmps17
    go_wp2
    go_ret
    rw [HE.out]
    exact ⟨rfl, Below.refl _ _⟩
/-- Rows of ints that lie here. -/
def RowsI (w : World) (v : Value) (rs : List (List Int)) : Prop := ∃ ao c, v = .slice ao rs.length c ∧ rs.length ≤ 1000000 ∧ ∀ (i : Nat) r, rs[i]? = some r → ∃ b a cc, ao = some ⟨b, 0, none⟩ ∧ b < w.heap.size ∧ w.cell? ⟨b, i, none⟩ = some (.slice a r.length cc) ∧ IntsI w (.slice a r.length cc) r
theorem RowsI.shape {w : World} {v : Value} {rs : List (List Int)} (h : RowsI w v rs) : ∃ ao c, v = .slice ao rs.length c := by
  obtain ⟨ao, c, h1, _⟩ := h
  exact ⟨ao, c, h1⟩
theorem PlanZ.rows {w : World} {base : Nat} {v : Value} {rs : List (List Int)} (h : PlanZ w base v rs) (hl : rs.length ≤ 1000000) : RowsI w v rs := by
  obtain ⟨ao, c, rfl⟩ := h.shape
  refine ⟨ao, c, rfl, hl, fun i r hr => ?_⟩
  obtain ⟨b, c', a, cc, e, hb, hc, ho⟩ := h.at hr
  cases e
  exact ⟨b, a, cc, rfl, hb, hc, ho.ints⟩
theorem RowsI.below {w w' : World} {B : Nat} {v : Value} {rs : List (List Int)} (h : RowsI w v rs) (hb : Below B w w') (hB : w.heap.size ≤ B) : RowsI w' v rs := by
  obtain ⟨ao, c, h1, h2, h3⟩ := h
  refine ⟨ao, c, h1, h2, fun i r hr => ?_⟩
  obtain ⟨b, a, cc, e1, e2, e3, e4⟩ := h3 i r hr
  exact ⟨b, a, cc, e1, Nat.lt_of_lt_of_le e2 hb.size, (hb.cell (p := ⟨b, i, none⟩) (Nat.lt_of_lt_of_le e2 hB)).trans e3, e4.below hb hB⟩
set_option maxRecDepth 100000 in
set_option maxHeartbeats 4000000 in
theorem same15_any (x y : Value) (a b : List (List Int)) (w : World) (ha : RowsI w x a) (hb : RowsI w y b) :
    Calls Tryd.prog 12 #[x, y] w fun e w' => e = .returned (.bool (decide (a = b))) ∧ Below w.heap.size w w' := by
  obtain ⟨ao, ca, rfl, hm, hx⟩ := ha
  obtain ⟨bo, cb, rfl, _, hy⟩ := hb
  have HX : Hid (∀ (i : Nat) r, a[i]? = some r → ∃ b a cc, ao = some ⟨b, 0, none⟩ ∧ b < w.heap.size ∧ w.cell? ⟨b, i, none⟩ = some (.slice a r.length cc) ∧ IntsI w (.slice a r.length cc) r) := hx
  have HY : Hid (∀ (i : Nat) r, b[i]? = some r → ∃ b a cc, bo = some ⟨b, 0, none⟩ ∧ b < w.heap.size ∧ w.cell? ⟨b, i, none⟩ = some (.slice a r.length cc) ∧ IntsI w (.slice a r.length cc) r) := hy
  clear hx hy
  obtain ⟨R, hR⟩ : ∃ R, R = decide (a = b) := ⟨_, rfl⟩
  rw [← hR]
  have HR : Hid (R = decide (a = b)) := hR
  clear hR
  by_cases hlen : a.length = b.length
  · have HL : Hid (a.length = b.length) := hlen
    have hl2 : ((a.length : Int) != (b.length : Int)) = false := by rw [hlen]; simp
    clear hlen
    go_enter Tryd.func12, Tryd.ntmps12
    go_wp2
    clear hl2
    go_loopw [5] (fun i wr => ∃ I : Nat, I ≤ a.length ∧ i = .int .i64 (I : Int) ∧ Hid (a.take I = b.take I) ∧ Below w.heap.size w wr) (fun i _ => a.length - (Go.RowKit.intOf i).toNat)
    case atStart => exact ⟨0, Nat.zero_le _, rfl, rfl, Below.refl _ _⟩
    case round =>
      obtain ⟨I, hI, rfl, HT, hB⟩ := hrel
      by_cases hlt : I < a.length
      · have i1 : (I : Int) < (a.length : Int) := by omega
        have hltb : I < b.length := by have := HL.out; omega
        obtain ⟨p, pa, pc, rfl, hp, h1, h3⟩ := HX.out I _ (List.getElem?_eq_getElem hlt)
        obtain ⟨q, qa, qc, rfl, hq, h2, h4⟩ := HY.out I _ (List.getElem?_eq_getElem hltb)
        have ix1 := fun w => index_intss p a.length ca I w hlt
        have ix2 := fun w => index_intss q b.length cb I w hltb
        have HSM : Hid (a[I] = b[I] → a.take (I + 1) = b.take (I + 1)) := fun e => take_same a b I hlt hltb HT.out e
        have HUN : Hid (a[I] ≠ b[I] → R = false) := fun e => by rw [HR.out]; exact decide_eq_false (take_unlike a b I hlt hltb e)
        generalize a[I] = A at *
        generalize b[I] = B at *
        clear HT
        have d1 : wr.cell? ⟨p, I, none⟩ = some (.slice pa A.length pc) := (hB.cell (p := ⟨p, I, none⟩) hp).trans h1
        have d2 : wr.cell? ⟨q, I, none⟩ = some (.slice qa B.length qc) := (hB.cell (p := ⟨q, I, none⟩) hq).trans h2
        have HPX : Hid (0 < A.length → ∃ b off c, (Value.slice pa A.length pc) = .slice (some ⟨b, off, none⟩) A.length c ∧ A.length ≤ c ∧ b < w.heap.size ∧ ∀ (j : Nat) z, A[j]? = some z → w.cell? ⟨b, off + j, none⟩ = some (vI z)) := fun h => h3.form h
        have HPY : Hid (0 < B.length → ∃ b off c, (Value.slice qa B.length qc) = .slice (some ⟨b, off, none⟩) B.length c ∧ B.length ≤ c ∧ b < w.heap.size ∧ ∀ (j : Nat) z, B[j]? = some z → w.cell? ⟨b, off + j, none⟩ = some (vI z)) := fun h => h4.form h
        have hmA := h3.short
        unfold maxLen at hmA
        clear h1 h2 h3 h4
        by_cases hle : A.length = B.length
        · have hn : ((A.length : Int) != (B.length : Int)) = false := by rw [hle]; simp
          have HLL : Hid (A.length = B.length) := hle
          clear hle
          go_wp2_with fail
          go_quiet (fail)
          go_wp2
          have hB1 : Below w.heap.size w (wr.drewN nq) := Below.drewN hB nq
          have HD1 : Hid (w.cell? ⟨p, I, none⟩ = some (.slice pa A.length pc)) := by
            show _ = _
            rw [← hB.cell (p := ⟨p, I, none⟩) hp]; exact d1
          have HD2 : Hid (w.cell? ⟨q, I, none⟩ = some (.slice qa B.length qc)) := by
            show _ = _
            rw [← hB.cell (p := ⟨q, I, none⟩) hq]; exact d2
          clear hn hB d1 d2
          generalize wr.drewN nq = W1 at *
          go_loopw [6] (fun j wj => ∃ J : Nat, J ≤ A.length ∧ j = .int .i64 (J : Int) ∧ Hid (A.take J = B.take J) ∧ Below w.heap.size w wj) (fun j _ => A.length - (Go.RowKit.intOf j).toNat)
          case atStart => exact ⟨0, Nat.zero_le _, rfl, rfl, hB1⟩
          case round =>
            clear hB1
            obtain ⟨J, hJ, rfl, HT, hB⟩ := hrel
            have d1 : wr.cell? ⟨p, I, none⟩ = some (.slice pa A.length pc) := (hB.cell (p := ⟨p, I, none⟩) hp).trans HD1.out
            have d2 : wr.cell? ⟨q, I, none⟩ = some (.slice qa B.length qc) := (hB.cell (p := ⟨q, I, none⟩) hq).trans HD2.out
            by_cases hjt : J < A.length
            · have j1 : (J : Int) < (A.length : Int) := by omega
              have hjtb : J < B.length := by have := HLL.out; omega
              obtain ⟨g, go', cx, hx, _, hgl, h1⟩ := HPX.out (by omega)
              cases hx
              obtain ⟨f, fo', cy, hy, _, hfl, h2⟩ := HPY.out (by omega)
              cases hy
              have c1 : wr.cell? ⟨g, go' + J, none⟩ = some (vI A[J]) := (hB.cell (p := ⟨g, go' + J, none⟩) hgl).trans (h1 J _ (List.getElem?_eq_getElem hjt))
              have c2 : wr.cell? ⟨f, fo' + J, none⟩ = some (vI B[J]) := (hB.cell (p := ⟨f, fo' + J, none⟩) hfl).trans (h2 J _ (List.getElem?_eq_getElem hjtb))
              have jx1 := fun w => index_intsI g go' A.length pc J w hjt
              have jx2 := fun w => index_intsI f fo' B.length qc J w hjtb
              clear h1 h2
              by_cases he : A[J] = B[J]
              · have HN : Hid (A.take (J + 1) = B.take (J + 1)) := take_same A B J hjt hjtb HT.out he
                rw [← he] at c2
                generalize A[J] = X at *
                clear he HT
                go_wp2_with fail
                go_quiet (fail)
                go_wp2
                go_roundw
                case rel => exact ⟨J + 1, hjt, by go_num, HN.out, Below.drewN hB _⟩
                case measure => simp [Go.RowKit.intOf]; omega
              · have HE : Hid (R = false) := HUN.out (take_unlike A B J hjt hjtb he)
                have hn : (A[J] != B[J]) = true := by simpa using he
                generalize A[J] = X at *
                generalize B[J] = Y at *
                clear he HT
                go_wp2_with fail
                go_quiet (fail)
                go_wp2
                go_ret
                rw [HE.out]
                exact ⟨rfl, Below.drewN hB _⟩
            · have j1 : ¬ (J : Int) < (A.length : Int) := by omega
              have HAB : Hid (a.take (I + 1) = b.take (I + 1)) := by
                refine HSM.out ?_
                have h1 := HT.out
                have h2 := HLL.out
                rw [List.take_of_length_le (by omega), List.take_of_length_le (by omega)] at h1
                exact h1
              clear HT
              go_wp2
              go_roundw
              case rel => exact ⟨I + 1, hlt, by go_num, HAB.out, hB⟩
              case measure => simp [Go.RowKit.intOf]; omega
        · have hn : ((A.length : Int) != (B.length : Int)) = true := by simp; omega
          have HE : Hid (R = false) := HUN.out (fun e => hle (by rw [e]))
          clear hle
          go_wp2_with fail
          go_quiet (fail)
          go_wp2
          go_ret
          rw [HE.out]
          exact ⟨rfl, Below.drewN hB _⟩
      · have i1 : ¬ (I : Int) < (a.length : Int) := by omega
        have HE : Hid (R = true) := by
          show _ = _
          rw [HR.out]
          have := HL.out
          have h3 := HT.out
          rw [List.take_of_length_le (by omega), List.take_of_length_le (by omega)] at h3
          exact decide_eq_true h3
        clear HT
        go_wp2
        go_ret
        rw [HE.out]
        exact ⟨rfl, hB⟩
  · have hl : ((a.length : Int) != (b.length : Int)) = true := by simp; omega
    have HE : Hid (R = false) := by show _ = _; rw [HR.out]; exact decide_eq_false (fun h => hlen (by rw [h]))
    clear hlen
    go_enter Tryd.func12, Tryd.ntmps12
    go_wp2
    go_ret
    rw [HE.out]
    exact ⟨rfl, Below.refl _ _⟩
end Go.Proofs.YtnagdgkkkkpekaaDoor
