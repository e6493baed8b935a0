/-
  What is proved here: frame.New answers a reader that holds nothing; the document's Same tells whether two slices of slices of bytes are the same.
  Conditions: those that each fact names.
-/
import Derived.Test.YtchbfhckocfjhaaDoorFrameFeed
import Derived.Test.YtchbfhckocfjhaaDoorAnyHeld
import Derived.BigQuiet
import Derived.Deep.QuietTactic
namespace Go.Proofs.YtchbfhckocfjhaaDoor
open Go.RowKit

set_option maxRecDepth 100000 in
theorem new_any (w : World) : Calls Tryd.prog 10 #[] w fun e w' => e = .returned (.pointer (some ⟨w.heap.size, 0, none⟩)) ∧ w' = w.alloc (.cells #[.slice none 0 0, .bool false] 45) := by
  go_enter Tryd.func10, Tryd.ntmps10
  go_wp2
  go_ret
  exact ⟨rfl, rfl⟩
theorem rd_new (t : TypeId) (w : World) (lo : Nat) (h : lo ≤ w.heap.size) : Rd t (w.alloc (.cells #[.slice none 0 0, .bool false] t)) lo w.heap.size (.slice none 0 0) [] false :=
  ⟨Blk.new w t _, ⟨rfl, .inl ⟨rfl, rfl⟩⟩, h⟩

/-- A slice of slices of bytes lies here. -/
def RowsIn (w : World) (v : Value) (L : List (List UInt8)) : Prop := (L = [] ∧ ∃ ao c, v = .slice ao 0 c) ∨ ∃ vs, SegV w v vs ∧ vs.length = L.length ∧ ∀ (j : Nat) u b, vs[j]? = some u → L[j]? = some b → Seg w u b ∧ b.length ≤ 9223372036854775807
theorem Told.rows {w : World} {lo : Nat} {tv hv : Value} {vs : List Value} {L : List (List UInt8)} (h : Told w lo tv hv vs L) : SegV w tv vs := by
  rcases Nat.eq_zero_or_pos vs.length with h0 | h0
  · obtain rfl := List.eq_nil_of_length_eq_zero h0
    rcases h.row.2 with ⟨h1, _⟩ | ⟨g, cap, cur, h1, _⟩
    · exact .inl ⟨rfl, none, 0, h1, fun _ => rfl⟩
    · exact .inl ⟨rfl, _, cap, h1, fun e => by cases e⟩
  · obtain ⟨g, cap, hv, hb, hl⟩ := World.ownsRow.form h.row h0
    refine .inr ⟨g, 0, cap, hv, hl, ?_, fun j u hu => ?_⟩
    · rcases h.row.2 with ⟨h1, _⟩ | ⟨g', cap', cur, h1, _, _, h4, _⟩
      · rw [hv] at h1; cases h1
      · rw [hv] at h1; cases h1; exact h4
    · have h1 := World.ownsRow.cells h.row (g := g) (by rw [hv]; rfl) j u hu
      rw [Addr.add_mid] at h1
      exact h1
theorem Told.rowsIn {w : World} {lo : Nat} {tv hv : Value} {vs : List Value} {L : List (List UInt8)} (h : Told w lo tv hv vs L) : RowsIn w tv L :=
  .inr ⟨vs, h.rows, h.len, fun j u b h1 h2 => ⟨(h.each j u b h1 h2).1.seg, (h.each j u b h1 h2).1.maxlen⟩⟩
theorem RowsIn.shape {w : World} {v : Value} {L : List (List UInt8)} (h : RowsIn w v L) : ∃ ao c, v = .slice ao L.length c := by
  rcases h with ⟨rfl, ao, c, h⟩ | ⟨vs, h1, h2, _⟩
  · exact ⟨ao, c, h⟩
  · rw [← h2]
    exact h1.shape
theorem RowsIn.at {w : World} {ao : Option Addr} {n c : Nat} {L : List (List UInt8)} (h : RowsIn w (.slice ao n c) L) (k : Nat) (hk : k < n) (hn : L.length = n) : ∃ b off, ao = some ⟨b, off, none⟩ ∧ ∃ (ak : Option Addr) (ck : Nat), w.cell? ⟨b, off + k, none⟩ = some (.slice ak (L.getD k []).length ck) ∧ Seg w (.slice ak (L.getD k []).length ck) (L.getD k []) ∧ (L.getD k []).length ≤ 9223372036854775807 := by
  rcases h with ⟨rfl, _⟩ | ⟨vs, h1, h2, h3⟩
  · simp at hn; omega
  rcases h1 with ⟨rfl, ao', c', e, _⟩ | ⟨b, off, c', e, hb, hc, hr⟩
  · simp at h2; omega
  · cases e
    have hv : k < vs.length := by omega
    have hL : k < L.length := by omega
    obtain ⟨hs, hm⟩ := h3 k vs[k] L[k] (List.getElem?_eq_getElem hv) (List.getElem?_eq_getElem hL)
    have eL : L.getD k [] = L[k] := by simp [List.getD, hL]
    rw [eL]
    obtain ⟨ak, ck, hu⟩ := hs.shapeF
    refine ⟨b, off, rfl, ak, ck, ?_, by rw [← hu]; exact hs, hm⟩
    rw [← hu]
    exact hr k _ (List.getElem?_eq_getElem hv)

theorem drewN_two (w : World) (a b : Nat) : (w.drewN a).drewN b = w.drewN (a + b) := by
  simp [World.drewN, Nat.add_assoc]

set_option maxRecDepth 100000 in
set_option maxHeartbeats 2000000 in
theorem same_any (x y : Value) (L M : List (List UInt8)) (w : World) (hx : RowsIn w x L) (hy : RowsIn w y M) (hl : L.length ≤ 1000000000) :
    Calls Tryd.prog 13 #[x, y] w fun e w' => e = .returned (.bool (decide (L = M))) ∧ ∃ n, w' = w.drewN n := by
  obtain ⟨a1, c1, rfl⟩ := hx.shape
  obtain ⟨a2, c2, rfl⟩ := hy.shape
  by_cases hn : L.length = M.length
  · obtain ⟨len, hle⟩ : ∃ len, L.length = len := ⟨_, rfl⟩
    have hle2 : M.length = len := by omega
    rw [hle] at hx hl ⊢
    rw [hle2] at hy ⊢
    have HLE : Hid (L.length = len ∧ M.length = len) := ⟨hle, hle2⟩
    obtain ⟨D, hD⟩ : ∃ D, D = decide (L = M) := ⟨_, rfl⟩
    rw [← hD]
    have HD : Hid (D = decide (L = M)) := hD
    clear hn hle hle2 hD
    go_enter Tryd.func13, Tryd.ntmps13
    go_wp2_with fail
    go_loopw [5] (fun i wr => ∃ I : Nat, I ≤ len ∧ i = .int .i64 (I : Int) ∧ L.take I = M.take I ∧ ∃ nq, wr = w.drewN nq) (fun i _ => len - (intOf i).toNat)
    case atStart => exact ⟨0, Nat.zero_le _, rfl, rfl, 0, rfl⟩
    case round =>
      obtain ⟨I, hI, rfl, htk, nq, rfl⟩ := hrel
      have HT : Hid (L.take I = M.take I) := htk
      clear htk
      by_cases hlt : I < len
      · obtain ⟨b1, o1, rfl, x1, y1, hc1, hs1, hm1⟩ := hx.at I hlt HLE.out.1
        obtain ⟨b2, o2, rfl, x2, y2, hc2, hs2, hm2⟩ := hy.at I hlt HLE.out.2
        have HN : Hid (L.getD I [] ≠ M.getD I [] → D = false) := fun h => by
          rw [HD.out, decide_eq_false_iff_not]; rintro rfl; exact h rfl
        have HS : Hid (L.getD I [] = M.getD I [] → L.take (I + 1) = M.take (I + 1)) := fun h => by
          have hL := HLE.out.1
          have hM := HLE.out.2
          have h1 : I < L.length := by omega
          have h2 : I < M.length := by omega
          rw [List.take_succ_eq_append_getElem h1, List.take_succ_eq_append_getElem h2, HT.out]
          simp only [List.getD, List.getElem?_eq_getElem h1, List.getElem?_eq_getElem h2, Option.getD_some] at h
          rw [h]
        generalize L.getD I [] = X at *
        generalize M.getD I [] = Y at *
        have q1 := fun k => seg_stringF (show Seg (w.drewN k) _ X from hs1) 9 Tryd.underlying9
        have q2 := fun k => seg_stringF (show Seg (w.drewN k) _ Y from hs2) 9 Tryd.underlying9
        have HQ : Hid (((⟨X.toArray⟩ : ByteArray).toList == (⟨Y.toArray⟩ : ByteArray).toList) = decide (X = Y)) := str_beq X Y
        generalize (⟨X.toArray⟩ : ByteArray) = BX at q1 HQ
        generalize (⟨Y.toArray⟩ : ByteArray) = BY at q2 HQ
        have i1 : (I : Int) < (len : Int) := by omega
        by_cases hXY : X = Y
        · have hq := HQ.out
          rw [decide_eq_true hXY] at hq
          have hq' : (BX.toList == BY.toList) = true := hq
          have HS' : Hid (L.take (I + 1) = M.take (I + 1)) := HS.out hXY
          clear hq HQ HN HS hXY
          go_wp2
          go_quiet (fail)
          go_wp2
          go_roundw
          case rel => exact ⟨I + 1, by omega, by simp, HS'.out, _, rfl⟩
          case measure => simp only [intOf]; omega
        · have hq := HQ.out
          rw [decide_eq_false hXY] at hq
          have hq' : (BX.toList == BY.toList) = false := hq
          obtain rfl : D = false := HN.out hXY
          clear hq HQ HN HS hXY HD
          go_wp2
          go_quiet (fail)
          go_wp2
          go_ret
          exact ⟨rfl, _, drewN_two _ _ _⟩
      · obtain rfl : I = len := by omega
        have hall : L = M := by
          have h := HT.out
          rwa [List.take_of_length_le (by rw [HLE.out.1]; exact Nat.le_refl _), List.take_of_length_le (by rw [HLE.out.2]; exact Nat.le_refl _)] at h
        obtain rfl : D = true := by rw [HD.out, decide_eq_true hall]
        clear hall HD HT
        go_wp2
        go_ret
        exact ⟨rfl, _, rfl⟩
  · have hne : decide (L = M) = false := by
      rw [decide_eq_false_iff_not]; rintro rfl; exact hn rfl
    rw [hne]
    have hb : ((L.length : Int) == (M.length : Int)) = false := by rw [beq_eq_false_iff_ne]; omega
    clear hne
    go_enter Tryd.func13, Tryd.ntmps13
    go_wp2
    go_ret
    exact ⟨rfl, 0, rfl⟩
end Go.Proofs.YtchbfhckocfjhaaDoor
