/-
  What is proved here: Table.At tells a lease.
  Conditions: the table lies in memory as laws hold it.
-/
import Derived.Test.YthlohlomefiebaaLeSmall
namespace Go.Proofs.Ythlohlomefiebaa
open Go.RowKit

set_option maxRecDepth 100000 in
set_option maxHeartbeats 1000000 in
theorem at16_any {w : World} {lo G b : Nat} {v : Value} {l : List LE} (h : LeT w lo G b v l) (n : Int) : Calls Try.prog 21 #[.pointer (some ⟨G, 0, none⟩), .int .i64 n] w fun e w' => e = .returned (.tuple #[leV (ansAt l n).1, .int .i64 (ansAt l n).2]) ∧ Below w.heap.size w w' := by
  obtain ⟨ao, c, rfl⟩ := h.row.shape
  have c0 : w.cell? ⟨G, 0, none⟩ = some (.slice ao l.length c) := h.head.cell (j := 0) rfl
  have hG := h.head.lt
  have H := fun w => in16_any n 1 (l.length : Int) w
  have hB := below_newE w (.cells #[.int .i64 0, .int .i64 0, .int .i64 0] 43)
  have kR := Blk.new w 43 #[.int .i64 0, .int .i64 0, .int .i64 0]
  have c1 : (w.alloc (.cells #[.int .i64 0, .int .i64 0, .int .i64 0] 43)).cell? ⟨G, 0, none⟩ = some (.slice ao l.length c) := (hB.cell (p := ⟨G, 0, none⟩) hG).trans c0
  unfold ansAt
  cases ha : atT l n with
  | none =>
    have hd : decide (1 ≤ n ∧ n ≤ (l.length : Int)) = false := decide_eq_false (atT_none ha)
    simp only [hd] at H
    clear hd ha h c0 hG
    go_enter Try.func21, Try.ntmps21
    go_wp2_with (first | (go_at_call 40; refine (H _).mono ?_; rintro e w' ⟨rfl, rfl⟩) | (refine store_blk rfl 43 _ _ rfl rfl w.heap.size #[.int .i64 0, .int .i64 0, .int .i64 0] rfl rfl 43 _ kR info_le rfl (by simp [Value.oneCell']) ?_; intro w2 kR2 hg2 _))
    refine bodyPost_ret (results_pairE Try.results21 _ _ w.heap.size 43 _ (0, 0) _ _ rfl kR2 Try.underlying43 rfl info_le rfl) rfl ⟨rfl, below_grown hB hg2 hB.size (fun q hq => by cases hq; exact Nat.le_refl _)⟩
  | some e =>
    obtain ⟨i, rfl, hi⟩ := atT_some ha
    have hil : i < l.length := (List.getElem?_eq_some_iff.1 hi).1
    have hd : decide (1 ≤ (i : Int) + 1 ∧ (i : Int) + 1 ≤ (l.length : Int)) = true := decide_eq_true (by omega)
    simp only [hd] at H
    obtain ⟨B, c', e1, hBl, _, hc⟩ := h.row.at hi
    cases e1
    have k0 : (w.alloc (.cells #[.int .i64 0, .int .i64 0, .int .i64 0] 43)).cell? ⟨B, i * 3, none⟩ = some (.int .i64 e.n) := (hB.cell (p := ⟨B, i * 3, none⟩) hBl).trans (hc 0 _ rfl)
    have k1 : (w.alloc (.cells #[.int .i64 0, .int .i64 0, .int .i64 0] 43)).cell? ⟨B, i * 3 + 1, none⟩ = some (.int .i64 e.d) := (hB.cell (p := ⟨B, i * 3 + 1, none⟩) hBl).trans (hc 1 _ rfl)
    have k2 : (w.alloc (.cells #[.int .i64 0, .int .i64 0, .int .i64 0] 43)).cell? ⟨B, i * 3 + 2, none⟩ = some (.int .i64 e.u) := (hB.cell (p := ⟨B, i * 3 + 2, none⟩) hBl).trans (hc 2 _ rfl)
    have ix := fun w => index_le0 B l.length c i w hil
    have hw : wrap64 (i : Int) = (i : Int) := by have := h.ok.len; unfold wrap64; omega
    clear hd ha h c0 hG hc hi
    unfold leV leL
    generalize e.n = en at *
    generalize e.d = ed at *
    generalize e.u = eu at *
    go_enter Try.func21, Try.ntmps21
    go_wp2_with (first | (go_at_call 40; refine (H _).mono ?_; rintro e w' ⟨rfl, rfl⟩) | (refine store_blk rfl 43 _ _ rfl rfl w.heap.size #[.int .i64 en, .int .i64 ed, .int .i64 eu] rfl rfl 43 _ kR info_le rfl (by simp [Value.oneCell']) ?_; intro w2 kR2 hg2 _))
    refine bodyPost_ret (results_pairE Try.results21 _ _ w.heap.size 43 _ (0, 0) _ _ rfl kR2 Try.underlying43 rfl info_le rfl) rfl ⟨rfl, below_grown hB hg2 hB.size (fun q hq => by cases hq; exact Nat.le_refl _)⟩
end Go.Proofs.Ythlohlomefiebaa
