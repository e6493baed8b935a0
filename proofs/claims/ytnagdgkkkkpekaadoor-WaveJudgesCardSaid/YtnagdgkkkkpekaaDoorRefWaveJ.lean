/-
  What is proved here: the document's Judge.
  Conditions: none.
-/
import Derived.Test.YtnagdgkkkkpekaaDoorWaveJudge
namespace Go.Proofs.YtnagdgkkkkpekaaDoor
open Go.RowKit

set_option maxRecDepth 100000 in
set_option maxHeartbeats 4000000 in
theorem rjudge_any (n g b p h : Int) (w : World) :
    Calls Tryd.prog 16 #[.int .i64 n, .int .i64 g, .int .i64 b, .int .i64 p, .int .i64 h] w fun e w' => e = .returned (.tuple #[.int .i64 (judgeW n g b p h).1, .int .i64 (judgeW n g b p h).2]) ∧ w' = w := by
  by_cases hb : judgeBad n g b p h
  · rw [show judgeW n g b p h = (0, 1) from if_pos hb]
    have HB : Hid (judgeBad n g b p h) := hb
    clear hb
    go_enter Tryd.func16, Tryd.ntmps16
    go_wp2
    all_goals first | (go_ret2; exact ⟨rfl, rfl⟩) | (exfalso; have := HB.out; unfold judgeBad at this; omega)
  · have HJ : Hid (judgeW n g b p h = if h * n < 100 * b then (2, 0) else if p * n ≤ 100 * g then (1, 0) else (0, 0)) := if_neg hb
    have hB : (0 ≤ n ∧ n ≤ 1073741824) ∧ (0 ≤ g ∧ g ≤ 1073741824) ∧ (0 ≤ b ∧ b ≤ 1073741824) ∧ (0 ≤ p ∧ p ≤ 100) ∧ (0 ≤ h ∧ h ≤ 100) := by unfold judgeBad at hb; omega
    obtain ⟨J, hJ⟩ : ∃ J, J = judgeW n g b p h := ⟨_, rfl⟩
    rw [← hJ] at HJ ⊢
    clear hJ hb
    have wr : ∀ x : Int, 0 ≤ x → x ≤ 107374182400 → IntKind.i64.wrap x = x := fun x h0 h1 => by
      simp [IntKind.wrap, IntKind.bits, IntKind.signed]; omega
    have a1 : 0 ≤ h * n := Int.mul_nonneg (by omega) (by omega)
    have a2 : h * n ≤ 100 * 1073741824 := Int.mul_le_mul (by omega) (by omega) (by omega) (by omega)
    have a3 : 0 ≤ p * n := Int.mul_nonneg (by omega) (by omega)
    have a4 : p * n ≤ 100 * 1073741824 := Int.mul_le_mul (by omega) (by omega) (by omega) (by omega)
    have w1 := wr (h * n) a1 (by omega)
    have w2 := wr (p * n) a3 (by omega)
    have w3 := wr (100 * b) (by omega) (by omega)
    have w4 := wr (100 * g) (by omega) (by omega)
    obtain ⟨⟨n0, n1⟩, ⟨g0, g1⟩, ⟨b0, b1⟩, ⟨p0, p1⟩, ⟨h0, h1⟩⟩ := hB
    clear wr a1 a2 a3 a4
    have d1 : decide (n < 0) = false := decide_eq_false (by omega)
    have d2 : decide (1073741824 < n) = false := decide_eq_false (by omega)
    have d3 : decide (g < 0) = false := decide_eq_false (by omega)
    have d4 : decide (1073741824 < g) = false := decide_eq_false (by omega)
    have d5 : decide (b < 0) = false := decide_eq_false (by omega)
    have d6 : decide (1073741824 < b) = false := decide_eq_false (by omega)
    have d7 : decide (p < 0) = false := decide_eq_false (by omega)
    have d8 : decide (100 < p) = false := decide_eq_false (by omega)
    have d9 : decide (h < 0) = false := decide_eq_false (by omega)
    have d10 : decide (100 < h) = false := decide_eq_false (by omega)
    clear n0 n1 g0 g1 b0 b1 p0 p1 h0 h1
    by_cases e1 : h * n < 100 * b
    · have E1 : decide (h * n < 100 * b) = true := decide_eq_true e1
      have HE : Hid (J = (2, 0)) := by show _ = _; rw [HJ.out, if_pos e1]
      clear e1 HJ
      go_enter Tryd.func16, Tryd.ntmps16
      go_wp2
      go_ret2
      rw [HE.out]
      exact ⟨rfl, rfl⟩
    · have E1 : decide (h * n < 100 * b) = false := decide_eq_false e1
      by_cases e2 : p * n ≤ 100 * g
      · have E2 : decide (p * n ≤ 100 * g) = true := decide_eq_true e2
        have HE : Hid (J = (1, 0)) := by show _ = _; rw [HJ.out, if_neg e1, if_pos e2]
        clear e1 e2 HJ
        go_enter Tryd.func16, Tryd.ntmps16
        go_wp2
        go_ret2
        rw [HE.out]
        exact ⟨rfl, rfl⟩
      · have E2 : decide (p * n ≤ 100 * g) = false := decide_eq_false e2
        have HE : Hid (J = (0, 0)) := by show _ = _; rw [HJ.out, if_neg e1, if_neg e2]
        clear e1 e2 HJ
        go_enter Tryd.func16, Tryd.ntmps16
        go_wp2
        go_ret2
        rw [HE.out]
        exact ⟨rfl, rfl⟩
end Go.Proofs.YtnagdgkkkkpekaaDoor
