/-
  What is proved here: the statement WaveMore is true of any numbers.
  Conditions: the variable fourBits holds the sixteen words.
-/
import Derived.Test.YtnagdgkkkkpekaaDoorWaveAwake
namespace Go.Proofs.YtnagdgkkkkpekaaDoor
open Go.RowKit

theorem judge_good {n g b p h : Int} (he : (judgeW n g b p h).2 = 0) : ¬ judgeBad n g b p h := fun hb => by
  rw [show judgeW n g b p h = (0, 1) from if_pos hb] at he
  cases he
theorem judge_is {n g b p h : Int} (hb : ¬ judgeBad n g b p h) : judgeW n g b p h = if h * n < 100 * b then (2, 0) else if p * n ≤ 100 * g then (1, 0) else (0, 0) := if_neg hb
/-- What more, and less, does to what is judged. -/
theorem judge_more {n g b p h m : Int} (he : (judgeW n g b p h).2 = 0) (h0 : 0 ≤ m) (hg : g + m ≤ 1073741824) (hbm : b + m ≤ 1073741824) :
    (judgeW n (g + m) b p h).2 = 0 ∧ (judgeW n g (b + m) p h).2 = 0 ∧ (judgeW n g (max (b - m) 0) p h).2 = 0 ∧ (judgeW n 0 0 p h).2 = 0 ∧
    (((judgeW n g b p h).1 = 0) ∨ ((judgeW n g b p h).1 = 1 ∧ (judgeW n (g + m) b p h).1 = 1 ∧ (judgeW n g (max (b - m) 0) p h).1 = 1) ∨ ((judgeW n g b p h).1 = 2 ∧ (judgeW n g (b + m) p h).1 = 2)) ∧
    (n = 0 ∨ p = 0 ∨ (judgeW n 0 0 p h).1 = 0) := by
  have hn := judge_good he
  have n1 : ¬ judgeBad n (g + m) b p h := by unfold judgeBad at *; omega
  have n2 : ¬ judgeBad n g (b + m) p h := by unfold judgeBad at *; omega
  have n3 : ¬ judgeBad n g (max (b - m) 0) p h := by unfold judgeBad at *; omega
  have n4 : ¬ judgeBad n 0 0 p h := by unfold judgeBad at *; omega
  have hpn : n = 0 ∨ p = 0 ∨ 0 < p * n := by
    unfold judgeBad at hn
    by_cases e1 : n = 0
    · exact .inl e1
    · by_cases e2 : p = 0
      · exact .inr (.inl e2)
      · exact .inr (.inr (Int.mul_pos (by omega) (by omega)))
  have hhn : 0 ≤ h * n := by
    unfold judgeBad at hn
    exact Int.mul_nonneg (by omega) (by omega)
  rw [judge_is hn, judge_is n1, judge_is n2, judge_is n3, judge_is n4]
  have hmax : max (b - m) 0 ≤ b := by unfold judgeBad at hn; omega
  generalize max (b - m) 0 = q at *
  generalize p * n = P at *
  generalize h * n = H at *
  clear he hn n1 n2 n3 n4
  refine ⟨?_, ?_, ?_, ?_, ?_, ?_⟩
  · split <;> (try split) <;> rfl
  · split <;> (try split) <;> rfl
  · split <;> (try split) <;> rfl
  · split <;> (try split) <;> rfl
  · by_cases a1 : H < 100 * b
    · rw [if_pos a1, if_pos (show H < 100 * (b + m) by omega)]
      exact .inr (.inr ⟨rfl, rfl⟩)
    · rw [if_neg a1]
      by_cases a2 : P ≤ 100 * g
      · rw [if_pos a2, if_neg a1, if_pos (show P ≤ 100 * (g + m) by omega), if_neg (show ¬ H < 100 * q by omega)]
        exact .inr (.inl ⟨rfl, rfl, rfl⟩)
      · rw [if_neg a2]; exact .inl rfl
  · rcases hpn with e | e | e
    · exact .inl e
    · exact .inr (.inl e)
    · rw [if_neg (by omega), if_neg (by omega)]; exact .inr (.inr rfl)
set_option maxRecDepth 100000 in
set_option maxHeartbeats 4000000 in
theorem waveMore_any (n g b p h m : Int) (w : World) (hgf : 0 < w.heap.size) (hf : Tab w 0 (fours.map v32)) :
    Calls Tryd.prog 7 #[.agg #[.int .i64 n, .int .i64 g, .int .i64 b], .agg #[.int .i64 p, .int .i64 h], .int .i64 m] w fun e w' => e = .returned (.bool true) ∧ Below w.heap.size w w' := by
  have hb1 : Below w.heap.size w (w.alloc (.cells #[vI n, vI g, vI b] 31)) := (Below.refl _ _).alloc (Nat.le_refl _) _
  have hb0 : Below w.heap.size w ((w.alloc (.cells #[vI n, vI g, vI b] 31)).alloc (.cells #[vI p, vI h] 36)) := hb1.alloc hb1.size _
  have HA : Hid (Calls Tryd.prog 9 #[] ((w.alloc (.cells #[vI n, vI g, vI b] 31)).alloc (.cells #[vI p, vI h] 36)) fun e w' => e = .returned (.bool true) ∧ Below (w.heap.size + 1 + 1) ((w.alloc (.cells #[vI n, vI g, vI b] 31)).alloc (.cells #[vI p, vI h] 36)) w') := by
    have := awake15_any ((w.alloc (.cells #[vI n, vI g, vI b] 31)).alloc (.cells #[vI p, vI h] 36)) (Nat.lt_of_lt_of_le hgf hb0.size) (hf.below hb0 hgf)
    rw [World.size_alloc, World.size_alloc] at this
    exact this
  have k1 := (Blk.new w 31 #[vI n, vI g, vI b]).alloc (.cells #[vI p, vI h] 36)
  have k2 := Blk.new (w.alloc (.cells #[vI n, vI g, vI b] 31)) 36 #[vI p, vI h]
  rw [World.size_alloc] at k2
  clear hgf hf hb1
  go_enter Tryd.func7, Tryd.ntmps7
  go_wp2_with fail
  refine HA.out.mono ?_
  rintro e w1 ⟨rfl, hb1⟩
  have c0 : w1.cell? ⟨w.heap.size, 0, none⟩ = some (vI n) := (hb1.cell (p := ⟨w.heap.size, 0, none⟩) (by simp; omega)).trans (k1.cell rfl)
  have c1 : w1.cell? ⟨w.heap.size, 1, none⟩ = some (vI g) := (hb1.cell (p := ⟨w.heap.size, 1, none⟩) (by simp; omega)).trans (k1.cell rfl)
  have c2 : w1.cell? ⟨w.heap.size, 2, none⟩ = some (vI b) := (hb1.cell (p := ⟨w.heap.size, 2, none⟩) (by simp; omega)).trans (k1.cell rfl)
  have c3 : w1.cell? ⟨w.heap.size + 1, 0, none⟩ = some (vI p) := (hb1.cell (p := ⟨w.heap.size + 1, 0, none⟩) (by simp)).trans (k2.cell rfl)
  have c4 : w1.cell? ⟨w.heap.size + 1, 1, none⟩ = some (vI h) := (hb1.cell (p := ⟨w.heap.size + 1, 1, none⟩) (by simp)).trans (k2.cell rfl)
  have hB : Below w.heap.size w w1 := hb0.trans (hb1.mono (by omega))
  clear k1 k2 hb0 hb1
  go_wp2_with fail
  refine (judge_any n g b p h _).mono ?_
  rintro e w2 ⟨rfl, rfl⟩
  obtain ⟨E, hE⟩ : ∃ E, E = (judgeW n g b p h).2 := ⟨_, rfl⟩
  rw [← hE]
  by_cases h0 : E = 0
  · have HE : Hid ((judgeW n g b p h).2 = 0) := hE.symm.trans h0
    subst h0
    clear hE
    by_cases m0 : m < 0
    · have D : decide (m < 0) = true := decide_eq_true m0
      clear m0
      go_wp2
      go_ret
      exact ⟨rfl, hB⟩
    by_cases m1 : 1000000 < m
    · have D : decide (m < 0) = false := decide_eq_false m0
      have D1 : decide (1000000 < m) = true := decide_eq_true m1
      clear m0 m1
      go_wp2
      go_ret
      exact ⟨rfl, hB⟩
    have D : decide (m < 0) = false := decide_eq_false m0
    have D1 : decide (1000000 < m) = false := decide_eq_false m1
    have HN := judge_good HE.out
    have wr : ∀ x : Int, -1000000 ≤ x → x ≤ 107374182400 → IntKind.i64.wrap x = x := fun x h0 h1 => by
      simp [IntKind.wrap, IntKind.bits, IntKind.signed]; omega
    have w1' := wr (g + m) (by unfold judgeBad at HN; omega) (by unfold judgeBad at HN; omega)
    have w2' := wr (b + m) (by unfold judgeBad at HN; omega) (by unfold judgeBad at HN; omega)
    have w3' := wr (b - m) (by unfold judgeBad at HN; omega) (by unfold judgeBad at HN; omega)
    have HM0 : Hid (0 ≤ m) := (by omega : 0 ≤ m)
    clear m0 m1 wr HN
    by_cases g1 : 1073741824 < g + m
    · have D2 : decide (1073741824 < g + m) = true := decide_eq_true g1
      clear g1
      go_wp2
      go_ret
      exact ⟨rfl, hB⟩
    have D2 : decide (1073741824 < g + m) = false := decide_eq_false g1
    by_cases g2 : 1073741824 < b + m
    · have D3 : decide (1073741824 < b + m) = true := decide_eq_true g2
      clear g1 g2
      go_wp2
      go_ret
      exact ⟨rfl, hB⟩
    have D3 : decide (1073741824 < b + m) = false := decide_eq_false g2
    obtain ⟨f1, f2, f3, f4, f5, f6⟩ := judge_more HE.out HM0.out (by omega) (by omega)
    clear g1 g2
    go_wp2_with fail
    refine (judge_any _ _ _ _ _ _).mono ?_
    rintro e w3 ⟨rfl, rfl⟩
    go_wp2_with fail
    refine (judge_any _ _ _ _ _ _).mono ?_
    rintro e w3 ⟨rfl, rfl⟩
    go_wp2_with fail
    refine (judge_any _ _ _ _ _ _).mono ?_
    rintro e w3 ⟨rfl, rfl⟩
    go_wp2_with fail
    refine (judge_any _ _ _ _ _ _).mono ?_
    rintro e w3 ⟨rfl, rfl⟩
    rw [f4]
    clear HE f1 f2 f3 f4 D D1 D2 D3 w1' w2' w3'
    generalize (judgeW n g b p h).1 = A1 at *
    generalize (judgeW n (g + m) b p h).1 = A2 at *
    generalize (judgeW n g (b + m) p h).1 = A3 at *
    generalize (judgeW n g (max (b - m) 0) p h).1 = A4 at *
    generalize (judgeW n 0 0 p h).1 = A5 at *
    rcases f5 with rfl | ⟨rfl, rfl, rfl⟩ | ⟨rfl, rfl⟩ <;> rcases f6 with rfl | rfl | rfl
    all_goals
      go_wp2
      all_goals
        go_ret
        exact ⟨rfl, hB⟩
  · have hn : (E != 0) = true := by simpa using h0
    clear h0 hE
    go_wp2
    go_ret
    exact ⟨rfl, hB⟩
end Go.Proofs.YtnagdgkkkkpekaaDoor
