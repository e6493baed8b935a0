/-
  What is proved here: the small calls of wave: whether a number is within bounds, a share, how two numbers compare, the first that is not nought.
  Conditions: those that each fact names.
-/
import Derived.Test.YtnagdgkkkkpekabDoorProg
import Derived.Test.YtnagdgkkkkpekabDoorWavePure
import Derived.Test.YtnagdgkkkkpekabDoorShaWorld
namespace Go.Proofs.YtnagdgkkkkpekabDoor
open Go.RowKit

theorem within_any (n a b : Int) (w : World) : Calls Tryd.prog 9 #[.int .i64 n, .int .i64 a, .int .i64 b] w fun e w' => e = .returned (.bool (decide (a ≤ n ∧ n ≤ b))) ∧ w' = w := by
  by_cases h1 : a ≤ n
  · by_cases h2 : n ≤ b
    · have e : decide (a ≤ n ∧ n ≤ b) = true := by simp [h1, h2]
      rw [e]
      go_enter Tryd.func9, Tryd.ntmps9
      go_wp2
      go_ret
      exact ⟨rfl, rfl⟩
    · have e : decide (a ≤ n ∧ n ≤ b) = false := by simp [h2]
      rw [e]
      go_enter Tryd.func9, Tryd.ntmps9
      go_wp2
      go_ret
      exact ⟨rfl, rfl⟩
  · have e : decide (a ≤ n ∧ n ≤ b) = false := by simp [h1]
    rw [e]
    go_enter Tryd.func9, Tryd.ntmps9
    go_wp2
    go_ret
    exact ⟨rfl, rfl⟩
theorem share_any (p n : Int) (w : World) (h0 : 0 ≤ p) (h1 : p ≤ 100) (h2 : 0 ≤ n) (h3 : n ≤ 1073741824) : Calls Tryd.prog 17 #[.int .i64 p, .int .i64 n] w fun e w' => e = .returned (.int .i64 (p * n)) ∧ w' = w := by
  have hw : IntKind.i64.wrap (p * n) = p * n := by
    have a1 : 0 ≤ p * n := Int.mul_nonneg h0 h2
    have a2 : p * n ≤ 100 * 1073741824 := Int.mul_le_mul h1 h3 h2 (by omega)
    simp [IntKind.wrap, IntKind.bits, IntKind.signed]
    omega
  clear h0 h1 h2 h3
  go_enter Tryd.func17, Tryd.ntmps17
  go_wp2
  go_ret
  exact ⟨rfl, rfl⟩
theorem isCount_any (n : Int) (w : World) : Calls Tryd.prog 15 #[.int .i64 n] w fun e w' => e = .returned (.bool (decide (0 ≤ n ∧ n ≤ 1073741824))) ∧ w' = w := by
  have H := within_any n 0 1073741824 w
  generalize decide (0 ≤ n ∧ n ≤ 1073741824) = r at H ⊢
  go_enter Tryd.func15, Tryd.ntmps15
  go_wp2_with (go_at_call 9; refine H.mono ?_; rintro e w' ⟨rfl, rfl⟩)
  go_ret
  exact ⟨rfl, rfl⟩
theorem isPart_any (n : Int) (w : World) : Calls Tryd.prog 16 #[.int .i64 n] w fun e w' => e = .returned (.bool (decide (0 ≤ n ∧ n ≤ 100))) ∧ w' = w := by
  have H := within_any n 0 100 w
  generalize decide (0 ≤ n ∧ n ≤ 100) = r at H ⊢
  go_enter Tryd.func16, Tryd.ntmps16
  go_wp2_with (go_at_call 9; refine H.mono ?_; rintro e w' ⟨rfl, rfl⟩)
  go_ret
  exact ⟨rfl, rfl⟩
theorem noDevice_any (n : Int) (w : World) : Calls Tryd.prog 8 #[.int .i64 n] w fun e w' => e = .returned (.bool (!decide (1 ≤ n ∧ n ≤ 4096))) ∧ w' = w := by
  have H := within_any n 1 4096 w
  generalize decide (1 ≤ n ∧ n ≤ 4096) = r at H ⊢
  go_enter Tryd.func8, Tryd.ntmps8
  go_wp2_with (go_at_call 9; refine H.mono ?_; rintro e w' ⟨rfl, rfl⟩)
  go_ret
  exact ⟨rfl, rfl⟩
theorem nanU_any (s : BitVec 32) (w : World) : Calls Tryd.prog 31 #[v32 s] w fun e w' => e = .returned (.bool false) ∧ w' = w := by
  go_enter Tryd.func31, Tryd.ntmps31
  go_wp2
  go_ret
  exact ⟨rfl, rfl⟩
theorem nanI_any (s : Int) (w : World) : Calls Tryd.prog 32 #[.int .i64 s] w fun e w' => e = .returned (.bool false) ∧ w' = w := by
  go_enter Tryd.func32, Tryd.ntmps32
  go_wp2
  go_ret
  exact ⟨rfl, rfl⟩
def cmp3 (a b : Int) : Int := if a < b then -1 else if b < a then 1 else 0
theorem cmpU_any (a b : BitVec 32) (w : World) : Calls Tryd.prog 25 #[v32 a, v32 b] w fun e w' => e = .returned (.int .i64 (cmp3 (n32 a) (n32 b))) ∧ w' = w := by
  have H := nanU_any a w
  have H' := nanU_any b w
  unfold v32 at *
  unfold cmp3
  generalize n32 a = x at *
  generalize n32 b = y at *
  by_cases h1 : x < y
  · rw [if_pos h1]
    go_enter Tryd.func25, Tryd.ntmps25
    go_wp2_with (go_at_call 31; first | (refine H.mono ?_; rintro e w' ⟨rfl, rfl⟩) | (refine H'.mono ?_; rintro e w' ⟨rfl, rfl⟩))
    go_ret
    exact ⟨rfl, rfl⟩
  · rw [if_neg h1]
    by_cases h2 : y < x
    · rw [if_pos h2]
      go_enter Tryd.func25, Tryd.ntmps25
      go_wp2_with (go_at_call 31; first | (refine H.mono ?_; rintro e w' ⟨rfl, rfl⟩) | (refine H'.mono ?_; rintro e w' ⟨rfl, rfl⟩))
      go_ret
      exact ⟨rfl, rfl⟩
    · rw [if_neg h2]
      go_enter Tryd.func25, Tryd.ntmps25
      go_wp2_with (go_at_call 31; first | (refine H.mono ?_; rintro e w' ⟨rfl, rfl⟩) | (refine H'.mono ?_; rintro e w' ⟨rfl, rfl⟩))
      go_ret
      exact ⟨rfl, rfl⟩
theorem cmpI_any (x y : Int) (w : World) : Calls Tryd.prog 26 #[.int .i64 x, .int .i64 y] w fun e w' => e = .returned (.int .i64 (cmp3 x y)) ∧ w' = w := by
  have H := nanI_any x w
  have H' := nanI_any y w
  unfold cmp3
  by_cases h1 : x < y
  · rw [if_pos h1]
    go_enter Tryd.func26, Tryd.ntmps26
    go_wp2_with (go_at_call 32; first | (refine H.mono ?_; rintro e w' ⟨rfl, rfl⟩) | (refine H'.mono ?_; rintro e w' ⟨rfl, rfl⟩))
    go_ret
    exact ⟨rfl, rfl⟩
  · rw [if_neg h1]
    by_cases h2 : y < x
    · rw [if_pos h2]
      go_enter Tryd.func26, Tryd.ntmps26
      go_wp2_with (go_at_call 32; first | (refine H.mono ?_; rintro e w' ⟨rfl, rfl⟩) | (refine H'.mono ?_; rintro e w' ⟨rfl, rfl⟩))
      go_ret
      exact ⟨rfl, rfl⟩
    · rw [if_neg h2]
      go_enter Tryd.func26, Tryd.ntmps26
      go_wp2_with (go_at_call 32; first | (refine H.mono ?_; rintro e w' ⟨rfl, rfl⟩) | (refine H'.mono ?_; rintro e w' ⟨rfl, rfl⟩))
      go_ret
      exact ⟨rfl, rfl⟩
def or2 (x y : Int) : Int := if x = 0 then y else x
set_option maxRecDepth 100000 in
/-- The first of two that is not nought. -/
theorem or_any (b : Nat) (x y : Int) (w : World) (h0 : w.cell? ⟨b, 0, none⟩ = some (.int .i64 x)) (h1 : w.cell? ⟨b, 1, none⟩ = some (.int .i64 y)) : Calls Tryd.prog 24 #[.slice (some ⟨b, 0, none⟩) 2 2] w fun e w' => e = .returned (.int .i64 (or2 x y)) ∧ w' = w := by
  unfold or2
  by_cases hx : x = 0
  · subst hx
    rw [if_pos rfl]
    by_cases hy : y = 0
    · subst hy
      go_enter Tryd.func24, Tryd.ntmps24
      go_wp2
      refine wp_loop_rounds 3 ?_
      rw [rounds_succ]
      go_wp2
      rw [rounds_succ]
      go_wp2
      rw [rounds_succ]
      go_wp2
      go_ret
      exact ⟨rfl, rfl⟩
    · have hb : (y != 0) = true := by simpa using hy
      go_enter Tryd.func24, Tryd.ntmps24
      go_wp2
      refine wp_loop_rounds 2 ?_
      rw [rounds_succ]
      go_wp2
      rw [rounds_succ]
      go_wp2
      go_ret
      exact ⟨rfl, rfl⟩
  · rw [if_neg hx]
    have hb : (x != 0) = true := by simpa using hx
    go_enter Tryd.func24, Tryd.ntmps24
    go_wp2
    refine wp_loop_rounds 1 ?_
    rw [rounds_succ]
    go_wp2
    go_ret
    exact ⟨rfl, rfl⟩
end Go.Proofs.YtnagdgkkkkpekabDoor
