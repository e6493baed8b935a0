/-
  What is proved here: what becomes of a wave: wave's Judge.
  Conditions: none.
-/
import Derived.Test.YtnagdgkkkkpekabDoorWaveSmall
namespace Go.Proofs.YtnagdgkkkkpekabDoor
open Go.RowKit

/-- What becomes of a wave, and the code. -/
def judgeBad (n g b p h : Int) : Prop := ¬ (0 ≤ n ∧ n ≤ 1073741824) ∨ ¬ (0 ≤ g ∧ g ≤ 1073741824) ∨ ¬ (0 ≤ b ∧ b ≤ 1073741824) ∨ ¬ (0 ≤ p ∧ p ≤ 100) ∨ ¬ (0 ≤ h ∧ h ≤ 100)
instance (n g b p h : Int) : Decidable (judgeBad n g b p h) := by unfold judgeBad; infer_instance
def judgeW (n g b p h : Int) : Int × Int :=
  if judgeBad n g b p h then (0, 1) else if h * n < 100 * b then (2, 0) else if p * n ≤ 100 * g then (1, 0) else (0, 0)
set_option maxRecDepth 100000 in
set_option maxHeartbeats 2000000 in
theorem judge_any (n g b p h : Int) (w : World) :
    Calls Tryd.prog 7 #[.int .i64 n, .int .i64 g, .int .i64 b, .int .i64 p, .int .i64 h] w fun e w' => e = .returned (.tuple #[.int .i64 (judgeW n g b p h).1, .int .i64 (judgeW n g b p h).2]) ∧ w' = w := by
  have C1 : Hid (∀ z w, Calls Tryd.prog 15 #[.int .i64 z] w fun e w' => e = .returned (.bool (decide (0 ≤ z ∧ z ≤ 1073741824))) ∧ w' = w) := isCount_any
  have C2 : Hid (∀ z w, Calls Tryd.prog 16 #[.int .i64 z] w fun e w' => e = .returned (.bool (decide (0 ≤ z ∧ z ≤ 100))) ∧ w' = w) := isPart_any
  obtain ⟨J, hJ⟩ : ∃ J, J = judgeW n g b p h := ⟨_, rfl⟩
  have HJ0 : Hid (J = judgeW n g b p h) := hJ
  rw [← hJ]
  clear hJ
  have HE : Hid (judgeBad n g b p h ↔ (decide (0 ≤ n ∧ n ≤ 1073741824) = false ∨ decide (0 ≤ g ∧ g ≤ 1073741824) = false ∨ decide (0 ≤ b ∧ b ≤ 1073741824) = false ∨ decide (0 ≤ p ∧ p ≤ 100) = false ∨ decide (0 ≤ h ∧ h ≤ 100) = false)) := by
    show _ ↔ _
    unfold judgeBad
    simp only [decide_eq_false_iff_not]
  have HC1 : Hid (Calls Tryd.prog 15 #[.int .i64 n] w fun e w' => e = .returned (.bool (decide (0 ≤ n ∧ n ≤ 1073741824))) ∧ w' = w) := C1.out n w
  have HC2 : Hid (Calls Tryd.prog 15 #[.int .i64 g] w fun e w' => e = .returned (.bool (decide (0 ≤ g ∧ g ≤ 1073741824))) ∧ w' = w) := C1.out g w
  have HC3 : Hid (Calls Tryd.prog 15 #[.int .i64 b] w fun e w' => e = .returned (.bool (decide (0 ≤ b ∧ b ≤ 1073741824))) ∧ w' = w) := C1.out b w
  have HC4 : Hid (Calls Tryd.prog 16 #[.int .i64 p] w fun e w' => e = .returned (.bool (decide (0 ≤ p ∧ p ≤ 100))) ∧ w' = w) := C2.out p w
  have HC5 : Hid (Calls Tryd.prog 16 #[.int .i64 h] w fun e w' => e = .returned (.bool (decide (0 ≤ h ∧ h ≤ 100))) ∧ w' = w) := C2.out h w
  obtain ⟨b1, hb1⟩ : ∃ b1, b1 = decide (0 ≤ n ∧ n ≤ 1073741824) := ⟨_, rfl⟩
  have HD1 : Hid (b1 = decide (0 ≤ n ∧ n ≤ 1073741824)) := hb1
  rw [← hb1] at HE HC1
  obtain ⟨b2, hb2⟩ : ∃ b2, b2 = decide (0 ≤ g ∧ g ≤ 1073741824) := ⟨_, rfl⟩
  have HD2 : Hid (b2 = decide (0 ≤ g ∧ g ≤ 1073741824)) := hb2
  rw [← hb2] at HE HC2
  obtain ⟨b3, hb3⟩ : ∃ b3, b3 = decide (0 ≤ b ∧ b ≤ 1073741824) := ⟨_, rfl⟩
  have HD3 : Hid (b3 = decide (0 ≤ b ∧ b ≤ 1073741824)) := hb3
  rw [← hb3] at HE HC3
  obtain ⟨b4, hb4⟩ : ∃ b4, b4 = decide (0 ≤ p ∧ p ≤ 100) := ⟨_, rfl⟩
  have HD4 : Hid (b4 = decide (0 ≤ p ∧ p ≤ 100)) := hb4
  rw [← hb4] at HE HC4
  obtain ⟨b5, hb5⟩ : ∃ b5, b5 = decide (0 ≤ h ∧ h ≤ 100) := ⟨_, rfl⟩
  have HD5 : Hid (b5 = decide (0 ≤ h ∧ h ≤ 100)) := hb5
  rw [← hb5] at HE HC5
  clear hb1 hb2 hb3 hb4 hb5 C1 C2
  go_enter Tryd.func7, Tryd.ntmps7
  go_wp2_with fail
  refine HC1.out.mono ?_
  rintro e w' ⟨rfl, rfl⟩
  cases b1 with
  | false =>
    have HJ : Hid (J = (0, 1)) := by rw [HJ0.out]; exact if_pos (HE.out.2 (by simp))
    clear HE HJ0
    go_wp2
    go_ret2
    exact ⟨by rw [HJ.out]; rfl, rfl⟩
  | true =>
    go_wp2_with fail
    refine HC2.out.mono ?_
    rintro e w' ⟨rfl, rfl⟩
    cases b2 with
    | false =>
      have HJ : Hid (J = (0, 1)) := by rw [HJ0.out]; exact if_pos (HE.out.2 (by simp))
      clear HE HJ0
      go_wp2
      go_ret2
      exact ⟨by rw [HJ.out]; rfl, rfl⟩
    | true =>
      go_wp2_with fail
      refine HC3.out.mono ?_
      rintro e w' ⟨rfl, rfl⟩
      cases b3 with
      | false =>
        have HJ : Hid (J = (0, 1)) := by rw [HJ0.out]; exact if_pos (HE.out.2 (by simp))
        clear HE HJ0
        go_wp2
        go_ret2
        exact ⟨by rw [HJ.out]; rfl, rfl⟩
      | true =>
        go_wp2_with fail
        refine HC4.out.mono ?_
        rintro e w' ⟨rfl, rfl⟩
        cases b4 with
        | false =>
          have HJ : Hid (J = (0, 1)) := by rw [HJ0.out]; exact if_pos (HE.out.2 (by simp))
          clear HE HJ0
          go_wp2
          go_ret2
          exact ⟨by rw [HJ.out]; rfl, rfl⟩
        | true =>
          go_wp2_with fail
          refine HC5.out.mono ?_
          rintro e w' ⟨rfl, rfl⟩
          cases b5 with
          | false =>
            have HJ : Hid (J = (0, 1)) := by rw [HJ0.out]; exact if_pos (HE.out.2 (by simp))
            clear HE HJ0
            go_wp2
            go_ret2
            exact ⟨by rw [HJ.out]; rfl, rfl⟩
          | true =>
            have hnb : ¬ judgeBad n g b p h := fun h9 => by simpa using HE.out.1 h9
            have hB : (0 ≤ n ∧ n ≤ 1073741824) ∧ (0 ≤ g ∧ g ≤ 1073741824) ∧ (0 ≤ b ∧ b ≤ 1073741824) ∧ (0 ≤ p ∧ p ≤ 100) ∧ (0 ≤ h ∧ h ≤ 100) := ⟨of_decide_eq_true HD1.out.symm, of_decide_eq_true HD2.out.symm, of_decide_eq_true HD3.out.symm, of_decide_eq_true HD4.out.symm, of_decide_eq_true HD5.out.symm⟩
            have HJ : Hid (J = if h * n < 100 * b then (2, 0) else if p * n ≤ 100 * g then (1, 0) else (0, 0)) := by rw [HJ0.out]; exact if_neg hnb
            have S1 : Hid (Calls Tryd.prog 17 #[.int .i64 100, .int .i64 b] w' fun e wz => e = .returned (.int .i64 (100 * b)) ∧ wz = w') := share_any 100 b w' (by omega) (by omega) (by omega) (by omega)
            have S2 : Hid (Calls Tryd.prog 17 #[.int .i64 h, .int .i64 n] w' fun e wz => e = .returned (.int .i64 (h * n)) ∧ wz = w') := share_any h n w' (by omega) (by omega) (by omega) (by omega)
            have S3 : Hid (Calls Tryd.prog 17 #[.int .i64 100, .int .i64 g] w' fun e wz => e = .returned (.int .i64 (100 * g)) ∧ wz = w') := share_any 100 g w' (by omega) (by omega) (by omega) (by omega)
            have S4 : Hid (Calls Tryd.prog 17 #[.int .i64 p, .int .i64 n] w' fun e wz => e = .returned (.int .i64 (p * n)) ∧ wz = w') := share_any p n w' (by omega) (by omega) (by omega) (by omega)
            clear hnb hB HE HJ0 HD1 HD2 HD3 HD4 HD5 HC1 HC2 HC3 HC4 HC5
            obtain ⟨X, hX⟩ : ∃ X, X = 100 * b := ⟨_, rfl⟩
            obtain ⟨Y, hY⟩ : ∃ Y, Y = h * n := ⟨_, rfl⟩
            obtain ⟨Z, hZ⟩ : ∃ Z, Z = 100 * g := ⟨_, rfl⟩
            obtain ⟨U, hU⟩ : ∃ U, U = p * n := ⟨_, rfl⟩
            rw [← hX] at S1 HJ
            rw [← hY] at S2 HJ
            rw [← hZ] at S3 HJ
            rw [← hU] at S4 HJ
            clear hX hY hZ hU
            go_wp2_with fail
            refine S1.out.mono ?_
            rintro e w1 ⟨rfl, rfl⟩
            go_wp2_with fail
            refine S2.out.mono ?_
            rintro e w2 ⟨rfl, rfl⟩
            by_cases h1 : Y < X
            · go_wp2
              go_ret2
              exact ⟨by rw [HJ.out, if_pos h1]; rfl, rfl⟩
            · go_wp2_with fail
              refine S3.out.mono ?_
              rintro e w3 ⟨rfl, rfl⟩
              go_wp2_with fail
              refine S4.out.mono ?_
              rintro e w4 ⟨rfl, rfl⟩
              by_cases h2 : U ≤ Z
              · go_wp2
                go_ret2
                exact ⟨by rw [HJ.out, if_neg (show ¬ Y < X by omega), if_pos h2]; rfl, rfl⟩
              · go_wp2
                go_ret2
                exact ⟨by rw [HJ.out, if_neg (show ¬ Y < X by omega), if_neg (show ¬ U ≤ Z by omega)]; rfl, rfl⟩
end Go.Proofs.YtnagdgkkkkpekabDoor
