/-
  What is proved here: wave's Plan and Judge, and the statements' awake of layer 15.
  Conditions: the variable fourBits holds the sixteen words.
-/
import Derived.Test.YtnagdgkkkkpekabDoorWaveSort
import Derived.Test.YtnagdgkkkkpekabDoorWaveCut
namespace Go.Proofs.YtnagdgkkkkpekabDoor
open Go.RowKit Go.Maps

theorem badW_iff (c : Int) (ds ps : List Int) : badW c ds ps ↔ (decide (1 ≤ c ∧ c ≤ 1073741824) = false ∨ ds.any noDevW = true ∨ partsW ps = false) := by
  unfold badW
  rw [decide_eq_false_iff_not, List.any_eq_true]
  have e : (∃ d ∈ ds, ¬ (1 ≤ d ∧ d ≤ 4096)) ↔ (∃ d, d ∈ ds ∧ noDevW d = true) := by
    unfold noDevW
    constructor
    · rintro ⟨d, h1, h2⟩; exact ⟨d, h1, by simp only [decide_eq_false h2]; rfl⟩
    · rintro ⟨d, h1, h2⟩; exact ⟨d, h1, fun h => by rw [decide_eq_true h] at h2; cases h2⟩
  rw [e]
theorem partsW_rise {ps : List Int} (h : partsW ps = true) : riseW 0 ps = true ∧ ps.length ≤ 8 := by
  unfold partsW at h
  rw [Bool.and_eq_true, decide_eq_true_iff] at h
  exact ⟨h.2, h.1⟩
set_option maxRecDepth 100000 in
set_option maxHeartbeats 2000000 in
theorem plan_any15 (c : Int) (x y : Value) (ds ps : List Int) (w : World) (hgf : 0 < w.heap.size) (hf : Tab w 0 (fours.map v32)) (hx : IntsI w x ds) (hy : IntsI w y ps) (hl : ds.length ≤ 1000000) :
    Calls Tryd.prog 5 #[.int .i64 c, x, y] w fun e w' => ∃ v, e = .returned (.tuple #[v, .int .i64 (planW c ds ps).2]) ∧ PlanZ w' w.heap.size v (planW c ds ps).1 ∧ Below w.heap.size w w' := by
  have H1 := within_any c 1 1073741824 w
  have H2 : Hid (Calls Tryd.prog 10 #[x, .func (.func 8) #[] #[]] w fun e w' => e = .returned (.bool (ds.any noDevW)) ∧ w' = w) := contD_any x ds w hx
  have H3 : Hid (Calls Tryd.prog 11 #[y] w fun e w' => e = .returned (.bool (partsW ps)) ∧ w' = w) := right15_any y ps w hy
  have HBI := badW_iff c ds ps
  have HX : Hid (IntsI w x ds) := hx
  have HY : Hid (IntsI w y ps) := hy
  obtain ⟨ax, cx, rfl⟩ := hx.shape
  obtain ⟨ay, cy, rfl⟩ := hy.shape
  clear hx hy
  by_cases hb : badW c ds ps
  · have hp : planW c ds ps = ([], 1) := if_pos hb
    rw [hp]
    have hb := HBI.1 hb
    clear HBI hp HX HY
    generalize decide (1 ≤ c ∧ c ≤ 1073741824) = b1 at *
    generalize ds.any noDevW = b2 at *
    generalize partsW ps = b3 at *
    have HB : Hid (b1 = false ∨ b2 = true ∨ b3 = false) := hb
    clear hb
    cases b1 with
    | false =>
      go_enter Tryd.func5, Tryd.ntmps5
      go_wp2_with (go_at_call 9; refine H1.mono ?_; rintro e w' ⟨rfl, rfl⟩)
      go_ret2
      exact ⟨_, rfl, PlanZ.nil _ _, Below.refl _ _⟩
    | true =>
      cases b2 with
      | true =>
        go_enter Tryd.func5, Tryd.ntmps5
        go_wp2_with (first | (go_at_call 9; refine H1.mono ?_; rintro e w' ⟨rfl, rfl⟩) | (go_at_call 10; refine H2.out.mono ?_; rintro e w' ⟨rfl, rfl⟩))
        go_ret2
        exact ⟨_, rfl, PlanZ.nil _ _, Below.refl _ _⟩
      | false =>
        cases b3 with
        | true => rcases HB.out with e | e | e <;> cases e
        | false =>
          go_enter Tryd.func5, Tryd.ntmps5
          go_wp2_with (first | (go_at_call 9; refine H1.mono ?_; rintro e w' ⟨rfl, rfl⟩) | (go_at_call 10; refine H2.out.mono ?_; rintro e w' ⟨rfl, rfl⟩) | (go_at_call 11; refine H3.out.mono ?_; rintro e w' ⟨rfl, rfl⟩))
          go_ret2
          exact ⟨_, rfl, PlanZ.nil _ _, Below.refl _ _⟩
  · have hg : (1 ≤ c ∧ c ≤ 1073741824) ∧ (∀ d ∈ ds, 1 ≤ d ∧ d ≤ 4096) ∧ partsW ps = true := by
      unfold badW at hb
      refine ⟨Classical.byContradiction fun h => hb (.inl h), fun d hd => Classical.byContradiction fun h => hb (.inr (.inl ⟨d, hd, h⟩)), ?_⟩
      cases hpp : partsW ps with
      | true => rfl
      | false => exact absurd (.inr (.inr hpp)) hb
    have e1 : decide (1 ≤ c ∧ c ≤ 1073741824) = true := decide_eq_true hg.1
    have e2 : ds.any noDevW = false := by
      rw [List.any_eq_false]
      intro d hd
      have := hg.2.1 d hd
      unfold noDevW
      simp [this]
    rw [e1] at H1
    rw [e2] at H2
    rw [hg.2.2] at H3
    have HPL : Hid (planW c ds ps = if ¬ ds.Nodup then ([], 5) else (cutW (sortW c ds) 0 ps, 0)) := if_neg hb
    obtain ⟨C, rfl⟩ := Int.eq_ofNat_of_zero_le (show 0 ≤ c by omega)
    have H4 : Hid (Calls Tryd.prog 12 #[.int .i64 (C : Int), .slice ax ds.length cx] w fun e w' => ((ds.Nodup ∧ ∃ b, e = .returned (.tuple #[.map (some b), .bool true]) ∧ w.heap.size ≤ b ∧ ∃ m D, w'.ownsMap Tryd.prog 3 lotR b m D ∧ HoldsL C D ds) ∨ (¬ ds.Nodup ∧ e = .returned (.tuple #[.map none, .bool false]))) ∧ Below w.heap.size w w') := lotsOf_any C _ ds w hgf hf (by omega) hg.2.1 hl HX.out
    have HG : Hid ((∀ d ∈ ds, 1 ≤ d ∧ d ≤ 4096) ∧ riseW 0 ps = true ∧ ps.length ≤ 8) := ⟨hg.2.1, partsW_rise hg.2.2⟩
    clear hg e1 e2 HBI hb hgf hf
    go_enter Tryd.func5, Tryd.ntmps5
    go_wp2_with (first | (go_at_call 9; refine H1.mono ?_; rintro e w' ⟨rfl, rfl⟩) | (go_at_call 10; refine H2.out.mono ?_; rintro e w' ⟨rfl, rfl⟩) | (go_at_call 11; refine H3.out.mono ?_; rintro e w' ⟨rfl, rfl⟩))
    refine H4.out.mono ?_
    rintro e w1 ⟨⟨hn, b, rfl, hbb, m, D, hown, hH⟩ | ⟨hn, rfl⟩, hb1⟩
    · have H5 : Hid (Calls Tryd.prog 14 #[.map (some b)] w1 fun e w' => ∃ v, e = .returned v ∧ OwnZ w' w1.heap.size v (sortW C ds) ∧ Below w1.heap.size w1 w') := inOrder_any C ds D b m w1 hown hH hn HG.out.1 hl
      have HN : Hid ds.Nodup := hn
      clear hown hH hn
      go_wp2_with fail
      refine H5.out.mono ?_
      rintro e w2 ⟨v2, rfl, ho2, hb2⟩
      have hB2 : Below w'.heap.size w' w2 := hb1.trans (hb2.mono hb1.size)
      have H6 : Hid (Calls Tryd.prog 13 #[v2, .slice ay ps.length cy] w2 fun e w' => ∃ v, e = .returned v ∧ PlanZ w' w2.heap.size v (cutW (sortW C ds) 0 ps) ∧ Below w2.heap.size w2 w') := cut_any v2 _ (sortW C ds) ps w2 ho2.ints (HY.out.below hB2 (Nat.le_refl _)) HG.out.2.1 HG.out.2.2 (by rw [sortW_len]; exact hl)
      clear ho2
      go_wp2_with fail
      refine H6.out.mono ?_
      rintro e w3 ⟨v3, rfl, hp3, hb3⟩
      have HR : Hid (planW C ds ps = (cutW (sortW C ds) 0 ps, 0)) := by rw [HPL.out, if_neg (by simpa using HN.out)]; rfl
      go_wp2
      go_ret2
      exact ⟨v3, by rw [HR.out]; rfl, by rw [HR.out]; exact hp3.mono hB2.size, hB2.trans (hb3.mono hB2.size)⟩
    · have HR : Hid (planW C ds ps = ([], 5)) := by rw [HPL.out, if_pos hn]; rfl
      clear hn
      go_wp2
      go_ret2
      exact ⟨_, by rw [HR.out]; rfl, by rw [HR.out]; exact PlanZ.nil _ _, hb1⟩
end Go.Proofs.YtnagdgkkkkpekabDoor
