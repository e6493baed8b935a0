/-
  What is proved here: the statements' awake of layer 15 answers true.
  Conditions: the variable fourBits holds the sixteen words.
-/
import Derived.Test.YtnagdgkkkkpekabDoorWavePlan
import Derived.Test.YtnagdgkkkkpekabDoorWaveJudge
namespace Go.Proofs.YtnagdgkkkkpekabDoor
open Go.RowKit

theorem ints_new (w : World) (zs : List Int) (t : TypeId) (n : Nat) (hn : n = w.heap.size) (hl : zs.length ≤ maxLen) : IntsI (w.alloc (.cells (zs.map vI).toArray t)) (.slice (some ⟨n, 0, none⟩) zs.length zs.length) zs := by
  subst hn
  refine ⟨_, _, rfl, Nat.le_refl _, hl, (fun e => by cases e), fun j z hz => ⟨w.heap.size, 0, rfl, by simp, ?_⟩⟩
  rw [Nat.zero_add, (Blk.new w t (zs.map vI).toArray).cell (v := vI z) (by simp [hz])]
set_option maxRecDepth 100000 in
set_option maxHeartbeats 1000000 in
theorem awake15_any (w : World) (hgf : 0 < w.heap.size) (hf : Tab w 0 (fours.map v32)) :
    Calls Tryd.prog 4 #[] w fun e w' => e = .returned (.bool true) ∧ Below w.heap.size w w' := by
  have hb1 : Below w.heap.size w (w.alloc (.cells #[vI 1, vI 2, vI 3] 3)) := (Below.refl _ _).alloc (Nat.le_refl _) _
  have hb2 : Below w.heap.size w ((w.alloc (.cells #[vI 1, vI 2, vI 3] 3)).alloc (.cells #[vI 10, vI 100] 3)) := hb1.alloc hb1.size _
  have hI1 : IntsI ((w.alloc (.cells #[vI 1, vI 2, vI 3] 3)).alloc (.cells #[vI 10, vI 100] 3)) (.slice (some ⟨w.heap.size, 0, none⟩) 3 3) [1, 2, 3] := (ints_new w [1, 2, 3] 3 _ rfl (by unfold maxLen; decide)).below ((Below.refl _ _).alloc (Nat.le_refl _) _) (Nat.le_refl _)
  have hI2 : IntsI ((w.alloc (.cells #[vI 1, vI 2, vI 3] 3)).alloc (.cells #[vI 10, vI 100] 3)) (.slice (some ⟨w.heap.size + 1, 0, none⟩) 2 2) [10, 100] := ints_new _ [10, 100] 3 _ (by simp) (by unfold maxLen; decide)
  have HP : Hid (Calls Tryd.prog 5 #[.int .i64 1, .slice (some ⟨w.heap.size, 0, none⟩) 3 3, .slice (some ⟨w.heap.size + 1, 0, none⟩) 2 2] ((w.alloc (.cells #[vI 1, vI 2, vI 3] 3)).alloc (.cells #[vI 10, vI 100] 3)) fun e w' => ∃ v, e = .returned (.tuple #[v, .int .i64 0]) ∧ PlanZ w' w.heap.size v [[1], [3, 2]] ∧ Below w.heap.size w w') := by
    have h := plan_any15 1 _ _ [1, 2, 3] [10, 100] _ (Nat.lt_of_lt_of_le hgf hb2.size) (hf.below hb2 hgf) hI1 hI2 (by decide)
    rw [planW_three] at h
    refine h.mono ?_
    rintro e w' ⟨v, rfl, h1, h2⟩
    exact ⟨v, rfl, h1.mono hb2.size, hb2.trans (h2.mono hb2.size)⟩
  have HJ : Hid (Calls Tryd.prog 7 #[.int .i64 10, .int .i64 8, .int .i64 1, .int .i64 80, .int .i64 10] w fun e w' => e = .returned (.tuple #[.int .i64 1, .int .i64 0]) ∧ w' = w) := judge_any 10 8 1 80 10 w
  clear hI1 hI2 hb1 hb2 hgf hf
  go_enter Tryd.func4, Tryd.ntmps4
  go_wp2_with fail
  refine HJ.out.mono ?_
  rintro e w' ⟨rfl, rfl⟩
  go_wp2_with fail
  refine HP.out.mono ?_
  rintro e w2 ⟨v, rfl, hp, hb⟩
  obtain ⟨b, c, a, cc, rfl, hbl, hc, _⟩ := hp.at (k := 0) rfl
  have ix := fun w => index_intss b 2 c 0 w (by decide)
  simp only [List.length_cons, List.length_nil, Nat.zero_add] at hc ix ⊢
  clear hp
  go_wp2
  go_ret
  exact ⟨rfl, hb⟩
end Go.Proofs.YtnagdgkkkkpekabDoor
