/-
  What is proved here: the document's Next tells what comes of a record when a device begins; the document's Right whether it may be.
  Conditions: the numbers are of 64 bits.
-/
import Derived.Test.YtbdhkkdombdnkaaDoorJBootPut
import Derived.Lib.MinMax
namespace Go.Proofs.YtbdhkkdombdnkaaDoor
open Go.RowKit

set_option maxRecDepth 100000 in
set_option maxHeartbeats 4000000 in
theorem rright9_any (b : BR) (w : World) : Calls Tryd.prog 40 #[brV b] w fun e w' => e = .returned (.bool (rightR b)) ∧ Below w.heap.size w w' := by
  have hB := (Below.refl w.heap.size w).alloc (Nat.le_refl _) (.cells (brL b) 40)
  have HR : Hid (rightR b = decide b.ok) := rfl
  generalize rightR b = RB at *
  unfold BR.ok at HR
  obtain ⟨a, t, r, v0, v1⟩ := b
  unfold brV brL at *
  simp only at *
  by_cases h1 : a < 0
  · obtain rfl : RB = false := by rw [HR.out]; exact decide_eq_false (by omega)
    clear HR
    go_enter Tryd.func40, Tryd.ntmps40
    go_wp2
    go_ret
    exact ⟨rfl, hB⟩
  by_cases h2 : 1 < a
  · obtain rfl : RB = false := by rw [HR.out]; exact decide_eq_false (by omega)
    clear HR
    go_enter Tryd.func40, Tryd.ntmps40
    go_wp2
    go_ret
    exact ⟨rfl, hB⟩
  have hw : IntKind.i64.wrap (1 - a) = 1 - a := by rw [IntKind.wrap_i64]; omega
  by_cases h3 : t ≠ -1 ∧ t ≠ 1 - a
  · obtain rfl : RB = false := by rw [HR.out]; exact decide_eq_false (by omega)
    have g1 : (t != -1) = true := by simpa using h3.1
    have g2 : (t != 1 - a) = true := by simpa using h3.2
    clear HR h3
    go_enter Tryd.func40, Tryd.ntmps40
    go_wp2
    go_ret
    exact ⟨rfl, hB⟩
  have HT : Hid (t = -1 ∨ t = 1 - a) := by show _ ∨ _; omega
  obtain ⟨tb, htb⟩ : ∃ tb, tb = (t != -1) := ⟨_, rfl⟩
  have g1 : (t != -1) = tb := htb.symm
  have g2 : tb = true → (t != 1 - a) = false := fun h => by rw [htb, bne_iff_ne] at h; rcases HT.out with h5 | h5; exact absurd h5 h; simp [h5]
  have HTB : Hid (tb = (t != -1)) := htb
  have g3 : (t == -1) = !tb := by rw [htb]; simp [bne]
  clear htb h3
  by_cases h4 : r < 0
  · obtain rfl : RB = false := by rw [HR.out]; exact decide_eq_false (by omega)
    clear HR HT
    cases tb with
    | false =>
      clear g2
      go_enter Tryd.func40, Tryd.ntmps40
      go_wp2
      go_ret
      exact ⟨rfl, hB⟩
    | true =>
      have g4 := g2 rfl
      clear g2
      go_enter Tryd.func40, Tryd.ntmps40
      go_wp2
      go_ret
      exact ⟨rfl, hB⟩
  by_cases h5 : 15 < r
  · obtain rfl : RB = false := by rw [HR.out]; exact decide_eq_false (by omega)
    clear HR HT
    cases tb with
    | false =>
      clear g2
      go_enter Tryd.func40, Tryd.ntmps40
      go_wp2
      go_ret
      exact ⟨rfl, hB⟩
    | true =>
      have g4 := g2 rfl
      clear g2
      go_enter Tryd.func40, Tryd.ntmps40
      go_wp2
      go_ret
      exact ⟨rfl, hB⟩
  cases tb with
  | false =>
    have ht : t = -1 := by have := HTB.out; simpa [bne] using this.symm
    by_cases h6 : r = 0
    · have g6 : (r != 0) = false := by simp [h6]
      have HR2 : Hid (RB = decide (((0 ≤ v0 ∧ v0 ≤ 1073741824) ∧ 0 ≤ v1) ∧ v1 ≤ 1073741824)) := by show _ = _; rw [HR.out]; exact decide_eq_decide.2 ⟨fun h => by omega, fun h => by omega⟩
      clear HR HT HTB g2 h6 ht
      by_cases j1 : 0 ≤ v0
      · by_cases j2 : v0 ≤ 1073741824
        · by_cases j3 : 0 ≤ v1
          · by_cases j4 : v1 ≤ 1073741824
            · obtain rfl : RB = true := by rw [HR2.out]; exact decide_eq_true (by omega)
              clear HR2
              go_enter Tryd.func40, Tryd.ntmps40
              go_wp2
              go_ret
              exact ⟨rfl, hB⟩
            · obtain rfl : RB = false := by rw [HR2.out]; exact decide_eq_false (by omega)
              clear HR2
              go_enter Tryd.func40, Tryd.ntmps40
              go_wp2
              go_ret
              exact ⟨rfl, hB⟩
          · obtain rfl : RB = false := by rw [HR2.out]; exact decide_eq_false (by omega)
            clear HR2
            go_enter Tryd.func40, Tryd.ntmps40
            go_wp2
            go_ret
            exact ⟨rfl, hB⟩
        · obtain rfl : RB = false := by rw [HR2.out]; exact decide_eq_false (by omega)
          clear HR2
          go_enter Tryd.func40, Tryd.ntmps40
          go_wp2
          go_ret
          exact ⟨rfl, hB⟩
      · obtain rfl : RB = false := by rw [HR2.out]; exact decide_eq_false (by omega)
        clear HR2
        go_enter Tryd.func40, Tryd.ntmps40
        go_wp2
        go_ret
        exact ⟨rfl, hB⟩
    · obtain rfl : RB = false := by rw [HR.out]; exact decide_eq_false (by omega)
      have g6 : (r != 0) = true := by simpa using h6
      clear HR HT HTB g2 h6 ht
      go_enter Tryd.func40, Tryd.ntmps40
      go_wp2
      go_ret
      exact ⟨rfl, hB⟩
  | true =>
    have ht : t ≠ -1 := by have := HTB.out.symm; simpa using this
    have g4 := g2 rfl
    have HR2 : Hid (RB = decide (((0 ≤ v0 ∧ v0 ≤ 1073741824) ∧ 0 ≤ v1) ∧ v1 ≤ 1073741824)) := by show _ = _; have h7 := HT.out; rw [HR.out]; exact decide_eq_decide.2 ⟨fun h => by omega, fun h => by omega⟩
    clear HR HT HTB g2 ht
    by_cases j1 : 0 ≤ v0
    · by_cases j2 : v0 ≤ 1073741824
      · by_cases j3 : 0 ≤ v1
        · by_cases j4 : v1 ≤ 1073741824
          · obtain rfl : RB = true := by rw [HR2.out]; exact decide_eq_true (by omega)
            clear HR2
            go_enter Tryd.func40, Tryd.ntmps40
            go_wp2
            go_ret
            exact ⟨rfl, hB⟩
          · obtain rfl : RB = false := by rw [HR2.out]; exact decide_eq_false (by omega)
            clear HR2
            go_enter Tryd.func40, Tryd.ntmps40
            go_wp2
            go_ret
            exact ⟨rfl, hB⟩
        · obtain rfl : RB = false := by rw [HR2.out]; exact decide_eq_false (by omega)
          clear HR2
          go_enter Tryd.func40, Tryd.ntmps40
          go_wp2
          go_ret
          exact ⟨rfl, hB⟩
      · obtain rfl : RB = false := by rw [HR2.out]; exact decide_eq_false (by omega)
        clear HR2
        go_enter Tryd.func40, Tryd.ntmps40
        go_wp2
        go_ret
        exact ⟨rfl, hB⟩
    · obtain rfl : RB = false := by rw [HR2.out]; exact decide_eq_false (by omega)
      clear HR2
      go_enter Tryd.func40, Tryd.ntmps40
      go_wp2
      go_ret
      exact ⟨rfl, hB⟩

end Go.Proofs.YtbdhkkdombdnkaaDoor
