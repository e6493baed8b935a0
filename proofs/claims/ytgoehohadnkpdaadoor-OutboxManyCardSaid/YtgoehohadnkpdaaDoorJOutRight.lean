/-
  What is proved here: outbox.Right tells whether a report may be; the document's own answers the same.
  Conditions: the numbers are of 64 bits.
-/
import Derived.Test.YtgoehohadnkpdaaDoorJBootPure
import Derived.Test.YtgoehohadnkpdaaDoorJSegKit
namespace Go.Proofs.YtgoehohadnkpdaaDoor
open Go.RowKit

def rpL (b : RP) : List Value := [.int .i64 b.c, .int .i64 b.l, .int .i64 b.v, .int .i64 b.o]
abbrev rpV (b : RP) : Value := .agg (rpL b).toArray
def xeL (e : XE) : List Value := [.int .i64 (e.seq : Int), .int .i64 e.r.c, .int .i64 e.r.l, .int .i64 e.r.v, .int .i64 e.r.o, .int .i64 (e.wh : Int), .int .i64 e.la]
abbrev xeV (e : XE) : Value := .agg (xeL e).toArray
def withinB (n m : Int) : Bool := decide (1 ≤ n) && decide (n ≤ m)
set_option maxRecDepth 100000 in
theorem withinX (n m : Int) (w : World) : Calls Tryd.prog 22 #[.int .i64 n, .int .i64 m] w fun e w' => e = .returned (.bool (withinB n m)) ∧ w' = w := by
  unfold withinB
  by_cases h1 : 1 ≤ n
  · by_cases h2 : n ≤ m
    · rw [decide_eq_true h1, decide_eq_true h2]
      go_enter Tryd.func22, Tryd.ntmps22
      go_wp2
      go_ret
      exact ⟨rfl, rfl⟩
    · rw [decide_eq_true h1, decide_eq_false h2]
      go_enter Tryd.func22, Tryd.ntmps22
      go_wp2
      go_ret
      exact ⟨rfl, rfl⟩
  · rw [decide_eq_false h1]
    go_enter Tryd.func22, Tryd.ntmps22
    go_wp2
    go_ret
    exact ⟨rfl, rfl⟩
theorem within_iff (n m : Int) : withinB n m = true ↔ 1 ≤ n ∧ n ≤ m := by
  unfold withinB
  rw [Bool.and_eq_true, decide_eq_true_iff, decide_eq_true_iff]
theorem within_false {n m : Int} (h : withinB n m = false) : ¬ (1 ≤ n ∧ n ≤ m) := fun h2 => by rw [(within_iff n m).2 h2] at h; cases h

set_option maxRecDepth 100000 in
set_option maxHeartbeats 1000000 in
theorem rightX (b : RP) (w : World) : Calls Tryd.prog 9 #[rpV b] w fun e w' => e = .returned (.bool (rightO b)) ∧ Below w.heap.size w w' := by
  have HO : Hid (∀ n m w, Calls Tryd.prog 22 #[.int .i64 n, .int .i64 m] w fun e w' => e = .returned (.bool (withinB n m)) ∧ w' = w) := withinX
  have hB := (Below.refl w.heap.size w).alloc (Nat.le_refl _) (.cells (rpL b).toArray 23)
  have HR : Hid (rightO b = decide b.ok) := rfl
  generalize rightO b = RB at *
  unfold RP.ok at HR
  obtain ⟨a, t, r, v0⟩ := b
  simp only at HR
  unfold rpV rpL at *
  simp only at *
  cases o0 : withinB a 1073741824 with
  | false =>
    obtain rfl : RB = false := by rw [HR.out]; exact decide_eq_false (fun h => within_false o0 h.1)
    go_enter Tryd.func9, Tryd.ntmps9
    go_wp2_with (go_at_call 22; refine (HO.out _ _ _).mono ?_; rintro e w1 ⟨rfl, rfl⟩)
    go_ret
    exact ⟨rfl, hB⟩
  | true =>
    cases o1 : withinB t 1073741824 with
    | false =>
      obtain rfl : RB = false := by rw [HR.out]; exact decide_eq_false (fun h => within_false o1 h.2.1)
      go_enter Tryd.func9, Tryd.ntmps9
      go_wp2_with (go_at_call 22; refine (HO.out _ _ _).mono ?_; rintro e w1 ⟨rfl, rfl⟩)
      go_ret
      exact ⟨rfl, hB⟩
    | true =>
      cases o2 : withinB r 1073741824 with
      | false =>
        obtain rfl : RB = false := by rw [HR.out]; exact decide_eq_false (fun h => within_false o2 h.2.2.1)
        go_enter Tryd.func9, Tryd.ntmps9
        go_wp2_with (go_at_call 22; refine (HO.out _ _ _).mono ?_; rintro e w1 ⟨rfl, rfl⟩)
        go_ret
        exact ⟨rfl, hB⟩
      | true =>
        cases o3 : withinB v0 3 with
        | false =>
          obtain rfl : RB = false := by rw [HR.out]; exact decide_eq_false (fun h => within_false o3 h.2.2.2)
          go_enter Tryd.func9, Tryd.ntmps9
          go_wp2_with (go_at_call 22; refine (HO.out _ _ _).mono ?_; rintro e w1 ⟨rfl, rfl⟩)
          go_ret
          exact ⟨rfl, hB⟩
        | true =>
          obtain rfl : RB = true := by rw [HR.out]; exact decide_eq_true ⟨(within_iff _ _).1 o0, (within_iff _ _).1 o1, (within_iff _ _).1 o2, (within_iff _ _).1 o3⟩
          go_enter Tryd.func9, Tryd.ntmps9
          go_wp2_with (go_at_call 22; refine (HO.out _ _ _).mono ?_; rintro e w1 ⟨rfl, rfl⟩)
          go_ret
          exact ⟨rfl, hB⟩

set_option maxRecDepth 100000 in
set_option maxHeartbeats 1000000 in
theorem refRightX (b : RP) (w : World) : Calls Tryd.prog 10 #[rpV b] w fun e w' => e = .returned (.bool (rightO b)) ∧ Below w.heap.size w w' := by
  have hB := (Below.refl w.heap.size w).alloc (Nat.le_refl _) (.cells (rpL b).toArray 23)
  have HR : Hid (rightO b = decide b.ok) := rfl
  generalize rightO b = RB at *
  unfold RP.ok at HR
  obtain ⟨a, t, r, v0⟩ := b
  simp only at HR
  unfold rpV rpL at *
  simp only at *
  by_cases h0 : 1 ≤ a
  rotate_left
  · obtain rfl : RB = false := by rw [HR.out]; exact decide_eq_false (fun h => h0 (h.1).1)
    go_enter Tryd.func10, Tryd.ntmps10
    go_wp2
    go_ret
    exact ⟨rfl, hB⟩
  by_cases h1 : a ≤ 1073741824
  rotate_left
  · obtain rfl : RB = false := by rw [HR.out]; exact decide_eq_false (fun h => h1 (h.1).2)
    go_enter Tryd.func10, Tryd.ntmps10
    go_wp2
    go_ret
    exact ⟨rfl, hB⟩
  by_cases h2 : 1 ≤ t
  rotate_left
  · obtain rfl : RB = false := by rw [HR.out]; exact decide_eq_false (fun h => h2 (h.2.1).1)
    go_enter Tryd.func10, Tryd.ntmps10
    go_wp2
    go_ret
    exact ⟨rfl, hB⟩
  by_cases h3 : t ≤ 1073741824
  rotate_left
  · obtain rfl : RB = false := by rw [HR.out]; exact decide_eq_false (fun h => h3 (h.2.1).2)
    go_enter Tryd.func10, Tryd.ntmps10
    go_wp2
    go_ret
    exact ⟨rfl, hB⟩
  by_cases h4 : 1 ≤ r
  rotate_left
  · obtain rfl : RB = false := by rw [HR.out]; exact decide_eq_false (fun h => h4 (h.2.2.1).1)
    go_enter Tryd.func10, Tryd.ntmps10
    go_wp2
    go_ret
    exact ⟨rfl, hB⟩
  by_cases h5 : r ≤ 1073741824
  rotate_left
  · obtain rfl : RB = false := by rw [HR.out]; exact decide_eq_false (fun h => h5 (h.2.2.1).2)
    go_enter Tryd.func10, Tryd.ntmps10
    go_wp2
    go_ret
    exact ⟨rfl, hB⟩
  by_cases h6 : 1 ≤ v0
  rotate_left
  · obtain rfl : RB = false := by rw [HR.out]; exact decide_eq_false (fun h => h6 (h.2.2.2).1)
    go_enter Tryd.func10, Tryd.ntmps10
    go_wp2
    go_ret
    exact ⟨rfl, hB⟩
  by_cases h7 : v0 ≤ 3
  rotate_left
  · obtain rfl : RB = false := by rw [HR.out]; exact decide_eq_false (fun h => h7 (h.2.2.2).2)
    go_enter Tryd.func10, Tryd.ntmps10
    go_wp2
    go_ret
    exact ⟨rfl, hB⟩
  obtain rfl : RB = true := by rw [HR.out]; exact decide_eq_true ⟨⟨h0, h1⟩, ⟨h2, h3⟩, ⟨h4, h5⟩, h6, h7⟩
  go_enter Tryd.func10, Tryd.ntmps10
  go_wp2
  go_ret
  exact ⟨rfl, hB⟩
end Go.Proofs.YtgoehohadnkpdaaDoor
