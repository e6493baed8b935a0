/-
  What is proved here: boot.Right tells whether a record may be; boot.Next what comes of it when a device begins; the document's own two answer the same.
  Conditions: the numbers are of 64 bits.
-/
import Derived.Test.YtoemdmfpcobadaaDoorJBootPure
import Derived.Test.YtoemdmfpcobadaaDoorJSegKit
import Derived.Lib.MinMax
namespace Go.Proofs.YtoemdmfpcobadaaDoor
open Go.RowKit

def brL (b : BR) : Array Value := #[.int .i64 b.active, .int .i64 b.trial, .int .i64 b.tries, .int .i64 b.v0, .int .i64 b.v1]
abbrev brV (b : BR) : Value := .agg (brL b)
def oddB (n m : Int) : Bool := decide (n < 0) || decide (m < n)
set_option maxRecDepth 100000 in
theorem odd9_any (n m : Int) (w : World) : Calls Tryd.prog 45 #[.int .i64 n, .int .i64 m] w fun e w' => e = .returned (.bool (oddB n m)) ∧ w' = w := by
  unfold oddB
  by_cases h1 : n < 0
  · rw [decide_eq_true h1]
    go_enter Tryd.func45, Tryd.ntmps45
    go_wp2
    go_ret
    exact ⟨rfl, rfl⟩
  · by_cases h2 : m < n
    · rw [decide_eq_false h1, decide_eq_true h2]
      go_enter Tryd.func45, Tryd.ntmps45
      go_wp2
      go_ret
      exact ⟨rfl, rfl⟩
    · rw [decide_eq_false h1, decide_eq_false h2]
      go_enter Tryd.func45, Tryd.ntmps45
      go_wp2
      go_ret
      exact ⟨rfl, rfl⟩
theorem odd_iff (n m : Int) : oddB n m = false ↔ 0 ≤ n ∧ n ≤ m := by
  unfold oddB
  rw [Bool.or_eq_false_iff, decide_eq_false_iff_not, decide_eq_false_iff_not]
  omega
theorem odd_true {n m : Int} (h : oddB n m = true) : ¬ (0 ≤ n ∧ n ≤ m) := fun h2 => by rw [(odd_iff n m).2 h2] at h; cases h

set_option maxRecDepth 100000 in
set_option maxHeartbeats 1000000 in
theorem right9_any (b : BR) (w : World) : Calls Tryd.prog 25 #[brV b] w fun e w' => e = .returned (.bool (rightR b)) ∧ Below w.heap.size w w' := by
  have HO : Hid (∀ n m w, Calls Tryd.prog 45 #[.int .i64 n, .int .i64 m] w fun e w' => e = .returned (.bool (oddB n m)) ∧ w' = w) := odd9_any
  have hB := (Below.refl w.heap.size w).alloc (Nat.le_refl _) (.cells (brL b) 40)
  have HR : Hid (rightR b = decide b.ok) := rfl
  generalize rightR b = RB at *
  unfold BR.ok at HR
  obtain ⟨a, t, r, v0, v1⟩ := b
  simp only at HR
  unfold brV brL at *
  simp only at *
  cases o1 : oddB a 1 with
  | true =>
    obtain rfl : RB = false := by rw [HR.out]; exact decide_eq_false (fun h => odd_true o1 h.1)
    go_enter Tryd.func25, Tryd.ntmps25
    go_wp2_with (go_at_call 45; refine (HO.out _ _ _).mono ?_; rintro e w1 ⟨rfl, rfl⟩)
    go_ret
    exact ⟨rfl, hB⟩
  | false =>
    cases o2 : oddB r 15 with
    | true =>
      obtain rfl : RB = false := by rw [HR.out]; exact decide_eq_false (fun h => odd_true o2 h.2.1)
      go_enter Tryd.func25, Tryd.ntmps25
      go_wp2_with (go_at_call 45; refine (HO.out _ _ _).mono ?_; rintro e w1 ⟨rfl, rfl⟩)
      go_ret
      exact ⟨rfl, hB⟩
    | false =>
      cases o3 : oddB v0 1073741824 with
      | true =>
        obtain rfl : RB = false := by rw [HR.out]; exact decide_eq_false (fun h => odd_true o3 h.2.2.1)
        go_enter Tryd.func25, Tryd.ntmps25
        go_wp2_with (go_at_call 45; refine (HO.out _ _ _).mono ?_; rintro e w1 ⟨rfl, rfl⟩)
        go_ret
        exact ⟨rfl, hB⟩
      | false =>
        cases o4 : oddB v1 1073741824 with
        | true =>
          obtain rfl : RB = false := by rw [HR.out]; exact decide_eq_false (fun h => odd_true o4 h.2.2.2.1)
          go_enter Tryd.func25, Tryd.ntmps25
          go_wp2_with (go_at_call 45; refine (HO.out _ _ _).mono ?_; rintro e w1 ⟨rfl, rfl⟩)
          go_ret
          exact ⟨rfl, hB⟩
        | false =>
          have h1 := (odd_iff _ _).1 o1
          have h2 := (odd_iff _ _).1 o2
          have h3 := (odd_iff _ _).1 o3
          have h4 := (odd_iff _ _).1 o4
          by_cases ht : t = -1
          · subst ht
            have HR2 : Hid (RB = decide (r = 0)) := by show _ = _; rw [HR.out]; exact decide_eq_decide.2 ⟨fun h => by omega, fun h => ⟨h1, h2, h3, h4, .inl ⟨rfl, h⟩⟩⟩
            clear HR h1 h2 h3 h4
            go_enter Tryd.func25, Tryd.ntmps25
            go_wp2_with (go_at_call 45; refine (HO.out _ _ _).mono ?_; rintro e w1 ⟨rfl, rfl⟩)
            go_ret
            rw [HR2.out]
            exact ⟨rfl, hB⟩
          · have HR2 : Hid (RB = decide (t = 1 - a)) := by show _ = _; rw [HR.out]; exact decide_eq_decide.2 ⟨fun h => by omega, fun h => ⟨h1, h2, h3, h4, .inr ⟨ht, h⟩⟩⟩
            clear HR h2 h3 h4
            go_enter Tryd.func25, Tryd.ntmps25
            go_wp2_with (go_at_call 45; refine (HO.out _ _ _).mono ?_; rintro e w1 ⟨rfl, rfl⟩)
            go_ret
            rw [HR2.out]
            exact ⟨rfl, hB⟩
end Go.Proofs.YtoemdmfpcobadaaDoor
