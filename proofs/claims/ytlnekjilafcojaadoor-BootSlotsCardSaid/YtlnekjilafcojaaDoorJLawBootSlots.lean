/-
  What is proved here: BootSlots: a device begins with the committed slot, or the one that is tried, and nothing but the tries changes.
  Conditions: the variable fourBits holds the sixteen words.
-/
import Derived.Test.YtlnekjilafcojaaDoorJBootEq
namespace Go.Proofs.YtlnekjilafcojaaDoor
open Go.RowKit

theorem next_right {b : BR} (most : Int) (h : b.ok) : (nextR b most).1.ok := by
  unfold nextR
  split
  · exact h
  · split
    · obtain ⟨h1, h2, h3, h4, h5⟩ := h
      exact ⟨h1, ⟨Int.le_refl 0, by show (0 : Int) ≤ 15; omega⟩, h3, h4, .inl ⟨rfl, rfl⟩⟩
    · rename_i h6 h7
      obtain ⟨h1, h2, h3, h4, h5⟩ := h
      refine ⟨h1, ⟨?_, ?_⟩, h3, h4, .inr ?_⟩
      · show 0 ≤ min (b.tries + 1) 15; omega
      · show min (b.tries + 1) 15 ≤ 15; omega
      · show b.trial ≠ -1 ∧ b.trial = 1 - b.active
        have : b.trial ≠ -1 := fun e => h6 (.inr e)
        omega

set_option maxRecDepth 100000 in
set_option maxHeartbeats 8000000 in
theorem bootSlots_any (b : BR) (most : Int) (w : World) (hgf : 1 < w.heap.size) (hf : Tab w 1 (fours.map v32)) : Calls Tryd.prog 8 #[brV b, .int .i64 most] w fun e w' => e = .returned (.bool true) ∧ Below w.heap.size w w' := by
  have hB0 := (Below.refl w.heap.size w).alloc (Nat.le_refl _) (.cells (brL b) 24)
  have k2 := Blk.new w 24 (brL b)
  have HA : Hid (Calls Tryd.prog 9 #[] (w.alloc (.cells (brL b) 24)) fun e w' => e = .returned (.bool true) ∧ Below (w.alloc (.cells (brL b) 24)).heap.size (w.alloc (.cells (brL b) 24)) w') := awake9_any _ (Nat.lt_of_lt_of_le hgf hB0.size) (hf.below hB0 hgf)
  have HNX : Hid (∀ W, Calls Tryd.prog 10 #[brV b, .int .i64 most] W fun e w' => e = .returned (.tuple #[brV (nextR b most).1, .int .i64 (nextR b most).2]) ∧ Below W.heap.size W w') := fun W => next9_any b most W
  have HRG : Hid (∀ W, Calls Tryd.prog 12 #[brV b] W fun e w' => e = .returned (.bool (rightR b)) ∧ Below W.heap.size W w') := fun W => right9_any b W
  have HRX : Hid (rightR b = true → ∀ W, Calls Tryd.prog 12 #[brV (nextR b most).1] W fun e w' => e = .returned (.bool true) ∧ Below W.heap.size W w') := fun h W => by
    have h2 : rightR (nextR b most).1 = true := decide_eq_true (next_right most (of_decide_eq_true h))
    rw [← h2]
    exact right9_any _ W
  have HN : Hid (nextR b most = if rightR b = false ∨ b.trial = -1 then (b, b.active) else if most ≤ b.tries then (⟨b.active, -1, 0, b.v0, b.v1⟩, b.active) else (⟨b.active, b.trial, min (b.tries + 1) 15, b.v0, b.v1⟩, b.trial)) := rfl
  clear hf
  generalize nextR b most = NX at *
  generalize rightR b = RB at *
  obtain ⟨a, t, r, v0, v1⟩ := b
  have hev : ∀ w, (binOp .eql 22 (.agg #[.int .i64 v0, .int .i64 v1]) (.agg #[.int .i64 v0, .int .i64 v1])).run Tryd.prog w = .ok (.bool true) w := fun w => by rw [eq_two]; simp
  have heb : ∀ w, (binOp .eql 24 (.agg #[.int .i64 a, .int .i64 t, .int .i64 r, .int .i64 v0, .int .i64 v1]) (.agg #[.int .i64 a, .int .i64 t, .int .i64 r, .int .i64 v0, .int .i64 v1])).run Tryd.prog w = .ok (.bool true) w := fun w => by rw [eq_br]; simp
  have hne : ∀ t : Int, t ≠ -1 → (t == -1) = false := fun t h => by simpa using h
  unfold brV brL at *
  simp only at *
  go_enter Tryd.func8, Tryd.ntmps8
  go_wp2_with fail
  refine HA.out.mono ?_
  rintro e w1 ⟨rfl, hb1⟩
  clear HA
  have m2 := k2.below hb1 k2.lt
  have hB1 : Below w.heap.size w w1 := hB0.trans (hb1.mono hB0.size)
  obtain ⟨B0, hBe⟩ : ∃ B0, B0 = w.heap.size := ⟨_, rfl⟩
  have hBw : w.heap.size ≤ B0 := by omega
  rw [← hBe] at m2 ⊢
  clear hBe k2 hb1 hB0
  have c0 : w1.cell? ⟨B0, 0, none⟩ = some (.int .i64 a) := m2.cell (j := 0) rfl
  have c1 : w1.cell? ⟨B0, 1, none⟩ = some (.int .i64 t) := m2.cell (j := 1) rfl
  have c2 : w1.cell? ⟨B0, 2, none⟩ = some (.int .i64 r) := m2.cell (j := 2) rfl
  have c3 : w1.cell? ⟨B0, 3, none⟩ = some (.int .i64 v0) := m2.cell (j := 3) rfl
  have c4 : w1.cell? ⟨B0, 4, none⟩ = some (.int .i64 v1) := m2.cell (j := 4) rfl
  go_wp2_with fail
  refine (HNX.out _).mono ?_
  rintro e w2 ⟨rfl, hb2⟩
  clear HNX c0 c1 c2 c3 c4
  have n2 := m2.below hb2 m2.lt
  have hB2 : Below w.heap.size w w2 := hB1.trans (hb2.mono hB1.size)
  clear m2 hb2 hB1
  cases RB with
  | false =>
    rw [if_pos (.inl rfl)] at HN
    obtain rfl := HN.out
    clear HN HRX hne
    have hb3 := (Below.refl w2.heap.size w2).alloc (Nat.le_refl _) (.cells #[.int .i64 a, .int .i64 t, .int .i64 r, .int .i64 v0, .int .i64 v1] 24)
    have k6 := Blk.new w2 24 #[.int .i64 a, .int .i64 t, .int .i64 r, .int .i64 v0, .int .i64 v1]
    have q2 := n2.below hb3 n2.lt
    have hB3 : Below w.heap.size w (w2.alloc (.cells #[.int .i64 a, .int .i64 t, .int .i64 r, .int .i64 v0, .int .i64 v1] 24)) := hB2.trans (hb3.mono hB2.size)
    obtain ⟨B6, hB6⟩ : ∃ B6, B6 = w2.heap.size := ⟨_, rfl⟩
    rw [← hB6] at k6
    have c0 : (w2.alloc (.cells #[.int .i64 a, .int .i64 t, .int .i64 r, .int .i64 v0, .int .i64 v1] 24)).cell? ⟨B0, 0, none⟩ = some (.int .i64 a) := q2.cell (j := 0) rfl
    have c1 : (w2.alloc (.cells #[.int .i64 a, .int .i64 t, .int .i64 r, .int .i64 v0, .int .i64 v1] 24)).cell? ⟨B0, 1, none⟩ = some (.int .i64 t) := q2.cell (j := 1) rfl
    have c2 : (w2.alloc (.cells #[.int .i64 a, .int .i64 t, .int .i64 r, .int .i64 v0, .int .i64 v1] 24)).cell? ⟨B0, 2, none⟩ = some (.int .i64 r) := q2.cell (j := 2) rfl
    have c3 : (w2.alloc (.cells #[.int .i64 a, .int .i64 t, .int .i64 r, .int .i64 v0, .int .i64 v1] 24)).cell? ⟨B0, 3, none⟩ = some (.int .i64 v0) := q2.cell (j := 3) rfl
    have c4 : (w2.alloc (.cells #[.int .i64 a, .int .i64 t, .int .i64 r, .int .i64 v0, .int .i64 v1] 24)).cell? ⟨B0, 4, none⟩ = some (.int .i64 v1) := q2.cell (j := 4) rfl
    go_wp2_with fail
    rw [← hB6]
    refine (HRG.out _).mono ?_
    rintro e w4 ⟨rfl, hb4⟩
    clear HRG hB6 c0 c1 c2 c3 c4 hb3
    have r2 := q2.below hb4 q2.lt
    have r6 := k6.below hb4 k6.lt
    have hB4 : Below w.heap.size w w4 := hB3.trans (hb4.mono hB3.size)
    clear q2 k6 hb4 hB3
    have c0 : w4.cell? ⟨B0, 0, none⟩ = some (.int .i64 a) := r2.cell (j := 0) rfl
    have c1 : w4.cell? ⟨B0, 1, none⟩ = some (.int .i64 t) := r2.cell (j := 1) rfl
    have c2 : w4.cell? ⟨B0, 2, none⟩ = some (.int .i64 r) := r2.cell (j := 2) rfl
    have c3 : w4.cell? ⟨B0, 3, none⟩ = some (.int .i64 v0) := r2.cell (j := 3) rfl
    have c4 : w4.cell? ⟨B0, 4, none⟩ = some (.int .i64 v1) := r2.cell (j := 4) rfl
    have d0 : w4.cell? ⟨B6, 0, none⟩ = some (.int .i64 a) := r6.cell (j := 0) rfl
    have d1 : w4.cell? ⟨B6, 1, none⟩ = some (.int .i64 t) := r6.cell (j := 1) rfl
    have d2 : w4.cell? ⟨B6, 2, none⟩ = some (.int .i64 r) := r6.cell (j := 2) rfl
    have d3 : w4.cell? ⟨B6, 3, none⟩ = some (.int .i64 v0) := r6.cell (j := 3) rfl
    have d4 : w4.cell? ⟨B6, 4, none⟩ = some (.int .i64 v1) := r6.cell (j := 4) rfl
    go_wp2
    go_ret
    exact ⟨rfl, hB4⟩
  | true =>
    by_cases ht : t = -1
    · rw [if_pos (.inr ht)] at HN
      obtain rfl := HN.out
      subst ht
      clear HN hne
      by_cases ha : a = -1
      · have g1 : (a == -1) = true := by simpa using ha
        clear ha
        have hb3 := (Below.refl w2.heap.size w2).alloc (Nat.le_refl _) (.cells #[.int .i64 a, .int .i64 (-1), .int .i64 r, .int .i64 v0, .int .i64 v1] 24)
        have k6 := Blk.new w2 24 #[.int .i64 a, .int .i64 (-1), .int .i64 r, .int .i64 v0, .int .i64 v1]
        have q2 := n2.below hb3 n2.lt
        have hB3 : Below w.heap.size w (w2.alloc (.cells #[.int .i64 a, .int .i64 (-1), .int .i64 r, .int .i64 v0, .int .i64 v1] 24)) := hB2.trans (hb3.mono hB2.size)
        obtain ⟨B6, hB6⟩ : ∃ B6, B6 = w2.heap.size := ⟨_, rfl⟩
        rw [← hB6] at k6
        have c0 : (w2.alloc (.cells #[.int .i64 a, .int .i64 (-1), .int .i64 r, .int .i64 v0, .int .i64 v1] 24)).cell? ⟨B0, 0, none⟩ = some (.int .i64 a) := q2.cell (j := 0) rfl
        have c1 : (w2.alloc (.cells #[.int .i64 a, .int .i64 (-1), .int .i64 r, .int .i64 v0, .int .i64 v1] 24)).cell? ⟨B0, 1, none⟩ = some (.int .i64 (-1)) := q2.cell (j := 1) rfl
        have c2 : (w2.alloc (.cells #[.int .i64 a, .int .i64 (-1), .int .i64 r, .int .i64 v0, .int .i64 v1] 24)).cell? ⟨B0, 2, none⟩ = some (.int .i64 r) := q2.cell (j := 2) rfl
        have c3 : (w2.alloc (.cells #[.int .i64 a, .int .i64 (-1), .int .i64 r, .int .i64 v0, .int .i64 v1] 24)).cell? ⟨B0, 3, none⟩ = some (.int .i64 v0) := q2.cell (j := 3) rfl
        have c4 : (w2.alloc (.cells #[.int .i64 a, .int .i64 (-1), .int .i64 r, .int .i64 v0, .int .i64 v1] 24)).cell? ⟨B0, 4, none⟩ = some (.int .i64 v1) := q2.cell (j := 4) rfl
        go_wp2_with fail
        rw [← hB6]
        refine (HRG.out _).mono ?_
        rintro e w4 ⟨rfl, hb4⟩
        clear HRG hB6 c0 c1 c2 c3 c4 hb3
        have r2 := q2.below hb4 q2.lt
        have r6 := k6.below hb4 k6.lt
        have hB4 : Below w.heap.size w w4 := hB3.trans (hb4.mono hB3.size)
        clear q2 k6 hb4 hB3
        have c0 : w4.cell? ⟨B0, 0, none⟩ = some (.int .i64 a) := r2.cell (j := 0) rfl
        have c1 : w4.cell? ⟨B0, 1, none⟩ = some (.int .i64 (-1)) := r2.cell (j := 1) rfl
        have c2 : w4.cell? ⟨B0, 2, none⟩ = some (.int .i64 r) := r2.cell (j := 2) rfl
        have c3 : w4.cell? ⟨B0, 3, none⟩ = some (.int .i64 v0) := r2.cell (j := 3) rfl
        have c4 : w4.cell? ⟨B0, 4, none⟩ = some (.int .i64 v1) := r2.cell (j := 4) rfl
        have d0 : w4.cell? ⟨B6, 0, none⟩ = some (.int .i64 a) := r6.cell (j := 0) rfl
        have d1 : w4.cell? ⟨B6, 1, none⟩ = some (.int .i64 (-1)) := r6.cell (j := 1) rfl
        have d2 : w4.cell? ⟨B6, 2, none⟩ = some (.int .i64 r) := r6.cell (j := 2) rfl
        have d3 : w4.cell? ⟨B6, 3, none⟩ = some (.int .i64 v0) := r6.cell (j := 3) rfl
        have d4 : w4.cell? ⟨B6, 4, none⟩ = some (.int .i64 v1) := r6.cell (j := 4) rfl
        go_wp2_with fail
        refine (HRX.out trivial _).mono ?_
        rintro e w5 ⟨rfl, hb5⟩
        clear c0 c1 c2 c3 c4 d0 d1 d2 d3 d4 HRX
        have s2 := r2.below hb5 r2.lt
        have s6 := r6.below hb5 r6.lt
        have hB5 : Below w.heap.size w w5 := hB4.trans (hb5.mono hB4.size)
        clear r2 r6 hb5 hB4
        have c0 : w5.cell? ⟨B0, 0, none⟩ = some (.int .i64 a) := s2.cell (j := 0) rfl
        have c1 : w5.cell? ⟨B0, 1, none⟩ = some (.int .i64 (-1)) := s2.cell (j := 1) rfl
        have c2 : w5.cell? ⟨B0, 2, none⟩ = some (.int .i64 r) := s2.cell (j := 2) rfl
        have c3 : w5.cell? ⟨B0, 3, none⟩ = some (.int .i64 v0) := s2.cell (j := 3) rfl
        have c4 : w5.cell? ⟨B0, 4, none⟩ = some (.int .i64 v1) := s2.cell (j := 4) rfl
        have d0 : w5.cell? ⟨B6, 0, none⟩ = some (.int .i64 a) := s6.cell (j := 0) rfl
        have d1 : w5.cell? ⟨B6, 1, none⟩ = some (.int .i64 (-1)) := s6.cell (j := 1) rfl
        have d2 : w5.cell? ⟨B6, 2, none⟩ = some (.int .i64 r) := s6.cell (j := 2) rfl
        have d3 : w5.cell? ⟨B6, 3, none⟩ = some (.int .i64 v0) := s6.cell (j := 3) rfl
        have d4 : w5.cell? ⟨B6, 4, none⟩ = some (.int .i64 v1) := s6.cell (j := 4) rfl
        go_wp2
        go_ret
        exact ⟨rfl, hB5⟩
      · have g1 : (a == -1) = false := by simpa using ha
        clear ha
        have hb3 := (Below.refl w2.heap.size w2).alloc (Nat.le_refl _) (.cells #[.int .i64 a, .int .i64 (-1), .int .i64 r, .int .i64 v0, .int .i64 v1] 24)
        have k6 := Blk.new w2 24 #[.int .i64 a, .int .i64 (-1), .int .i64 r, .int .i64 v0, .int .i64 v1]
        have q2 := n2.below hb3 n2.lt
        have hB3 : Below w.heap.size w (w2.alloc (.cells #[.int .i64 a, .int .i64 (-1), .int .i64 r, .int .i64 v0, .int .i64 v1] 24)) := hB2.trans (hb3.mono hB2.size)
        obtain ⟨B6, hB6⟩ : ∃ B6, B6 = w2.heap.size := ⟨_, rfl⟩
        rw [← hB6] at k6
        have c0 : (w2.alloc (.cells #[.int .i64 a, .int .i64 (-1), .int .i64 r, .int .i64 v0, .int .i64 v1] 24)).cell? ⟨B0, 0, none⟩ = some (.int .i64 a) := q2.cell (j := 0) rfl
        have c1 : (w2.alloc (.cells #[.int .i64 a, .int .i64 (-1), .int .i64 r, .int .i64 v0, .int .i64 v1] 24)).cell? ⟨B0, 1, none⟩ = some (.int .i64 (-1)) := q2.cell (j := 1) rfl
        have c2 : (w2.alloc (.cells #[.int .i64 a, .int .i64 (-1), .int .i64 r, .int .i64 v0, .int .i64 v1] 24)).cell? ⟨B0, 2, none⟩ = some (.int .i64 r) := q2.cell (j := 2) rfl
        have c3 : (w2.alloc (.cells #[.int .i64 a, .int .i64 (-1), .int .i64 r, .int .i64 v0, .int .i64 v1] 24)).cell? ⟨B0, 3, none⟩ = some (.int .i64 v0) := q2.cell (j := 3) rfl
        have c4 : (w2.alloc (.cells #[.int .i64 a, .int .i64 (-1), .int .i64 r, .int .i64 v0, .int .i64 v1] 24)).cell? ⟨B0, 4, none⟩ = some (.int .i64 v1) := q2.cell (j := 4) rfl
        go_wp2_with fail
        rw [← hB6]
        refine (HRG.out _).mono ?_
        rintro e w4 ⟨rfl, hb4⟩
        clear HRG hB6 c0 c1 c2 c3 c4 hb3
        have r2 := q2.below hb4 q2.lt
        have r6 := k6.below hb4 k6.lt
        have hB4 : Below w.heap.size w w4 := hB3.trans (hb4.mono hB3.size)
        clear q2 k6 hb4 hB3
        have c0 : w4.cell? ⟨B0, 0, none⟩ = some (.int .i64 a) := r2.cell (j := 0) rfl
        have c1 : w4.cell? ⟨B0, 1, none⟩ = some (.int .i64 (-1)) := r2.cell (j := 1) rfl
        have c2 : w4.cell? ⟨B0, 2, none⟩ = some (.int .i64 r) := r2.cell (j := 2) rfl
        have c3 : w4.cell? ⟨B0, 3, none⟩ = some (.int .i64 v0) := r2.cell (j := 3) rfl
        have c4 : w4.cell? ⟨B0, 4, none⟩ = some (.int .i64 v1) := r2.cell (j := 4) rfl
        have d0 : w4.cell? ⟨B6, 0, none⟩ = some (.int .i64 a) := r6.cell (j := 0) rfl
        have d1 : w4.cell? ⟨B6, 1, none⟩ = some (.int .i64 (-1)) := r6.cell (j := 1) rfl
        have d2 : w4.cell? ⟨B6, 2, none⟩ = some (.int .i64 r) := r6.cell (j := 2) rfl
        have d3 : w4.cell? ⟨B6, 3, none⟩ = some (.int .i64 v0) := r6.cell (j := 3) rfl
        have d4 : w4.cell? ⟨B6, 4, none⟩ = some (.int .i64 v1) := r6.cell (j := 4) rfl
        go_wp2_with fail
        refine (HRX.out trivial _).mono ?_
        rintro e w5 ⟨rfl, hb5⟩
        clear c0 c1 c2 c3 c4 d0 d1 d2 d3 d4 HRX
        have s2 := r2.below hb5 r2.lt
        have s6 := r6.below hb5 r6.lt
        have hB5 : Below w.heap.size w w5 := hB4.trans (hb5.mono hB4.size)
        clear r2 r6 hb5 hB4
        have c0 : w5.cell? ⟨B0, 0, none⟩ = some (.int .i64 a) := s2.cell (j := 0) rfl
        have c1 : w5.cell? ⟨B0, 1, none⟩ = some (.int .i64 (-1)) := s2.cell (j := 1) rfl
        have c2 : w5.cell? ⟨B0, 2, none⟩ = some (.int .i64 r) := s2.cell (j := 2) rfl
        have c3 : w5.cell? ⟨B0, 3, none⟩ = some (.int .i64 v0) := s2.cell (j := 3) rfl
        have c4 : w5.cell? ⟨B0, 4, none⟩ = some (.int .i64 v1) := s2.cell (j := 4) rfl
        have d0 : w5.cell? ⟨B6, 0, none⟩ = some (.int .i64 a) := s6.cell (j := 0) rfl
        have d1 : w5.cell? ⟨B6, 1, none⟩ = some (.int .i64 (-1)) := s6.cell (j := 1) rfl
        have d2 : w5.cell? ⟨B6, 2, none⟩ = some (.int .i64 r) := s6.cell (j := 2) rfl
        have d3 : w5.cell? ⟨B6, 3, none⟩ = some (.int .i64 v0) := s6.cell (j := 3) rfl
        have d4 : w5.cell? ⟨B6, 4, none⟩ = some (.int .i64 v1) := s6.cell (j := 4) rfl
        go_wp2
        go_ret
        exact ⟨rfl, hB5⟩
    have g0 := hne t ht
    rw [if_neg (fun h => by rcases h with h | h; cases h; exact ht h)] at HN
    clear hne
    by_cases hm : most ≤ r
    · rw [if_pos hm] at HN
      obtain rfl := HN.out
      clear HN hm ht
      by_cases ha : a = -1
      · have g1 : (a == -1) = true := by simpa using ha
        clear ha
        have hb3 := (Below.refl w2.heap.size w2).alloc (Nat.le_refl _) (.cells #[.int .i64 a, .int .i64 (-1), .int .i64 0, .int .i64 v0, .int .i64 v1] 24)
        have k6 := Blk.new w2 24 #[.int .i64 a, .int .i64 (-1), .int .i64 0, .int .i64 v0, .int .i64 v1]
        have q2 := n2.below hb3 n2.lt
        have hB3 : Below w.heap.size w (w2.alloc (.cells #[.int .i64 a, .int .i64 (-1), .int .i64 0, .int .i64 v0, .int .i64 v1] 24)) := hB2.trans (hb3.mono hB2.size)
        obtain ⟨B6, hB6⟩ : ∃ B6, B6 = w2.heap.size := ⟨_, rfl⟩
        rw [← hB6] at k6
        have c0 : (w2.alloc (.cells #[.int .i64 a, .int .i64 (-1), .int .i64 0, .int .i64 v0, .int .i64 v1] 24)).cell? ⟨B0, 0, none⟩ = some (.int .i64 a) := q2.cell (j := 0) rfl
        have c1 : (w2.alloc (.cells #[.int .i64 a, .int .i64 (-1), .int .i64 0, .int .i64 v0, .int .i64 v1] 24)).cell? ⟨B0, 1, none⟩ = some (.int .i64 t) := q2.cell (j := 1) rfl
        have c2 : (w2.alloc (.cells #[.int .i64 a, .int .i64 (-1), .int .i64 0, .int .i64 v0, .int .i64 v1] 24)).cell? ⟨B0, 2, none⟩ = some (.int .i64 r) := q2.cell (j := 2) rfl
        have c3 : (w2.alloc (.cells #[.int .i64 a, .int .i64 (-1), .int .i64 0, .int .i64 v0, .int .i64 v1] 24)).cell? ⟨B0, 3, none⟩ = some (.int .i64 v0) := q2.cell (j := 3) rfl
        have c4 : (w2.alloc (.cells #[.int .i64 a, .int .i64 (-1), .int .i64 0, .int .i64 v0, .int .i64 v1] 24)).cell? ⟨B0, 4, none⟩ = some (.int .i64 v1) := q2.cell (j := 4) rfl
        go_wp2_with fail
        rw [← hB6]
        refine (HRG.out _).mono ?_
        rintro e w4 ⟨rfl, hb4⟩
        clear HRG hB6 c0 c1 c2 c3 c4 hb3
        have r2 := q2.below hb4 q2.lt
        have r6 := k6.below hb4 k6.lt
        have hB4 : Below w.heap.size w w4 := hB3.trans (hb4.mono hB3.size)
        clear q2 k6 hb4 hB3
        have c0 : w4.cell? ⟨B0, 0, none⟩ = some (.int .i64 a) := r2.cell (j := 0) rfl
        have c1 : w4.cell? ⟨B0, 1, none⟩ = some (.int .i64 t) := r2.cell (j := 1) rfl
        have c2 : w4.cell? ⟨B0, 2, none⟩ = some (.int .i64 r) := r2.cell (j := 2) rfl
        have c3 : w4.cell? ⟨B0, 3, none⟩ = some (.int .i64 v0) := r2.cell (j := 3) rfl
        have c4 : w4.cell? ⟨B0, 4, none⟩ = some (.int .i64 v1) := r2.cell (j := 4) rfl
        have d0 : w4.cell? ⟨B6, 0, none⟩ = some (.int .i64 a) := r6.cell (j := 0) rfl
        have d1 : w4.cell? ⟨B6, 1, none⟩ = some (.int .i64 (-1)) := r6.cell (j := 1) rfl
        have d2 : w4.cell? ⟨B6, 2, none⟩ = some (.int .i64 0) := r6.cell (j := 2) rfl
        have d3 : w4.cell? ⟨B6, 3, none⟩ = some (.int .i64 v0) := r6.cell (j := 3) rfl
        have d4 : w4.cell? ⟨B6, 4, none⟩ = some (.int .i64 v1) := r6.cell (j := 4) rfl
        go_wp2_with fail
        refine (HRX.out trivial _).mono ?_
        rintro e w5 ⟨rfl, hb5⟩
        clear c0 c1 c2 c3 c4 d0 d1 d2 d3 d4 HRX
        have s2 := r2.below hb5 r2.lt
        have s6 := r6.below hb5 r6.lt
        have hB5 : Below w.heap.size w w5 := hB4.trans (hb5.mono hB4.size)
        clear r2 r6 hb5 hB4
        have c0 : w5.cell? ⟨B0, 0, none⟩ = some (.int .i64 a) := s2.cell (j := 0) rfl
        have c1 : w5.cell? ⟨B0, 1, none⟩ = some (.int .i64 t) := s2.cell (j := 1) rfl
        have c2 : w5.cell? ⟨B0, 2, none⟩ = some (.int .i64 r) := s2.cell (j := 2) rfl
        have c3 : w5.cell? ⟨B0, 3, none⟩ = some (.int .i64 v0) := s2.cell (j := 3) rfl
        have c4 : w5.cell? ⟨B0, 4, none⟩ = some (.int .i64 v1) := s2.cell (j := 4) rfl
        have d0 : w5.cell? ⟨B6, 0, none⟩ = some (.int .i64 a) := s6.cell (j := 0) rfl
        have d1 : w5.cell? ⟨B6, 1, none⟩ = some (.int .i64 (-1)) := s6.cell (j := 1) rfl
        have d2 : w5.cell? ⟨B6, 2, none⟩ = some (.int .i64 0) := s6.cell (j := 2) rfl
        have d3 : w5.cell? ⟨B6, 3, none⟩ = some (.int .i64 v0) := s6.cell (j := 3) rfl
        have d4 : w5.cell? ⟨B6, 4, none⟩ = some (.int .i64 v1) := s6.cell (j := 4) rfl
        go_wp2
        go_ret
        exact ⟨rfl, hB5⟩
      · have g1 : (a == -1) = false := by simpa using ha
        clear ha
        have hb3 := (Below.refl w2.heap.size w2).alloc (Nat.le_refl _) (.cells #[.int .i64 a, .int .i64 (-1), .int .i64 0, .int .i64 v0, .int .i64 v1] 24)
        have k6 := Blk.new w2 24 #[.int .i64 a, .int .i64 (-1), .int .i64 0, .int .i64 v0, .int .i64 v1]
        have q2 := n2.below hb3 n2.lt
        have hB3 : Below w.heap.size w (w2.alloc (.cells #[.int .i64 a, .int .i64 (-1), .int .i64 0, .int .i64 v0, .int .i64 v1] 24)) := hB2.trans (hb3.mono hB2.size)
        obtain ⟨B6, hB6⟩ : ∃ B6, B6 = w2.heap.size := ⟨_, rfl⟩
        rw [← hB6] at k6
        have c0 : (w2.alloc (.cells #[.int .i64 a, .int .i64 (-1), .int .i64 0, .int .i64 v0, .int .i64 v1] 24)).cell? ⟨B0, 0, none⟩ = some (.int .i64 a) := q2.cell (j := 0) rfl
        have c1 : (w2.alloc (.cells #[.int .i64 a, .int .i64 (-1), .int .i64 0, .int .i64 v0, .int .i64 v1] 24)).cell? ⟨B0, 1, none⟩ = some (.int .i64 t) := q2.cell (j := 1) rfl
        have c2 : (w2.alloc (.cells #[.int .i64 a, .int .i64 (-1), .int .i64 0, .int .i64 v0, .int .i64 v1] 24)).cell? ⟨B0, 2, none⟩ = some (.int .i64 r) := q2.cell (j := 2) rfl
        have c3 : (w2.alloc (.cells #[.int .i64 a, .int .i64 (-1), .int .i64 0, .int .i64 v0, .int .i64 v1] 24)).cell? ⟨B0, 3, none⟩ = some (.int .i64 v0) := q2.cell (j := 3) rfl
        have c4 : (w2.alloc (.cells #[.int .i64 a, .int .i64 (-1), .int .i64 0, .int .i64 v0, .int .i64 v1] 24)).cell? ⟨B0, 4, none⟩ = some (.int .i64 v1) := q2.cell (j := 4) rfl
        go_wp2_with fail
        rw [← hB6]
        refine (HRG.out _).mono ?_
        rintro e w4 ⟨rfl, hb4⟩
        clear HRG hB6 c0 c1 c2 c3 c4 hb3
        have r2 := q2.below hb4 q2.lt
        have r6 := k6.below hb4 k6.lt
        have hB4 : Below w.heap.size w w4 := hB3.trans (hb4.mono hB3.size)
        clear q2 k6 hb4 hB3
        have c0 : w4.cell? ⟨B0, 0, none⟩ = some (.int .i64 a) := r2.cell (j := 0) rfl
        have c1 : w4.cell? ⟨B0, 1, none⟩ = some (.int .i64 t) := r2.cell (j := 1) rfl
        have c2 : w4.cell? ⟨B0, 2, none⟩ = some (.int .i64 r) := r2.cell (j := 2) rfl
        have c3 : w4.cell? ⟨B0, 3, none⟩ = some (.int .i64 v0) := r2.cell (j := 3) rfl
        have c4 : w4.cell? ⟨B0, 4, none⟩ = some (.int .i64 v1) := r2.cell (j := 4) rfl
        have d0 : w4.cell? ⟨B6, 0, none⟩ = some (.int .i64 a) := r6.cell (j := 0) rfl
        have d1 : w4.cell? ⟨B6, 1, none⟩ = some (.int .i64 (-1)) := r6.cell (j := 1) rfl
        have d2 : w4.cell? ⟨B6, 2, none⟩ = some (.int .i64 0) := r6.cell (j := 2) rfl
        have d3 : w4.cell? ⟨B6, 3, none⟩ = some (.int .i64 v0) := r6.cell (j := 3) rfl
        have d4 : w4.cell? ⟨B6, 4, none⟩ = some (.int .i64 v1) := r6.cell (j := 4) rfl
        go_wp2_with fail
        refine (HRX.out trivial _).mono ?_
        rintro e w5 ⟨rfl, hb5⟩
        clear c0 c1 c2 c3 c4 d0 d1 d2 d3 d4 HRX
        have s2 := r2.below hb5 r2.lt
        have s6 := r6.below hb5 r6.lt
        have hB5 : Below w.heap.size w w5 := hB4.trans (hb5.mono hB4.size)
        clear r2 r6 hb5 hB4
        have c0 : w5.cell? ⟨B0, 0, none⟩ = some (.int .i64 a) := s2.cell (j := 0) rfl
        have c1 : w5.cell? ⟨B0, 1, none⟩ = some (.int .i64 t) := s2.cell (j := 1) rfl
        have c2 : w5.cell? ⟨B0, 2, none⟩ = some (.int .i64 r) := s2.cell (j := 2) rfl
        have c3 : w5.cell? ⟨B0, 3, none⟩ = some (.int .i64 v0) := s2.cell (j := 3) rfl
        have c4 : w5.cell? ⟨B0, 4, none⟩ = some (.int .i64 v1) := s2.cell (j := 4) rfl
        have d0 : w5.cell? ⟨B6, 0, none⟩ = some (.int .i64 a) := s6.cell (j := 0) rfl
        have d1 : w5.cell? ⟨B6, 1, none⟩ = some (.int .i64 (-1)) := s6.cell (j := 1) rfl
        have d2 : w5.cell? ⟨B6, 2, none⟩ = some (.int .i64 0) := s6.cell (j := 2) rfl
        have d3 : w5.cell? ⟨B6, 3, none⟩ = some (.int .i64 v0) := s6.cell (j := 3) rfl
        have d4 : w5.cell? ⟨B6, 4, none⟩ = some (.int .i64 v1) := s6.cell (j := 4) rfl
        go_wp2
        go_ret
        exact ⟨rfl, hB5⟩
    · rw [if_neg hm] at HN
      obtain rfl := HN.out
      clear HN hm ht
      by_cases ha : t = a
      · have g1 : (t == a) = true := by simpa using ha
        clear ha
        have hb3 := (Below.refl w2.heap.size w2).alloc (Nat.le_refl _) (.cells #[.int .i64 a, .int .i64 t, .int .i64 (min (r + 1) 15), .int .i64 v0, .int .i64 v1] 24)
        have k6 := Blk.new w2 24 #[.int .i64 a, .int .i64 t, .int .i64 (min (r + 1) 15), .int .i64 v0, .int .i64 v1]
        have q2 := n2.below hb3 n2.lt
        have hB3 : Below w.heap.size w (w2.alloc (.cells #[.int .i64 a, .int .i64 t, .int .i64 (min (r + 1) 15), .int .i64 v0, .int .i64 v1] 24)) := hB2.trans (hb3.mono hB2.size)
        obtain ⟨B6, hB6⟩ : ∃ B6, B6 = w2.heap.size := ⟨_, rfl⟩
        rw [← hB6] at k6
        have c0 : (w2.alloc (.cells #[.int .i64 a, .int .i64 t, .int .i64 (min (r + 1) 15), .int .i64 v0, .int .i64 v1] 24)).cell? ⟨B0, 0, none⟩ = some (.int .i64 a) := q2.cell (j := 0) rfl
        have c1 : (w2.alloc (.cells #[.int .i64 a, .int .i64 t, .int .i64 (min (r + 1) 15), .int .i64 v0, .int .i64 v1] 24)).cell? ⟨B0, 1, none⟩ = some (.int .i64 t) := q2.cell (j := 1) rfl
        have c2 : (w2.alloc (.cells #[.int .i64 a, .int .i64 t, .int .i64 (min (r + 1) 15), .int .i64 v0, .int .i64 v1] 24)).cell? ⟨B0, 2, none⟩ = some (.int .i64 r) := q2.cell (j := 2) rfl
        have c3 : (w2.alloc (.cells #[.int .i64 a, .int .i64 t, .int .i64 (min (r + 1) 15), .int .i64 v0, .int .i64 v1] 24)).cell? ⟨B0, 3, none⟩ = some (.int .i64 v0) := q2.cell (j := 3) rfl
        have c4 : (w2.alloc (.cells #[.int .i64 a, .int .i64 t, .int .i64 (min (r + 1) 15), .int .i64 v0, .int .i64 v1] 24)).cell? ⟨B0, 4, none⟩ = some (.int .i64 v1) := q2.cell (j := 4) rfl
        go_wp2_with fail
        rw [← hB6]
        refine (HRG.out _).mono ?_
        rintro e w4 ⟨rfl, hb4⟩
        clear HRG hB6 c0 c1 c2 c3 c4 hb3
        have r2 := q2.below hb4 q2.lt
        have r6 := k6.below hb4 k6.lt
        have hB4 : Below w.heap.size w w4 := hB3.trans (hb4.mono hB3.size)
        clear q2 k6 hb4 hB3
        have c0 : w4.cell? ⟨B0, 0, none⟩ = some (.int .i64 a) := r2.cell (j := 0) rfl
        have c1 : w4.cell? ⟨B0, 1, none⟩ = some (.int .i64 t) := r2.cell (j := 1) rfl
        have c2 : w4.cell? ⟨B0, 2, none⟩ = some (.int .i64 r) := r2.cell (j := 2) rfl
        have c3 : w4.cell? ⟨B0, 3, none⟩ = some (.int .i64 v0) := r2.cell (j := 3) rfl
        have c4 : w4.cell? ⟨B0, 4, none⟩ = some (.int .i64 v1) := r2.cell (j := 4) rfl
        have d0 : w4.cell? ⟨B6, 0, none⟩ = some (.int .i64 a) := r6.cell (j := 0) rfl
        have d1 : w4.cell? ⟨B6, 1, none⟩ = some (.int .i64 t) := r6.cell (j := 1) rfl
        have d2 : w4.cell? ⟨B6, 2, none⟩ = some (.int .i64 (min (r + 1) 15)) := r6.cell (j := 2) rfl
        have d3 : w4.cell? ⟨B6, 3, none⟩ = some (.int .i64 v0) := r6.cell (j := 3) rfl
        have d4 : w4.cell? ⟨B6, 4, none⟩ = some (.int .i64 v1) := r6.cell (j := 4) rfl
        go_wp2_with fail
        refine (HRX.out trivial _).mono ?_
        rintro e w5 ⟨rfl, hb5⟩
        clear c0 c1 c2 c3 c4 d0 d1 d2 d3 d4 HRX
        have s2 := r2.below hb5 r2.lt
        have s6 := r6.below hb5 r6.lt
        have hB5 : Below w.heap.size w w5 := hB4.trans (hb5.mono hB4.size)
        clear r2 r6 hb5 hB4
        have c0 : w5.cell? ⟨B0, 0, none⟩ = some (.int .i64 a) := s2.cell (j := 0) rfl
        have c1 : w5.cell? ⟨B0, 1, none⟩ = some (.int .i64 t) := s2.cell (j := 1) rfl
        have c2 : w5.cell? ⟨B0, 2, none⟩ = some (.int .i64 r) := s2.cell (j := 2) rfl
        have c3 : w5.cell? ⟨B0, 3, none⟩ = some (.int .i64 v0) := s2.cell (j := 3) rfl
        have c4 : w5.cell? ⟨B0, 4, none⟩ = some (.int .i64 v1) := s2.cell (j := 4) rfl
        have d0 : w5.cell? ⟨B6, 0, none⟩ = some (.int .i64 a) := s6.cell (j := 0) rfl
        have d1 : w5.cell? ⟨B6, 1, none⟩ = some (.int .i64 t) := s6.cell (j := 1) rfl
        have d2 : w5.cell? ⟨B6, 2, none⟩ = some (.int .i64 (min (r + 1) 15)) := s6.cell (j := 2) rfl
        have d3 : w5.cell? ⟨B6, 3, none⟩ = some (.int .i64 v0) := s6.cell (j := 3) rfl
        have d4 : w5.cell? ⟨B6, 4, none⟩ = some (.int .i64 v1) := s6.cell (j := 4) rfl
        go_wp2
        go_ret
        exact ⟨rfl, hB5⟩
      · have g1 : (t == a) = false := by simpa using ha
        clear ha
        have hb3 := (Below.refl w2.heap.size w2).alloc (Nat.le_refl _) (.cells #[.int .i64 a, .int .i64 t, .int .i64 (min (r + 1) 15), .int .i64 v0, .int .i64 v1] 24)
        have k6 := Blk.new w2 24 #[.int .i64 a, .int .i64 t, .int .i64 (min (r + 1) 15), .int .i64 v0, .int .i64 v1]
        have q2 := n2.below hb3 n2.lt
        have hB3 : Below w.heap.size w (w2.alloc (.cells #[.int .i64 a, .int .i64 t, .int .i64 (min (r + 1) 15), .int .i64 v0, .int .i64 v1] 24)) := hB2.trans (hb3.mono hB2.size)
        obtain ⟨B6, hB6⟩ : ∃ B6, B6 = w2.heap.size := ⟨_, rfl⟩
        rw [← hB6] at k6
        have c0 : (w2.alloc (.cells #[.int .i64 a, .int .i64 t, .int .i64 (min (r + 1) 15), .int .i64 v0, .int .i64 v1] 24)).cell? ⟨B0, 0, none⟩ = some (.int .i64 a) := q2.cell (j := 0) rfl
        have c1 : (w2.alloc (.cells #[.int .i64 a, .int .i64 t, .int .i64 (min (r + 1) 15), .int .i64 v0, .int .i64 v1] 24)).cell? ⟨B0, 1, none⟩ = some (.int .i64 t) := q2.cell (j := 1) rfl
        have c2 : (w2.alloc (.cells #[.int .i64 a, .int .i64 t, .int .i64 (min (r + 1) 15), .int .i64 v0, .int .i64 v1] 24)).cell? ⟨B0, 2, none⟩ = some (.int .i64 r) := q2.cell (j := 2) rfl
        have c3 : (w2.alloc (.cells #[.int .i64 a, .int .i64 t, .int .i64 (min (r + 1) 15), .int .i64 v0, .int .i64 v1] 24)).cell? ⟨B0, 3, none⟩ = some (.int .i64 v0) := q2.cell (j := 3) rfl
        have c4 : (w2.alloc (.cells #[.int .i64 a, .int .i64 t, .int .i64 (min (r + 1) 15), .int .i64 v0, .int .i64 v1] 24)).cell? ⟨B0, 4, none⟩ = some (.int .i64 v1) := q2.cell (j := 4) rfl
        go_wp2_with fail
        rw [← hB6]
        refine (HRG.out _).mono ?_
        rintro e w4 ⟨rfl, hb4⟩
        clear HRG hB6 c0 c1 c2 c3 c4 hb3
        have r2 := q2.below hb4 q2.lt
        have r6 := k6.below hb4 k6.lt
        have hB4 : Below w.heap.size w w4 := hB3.trans (hb4.mono hB3.size)
        clear q2 k6 hb4 hB3
        have c0 : w4.cell? ⟨B0, 0, none⟩ = some (.int .i64 a) := r2.cell (j := 0) rfl
        have c1 : w4.cell? ⟨B0, 1, none⟩ = some (.int .i64 t) := r2.cell (j := 1) rfl
        have c2 : w4.cell? ⟨B0, 2, none⟩ = some (.int .i64 r) := r2.cell (j := 2) rfl
        have c3 : w4.cell? ⟨B0, 3, none⟩ = some (.int .i64 v0) := r2.cell (j := 3) rfl
        have c4 : w4.cell? ⟨B0, 4, none⟩ = some (.int .i64 v1) := r2.cell (j := 4) rfl
        have d0 : w4.cell? ⟨B6, 0, none⟩ = some (.int .i64 a) := r6.cell (j := 0) rfl
        have d1 : w4.cell? ⟨B6, 1, none⟩ = some (.int .i64 t) := r6.cell (j := 1) rfl
        have d2 : w4.cell? ⟨B6, 2, none⟩ = some (.int .i64 (min (r + 1) 15)) := r6.cell (j := 2) rfl
        have d3 : w4.cell? ⟨B6, 3, none⟩ = some (.int .i64 v0) := r6.cell (j := 3) rfl
        have d4 : w4.cell? ⟨B6, 4, none⟩ = some (.int .i64 v1) := r6.cell (j := 4) rfl
        go_wp2_with fail
        refine (HRX.out trivial _).mono ?_
        rintro e w5 ⟨rfl, hb5⟩
        clear c0 c1 c2 c3 c4 d0 d1 d2 d3 d4 HRX
        have s2 := r2.below hb5 r2.lt
        have s6 := r6.below hb5 r6.lt
        have hB5 : Below w.heap.size w w5 := hB4.trans (hb5.mono hB4.size)
        clear r2 r6 hb5 hB4
        have c0 : w5.cell? ⟨B0, 0, none⟩ = some (.int .i64 a) := s2.cell (j := 0) rfl
        have c1 : w5.cell? ⟨B0, 1, none⟩ = some (.int .i64 t) := s2.cell (j := 1) rfl
        have c2 : w5.cell? ⟨B0, 2, none⟩ = some (.int .i64 r) := s2.cell (j := 2) rfl
        have c3 : w5.cell? ⟨B0, 3, none⟩ = some (.int .i64 v0) := s2.cell (j := 3) rfl
        have c4 : w5.cell? ⟨B0, 4, none⟩ = some (.int .i64 v1) := s2.cell (j := 4) rfl
        have d0 : w5.cell? ⟨B6, 0, none⟩ = some (.int .i64 a) := s6.cell (j := 0) rfl
        have d1 : w5.cell? ⟨B6, 1, none⟩ = some (.int .i64 t) := s6.cell (j := 1) rfl
        have d2 : w5.cell? ⟨B6, 2, none⟩ = some (.int .i64 (min (r + 1) 15)) := s6.cell (j := 2) rfl
        have d3 : w5.cell? ⟨B6, 3, none⟩ = some (.int .i64 v0) := s6.cell (j := 3) rfl
        have d4 : w5.cell? ⟨B6, 4, none⟩ = some (.int .i64 v1) := s6.cell (j := 4) rfl
        go_wp2
        go_ret
        exact ⟨rfl, hB5⟩
end Go.Proofs.YtlnekjilafcojaaDoor
