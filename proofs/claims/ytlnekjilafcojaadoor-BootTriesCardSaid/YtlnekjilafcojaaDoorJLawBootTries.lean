/-
  What is proved here: BootTries: a device that begins again and again with a trial begins with it so many times, and then with the committed slot, for good.
  Conditions: the variable fourBits holds the sixteen words.
-/
import Derived.Test.YtlnekjilafcojaaDoorJBootEq
namespace Go.Proofs.YtlnekjilafcojaaDoor
open Go.RowKit

theorem next_try {a t r v0 v1 most : Int} (h : BR.ok ⟨a, t, r, v0, v1⟩) (ht : 0 ≤ t) (hm : most ≤ 14) (hl : r < most) : nextR ⟨a, t, r, v0, v1⟩ most = (⟨a, t, r + 1, v0, v1⟩, t) := by
  unfold nextR rightR
  rw [decide_eq_true h]
  dsimp only
  rw [if_neg (fun hh => by rcases hh with h5 | h5; cases h5; have h6 : t = -1 := h5; omega), if_neg (by omega)]
  obtain ⟨_, ⟨h1, h2⟩, _⟩ := h
  dsimp only at h1 h2
  rw [show min (r + 1) 15 = r + 1 by omega]
theorem next_back {a t r v0 v1 most : Int} (h : BR.ok ⟨a, t, r, v0, v1⟩) (ht : 0 ≤ t) (hl : most ≤ r) : nextR ⟨a, t, r, v0, v1⟩ most = (⟨a, -1, 0, v0, v1⟩, a) := by
  unfold nextR rightR
  rw [decide_eq_true h]
  dsimp only
  rw [if_neg (fun hh => by rcases hh with h5 | h5; cases h5; have h6 : t = -1 := h5; omega), if_pos hl]
theorem next_none (a v0 v1 most : Int) : nextR ⟨a, -1, 0, v0, v1⟩ most = (⟨a, -1, 0, v0, v1⟩, a) := by
  unfold nextR
  rw [if_pos (.inr rfl)]
theorem ok_more {a t r v0 v1 : Int} (h : BR.ok ⟨a, t, r, v0, v1⟩) (ht : 0 ≤ t) (s : Int) (h0 : 0 ≤ s) (h1 : s ≤ 15) : BR.ok ⟨a, t, s, v0, v1⟩ := by
  obtain ⟨k1, k2, k3, k4, k5⟩ := h
  dsimp only at *
  exact ⟨k1, ⟨h0, h1⟩, k3, k4, .inr ⟨by show t ≠ -1; omega, by show t = 1 - a; omega⟩⟩

set_option maxRecDepth 100000 in
set_option maxHeartbeats 8000000 in
theorem bootTries_any (b : BR) (most : Int) (w : World) (hgf : 1 < w.heap.size) (hf : Tab w 1 (fours.map v32)) : Calls Tryd.prog 6 #[brV b, .int .i64 most] w fun e w' => e = .returned (.bool true) ∧ Below w.heap.size w w' := by
  have hB0 := (Below.refl w.heap.size w).alloc (Nat.le_refl _) (.cells (brL b) 24)
  have k2 := Blk.new w 24 (brL b)
  have HA : Hid (Calls Tryd.prog 9 #[] (w.alloc (.cells (brL b) 24)) fun e w' => e = .returned (.bool true) ∧ Below (w.alloc (.cells (brL b) 24)).heap.size (w.alloc (.cells (brL b) 24)) w') := awake9_any _ (Nat.lt_of_lt_of_le hgf hB0.size) (hf.below hB0 hgf)
  have HNX : Hid (∀ (a t r v0 v1 : Int) W, Calls Tryd.prog 10 #[.agg #[.int .i64 a, .int .i64 t, .int .i64 r, .int .i64 v0, .int .i64 v1], .int .i64 most] W fun e w' => e = .returned (.tuple #[brV (nextR ⟨a, t, r, v0, v1⟩ most).1, .int .i64 (nextR ⟨a, t, r, v0, v1⟩ most).2]) ∧ Below W.heap.size W w') := fun a t r v0 v1 W => next9_any ⟨a, t, r, v0, v1⟩ most W
  have HRG : Hid (∀ W, Calls Tryd.prog 12 #[brV b] W fun e w' => e = .returned (.bool (rightR b)) ∧ Below W.heap.size W w') := fun W => right9_any b W
  have HOK : Hid (rightR b = true → b.ok) := fun h => of_decide_eq_true h
  clear hf
  generalize rightR b = RB at *
  obtain ⟨a, t, r, v0, v1⟩ := b
  have hnv : ∀ w, (binOp .neq 22 (.agg #[.int .i64 v0, .int .i64 v1]) (.agg #[.int .i64 v0, .int .i64 v1])).run Tryd.prog w = .ok (.bool false) w := fun w => by rw [ne_two]; simp
  unfold brV brL at *
  simp only at *
  go_enter Tryd.func6, Tryd.ntmps6
  go_wp2_with fail
  refine HA.out.mono ?_
  rintro e w1 ⟨rfl, hb1⟩
  clear HA
  have m2 := k2.below hb1 k2.lt
  have hB1 : Below w.heap.size w w1 := hB0.trans (hb1.mono hB0.size)
  obtain ⟨B0, hBe⟩ : ∃ B0, B0 = w.heap.size := ⟨_, rfl⟩
  have hBw : w.heap.size ≤ B0 := by omega
  rw [← hBe] at m2 ⊢
  clear hBe k2 hb1 hB0
  have c0 : w1.cell? ⟨B0, 0, none⟩ = some (.int .i64 a) := m2.cell (j := 0) rfl
  have c1 : w1.cell? ⟨B0, 1, none⟩ = some (.int .i64 t) := m2.cell (j := 1) rfl
  have c2 : w1.cell? ⟨B0, 2, none⟩ = some (.int .i64 r) := m2.cell (j := 2) rfl
  have c3 : w1.cell? ⟨B0, 3, none⟩ = some (.int .i64 v0) := m2.cell (j := 3) rfl
  have c4 : w1.cell? ⟨B0, 4, none⟩ = some (.int .i64 v1) := m2.cell (j := 4) rfl
  go_wp2_with fail
  refine (HRG.out _).mono ?_
  rintro e w2 ⟨rfl, hb2⟩
  clear HRG c0 c1 c2 c3 c4
  have n2 := m2.below hb2 m2.lt
  have hB2 : Below w.heap.size w w2 := hB1.trans (hb2.mono hB1.size)
  clear m2 hb2 hB1
  have c0 : w2.cell? ⟨B0, 0, none⟩ = some (.int .i64 a) := n2.cell (j := 0) rfl
  have c1 : w2.cell? ⟨B0, 1, none⟩ = some (.int .i64 t) := n2.cell (j := 1) rfl
  have c2 : w2.cell? ⟨B0, 2, none⟩ = some (.int .i64 r) := n2.cell (j := 2) rfl
  have c3 : w2.cell? ⟨B0, 3, none⟩ = some (.int .i64 v0) := n2.cell (j := 3) rfl
  have c4 : w2.cell? ⟨B0, 4, none⟩ = some (.int .i64 v1) := n2.cell (j := 4) rfl
  cases RB with
  | false =>
    go_wp2
    go_ret
    exact ⟨rfl, hB2⟩
  | true =>
    have hok := HOK.out rfl
    clear HOK
    by_cases ht : t < 0
    · clear hok
      go_wp2
      go_ret
      exact ⟨rfl, hB2⟩
    by_cases hm0 : most < 0
    · clear hok
      go_wp2
      go_ret
      exact ⟨rfl, hB2⟩
    by_cases hm1 : 14 < most
    · clear hok
      go_wp2
      go_ret
      exact ⟨rfl, hB2⟩
    have ht0 : 0 ≤ t := by omega
    have hr15 : 0 ≤ r ∧ r ≤ 15 := hok.2.1
    have HOK : Hid (BR.ok ⟨a, t, r, v0, v1⟩) := hok
    have ht1 : (t == -1) = false := by rw [beq_eq_false_iff_ne]; omega
    clear hok ht1
    have hb3 := (Below.refl w2.heap.size w2).alloc (Nat.le_refl _) (.cells #[.int .i64 a, .int .i64 t, .int .i64 r, .int .i64 v0, .int .i64 v1] 24)
    have k7 := Blk.new w2 24 #[.int .i64 a, .int .i64 t, .int .i64 r, .int .i64 v0, .int .i64 v1]
    have q2 := n2.below hb3 n2.lt
    have hB3 : Below w.heap.size w (w2.alloc (.cells #[.int .i64 a, .int .i64 t, .int .i64 r, .int .i64 v0, .int .i64 v1] 24)) := hB2.trans (hb3.mono hB2.size)
    obtain ⟨B7, hB7⟩ : ∃ B7, B7 = w2.heap.size := ⟨_, rfl⟩
    rw [← hB7] at k7
    have hB07 : B0 ≠ B7 := by have := n2.lt; omega
    have hB7w : w.heap.size ≤ B7 := by have := hB2.size; omega
    have a2 : (w2.alloc (.cells #[.int .i64 a, .int .i64 t, .int .i64 r, .int .i64 v0, .int .i64 v1] 24)).cell? ⟨B0, 2, none⟩ = some (.int .i64 r) := q2.cell (j := 2) rfl
    go_wp2_with fail
    rw [← hB7]
    clear hB7 c0 c1 c2 c3 c4 a2 hb3 n2 hB2
    generalize (w2.alloc (.cells #[.int .i64 a, .int .i64 t, .int .i64 r, .int .i64 v0, .int .i64 v1] 24)) = W0 at *
    go_loopw [8] (fun i wr => ∃ I : Int, i = .int .i64 I ∧ 0 ≤ I ∧ I ≤ 15 ∧ Blk wr B0 24 #[.int .i64 a, .int .i64 t, .int .i64 I, .int .i64 v0, .int .i64 v1] ∧ Blk wr B7 24 #[.int .i64 a, .int .i64 t, .int .i64 r, .int .i64 v0, .int .i64 v1] ∧ Below w.heap.size w wr) (fun i _ => (most - intOf i).toNat)
    case atStart => exact ⟨r, rfl, hr15.1, hr15.2, q2, k7, hB3⟩
    case round =>
      obtain ⟨I, rfl, hI0, hI1, y0, y7, hBr⟩ := hrel
      clear q2 k7 hB3
      have c0 : wr.cell? ⟨B0, 0, none⟩ = some (.int .i64 a) := y0.cell (j := 0) rfl
      have c1 : wr.cell? ⟨B0, 1, none⟩ = some (.int .i64 t) := y0.cell (j := 1) rfl
      have c2 : wr.cell? ⟨B0, 2, none⟩ = some (.int .i64 I) := y0.cell (j := 2) rfl
      have c3 : wr.cell? ⟨B0, 3, none⟩ = some (.int .i64 v0) := y0.cell (j := 3) rfl
      have c4 : wr.cell? ⟨B0, 4, none⟩ = some (.int .i64 v1) := y0.cell (j := 4) rfl
      by_cases hlt : I < most
      · have hNX := HNX.out a t I v0 v1 wr
        rw [next_try (ok_more HOK.out ht0 I hI0 hI1) ht0 (by omega) hlt] at hNX
        dsimp only at hNX
        have HN1 : Hid (Calls Tryd.prog 10 #[.agg #[.int .i64 a, .int .i64 t, .int .i64 I, .int .i64 v0, .int .i64 v1], .int .i64 most] wr fun e w' => e = .returned (.tuple #[.agg #[.int .i64 a, .int .i64 t, .int .i64 (I + 1), .int .i64 v0, .int .i64 v1], .int .i64 t]) ∧ Below wr.heap.size wr w') := hNX
        have hwI : IntKind.i64.wrap (I + 1) = I + 1 := by rw [IntKind.wrap_i64]; omega
        clear hNX
        go_wp2_with fail
        refine HN1.out.mono ?_
        rintro e x2 ⟨rfl, hb2⟩
        clear HN1 c0 c1 c2 c3 c4
        have hb9 := (Below.refl x2.heap.size x2).alloc (Nat.le_refl _) (.cells #[.int .i64 a, .int .i64 t, .int .i64 (I + 1), .int .i64 v0, .int .i64 v1] 24)
        have k9 := Blk.new x2 24 #[.int .i64 a, .int .i64 t, .int .i64 (I + 1), .int .i64 v0, .int .i64 v1]
        obtain ⟨B9, hB9⟩ : ∃ B9, B9 = x2.heap.size := ⟨_, rfl⟩
        rw [← hB9] at k9
        have z0 := (y0.below hb2 y0.lt).below hb9 (Nat.lt_of_lt_of_le y0.lt hb2.size)
        have z7 := (y7.below hb2 y7.lt).below hb9 (Nat.lt_of_lt_of_le y7.lt hb2.size)
        have hBz : Below w.heap.size w (x2.alloc (.cells #[.int .i64 a, .int .i64 t, .int .i64 (I + 1), .int .i64 v0, .int .i64 v1] 24)) := (hBr.trans (hb2.mono hBr.size)).trans (hb9.mono (Nat.le_trans hBr.size hb2.size))
        have c0 : (x2.alloc (.cells #[.int .i64 a, .int .i64 t, .int .i64 (I + 1), .int .i64 v0, .int .i64 v1] 24)).cell? ⟨B0, 0, none⟩ = some (.int .i64 a) := z0.cell (j := 0) rfl
        have c1 : (x2.alloc (.cells #[.int .i64 a, .int .i64 t, .int .i64 (I + 1), .int .i64 v0, .int .i64 v1] 24)).cell? ⟨B0, 1, none⟩ = some (.int .i64 t) := z0.cell (j := 1) rfl
        have c2 : (x2.alloc (.cells #[.int .i64 a, .int .i64 t, .int .i64 (I + 1), .int .i64 v0, .int .i64 v1] 24)).cell? ⟨B0, 2, none⟩ = some (.int .i64 I) := z0.cell (j := 2) rfl
        have c3 : (x2.alloc (.cells #[.int .i64 a, .int .i64 t, .int .i64 (I + 1), .int .i64 v0, .int .i64 v1] 24)).cell? ⟨B0, 3, none⟩ = some (.int .i64 v0) := z0.cell (j := 3) rfl
        have c4 : (x2.alloc (.cells #[.int .i64 a, .int .i64 t, .int .i64 (I + 1), .int .i64 v0, .int .i64 v1] 24)).cell? ⟨B0, 4, none⟩ = some (.int .i64 v1) := z0.cell (j := 4) rfl
        have d0 : (x2.alloc (.cells #[.int .i64 a, .int .i64 t, .int .i64 (I + 1), .int .i64 v0, .int .i64 v1] 24)).cell? ⟨B9, 0, none⟩ = some (.int .i64 a) := k9.cell (j := 0) rfl
        have d1 : (x2.alloc (.cells #[.int .i64 a, .int .i64 t, .int .i64 (I + 1), .int .i64 v0, .int .i64 v1] 24)).cell? ⟨B9, 1, none⟩ = some (.int .i64 t) := k9.cell (j := 1) rfl
        have d2 : (x2.alloc (.cells #[.int .i64 a, .int .i64 t, .int .i64 (I + 1), .int .i64 v0, .int .i64 v1] 24)).cell? ⟨B9, 2, none⟩ = some (.int .i64 (I + 1)) := k9.cell (j := 2) rfl
        have d3 : (x2.alloc (.cells #[.int .i64 a, .int .i64 t, .int .i64 (I + 1), .int .i64 v0, .int .i64 v1] 24)).cell? ⟨B9, 3, none⟩ = some (.int .i64 v0) := k9.cell (j := 3) rfl
        have d4 : (x2.alloc (.cells #[.int .i64 a, .int .i64 t, .int .i64 (I + 1), .int .i64 v0, .int .i64 v1] 24)).cell? ⟨B9, 4, none⟩ = some (.int .i64 v1) := k9.cell (j := 4) rfl
        go_wp2_with (refine store_blk rfl 24 _ _ rfl rfl B0 #[.int .i64 a, .int .i64 t, .int .i64 (I + 1), .int .i64 v0, .int .i64 v1] rfl rfl 24 _ z0 info_boot9 rfl (by simp [Value.oneCell']) ?_; intro x3 u0 hg3 hs3)
        go_roundw
        case rel => exact ⟨I + 1, rfl, by omega, by omega, u0, z7.grown hg3 (fun e => hB07 (Option.some.inj e).symm), below_grown hBz hg3 hBz.size (fun k e => by have h2 : B0 = k := Option.some.inj e; omega)⟩
        case measure => simp only [intOf]; omega
      · have HBK : Hid (nextR ⟨a, t, I, v0, v1⟩ most = (⟨a, -1, 0, v0, v1⟩, a)) := next_back (ok_more HOK.out ht0 I hI0 hI1) ht0 (by omega)
        clear c0 c1 c2 c3 c4
        go_wp2_with fail
        go_loopw [11] (fun i wr => ∃ (I : Nat) (T R : Int), i = .int .i64 (I : Int) ∧ I ≤ 3 ∧ nextR ⟨a, T, R, v0, v1⟩ most = (⟨a, -1, 0, v0, v1⟩, a) ∧ Blk wr B0 24 #[.int .i64 a, .int .i64 T, .int .i64 R, .int .i64 v0, .int .i64 v1] ∧ Blk wr B7 24 #[.int .i64 a, .int .i64 t, .int .i64 r, .int .i64 v0, .int .i64 v1] ∧ Below w.heap.size w wr) (fun i _ => 3 - (intOf i).toNat)
        case atStart => exact ⟨0, t, I, rfl, by decide, HBK.out, y0, y7, hBr⟩
        case round =>
          clear y0 y7 hBr HBK hI0 hI1 hlt
          obtain ⟨J, T, R, rfl, hJ, hnx, y0, y7, hBr⟩ := hrel
          have c0 : wr.cell? ⟨B0, 0, none⟩ = some (.int .i64 a) := y0.cell (j := 0) rfl
          have c1 : wr.cell? ⟨B0, 1, none⟩ = some (.int .i64 T) := y0.cell (j := 1) rfl
          have c2 : wr.cell? ⟨B0, 2, none⟩ = some (.int .i64 R) := y0.cell (j := 2) rfl
          have c3 : wr.cell? ⟨B0, 3, none⟩ = some (.int .i64 v0) := y0.cell (j := 3) rfl
          have c4 : wr.cell? ⟨B0, 4, none⟩ = some (.int .i64 v1) := y0.cell (j := 4) rfl
          have e7 : wr.cell? ⟨B7, 0, none⟩ = some (.int .i64 a) := y7.cell (j := 0) rfl
          by_cases hlt : J < 3
          · have i1 : (J : Int) < 3 := by omega
            have hNX := HNX.out a T R v0 v1 wr
            rw [hnx] at hNX
            dsimp only at hNX
            have HN1 : Hid (Calls Tryd.prog 10 #[.agg #[.int .i64 a, .int .i64 T, .int .i64 R, .int .i64 v0, .int .i64 v1], .int .i64 most] wr fun e w' => e = .returned (.tuple #[.agg #[.int .i64 a, .int .i64 (-1), .int .i64 0, .int .i64 v0, .int .i64 v1], .int .i64 a]) ∧ Below wr.heap.size wr w') := hNX
            clear hNX hnx
            go_wp2_with fail
            refine HN1.out.mono ?_
            rintro e x2 ⟨rfl, hb2⟩
            clear HN1 c0 c1 c2 c3 c4 e7
            have hb9 := (Below.refl x2.heap.size x2).alloc (Nat.le_refl _) (.cells #[.int .i64 a, .int .i64 (-1), .int .i64 0, .int .i64 v0, .int .i64 v1] 24)
            have k9 := Blk.new x2 24 #[.int .i64 a, .int .i64 (-1), .int .i64 0, .int .i64 v0, .int .i64 v1]
            obtain ⟨B9, hB9⟩ : ∃ B9, B9 = x2.heap.size := ⟨_, rfl⟩
            rw [← hB9] at k9
            have z0 := (y0.below hb2 y0.lt).below hb9 (Nat.lt_of_lt_of_le y0.lt hb2.size)
            have z7 := (y7.below hb2 y7.lt).below hb9 (Nat.lt_of_lt_of_le y7.lt hb2.size)
            have hBz : Below w.heap.size w (x2.alloc (.cells #[.int .i64 a, .int .i64 (-1), .int .i64 0, .int .i64 v0, .int .i64 v1] 24)) := (hBr.trans (hb2.mono hBr.size)).trans (hb9.mono (Nat.le_trans hBr.size hb2.size))
            have e7 : (x2.alloc (.cells #[.int .i64 a, .int .i64 (-1), .int .i64 0, .int .i64 v0, .int .i64 v1] 24)).cell? ⟨B7, 0, none⟩ = some (.int .i64 a) := z7.cell (j := 0) rfl
            have d0 : (x2.alloc (.cells #[.int .i64 a, .int .i64 (-1), .int .i64 0, .int .i64 v0, .int .i64 v1] 24)).cell? ⟨B9, 0, none⟩ = some (.int .i64 a) := k9.cell (j := 0) rfl
            have d1 : (x2.alloc (.cells #[.int .i64 a, .int .i64 (-1), .int .i64 0, .int .i64 v0, .int .i64 v1] 24)).cell? ⟨B9, 1, none⟩ = some (.int .i64 (-1)) := k9.cell (j := 1) rfl
            have d2 : (x2.alloc (.cells #[.int .i64 a, .int .i64 (-1), .int .i64 0, .int .i64 v0, .int .i64 v1] 24)).cell? ⟨B9, 2, none⟩ = some (.int .i64 0) := k9.cell (j := 2) rfl
            have d3 : (x2.alloc (.cells #[.int .i64 a, .int .i64 (-1), .int .i64 0, .int .i64 v0, .int .i64 v1] 24)).cell? ⟨B9, 3, none⟩ = some (.int .i64 v0) := k9.cell (j := 3) rfl
            have d4 : (x2.alloc (.cells #[.int .i64 a, .int .i64 (-1), .int .i64 0, .int .i64 v0, .int .i64 v1] 24)).cell? ⟨B9, 4, none⟩ = some (.int .i64 v1) := k9.cell (j := 4) rfl
            go_wp2_with (refine store_blk rfl 24 _ _ rfl rfl B0 #[.int .i64 a, .int .i64 (-1), .int .i64 0, .int .i64 v0, .int .i64 v1] rfl rfl 24 _ z0 info_boot9 rfl (by simp [Value.oneCell']) ?_; intro x3 u0 hg3 hs3)
            go_roundw
            case rel => exact ⟨J + 1, -1, 0, by go_num, hlt, next_none a v0 v1 most, u0, z7.grown hg3 (fun e => hB07 (Option.some.inj e).symm), below_grown hBz hg3 hBz.size (fun k e => by have h2 : B0 = k := Option.some.inj e; omega)⟩
            case measure => simp [intOf]; omega
          · have i1 : ¬ (J : Int) < 3 := by omega
            clear hnx
            go_wp2
            go_ret
            exact ⟨rfl, hBr⟩
end Go.Proofs.YtlnekjilafcojaaDoor
