/-
  What is proved here: manifest.chunks, span and numbersMay answer as the plain functions do.
  Conditions: those that each fact names.
-/
import Derived.Test.YtgfcindkfnjeoaaJManPure
namespace Go.Proofs.Ytgfcindkfnjeoaa
open Go.RowKit

set_option maxRecDepth 100000 in
set_option maxHeartbeats 1000000 in
theorem chunks_any (m : MM) (su : Value) (w : World) (hs : 0 ≤ m.s ∧ m.s ≤ 1000000) (hc : 1 ≤ m.c ∧ m.c ≤ 1000000) :
    Calls Try.prog 58 #[manV m su] w fun e w' => e = .returned (.int .i64 (countM m)) ∧ Below w.heap.size w w' := by
  have hB := (Below.refl w.heap.size w).alloc (Nat.le_refl _) (.cells (manC m su) 25)
  have k := Blk.new w 25 (manC m su)
  have c1 := k.cell (manC_1 m su)
  have c2 := k.cell (manC_2 m su)
  obtain ⟨s1, s2⟩ := hs
  obtain ⟨d1, d2⟩ := hc
  have HQ : Hid (countM m = (m.s + m.c - 1) / m.c) := rfl
  generalize countM m = N at *
  unfold manV
  generalize manC m su = MC at *
  generalize m.s = sz at *
  generalize m.c = ch at *
  go_enter Try.func58, Try.ntmps58
  go_wp2
  go_ret
  exact ⟨ret_int (by rw [HQ.out]), hB⟩



def oddN (n a b : Int) : Bool := decide (n < a) || decide (b < n)
theorem oddN_iff (n a b : Int) : oddN n a b = false ↔ a ≤ n ∧ n ≤ b := by
  unfold oddN
  rw [Bool.or_eq_false_iff, decide_eq_false_iff_not, decide_eq_false_iff_not]
  omega
theorem oddN_true {n a b : Int} (h : oddN n a b = true) : ¬ (a ≤ n ∧ n ≤ b) := fun h2 => by rw [(oddN_iff n a b).2 h2] at h; cases h
set_option maxRecDepth 100000 in
theorem modd_any (n a b : Int) (w : World) : Calls Try.prog 72 #[.int .i64 n, .int .i64 a, .int .i64 b] w fun e w' => e = .returned (.bool (oddN n a b)) ∧ w' = w := by
  unfold oddN
  by_cases h1 : n < a
  · rw [decide_eq_true h1]
    go_enter Try.func72, Try.ntmps72
    go_wp2
    go_ret
    exact ⟨rfl, rfl⟩
  · by_cases h2 : b < n
    · rw [decide_eq_false h1, decide_eq_true h2]
      go_enter Try.func72, Try.ntmps72
      go_wp2
      go_ret
      exact ⟨rfl, rfl⟩
    · rw [decide_eq_false h1, decide_eq_false h2]
      go_enter Try.func72, Try.ntmps72
      go_wp2
      go_ret
      exact ⟨rfl, rfl⟩
set_option maxRecDepth 100000 in
set_option maxHeartbeats 1000000 in
theorem nums_any (m : MM) (su : Value) (w : World) (hh : m.h.length = 32) :
    Calls Try.prog 57 #[manV m su] w fun e w' => e = .returned (.bool (decide (numsOk m))) ∧ Below w.heap.size w w' := by
  have hB := (Below.refl w.heap.size w).alloc (Nat.le_refl _) (.cells (manC m su) 25)
  have k := Blk.new w 25 (manC m su)
  have c0 := k.cell (manC_0 m su)
  have c1 := k.cell (manC_1 m su)
  have c2 := k.cell (manC_2 m su)
  have hi := manC_info m su hh
  have HO : Hid (∀ n a b w, Calls Try.prog 72 #[.int .i64 n, .int .i64 a, .int .i64 b] w fun e w' => e = .returned (.bool (oddN n a b)) ∧ w' = w) := modd_any
  have HC : Hid ((0 ≤ m.s ∧ m.s ≤ 1000000) → (1 ≤ m.c ∧ m.c ≤ 1000000) → ∀ w, Calls Try.prog 58 #[manV m su] w fun e w' => e = .returned (.int .i64 (countM m)) ∧ Below w.heap.size w w') := fun h1 h2 w => chunks_any m su w h1 h2
  have HR : Hid (numsOk m ↔ (1 ≤ m.v ∧ m.v ≤ 1073741824) ∧ (1 ≤ m.s ∧ m.s ≤ 32768) ∧ (16 ≤ m.c ∧ m.c ≤ 1024) ∧ countM m ≤ 128) := Iff.rfl
  clear hh
  unfold manV at *
  by_cases hn : numsOk m
  · rw [decide_eq_true hn]
    obtain ⟨hv, hs, hc, hk⟩ := HR.out.1 hn
    have o1 := (oddN_iff m.v 1 1073741824).2 hv
    have o2 := (oddN_iff m.s 1 32768).2 hs
    have o3 := (oddN_iff m.c 16 1024).2 hc
    have HC' := HC.out (by omega) (by omega)
    clear HR HC hn
    generalize countM m = N at *
    generalize manC m su = MC at *
    generalize m.v = v at *
    generalize m.s = sz at *
    generalize m.c = ch at *
    have HCC : Hid (∀ w, Calls Try.prog 58 #[.agg MC] w fun e w' => e = .returned (.int .i64 N) ∧ Below w.heap.size w w') := HC'
    clear HC'
    go_enter Try.func57, Try.ntmps57
    go_wp2_with fail
    refine (HO.out _ _ _ _).mono ?_
    rintro e w1 ⟨rfl, rfl⟩
    go_wp2_with fail
    refine (HO.out _ _ _ _).mono ?_
    rintro e w1 ⟨rfl, rfl⟩
    go_wp2_with fail
    refine (HO.out _ _ _ _).mono ?_
    rintro e w1 ⟨rfl, rfl⟩
    go_wp2_with (refine wpList_load_row rfl 25 _ rfl w.heap.size rfl 25 _ (0, 0) _ k Try.underlying25 rfl hi ?_)
    refine (HCC.out _).mono ?_
    rintro e w2 ⟨rfl, hb2⟩
    go_wp2
    go_ret
    exact ⟨rfl, hB.trans (hb2.mono hB.size)⟩
  · rw [decide_eq_false hn]
    have HN : Hid (¬ numsOk m) := hn
    clear hn
    cases o1 : oddN m.v 1 1073741824 with
    | true =>
      clear HR HC HN
      generalize manC m su = MC at *
      generalize m.v = v at *
      generalize m.s = sz at *
      generalize m.c = ch at *
      go_enter Try.func57, Try.ntmps57
      go_wp2_with (go_at_call 72; refine (HO.out _ _ _ _).mono ?_; rintro e w1 ⟨rfl, rfl⟩)
      go_ret
      exact ⟨rfl, hB⟩
    | false =>
      cases o2 : oddN m.s 1 32768 with
      | true =>
        clear HR HC HN
        generalize manC m su = MC at *
        generalize m.v = v at *
        generalize m.s = sz at *
        generalize m.c = ch at *
        go_enter Try.func57, Try.ntmps57
        go_wp2_with (go_at_call 72; refine (HO.out _ _ _ _).mono ?_; rintro e w1 ⟨rfl, rfl⟩)
        go_ret
        exact ⟨rfl, hB⟩
      | false =>
        cases o3 : oddN m.c 16 1024 with
        | true =>
          clear HR HC HN
          generalize manC m su = MC at *
          generalize m.v = v at *
          generalize m.s = sz at *
          generalize m.c = ch at *
          go_enter Try.func57, Try.ntmps57
          go_wp2_with (go_at_call 72; refine (HO.out _ _ _ _).mono ?_; rintro e w1 ⟨rfl, rfl⟩)
          go_ret
          exact ⟨rfl, hB⟩
        | false =>
          have hs := (oddN_iff _ _ _).1 o2
          have hc := (oddN_iff _ _ _).1 o3
          have hk : ¬ countM m ≤ 128 := fun h => HN.out (HR.out.2 ⟨(oddN_iff _ _ _).1 o1, hs, hc, h⟩)
          have HC' := HC.out (by omega) (by omega)
          clear HR HC HN
          generalize countM m = N at *
          generalize manC m su = MC at *
          generalize m.v = v at *
          generalize m.s = sz at *
          generalize m.c = ch at *
          have HCC : Hid (∀ w, Calls Try.prog 58 #[.agg MC] w fun e w' => e = .returned (.int .i64 N) ∧ Below w.heap.size w w') := HC'
          clear HC'
          go_enter Try.func57, Try.ntmps57
          go_wp2_with fail
          refine (HO.out _ _ _ _).mono ?_
          rintro e w1 ⟨rfl, rfl⟩
          go_wp2_with fail
          refine (HO.out _ _ _ _).mono ?_
          rintro e w1 ⟨rfl, rfl⟩
          go_wp2_with fail
          refine (HO.out _ _ _ _).mono ?_
          rintro e w1 ⟨rfl, rfl⟩
          go_wp2_with (refine wpList_load_row rfl 25 _ rfl w.heap.size rfl 25 _ (0, 0) _ k Try.underlying25 rfl hi ?_)
          refine (HCC.out _).mono ?_
          rintro e w2 ⟨rfl, hb2⟩
          go_wp2
          go_ret
          exact ⟨ret_bool (decide_eq_false (by omega)), hB.trans (hb2.mono hB.size)⟩
end Go.Proofs.Ytgfcindkfnjeoaa
