/-
  What is proved here: the document's Right, Count and Span of layer 10 answer as the plain functions do.
  Conditions: those that each fact names.
-/
import Derived.Test.YtgfcindkfnjeoaaJManPlain
namespace Go.Proofs.Ytgfcindkfnjeoaa
open Go.RowKit

theorem n32_ge (x : BitVec 32) : (16777216 : Int) ≤ n32 x ↔ tooBig x = true := by unfold n32 tooBig; rw [decide_eq_true_iff]; omega
set_option maxRecDepth 100000 in
set_option maxHeartbeats 1000000 in
theorem rmright_any (m : MM) (su : Value) (w : World) (hh : m.h.length = 32) (hm : m.u.length ≤ 1000000000) (hu : Wds w su m.u) :
    Calls Try.prog 24 #[manV m su] w fun e w' => e = .returned (.bool (decide (okM m))) ∧ Below w.heap.size w w' := by
  have hB := (Below.refl w.heap.size w).alloc (Nat.le_refl _) (.cells (manC m su) 25)
  have k := Blk.new w 25 (manC m su)
  have c0 := k.cell (manC_0 m su)
  have c1 := k.cell (manC_1 m su)
  have c2 := k.cell (manC_2 m su)
  have c35 := k.cell (manC_35 m su hh)
  have hu1 := hu.below hB (Nat.le_refl _)
  have HOK : Hid (okM m ↔ numsOk m ∧ (m.u.length : Int) = countM m ∧ m.u.any tooBig = false) := okM_iff m
  have HNM : Hid (numsOk m ↔ (1 ≤ m.v ∧ m.v ≤ 1073741824) ∧ (1 ≤ m.s ∧ m.s ≤ 32768) ∧ (16 ≤ m.c ∧ m.c ≤ 1024) ∧ countM m ≤ 128) := Iff.rfl
  obtain ⟨ao, c, rfl⟩ := hu.shape
  clear hu
  unfold manV
  by_cases h1 : (1 ≤ m.v ∧ m.v ≤ 1073741824) ∧ (1 ≤ m.s ∧ m.s ≤ 32768) ∧ (16 ≤ m.c ∧ m.c ≤ 1024)
  · obtain ⟨⟨v1, v2⟩, ⟨s1, s2⟩, ⟨d1, d2⟩⟩ := h1
    have hq : (m.s + m.c - 1) / m.c = countM m := rfl
    by_cases h2 : countM m ≤ 128
    · by_cases h3 : (m.u.length : Int) = countM m
      · have HD : Hid (decide (okM m) = !(m.u.any tooBig)) := by
          show _ = _
          cases hb : m.u.any tooBig with
          | true => exact decide_eq_false (fun h => by have := (HOK.out.1 h).2.2; rw [hb] at this; cases this)
          | false => exact decide_eq_true (HOK.out.2 ⟨HNM.out.2 ⟨⟨v1, v2⟩, ⟨s1, s2⟩, ⟨d1, d2⟩, h2⟩, h3, hb⟩)
        rw [HD.out]
        have h3' : ((m.u.length : Int) != countM m) = false := by rw [h3]; simp
        have h3'' : Hid ((m.u.length : Int) = countM m) := h3
        obtain ⟨N, hN⟩ : ∃ N : Nat, countM m = (N : Int) := ⟨m.u.length, h3.symm⟩
        rw [hN] at hq h2 h3'
        have hNl : N = m.u.length := by have := h3''.out; rw [hN] at this; omega
        have HNL : Hid (N = m.u.length) := hNl
        clear HD HOK HNM h3 h3'' hNl hN
        obtain ⟨ao', c', he, hr⟩ := hu1
        cases he
        have HR : Hid (0 < m.u.length → ∃ b off, ao = some ⟨b, off, none⟩ ∧ m.u.length ≤ c ∧ WRow (w.alloc (.cells (manC m (.slice ao m.u.length c)) 25)) b off m.u ∧ b < (w.alloc (.cells (manC m (.slice ao m.u.length c)) 25)).heap.size) := hr
        clear hr
        generalize manC m (.slice ao m.u.length c) = MC at *
        generalize m.u = U at *
        generalize m.v = v at *
        generalize m.s = sz at *
        generalize m.c = ch at *
        go_enter Try.func24, Try.ntmps24
        go_wp2
        go_loop [4] (fun i => ∃ k : Nat, k ≤ N ∧ i = .int .i64 (k : Int) ∧ Hid (∀ j (h : j < U.length), j < k → tooBig U[j] = false)) (fun i => N - (intOf i).toNat)
        case atStart => exact ⟨0, Nat.zero_le _, rfl, fun j _ h => by omega⟩
        case round =>
          obtain ⟨i, hi, rfl, HS⟩ := hrel
          by_cases hlt : i < N
          · have hlu : i < U.length := by have := HNL.out; omega
            obtain ⟨b, off, rfl, hc, hrw, hb⟩ := HR.out (by omega)
            have hc1 := hrw i hlu
            obtain ⟨y, hy⟩ : ∃ y, y = U[i] := ⟨_, rfl⟩
            rw [← hy] at hc1
            have HY : Hid (y = U[i]) := hy
            have i1 : (i : Int) < (N : Int) := by omega
            have i2 : (i : Int) < (U.length : Int) := by omega
            clear hy hrw
            cases ht : tooBig y with
            | true =>
              have hge : (16777216 : Int) ≤ n32 y := (n32_ge y).2 ht
              go_wp2
              go_ret
              refine ⟨ret_bool ?_, hB⟩
              have : U.any tooBig = true := List.any_eq_true.2 ⟨U[i], List.getElem_mem hlu, by rw [← HY.out]; exact ht⟩
              rw [this]; rfl
            | false =>
              have hge : ¬ (16777216 : Int) ≤ n32 y := fun h => by rw [(n32_ge y).1 h] at ht; cases ht
              go_wp2
              go_round
              case rel => exact ⟨i + 1, hlt, by go_num, small_upto hlu HS.out (by rw [← HY.out]; exact ht)⟩
              case measure => simp [intOf]; omega
          · have i1 : ¬ (i : Int) < (N : Int) := by omega
            go_wp2
            go_ret
            refine ⟨ret_bool ?_, hB⟩
            have : U.any tooBig = false := by
              rw [List.any_eq_false]
              intro y hy
              obtain ⟨j, hj, rfl⟩ := List.getElem_of_mem hy
              rw [HS.out j hj (by have := HNL.out; omega)]; simp
            rw [this]; rfl
      · rw [decide_eq_false (fun h => h3 (HOK.out.1 h).2.1)]
        have h3' : ((m.u.length : Int) != countM m) = true := by simpa using h3
        clear HOK HNM h3 hu1
        generalize countM m = N at *
        generalize manC m (.slice ao m.u.length c) = MC at *
        generalize m.v = v at *
        generalize m.s = sz at *
        generalize m.c = ch at *
        go_enter Try.func24, Try.ntmps24
        go_wp2
        go_ret
        exact ⟨rfl, hB⟩
    · rw [decide_eq_false (fun h => h2 (HNM.out.1 (HOK.out.1 h).1).2.2.2)]
      clear HOK HNM hu1
      generalize countM m = N at *
      generalize manC m (.slice ao m.u.length c) = MC at *
      generalize m.v = v at *
      generalize m.s = sz at *
      generalize m.c = ch at *
      go_enter Try.func24, Try.ntmps24
      go_wp2
      go_ret
      exact ⟨rfl, hB⟩
  · rw [decide_eq_false (fun h => h1 ⟨(HNM.out.1 (HOK.out.1 h).1).1, (HNM.out.1 (HOK.out.1 h).1).2.1, (HNM.out.1 (HOK.out.1 h).1).2.2.1⟩)]
    clear HOK HNM hu1 c35
    generalize manC m (.slice ao m.u.length c) = MC at *
    generalize m.v = v at *
    generalize m.s = sz at *
    generalize m.c = ch at *
    have hB' := hB
    by_cases a1 : v < 1
    · go_enter Try.func24, Try.ntmps24
      go_wp2
      go_ret
      exact ⟨rfl, hB⟩
    by_cases a2 : 1073741824 < v
    · go_enter Try.func24, Try.ntmps24
      go_wp2
      go_ret
      exact ⟨rfl, hB⟩
    by_cases a3 : sz < 1
    · go_enter Try.func24, Try.ntmps24
      go_wp2
      go_ret
      exact ⟨rfl, hB⟩
    by_cases a4 : 32768 < sz
    · go_enter Try.func24, Try.ntmps24
      go_wp2
      go_ret
      exact ⟨rfl, hB⟩
    by_cases a5 : ch < 16
    · go_enter Try.func24, Try.ntmps24
      go_wp2
      go_ret
      exact ⟨rfl, hB⟩
    have a6 : 1024 < ch := by omega
    go_enter Try.func24, Try.ntmps24
    go_wp2
    go_ret
    exact ⟨rfl, hB⟩
end Go.Proofs.Ytgfcindkfnjeoaa
