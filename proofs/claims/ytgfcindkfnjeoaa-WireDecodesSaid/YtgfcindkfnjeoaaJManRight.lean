/-
  What is proved here: manifest.Right, Count and Span answer as the plain functions do.
  Conditions: those that each fact names.
-/
import Derived.Test.YtgfcindkfnjeoaaJManSmall
namespace Go.Proofs.Ytgfcindkfnjeoaa
open Go.RowKit

def tooBig (x : BitVec 32) : Bool := decide (16777215 < x.toNat)
theorem n32_gt (x : BitVec 32) : (16777215 : Int) < n32 x ↔ 16777215 < x.toNat := by unfold n32; omega
set_option maxRecDepth 100000 in
theorem big_any (x : BitVec 32) (w : World) : Calls Try.prog 59 #[v32 x] w fun e w' => e = .returned (.bool (tooBig x)) ∧ w' = w := by
  have hd : decide ((16777215 : Int) < n32 x) = tooBig x := by unfold tooBig; exact decide_eq_decide.2 (n32_gt x)
  generalize tooBig x = B at *
  go_enter Try.func59, Try.ntmps59
  go_wp2
  go_ret
  exact ⟨rfl, rfl⟩
theorem Wds.shape {w : World} {x : Value} {u : List (BitVec 32)} (h : Wds w x u) : ∃ ao c, x = .slice ao u.length c := by obtain ⟨ao, c, h, _⟩ := h; exact ⟨ao, c, h⟩
theorem small_upto {u : List (BitVec 32)} {k : Nat} (hlt : k < u.length) (H : ∀ j (h : j < u.length), j < k → tooBig u[j] = false) (ht : tooBig u[k] = false) : ∀ j (h : j < u.length), j < k + 1 → tooBig u[j] = false := fun j h1 h2 => by
  rcases Nat.lt_succ_iff_lt_or_eq.1 h2 with h3 | rfl
  · exact H j h1 h3
  · exact ht
set_option maxRecDepth 100000 in
set_option maxHeartbeats 1000000 in
theorem indF_any (x : Value) (u : List (BitVec 32)) (w : World) (hm : u.length ≤ 1000000000) (hu : Wds w x u) :
    Calls Try.prog 73 #[x, .func (.func 59) #[] #[]] w fun e w' => (∃ z : Int, e = .returned (.int .i64 z) ∧ (0 ≤ z ↔ ∃ y ∈ u, tooBig y = true)) ∧ w' = w := by
  have HBG : Hid (∀ y, Calls Try.prog 59 #[v32 y] w fun e w' => e = .returned (.bool (tooBig y)) ∧ w' = w) := fun y => big_any y w
  obtain ⟨ao, c, rfl, hrow⟩ := hu
  have HR : Hid (0 < u.length → ∃ b off, ao = some ⟨b, off, none⟩ ∧ u.length ≤ c ∧ WRow w b off u ∧ b < w.heap.size) := hrow
  clear hrow
  go_enter Try.func73, Try.ntmps73
  go_wp2
  go_loop [8] (fun i => ∃ k : Nat, k ≤ u.length ∧ i = .int .i64 (k : Int) ∧ Hid (∀ j (h : j < u.length), j < k → tooBig u[j] = false)) (fun i => u.length - (intOf i).toNat)
  case atStart => exact ⟨0, Nat.zero_le _, rfl, fun j _ h => by omega⟩
  case round =>
    obtain ⟨k, hk, rfl, HS⟩ := hrel
    by_cases hlt : k < u.length
    · obtain ⟨b, off, rfl, hc, hr, hb⟩ := HR.out (by omega)
      have hc1 := hr k hlt
      obtain ⟨y, hy⟩ : ∃ y, y = u[k] := ⟨_, rfl⟩
      rw [← hy] at hc1
      have HY : Hid (y = u[k]) := hy
      clear hy hr
      cases ht : tooBig y with
      | true =>
        go_wp2_with fail
        refine (HBG.out y).mono ?_
        rintro e w1 ⟨rfl, rfl⟩
        go_wp2
        go_ret
        exact ⟨⟨_, rfl, ⟨fun _ => ⟨u[k], List.getElem_mem hlt, by rw [← HY.out]; exact ht⟩, fun _ => by omega⟩⟩, rfl⟩
      | false =>
        go_wp2_with fail
        refine (HBG.out y).mono ?_
        rintro e w1 ⟨rfl, rfl⟩
        go_wp2
        go_round
        case rel => exact ⟨k + 1, hlt, by go_num, small_upto hlt HS.out (by rw [← HY.out]; exact ht)⟩
        case measure => simp [intOf]; omega
    · go_wp2
      go_ret
      refine ⟨⟨_, rfl, ⟨fun h => by omega, fun ⟨y, hy, ht⟩ => ?_⟩⟩, rfl⟩
      obtain ⟨j, hj, rfl⟩ := List.getElem_of_mem hy
      rw [HS.out j hj (by omega)] at ht
      cases ht
set_option maxRecDepth 100000 in
theorem contF_any (x : Value) (u : List (BitVec 32)) (w : World) (hm : u.length ≤ 1000000000) (hu : Wds w x u) :
    Calls Try.prog 60 #[x, .func (.func 59) #[] #[]] w fun e w' => e = .returned (.bool (u.any tooBig)) ∧ w' = w := by
  have HI := indF_any x u w hm hu
  obtain ⟨ao, c, rfl⟩ := hu.shape
  have HH : Hid (Calls Try.prog 73 #[.slice ao u.length c, .func (.func 59) #[] #[]] w fun e w' => (∃ z : Int, e = .returned (.int .i64 z) ∧ (0 ≤ z ↔ ∃ y ∈ u, tooBig y = true)) ∧ w' = w) := HI
  clear HI
  go_enter Try.func60, Try.ntmps60
  go_wp2_with fail
  refine HH.out.mono ?_
  rintro e w1 ⟨⟨z, rfl, hz⟩, rfl⟩
  have hd : decide (0 ≤ z) = u.any tooBig := by
    rw [Bool.eq_iff_iff, decide_eq_true_iff, hz, List.any_eq_true]
  have HU : Hid (decide (0 ≤ z) = u.any tooBig) := hd
  clear hz hd
  go_wp2
  go_ret
  exact ⟨ret_bool HU.out, rfl⟩
theorem okM_iff (m : MM) : okM m ↔ numsOk m ∧ (m.u.length : Int) = countM m ∧ m.u.any tooBig = false := by
  unfold okM
  refine and_congr Iff.rfl (and_congr Iff.rfl ?_)
  rw [List.any_eq_false]
  unfold tooBig
  constructor
  · intro h x hx; have := h x hx; simp; omega
  · intro h x hx; have := h x hx; simp at this; omega
set_option maxRecDepth 100000 in
set_option maxHeartbeats 1000000 in
theorem mrightL_any (m : MM) (su : Value) (w : World) (hh : m.h.length = 32) (hu : Wds w su m.u) :
    Calls Try.prog 43 #[manV m su] w fun e w' => e = .returned (.bool (decide (okM m))) ∧ Below w.heap.size w w' := by
  have hB := (Below.refl w.heap.size w).alloc (Nat.le_refl _) (.cells (manC m su) 25)
  have k := Blk.new w 25 (manC m su)
  have hi := manC_info m su hh
  have h35 := manC_35 m su hh
  have HNU : Hid (∀ W, Calls Try.prog 57 #[manV m su] W fun e w' => e = .returned (.bool (decide (numsOk m))) ∧ Below W.heap.size W w') := fun W => nums_any m su W hh
  have HC : Hid (numsOk m → ∀ W, Calls Try.prog 58 #[manV m su] W fun e w' => e = .returned (.int .i64 (countM m)) ∧ Below W.heap.size W w') := fun h W => chunks_any m su W (by have := h.2.1; omega) (by have := h.2.2.1; omega)
  have HF : Hid (m.u.length ≤ 1000000000 → ∀ W, Wds W su m.u → Calls Try.prog 60 #[su, .func (.func 59) #[] #[]] W fun e w' => e = .returned (.bool (m.u.any tooBig)) ∧ w' = W) := fun hm W h => contF_any su m.u W hm h
  have HOK : Hid (okM m ↔ numsOk m ∧ (m.u.length : Int) = countM m ∧ m.u.any tooBig = false) := okM_iff m
  have hu1 := hu.below hB (Nat.le_refl _)
  obtain ⟨ao, c, rfl⟩ := hu.shape
  clear hu
  unfold manV at *
  generalize manC m (.slice ao m.u.length c) = MC at *
  obtain ⟨B0, hB0⟩ : ∃ B0, B0 = w.heap.size := ⟨_, rfl⟩
  rw [← hB0] at k
  by_cases hn : numsOk m
  · rw [decide_eq_true hn] at HNU
    have HCC : Hid (∀ W, Calls Try.prog 58 #[.agg MC] W fun e w' => e = .returned (.int .i64 (countM m)) ∧ Below W.heap.size W w') := HC.out hn
    by_cases hl : (m.u.length : Int) = countM m
    · have hok : Hid (decide (okM m) = !(m.u.any tooBig)) := by
        show _ = _
        cases hb : m.u.any tooBig with
        | true => exact decide_eq_false (fun h => by have := (HOK.out.1 h).2.2; rw [hb] at this; cases this)
        | false => exact decide_eq_true (HOK.out.2 ⟨hn, hl, hb⟩)
      rw [hok.out]
      have hne : ((m.u.length : Int) != countM m) = false := by rw [hl]; simp
      have HF : Hid (∀ W, Wds W (.slice ao m.u.length c) m.u → Calls Try.prog 60 #[.slice ao m.u.length c, .func (.func 59) #[] #[]] W fun e w' => e = .returned (.bool (m.u.any tooBig)) ∧ w' = W) := HF.out (by have := hn.2.2.2; omega)
      clear HOK HC hn hok hl
      generalize countM m = N at *
      generalize m.u.any tooBig = TB at *
      go_enter Try.func43, Try.ntmps43
      go_wp2_with fail
      rw [← hB0]
      clear hB0
      have hS0 : Blk (w.alloc (.cells MC 25)).drew B0 25 MC := k.drew
      refine held_begin (fun V => Blk V B0 25 MC) (by kernel_rfl) ?_
      refine held_take 0 4 _ (.agg MC) rfl rfl (by kernel_rfl) (by kernel_rfl) (by kernel_rfl) rfl hS0 (fun V hV => exec_loadM _ rfl _ rfl hV hi) ?_
      simp only [Act.put, List.setIfInBounds_toArray, List.set_cons_succ, List.set_cons_zero]
      refine held_all1 1 (by kernel_rfl) (op_call 1 5 _ 57 #[.agg MC] rfl rfl rfl (exec_one 57 _ _ rfl _ rfl Try.call57) ((HNU.out _).mono ?_))
      rintro e w1 ⟨rfl, hb1⟩
      have hS1 := hS0.below hb1 hS0.lt
      have hB1 : Below w.heap.size w w1 := hB.drew.trans (hb1.mono hB.size)
      refine ⟨_, rfl, hS1, ?_⟩
      simp only [Act.put, List.setIfInBounds_toArray, List.set_cons_succ, List.set_cons_zero]
      refine held_take 2 6 _ (.bool false) rfl rfl (by kernel_rfl) (by kernel_rfl) (by kernel_rfl) rfl hS1 (fun V _ => exec_notM _ _ rfl _ _ rfl rfl) ?_
      simp only [Act.put, List.setIfInBounds_toArray, List.set_cons_succ, List.set_cons_zero]
      refine held_take 3 7 _ (.bool false) rfl rfl (by kernel_rfl) (by kernel_rfl) (by kernel_rfl) rfl hS1 (fun _ _ => rfl) ?_
      simp only [Act.put, List.setIfInBounds_toArray, List.set_cons_succ, List.set_cons_zero]
      refine held_take 4 8 _ (.pointer (some ⟨B0, 35, none⟩)) rfl rfl (by kernel_rfl) (by kernel_rfl) (by kernel_rfl) rfl hS1 (fun _ _ => rfl) ?_
      simp only [Act.put, List.setIfInBounds_toArray, List.set_cons_succ, List.set_cons_zero]
      refine held_take 5 9 _ (.slice ao m.u.length c) rfl rfl (by kernel_rfl) (by kernel_rfl) (by kernel_rfl) rfl hS1 (fun V hV => exec_loadc 23 _ rfl _ _ rfl (load_one 23 (fun _ => by kernel_rfl) V _ _ _ (hV.cell h35))) ?_
      simp only [Act.put, List.setIfInBounds_toArray, List.set_cons_succ, List.set_cons_zero]
      refine held_take 6 10 _ (.int .i64 (m.u.length : Int)) rfl rfl (by kernel_rfl) (by kernel_rfl) (by kernel_rfl) rfl hS1 (fun V _ => exec_lenM 23 74 Try.underlying23 _ rfl _ _ _ rfl) ?_
      simp only [Act.put, List.setIfInBounds_toArray, List.set_cons_succ, List.set_cons_zero]
      refine held_take 7 11 _ (.agg MC) rfl rfl (by kernel_rfl) (by kernel_rfl) (by kernel_rfl) rfl hS1 (fun V hV => exec_loadM _ rfl _ rfl hV hi) ?_
      simp only [Act.put, List.setIfInBounds_toArray, List.set_cons_succ, List.set_cons_zero]
      refine held_all1 8 (by kernel_rfl) (op_call 8 12 _ 58 #[.agg MC] rfl rfl rfl (exec_one 58 _ _ rfl _ rfl Try.call58) ((HCC.out _).mono ?_))
      rintro e w2 ⟨rfl, hb2⟩
      have hS2 := hS1.below hb2 hS1.lt
      have hB2 : Below w.heap.size w w2 := hB1.trans (hb2.mono hB1.size)
      refine ⟨_, rfl, hS2, ?_⟩
      simp only [Act.put, List.setIfInBounds_toArray, List.set_cons_succ, List.set_cons_zero]
      refine held_take 9 13 _ (.bool false) rfl rfl (by kernel_rfl) (by kernel_rfl) (by kernel_rfl) rfl hS2 (fun V _ => exec_neM _ _ _ rfl _ _ _ rfl rfl hne) ?_
      simp only [Act.put, List.setIfInBounds_toArray, List.set_cons_succ, List.set_cons_zero]
      refine held_take 10 14 _ (.bool false) rfl rfl (by kernel_rfl) (by kernel_rfl) (by kernel_rfl) rfl hS2 (fun _ _ => rfl) ?_
      simp only [Act.put, List.setIfInBounds_toArray, List.set_cons_succ, List.set_cons_zero]
      refine wpAnyH_done (by kernel_rfl) ?_ _
      refine NoPanic.normal ?_
      have c35 := hS2.cell h35
      have hu2 := (show Wds (w.alloc (.cells MC 25)).drew (.slice ao m.u.length c) m.u from hu1).below (Below.trans hb1 (hb2.mono hb1.size)) (Nat.le_refl _)
      go_wp2_with fail
      refine (HF.out _ hu2).mono ?_
      rintro e w3 ⟨rfl, hw3⟩
      subst hw3
      go_wp2
      go_ret
      exact ⟨rfl, hB2⟩
    · rw [decide_eq_false (fun h => hl (HOK.out.1 h).2.1)]
      have hne : ((m.u.length : Int) != countM m) = true := by simpa using hl
      clear HOK HC HF hn hl
      generalize countM m = N at *
      go_enter Try.func43, Try.ntmps43
      go_wp2_with fail
      rw [← hB0]
      clear hB0
      have hS0 : Blk (w.alloc (.cells MC 25)).drew B0 25 MC := k.drew
      refine held_begin (fun V => Blk V B0 25 MC) (by kernel_rfl) ?_
      refine held_take 0 4 _ (.agg MC) rfl rfl (by kernel_rfl) (by kernel_rfl) (by kernel_rfl) rfl hS0 (fun V hV => exec_loadM _ rfl _ rfl hV hi) ?_
      simp only [Act.put, List.setIfInBounds_toArray, List.set_cons_succ, List.set_cons_zero]
      refine held_all1 1 (by kernel_rfl) (op_call 1 5 _ 57 #[.agg MC] rfl rfl rfl (exec_one 57 _ _ rfl _ rfl Try.call57) ((HNU.out _).mono ?_))
      rintro e w1 ⟨rfl, hb1⟩
      have hS1 := hS0.below hb1 hS0.lt
      have hB1 : Below w.heap.size w w1 := hB.drew.trans (hb1.mono hB.size)
      refine ⟨_, rfl, hS1, ?_⟩
      simp only [Act.put, List.setIfInBounds_toArray, List.set_cons_succ, List.set_cons_zero]
      refine held_take 2 6 _ (.bool false) rfl rfl (by kernel_rfl) (by kernel_rfl) (by kernel_rfl) rfl hS1 (fun V _ => exec_notM _ _ rfl _ _ rfl rfl) ?_
      simp only [Act.put, List.setIfInBounds_toArray, List.set_cons_succ, List.set_cons_zero]
      refine held_take 3 7 _ (.bool false) rfl rfl (by kernel_rfl) (by kernel_rfl) (by kernel_rfl) rfl hS1 (fun _ _ => rfl) ?_
      simp only [Act.put, List.setIfInBounds_toArray, List.set_cons_succ, List.set_cons_zero]
      refine held_take 4 8 _ (.pointer (some ⟨B0, 35, none⟩)) rfl rfl (by kernel_rfl) (by kernel_rfl) (by kernel_rfl) rfl hS1 (fun _ _ => rfl) ?_
      simp only [Act.put, List.setIfInBounds_toArray, List.set_cons_succ, List.set_cons_zero]
      refine held_take 5 9 _ (.slice ao m.u.length c) rfl rfl (by kernel_rfl) (by kernel_rfl) (by kernel_rfl) rfl hS1 (fun V hV => exec_loadc 23 _ rfl _ _ rfl (load_one 23 (fun _ => by kernel_rfl) V _ _ _ (hV.cell h35))) ?_
      simp only [Act.put, List.setIfInBounds_toArray, List.set_cons_succ, List.set_cons_zero]
      refine held_take 6 10 _ (.int .i64 (m.u.length : Int)) rfl rfl (by kernel_rfl) (by kernel_rfl) (by kernel_rfl) rfl hS1 (fun V _ => exec_lenM 23 74 Try.underlying23 _ rfl _ _ _ rfl) ?_
      simp only [Act.put, List.setIfInBounds_toArray, List.set_cons_succ, List.set_cons_zero]
      refine held_take 7 11 _ (.agg MC) rfl rfl (by kernel_rfl) (by kernel_rfl) (by kernel_rfl) rfl hS1 (fun V hV => exec_loadM _ rfl _ rfl hV hi) ?_
      simp only [Act.put, List.setIfInBounds_toArray, List.set_cons_succ, List.set_cons_zero]
      refine held_all1 8 (by kernel_rfl) (op_call 8 12 _ 58 #[.agg MC] rfl rfl rfl (exec_one 58 _ _ rfl _ rfl Try.call58) ((HCC.out _).mono ?_))
      rintro e w2 ⟨rfl, hb2⟩
      have hS2 := hS1.below hb2 hS1.lt
      have hB2 : Below w.heap.size w w2 := hB1.trans (hb2.mono hB1.size)
      refine ⟨_, rfl, hS2, ?_⟩
      simp only [Act.put, List.setIfInBounds_toArray, List.set_cons_succ, List.set_cons_zero]
      refine held_take 9 13 _ (.bool true) rfl rfl (by kernel_rfl) (by kernel_rfl) (by kernel_rfl) rfl hS2 (fun V _ => exec_neM _ _ _ rfl _ _ _ rfl rfl hne) ?_
      simp only [Act.put, List.setIfInBounds_toArray, List.set_cons_succ, List.set_cons_zero]
      refine held_take 10 14 _ (.bool true) rfl rfl (by kernel_rfl) (by kernel_rfl) (by kernel_rfl) rfl hS2 (fun _ _ => rfl) ?_
      simp only [Act.put, List.setIfInBounds_toArray, List.set_cons_succ, List.set_cons_zero]
      refine wpAnyH_done (by kernel_rfl) ?_ _
      refine NoPanic.normal ?_
      go_wp2
      go_ret
      exact ⟨rfl, hB2⟩
  · rw [decide_eq_false hn] at HNU
    rw [decide_eq_false (fun h => hn (HOK.out.1 h).1)]
    clear HOK HC HF hn
    go_enter Try.func43, Try.ntmps43
    go_wp2_with fail
    rw [← hB0]
    clear hB0
    have hS0 : Blk (w.alloc (.cells MC 25)).drew B0 25 MC := k.drew
    refine held_begin (fun V => Blk V B0 25 MC) (by kernel_rfl) ?_
    refine held_take 0 4 _ (.agg MC) rfl rfl (by kernel_rfl) (by kernel_rfl) (by kernel_rfl) rfl hS0 (fun V hV => exec_loadM _ rfl _ rfl hV hi) ?_
    simp only [Act.put, List.setIfInBounds_toArray, List.set_cons_succ, List.set_cons_zero]
    refine held_all1 1 (by kernel_rfl) (op_call 1 5 _ 57 #[.agg MC] rfl rfl rfl (exec_one 57 _ _ rfl _ rfl Try.call57) ((HNU.out _).mono ?_))
    rintro e w1 ⟨rfl, hb1⟩
    have hS1 := hS0.below hb1 hS0.lt
    have hB1 : Below w.heap.size w w1 := hB.drew.trans (hb1.mono hB.size)
    refine ⟨_, rfl, hS1, ?_⟩
    simp only [Act.put, List.setIfInBounds_toArray, List.set_cons_succ, List.set_cons_zero]
    refine held_take 2 6 _ (.bool true) rfl rfl (by kernel_rfl) (by kernel_rfl) (by kernel_rfl) rfl hS1 (fun V _ => exec_notM _ _ rfl _ _ rfl rfl) ?_
    simp only [Act.put, List.setIfInBounds_toArray, List.set_cons_succ, List.set_cons_zero]
    refine held_take 3 7 _ (.bool true) rfl rfl (by kernel_rfl) (by kernel_rfl) (by kernel_rfl) rfl hS1 (fun _ _ => rfl) ?_
    simp only [Act.put, List.setIfInBounds_toArray, List.set_cons_succ, List.set_cons_zero]
    refine held_pass 4 8 _ rfl rfl (by kernel_rfl) (by kernel_rfl) (by kernel_rfl) rfl hS1 ?_
    simp only [Act.put, List.setIfInBounds_toArray, List.set_cons_succ, List.set_cons_zero]
    refine held_pass 5 9 _ rfl rfl (by kernel_rfl) (by kernel_rfl) (by kernel_rfl) rfl hS1 ?_
    simp only [Act.put, List.setIfInBounds_toArray, List.set_cons_succ, List.set_cons_zero]
    refine held_pass 6 10 _ rfl rfl (by kernel_rfl) (by kernel_rfl) (by kernel_rfl) rfl hS1 ?_
    simp only [Act.put, List.setIfInBounds_toArray, List.set_cons_succ, List.set_cons_zero]
    refine held_pass 7 11 _ rfl rfl (by kernel_rfl) (by kernel_rfl) (by kernel_rfl) rfl hS1 ?_
    simp only [Act.put, List.setIfInBounds_toArray, List.set_cons_succ, List.set_cons_zero]
    refine held_pass 8 12 _ rfl rfl (by kernel_rfl) (by kernel_rfl) (by kernel_rfl) rfl hS1 ?_
    simp only [Act.put, List.setIfInBounds_toArray, List.set_cons_succ, List.set_cons_zero]
    refine held_pass 9 13 _ rfl rfl (by kernel_rfl) (by kernel_rfl) (by kernel_rfl) rfl hS1 ?_
    simp only [Act.put, List.setIfInBounds_toArray, List.set_cons_succ, List.set_cons_zero]
    refine held_take 10 14 _ (.bool true) rfl rfl (by kernel_rfl) (by kernel_rfl) (by kernel_rfl) rfl hS1 (fun _ _ => rfl) ?_
    simp only [Act.put, List.setIfInBounds_toArray, List.set_cons_succ, List.set_cons_zero]
    refine wpAnyH_done (by kernel_rfl) ?_ _
    refine NoPanic.normal ?_
    go_wp2
    go_ret
    exact ⟨rfl, hB1⟩
theorem mright_any (m : MM) (su : Value) (w : World) (hh : m.h.length = 32) (_ : m.u.length ≤ 1000000000) (hu : Wds w su m.u) :
    Calls Try.prog 43 #[manV m su] w fun e w' => e = .returned (.bool (decide (okM m))) ∧ Below w.heap.size w w' := mrightL_any m su w hh hu
end Go.Proofs.Ytgfcindkfnjeoaa
