/-
  What is proved here: link.Right tells whether a packet may be; the document's own answers the same; both leave what there was.
  Conditions: the packet's numbers are of 64 bits.
-/
import Derived.Test.YtichmnbhephkkaaLinkPure
import Derived.Test.YtichmnbhephkkaaHeldOps
import Derived.Test.YtichmnbhephkkaaSegKit
namespace Go.Proofs.Ytichmnbhephkkaa
open Go.RowKit

def kpL (p : KP) (bv : Value) : List Value := [.int .i64 p.k, .int .i64 p.f, .int .i64 p.t, .int .i64 p.s, .int .i64 p.a, bv]
abbrev kpV (p : KP) (bv : Value) : Value := .agg (kpL p bv).toArray
def withinK (n m : Int) : Bool := decide (m ≤ n) && decide (n ≤ 1073741824)
set_option maxRecDepth 100000 in
theorem withinK_any (n m : Int) (w : World) : Calls Try.prog 39 #[.int .i64 n, .int .i64 m] w fun e w' => e = .returned (.bool (withinK n m)) ∧ w' = w := by
  unfold withinK
  by_cases h1 : m ≤ n
  · by_cases h2 : n ≤ 1073741824
    · rw [decide_eq_true h1, decide_eq_true h2]
      go_enter Try.func39, Try.ntmps39
      go_wp2
      go_ret
      exact ⟨rfl, rfl⟩
    · rw [decide_eq_true h1, decide_eq_false h2]
      go_enter Try.func39, Try.ntmps39
      go_wp2
      go_ret
      exact ⟨rfl, rfl⟩
  · rw [decide_eq_false h1]
    go_enter Try.func39, Try.ntmps39
    go_wp2
    go_ret
    exact ⟨rfl, rfl⟩
theorem withinK_iff (n m : Int) : withinK n m = true ↔ m ≤ n ∧ n ≤ 1073741824 := by
  unfold withinK
  rw [Bool.and_eq_true, decide_eq_true_iff, decide_eq_true_iff]
theorem withinK_false {n m : Int} (h : withinK n m = false) : ¬ (m ≤ n ∧ n ≤ 1073741824) := fun h2 => by rw [(withinK_iff n m).2 h2] at h; cases h

set_option maxRecDepth 100000 in
set_option maxHeartbeats 4000000 in
theorem rightK_any (p : KP) (ao : Option Addr) (c : Nat) (w : World) : Calls Try.prog 31 #[kpV p (.slice ao p.b.length c)] w fun e w' => e = .returned (.bool (rightK p)) ∧ Below w.heap.size w w' := by
  have HO : Hid (∀ n m w, Calls Try.prog 39 #[.int .i64 n, .int .i64 m] w fun e w' => e = .returned (.bool (withinK n m)) ∧ w' = w) := withinK_any
  have hB := (Below.refl w.heap.size w).alloc (Nat.le_refl _) (.cells (kpL p (.slice ao p.b.length c)).toArray 34)
  have HR : Hid ((p.ok → rightK p = true) ∧ (¬ p.ok → rightK p = false)) := ⟨fun h => decide_eq_true h, fun h => decide_eq_false h⟩
  generalize rightK p = RB at *
  unfold KP.ok at HR
  obtain ⟨k, f, t, s, a, b⟩ := p
  simp only at HR
  unfold kpV kpL at *
  simp only at *
  generalize b.length = n at *
  by_cases k1 : 1 ≤ k
  rotate_left
  · have d1 : decide (k < 1) = true := decide_eq_true (by omega)
    obtain rfl : RB = false := HR.out.2 (fun h => k1 h.1.1)
    clear HR k1
    go_enter Try.func31, Try.ntmps31
    go_wp2
    go_ret
    exact ⟨rfl, hB⟩
  by_cases k2 : k ≤ 3
  rotate_left
  · have d1 : decide (k < 1) = false := decide_eq_false (by omega)
    have d2 : decide (3 < k) = true := decide_eq_true (by omega)
    obtain rfl : RB = false := HR.out.2 (fun h => k2 h.1.2)
    clear HR k1 k2
    go_enter Try.func31, Try.ntmps31
    go_wp2
    go_ret
    exact ⟨rfl, hB⟩
  have d1 : decide (k < 1) = false := decide_eq_false (by omega)
  have d2 : decide (3 < k) = false := decide_eq_false (by omega)
  by_cases hn : n ≤ 1500
  rotate_left
  · have d3 : decide ((1500 : Int) < (n : Int)) = true := decide_eq_true (by omega)
    obtain rfl : RB = false := HR.out.2 (fun h => hn h.2.1)
    clear HR k1 k2 hn
    go_enter Try.func31, Try.ntmps31
    go_wp2
    go_ret
    exact ⟨rfl, hB⟩
  have d3 : decide ((1500 : Int) < (n : Int)) = false := decide_eq_false (by omega)
  have HKN : Hid ((1 ≤ k ∧ k ≤ 3) ∧ n ≤ 1500) := ⟨⟨k1, k2⟩, hn⟩
  clear k1 k2 hn
  go_enter Try.func31, Try.ntmps31
  go_wp2_with fail
  refine (HO.out _ _ _).mono ?_
  rintro e w1 ⟨rfl, rfl⟩
  cases o0 : withinK f 1 with
  | false =>
    obtain rfl : RB = false := HR.out.2 (fun h => withinK_false o0 h.2.2.1)
    clear HR HKN
    go_wp2
    go_ret
    exact ⟨rfl, hB⟩
  | true =>
    go_wp2_with fail
    refine (HO.out _ _ _).mono ?_
    rintro e w1 ⟨rfl, rfl⟩
    cases o1 : withinK t 0 with
    | false =>
      obtain rfl : RB = false := HR.out.2 (fun h => withinK_false o1 h.2.2.2.1)
      clear HR HKN
      go_wp2
      go_ret
      exact ⟨rfl, hB⟩
    | true =>
      go_wp2_with fail
      refine (HO.out _ _ _).mono ?_
      rintro e w1 ⟨rfl, rfl⟩
      cases o2 : withinK s 0 with
      | false =>
        obtain rfl : RB = false := HR.out.2 (fun h => withinK_false o2 h.2.2.2.2.1)
        clear HR HKN
        go_wp2
        go_ret
        exact ⟨rfl, hB⟩
      | true =>
        go_wp2_with fail
        refine (HO.out _ _ _).mono ?_
        rintro e w1 ⟨rfl, rfl⟩
        cases o3 : withinK a 0 with
        | false =>
          obtain rfl : RB = false := HR.out.2 (fun h => withinK_false o3 h.2.2.2.2.2.1)
          clear HR HKN
          go_wp2
          go_ret
          exact ⟨rfl, hB⟩
        | true =>
          have HW : Hid (((1 ≤ f ∧ f ≤ 1073741824) ∧ (0 ≤ t ∧ t ≤ 1073741824) ∧ (0 ≤ s ∧ s ≤ 1073741824) ∧ (0 ≤ a ∧ a ≤ 1073741824))) := ⟨(withinK_iff _ _).1 o0, (withinK_iff _ _).1 o1, (withinK_iff _ _).1 o2, (withinK_iff _ _).1 o3⟩
          by_cases hk3 : k = 3
          · have dk : (k != 3) = false := by rw [hk3]; rfl
            by_cases hs : s = 0
            · have ds : (s != 0) = false := by rw [hs]; rfl
              by_cases hn0 : n = 0
              · have dn : ((n : Int) == 0) = true := by rw [hn0]; rfl
                obtain rfl : RB = true := HR.out.1 ⟨HKN.out.1, HKN.out.2, HW.out.1, HW.out.2.1, HW.out.2.2.1, HW.out.2.2.2, fun h => absurd hk3 h, fun _ => hn0⟩
                clear HR HKN HW hk3 hs hn0
                go_wp2
                go_ret
                exact ⟨rfl, hB⟩
              · have dn : ((n : Int) == 0) = false := beq_eq_false_iff_ne.2 (by omega)
                obtain rfl : RB = false := HR.out.2 (fun h => hn0 (h.2.2.2.2.2.2.2 hs))
                clear HR HKN HW hk3 hs hn0
                go_wp2
                go_ret
                exact ⟨rfl, hB⟩
            · have ds : (s != 0) = true := bne_iff_ne.2 hs
              obtain rfl : RB = true := HR.out.1 ⟨HKN.out.1, HKN.out.2, HW.out.1, HW.out.2.1, HW.out.2.2.1, HW.out.2.2.2, fun h => absurd hk3 h, fun h => absurd h hs⟩
              clear HR HKN HW hk3 hs
              go_wp2
              go_ret
              exact ⟨rfl, hB⟩
          · have dk : (k != 3) = true := bne_iff_ne.2 hk3
            by_cases hs : s = 0
            · have ds : (s != 0) = false := by rw [hs]; rfl
              by_cases ha : a = 0
              · have da : (a != 0) = false := by rw [ha]; rfl
                by_cases hn0 : n = 0
                · have dn : ((n : Int) == 0) = true := by rw [hn0]; rfl
                  obtain rfl : RB = true := HR.out.1 ⟨HKN.out.1, HKN.out.2, HW.out.1, HW.out.2.1, HW.out.2.2.1, HW.out.2.2.2, fun _ => ⟨hs, ha⟩, fun _ => hn0⟩
                  clear HR HKN HW hk3 hs ha hn0
                  go_wp2
                  go_ret
                  exact ⟨rfl, hB⟩
                · have dn : ((n : Int) == 0) = false := beq_eq_false_iff_ne.2 (by omega)
                  obtain rfl : RB = false := HR.out.2 (fun h => hn0 (h.2.2.2.2.2.2.2 hs))
                  clear HR HKN HW hk3 hs ha hn0
                  go_wp2
                  go_ret
                  exact ⟨rfl, hB⟩
              · have da : (a != 0) = true := bne_iff_ne.2 ha
                obtain rfl : RB = false := HR.out.2 (fun h => ha (h.2.2.2.2.2.2.1 hk3).2)
                clear HR HKN HW hk3 hs ha
                go_wp2
                go_ret
                exact ⟨rfl, hB⟩
            · have ds : (s != 0) = true := bne_iff_ne.2 hs
              obtain rfl : RB = false := HR.out.2 (fun h => hs (h.2.2.2.2.2.2.1 hk3).1)
              clear HR HKN HW hk3 hs
              go_wp2
              go_ret
              exact ⟨rfl, hB⟩
end Go.Proofs.Ytichmnbhephkkaa
