/-
  What is proved here: steps of the statements on links, as they lie in memory; how much is much.
  Conditions: those that each fact names.
-/
import Derived.Test.YtichmnbhephkkaaLinkSame
namespace Go.Proofs.Ytichmnbhephkkaa
open Go.RowKit

/-- A step. -/
structure St13 where
  act : Int
  b : List UInt8
  p : KP
def stL13 (y : St13) (bv pv : Value) : List Value := .int .i64 y.act :: bv :: kpL y.p pv
def Steps13 (W : World) (v : Value) (L : List St13) : Prop := ∃ a c, v = .slice a L.length c ∧ L.length ≤ maxLen ∧ ∀ i y, L[i]? = some y → ∃ q off ba bc pa pc, a = some ⟨q, off, none⟩ ∧ q < W.heap.size ∧ (∀ (j : Nat) x, (stL13 y (.slice ba y.b.length bc) (.slice pa y.p.b.length pc))[j]? = some x → W.cell? ⟨q, off + (i * 8 + j), none⟩ = some x) ∧ Seg W (.slice ba y.b.length bc) y.b ∧ Seg W (.slice pa y.p.b.length pc) y.p.b
theorem Steps13.shape {W : World} {v : Value} {L : List St13} (h : Steps13 W v L) : ∃ a c, v = .slice a L.length c := by
  obtain ⟨a, c, e, _⟩ := h
  exact ⟨a, c, e⟩
/-- One of them, in any later world. -/
theorem Steps13.at {W : World} {al : Option Addr} {n cl : Nat} {L : List St13} (h : Steps13 W (.slice al n cl) L) {k : Nat} (hk : k < L.length) : ∃ (y : St13) (q off : Nat) (ba : Option Addr) (bc : Nat) (pa : Option Addr) (pc : Nat), L[k]? = some y ∧ al = some ⟨q, off, none⟩ ∧ ∀ V, Below W.heap.size W V → (∀ (j : Nat) x, (stL13 y (.slice ba y.b.length bc) (.slice pa y.p.b.length pc))[j]? = some x → V.cell? ⟨q, off + k * 8 + j, none⟩ = some x) ∧ Seg V (.slice ba y.b.length bc) y.b ∧ Seg V (.slice pa y.p.b.length pc) y.p.b := by
  obtain ⟨a, c, e, hm, hat⟩ := h
  cases e
  obtain ⟨q, off, ba, bc, pa, pc, rfl, hq, h1, h2, h3⟩ := hat k _ (List.getElem?_eq_getElem hk)
  refine ⟨_, q, off, ba, bc, pa, pc, List.getElem?_eq_getElem hk, rfl, fun V hV => ⟨fun j x hx => ?_, h2.below hV (Nat.le_refl _), h3.below hV (Nat.le_refl _)⟩⟩
  rw [Nat.add_assoc]
  exact (hV.cell (p := ⟨q, off + (k * 8 + j), none⟩) hq).trans (h1 j x hx)
theorem Steps13.below {W V : World} {v : Value} {L : List St13} (h : Steps13 W v L) (hb : Below W.heap.size W V) : Steps13 V v L := by
  obtain ⟨a, c, e, hm, hat⟩ := h
  refine ⟨a, c, e, hm, fun i y hy => ?_⟩
  obtain ⟨q, off, ba, bc, pa, pc, e1, hq, h1, h2, h3⟩ := hat i y hy
  exact ⟨q, off, ba, bc, pa, pc, e1, Nat.lt_of_lt_of_le hq hb.size, fun j x hx => (hb.cell (p := ⟨q, off + (i * 8 + j), none⟩) hq).trans (h1 j x hx), h2.below hb (Nat.le_refl _), h3.below hb (Nat.le_refl _)⟩
theorem size_step13 (w : World) : (sizeOf 36).run Try.prog w = .ok 8 w := by kernel_rfl
theorem under_steps13 : Try.prog.underlying 22 = some (.slice 36) := by kernel_rfl
theorem index_st13 (b off len c I : Nat) (h : I < len) (w : World) : (Instr.indexAt 22 (.slice (some ⟨b, off, none⟩) len c) (.int .i64 (I : Int))).run Try.prog w = .ok (.pointer (some ⟨b, off + I * 8, none⟩)) w := by
  have hi : (0 : Int) ≤ (I : Int) ∧ (I : Int) < (len : Int) := by omega
  simp [Instr.indexAt, asIntOf, run_underlying under_steps13, hi, Addr.add_mid]
  intro h2
  omega
/-- Steps of which none of the first ones bears too many bytes. -/
def Fair13 (L : List St13) (n : Nat) : Prop := ∀ i y, i < n → L[i]? = some y → y.b.length ≤ 3000 ∧ y.p.b.length ≤ 3000
set_option maxRecDepth 100000 in
set_option maxHeartbeats 4000000 in
theorem much13_any (al : Option Addr) (cl : Nat) (L : List St13) (w : World) (hL : Steps13 w (.slice al L.length cl) L) : Calls Try.prog 7 #[.slice al L.length cl] w fun e w' => ∃ m : Bool, e = .returned (.bool m) ∧ Below w.heap.size w w' ∧ (m = false → Fair13 L 200) := by
  have HAT : Hid (∀ k, k < L.length → ∃ (y : St13) (q off : Nat) (ba : Option Addr) (bc : Nat) (pa : Option Addr) (pc : Nat), L[k]? = some y ∧ al = some ⟨q, off, none⟩ ∧ ∀ V, Below w.heap.size w V → (∀ (j : Nat) x, (stL13 y (.slice ba y.b.length bc) (.slice pa y.p.b.length pc))[j]? = some x → V.cell? ⟨q, off + k * 8 + j, none⟩ = some x) ∧ Seg V (.slice ba y.b.length bc) y.b ∧ Seg V (.slice pa y.p.b.length pc) y.p.b) := fun k hk => hL.at hk
  obtain ⟨len, hlen⟩ : ∃ len, len = L.length := ⟨_, rfl⟩
  have HLEN : Hid (len = L.length) := hlen
  have HB0 : Hid (Below w.heap.size w w) := Below.refl _ _
  rw [← hlen]
  clear hL hlen
  go_enter Try.func7, Try.ntmps7
  go_wp2_with fail
  go_loopw [3, 4] (fun n i wr => ∃ (k : Nat) (N : Nat), i = .int .i64 (k : Int) ∧ n = .int .i64 (N : Int) ∧ k ≤ len ∧ k ≤ 200 ∧ N ≤ 60000 ∧ Below w.heap.size w wr ∧ Fair13 L k) (fun _ i _ => 200 - (intOf i).toNat)
  case atStart => exact ⟨0, 0, rfl, rfl, Nat.zero_le _, Nat.zero_le _, Nat.zero_le _, HB0.out, fun i y hi => by omega⟩
  case round =>
    obtain ⟨k, N, rfl, rfl, hk, hk2, hN, hB, hF⟩ := hrel
    have HF : Hid (Fair13 L k) := hF
    clear hF
    by_cases hlt : k < len
    · have i1 : decide ((k : Int) < (len : Int)) = true := decide_eq_true (by omega)
      by_cases hlt2 : k < 200
      · have i2 : decide ((k : Int) < 200) = true := decide_eq_true (by omega)
        obtain ⟨y, q, off, ba, bc, pa, pc, hy, e1, hat⟩ := HAT.out k (by rw [← HLEN.out]; exact hlt)
        subst e1
        have HY : Hid (L[k]? = some y) := hy
        have ix : ∀ V, (Instr.indexAt 22 (.slice (some ⟨q, off, none⟩) len cl) (.int .i64 (k : Int))).run Try.prog V = .ok (.pointer (some ⟨q, off + k * 8, none⟩)) V := fun V => index_st13 q off len cl k hlt V
        obtain ⟨hc, -, -⟩ := hat wr hB
        have x1 : wr.cell? ⟨q, off + k * 8 + 1, none⟩ = some (.slice ba y.b.length bc) := hc 1 _ rfl
        have x7 : wr.cell? ⟨q, off + k * 8 + 2 + 5, none⟩ = some (.slice pa y.p.b.length pc) := hc 7 _ rfl
        have x7' : wr.cell? ⟨q, off + k * 8 + 7, none⟩ = some (.slice pa y.p.b.length pc) := hc 7 _ rfl
        obtain ⟨nb, hnb⟩ : ∃ nb, nb = y.b.length := ⟨_, rfl⟩
        obtain ⟨np, hnp⟩ : ∃ np, np = y.p.b.length := ⟨_, rfl⟩
        rw [← hnb] at x1
        rw [← hnp] at x7 x7'
        have HNN : Hid (nb = y.b.length ∧ np = y.p.b.length) := ⟨hnb, hnp⟩
        clear hnb hnp hc hat hy
        generalize off + k * 8 = o at *
        by_cases h1 : 3000 < nb
        · have d1 : decide ((3000 : Int) < (nb : Int)) = true := decide_eq_true (by omega)
          clear h1
          go_wp2
          go_ret
          exact ⟨true, rfl, hB, fun e => by cases e⟩
        · have d1 : decide ((3000 : Int) < (nb : Int)) = false := decide_eq_false (by omega)
          by_cases h2 : 3000 < np
          · have d2 : decide ((3000 : Int) < (np : Int)) = true := decide_eq_true (by omega)
            clear h1 h2
            go_wp2
            go_ret
            exact ⟨true, rfl, hB, fun e => by cases e⟩
          · have d2 : decide ((3000 : Int) < (np : Int)) = false := decide_eq_false (by omega)
            have hb1 : nb ≤ 3000 := by omega
            have hb2 : np ≤ 3000 := by omega
            have HF2 : Hid (Fair13 L (k + 1)) := fun i z hi hz => by
              by_cases hik : i = k
              · subst hik
                have := HY.out
                rw [hz] at this
                cases this
                have := HNN.out
                omega
              · exact HF.out i z (by omega) hz
            clear h1 h2
            have hwk : IntKind.i64.wrap ((k : Int) + 1) = (k : Int) + 1 := by rw [IntKind.wrap_i64]; omega
            have hw1 : IntKind.i64.wrap ((N : Int) + (nb : Int)) = (N : Int) + (nb : Int) := by rw [IntKind.wrap_i64]; omega
            have hw2 : IntKind.i64.wrap ((N : Int) + (nb : Int) + (np : Int)) = (N : Int) + (nb : Int) + (np : Int) := by rw [IntKind.wrap_i64]; omega
            go_wp2_with fail
            go_quiet (fail)
            have hBq : Below w.heap.size w (wr.drewN nq) := Below.drewN hB nq
            clear hB x1 x7 x7' d1 d2 ix i1 i2
            generalize wr.drewN nq = W1 at *
            by_cases h3 : 60000 < N + nb + np
            · have d3 : decide ((60000 : Int) < (N : Int) + (nb : Int) + (np : Int)) = true := decide_eq_true (by omega)
              clear h3
              go_wp2
              go_ret
              exact ⟨true, rfl, hBq, fun e => by cases e⟩
            · have d3 : decide ((60000 : Int) < (N : Int) + (nb : Int) + (np : Int)) = false := decide_eq_false (by omega)
              have HN2 : Hid (N + nb + np ≤ 60000) := (by omega : N + nb + np ≤ 60000)
              clear h3
              go_wp2
              go_roundw
              case rel => exact ⟨k + 1, N + nb + np, by go_num, by go_num, hlt, hlt2, HN2.out, hBq, HF2.out⟩
              case measure => simp [intOf]; omega
      · have i2 : decide ((k : Int) < 200) = false := decide_eq_false (by omega)
        have HF2 : Hid (Fair13 L 200) := fun i z hi hz => HF.out i z (by omega) hz
        go_wp2
        go_ret
        exact ⟨false, rfl, hB, fun _ => HF2.out⟩
    · have i1 : decide ((k : Int) < (len : Int)) = false := decide_eq_false (by omega)
      have HF2 : Hid (Fair13 L 200) := fun i z hi hz => HF.out i z (by have := (List.getElem?_eq_some_iff.1 hz).1; have := HLEN.out; omega) hz
      go_wp2
      go_ret
      exact ⟨false, rfl, hB, fun _ => HF2.out⟩
end Go.Proofs.Ytichmnbhephkkaa
